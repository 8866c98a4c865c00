/- Texts joined: Ck, Cp, Ca, Cm, Cia, Cap, Cd, Cy. -/
import Derived.Laws.BitsLemmas
import Derived.Deep.RegionLaw
import Derived.Deep.RegionHeld3
import Derived.Lib.SliceRun
import Derived.Sort.WalkB12
import Derived.Laws.AppendOwnNone
import Derived.Deep.QuietTactic
import Derived.BigQuiet
import Derived.Test.YtjcomoinggiedaaGreatJTopSilent3
namespace Go.Proofs.YtjcomoinggiedaaGreat
open Go.RowKit
set_option linter.unusedVariables false
set_option maxRecDepth 100000

/-- P3.1: what is wrong with a switch that comes. -/
def swFault (S : List Sw) (P : List Pr) (x : Sw) : Int :=
  if (inB x.i 1 500 && inB x.t 1 9 && inB x.g 0 65535) = false then 2 else if (S.any (fun s => s.i == x.i) || (x.g != 0 && takenB S P x.t x.g)) = true then 7 else if 12 ≤ S.length then 1 else 0

set_option maxHeartbeats 1000000 in
theorem withId_any (id : Int) (w : World) : Calls Tryz.prog 103 #[.int .i64 id] w fun e w' => ∃ b, e = .returned (.func (.func 159) #[] #[.pointer (some ⟨b, 0, none⟩)]) ∧ w'.cell? ⟨b, 0, none⟩ = some (.int .i64 id) ∧ Below w.heap.size w w' := by
  go_enter Tryz.func103, Tryz.ntmps103
  go_wp2
  go_ret
  exact ⟨_, rfl, new_cell _ _ rfl _ _ _ _ rfl, (Below.refl _ _).alloc (Nat.le_refl _) _⟩

set_option maxHeartbeats 8000000 in
theorem checkSwitch_any (sv pv av : Value) (S : List Sw) (P : List Pr) (A : List Ac) (x : Sw) (w : World) (hC : CfAt w sv pv av S P A) (h1 : S.length * 24 ≤ 140737488355328) (h2 : P.length * 40 ≤ 140737488355328) :
    Calls Tryz.prog 61 #[.agg #[sv, pv, av], .agg #[.int .i64 x.i, .int .i64 x.t, .int .i64 x.g]] w fun e w' => e = .returned (.int .i64 (swFault S P x)) ∧ Below w.heap.size w w' := by
  obtain ⟨xi, xt, xg⟩ := x
  have HI : Hid (∀ (W : World) (b : Nat), Below w.heap.size w W → W.cell? ⟨b, 0, none⟩ = some (.int .i64 xi) → Calls Tryz.prog 102 #[.agg #[sv, pv, av], .func (.func 159) #[] #[.pointer (some ⟨b, 0, none⟩)]] W fun e w' => e = .returned (.bool (S.any (fun s => s.i == xi))) ∧ Below W.heap.size W w') :=
    fun W b hW a => hasSwitchId_any sv pv av S _ _ W (RowAt.below hC.1 hW (Nat.le_refl _)) (anySlice hC.2.1) (anySlice hC.2.2) (asksId a) h1
  have HT : Hid (∀ W : World, Below w.heap.size w W → Calls Tryz.prog 104 #[.agg #[sv, pv, av], .int .i64 xt, .int .i64 xg] W fun e w' => e = .returned (.bool (takenB S P xt xg)) ∧ Below W.heap.size W w') := fun W hW => isTaken_any sv pv av S P A xt xg W (hC.below hW (Nat.le_refl _)) h1 h2
  have HR : Hid (swFault S P ⟨xi, xt, xg⟩ = if (inB xi 1 500 && inB xt 1 9 && inB xg 0 65535) = false then 2 else if (S.any (fun s => s.i == xi) || (xg != 0 && takenB S P xt xg)) = true then 7 else if 12 ≤ S.length then 1 else 0) := rfl
  generalize swFault S P ⟨xi, xt, xg⟩ = R at *
  generalize S.any (fun s => s.i == xi) = R1 at *
  generalize takenB S P xt xg = R2 at *
  obtain ⟨s1, s2, rfl⟩ := hC.1.slice
  obtain ⟨p1, p2, rfl⟩ := hC.2.1.slice
  obtain ⟨a1, a2, rfl⟩ := hC.2.2.slice
  clear hC
  simp only
  by_cases hr1 : inB xi 1 500 = true
  · by_cases hr2 : inB xt 1 9 = true
    · by_cases hr3 : inB xg 0 65535 = true
      · go_enter Tryz.func61, Tryz.ntmps61
        go_wp2_with (first | (go_at_call 100; refine (within_any _ _ _ _).mono ?_; rintro e w' ⟨rfl, rfl⟩) | (go_at_call 101; refine (cIsWord_any _ _).mono ?_; rintro e w' ⟨rfl, rfl⟩))
        obtain ⟨W0, hW0⟩ : ∃ W0, W0 = (w.alloc (.cells #[.slice s1 S.length s2, .slice p1 P.length p2, .slice a1 A.length a2] 29)).alloc (.cells #[.int .i64 xi, .int .i64 xt, .int .i64 xg] 42) := ⟨_, rfl⟩
        have hb0 : Below w.heap.size w W0 := by rw [hW0]; exact ((Below.refl _ _).alloc (Nat.le_refl _) _).alloc (by simp) _
        have q0 : W0.cell? ⟨w.heap.size, 0, none⟩ = some (.slice s1 S.length s2) := by rw [hW0]; exact old_cell (new_cell w _ rfl _ _ _ _ rfl) _
        have q1 : W0.cell? ⟨w.heap.size, 1, none⟩ = some (.slice p1 P.length p2) := by rw [hW0]; exact old_cell (new_cell w _ rfl _ _ _ _ rfl) _
        have q2 : W0.cell? ⟨w.heap.size, 2, none⟩ = some (.slice a1 A.length a2) := by rw [hW0]; exact old_cell (new_cell w _ rfl _ _ _ _ rfl) _
        have q3 : W0.cell? ⟨w.heap.size + 1, 0, none⟩ = some (.int .i64 xi) := by rw [hW0]; exact new_cell _ _ (by simp) _ _ _ _ rfl
        have q4 : W0.cell? ⟨w.heap.size + 1, 1, none⟩ = some (.int .i64 xt) := by rw [hW0]; exact new_cell _ _ (by simp) _ _ _ _ rfl
        have q5 : W0.cell? ⟨w.heap.size + 1, 2, none⟩ = some (.int .i64 xg) := by rw [hW0]; exact new_cell _ _ (by simp) _ _ _ _ rfl
        rw [← hW0]
        clear hW0
        cases R1
        · by_cases hg : xg = 0
          · subst hg
            refine wp_region_held_drew (S := (fun w' => w'.cell? ⟨w.heap.size, 0, none⟩ = some (.slice s1 S.length s2) ∧ w'.cell? ⟨w.heap.size, 1, none⟩ = some (.slice p1 P.length p2) ∧ w'.cell? ⟨w.heap.size, 2, none⟩ = some (.slice a1 A.length a2) ∧ w'.cell? ⟨w.heap.size + 1, 0, none⟩ = some (.int .i64 xi) ∧ w'.cell? ⟨w.heap.size + 1, 1, none⟩ = some (.int .i64 xt) ∧ w'.cell? ⟨w.heap.size + 1, 2, none⟩ = some (.int .i64 0))) (by kernel_rfl) ?hS1 (fun hHeld => ?hR1)
            case hS1 => (try dsimp only); go_keep
            refine wpAnyH_take (i := 0) (oi := ⟨some 23, _, _, _, _, _⟩) (v := ?v2) rfl (by kernel_rfl) (by kernel_rfl) (by kernel_rfl) (fun _ _ _ h => h) (Or.inl ⟨by rfl, ?h2⟩) (by assumption) ?r2
            case h2 => (intro w hSw; (try dsimp only at hSw); go_simp <;> with_reducible rfl)
            (try simp only [Act.put, List.setIfInBounds_toArray, List.set_cons_zero, List.set_cons_succ])
            refine wpAnyH_take (i := 1) (oi := ⟨some 24, _, _, _, _, _⟩) (v := ?v3) rfl (by kernel_rfl) (by kernel_rfl) (by kernel_rfl) (fun _ _ _ h => h) (Or.inl ⟨by rfl, ?h3⟩) (by assumption) ?r3
            case h3 => (intro w hSw; (try dsimp only at hSw); go_simp <;> with_reducible rfl)
            (try simp only [Act.put, List.setIfInBounds_toArray, List.set_cons_zero, List.set_cons_succ])
            refine wpAnyH_take (i := 2) (oi := ⟨some 25, _, _, _, _, _⟩) (v := ?v4) rfl (by kernel_rfl) (by kernel_rfl) (by kernel_rfl) (fun _ _ _ h => h) (Or.inl ⟨by rfl, ?h4⟩) (by assumption) ?r4
            case h4 => (intro w hSw; (try dsimp only at hSw); go_simp <;> with_reducible rfl)
            (try simp only [Act.put, List.setIfInBounds_toArray, List.set_cons_zero, List.set_cons_succ])
            refine wpAnyH_ready (rs := [3]) (by kernel_rfl) (by simp) ?_
            refine AllReadyH.cons (o := ⟨some 26, _, _, _, _, _⟩) rfl (fun K hK => ?_) AllReadyH.nil
            go_simp
            (go_at_call 103; refine (withId_any _ _).mono ?_; rintro e w1 ⟨bi, rfl, hbi, hb1⟩; have g1 : Below W0.heap.size W0 w1 := ((Below.refl _ W0).drew).trans hb1; have k1 : Below w.heap.size w w1 := hb0.trans (g1.mono hb0.size); have y0 := cell_beh q0 g1 (Nat.le_refl _); have y1 := cell_beh q1 g1 (Nat.le_refl _); have y2 := cell_beh q2 g1 (Nat.le_refl _); have y3 := cell_beh q3 g1 (Nat.le_refl _); have y4 := cell_beh q4 g1 (Nat.le_refl _); have y5 := cell_beh q5 g1 (Nat.le_refl _))
            go_wp2_with fail
            refine hK.out _ _ ?hS5 (fun hHeld => ?hR5)
            case hS5 => (try dsimp only); go_keep
            clear hK K
            (try simp only [Act.put, List.setIfInBounds_toArray, List.set_cons_zero, List.set_cons_succ])
            refine wpAnyH_ready (rs := [4]) (by kernel_rfl) (by simp) ?_
            refine AllReadyH.cons (o := ⟨some 27, _, _, _, _, _⟩) rfl (fun K hK => ?_) AllReadyH.nil
            go_simp
            (go_at_call 102; refine (unhide HI _ _ k1 hbi).mono ?_; rintro e w2 ⟨rfl, hb2⟩; have g2 : Below W0.heap.size W0 w2 := g1.trans (hb2.mono g1.size); have k2 : Below w.heap.size w w2 := hb0.trans (g2.mono hb0.size); have z0 := cell_beh q0 g2 (Nat.le_refl _); have z1 := cell_beh q1 g2 (Nat.le_refl _); have z2 := cell_beh q2 g2 (Nat.le_refl _); have z3 := cell_beh q3 g2 (Nat.le_refl _); have z4 := cell_beh q4 g2 (Nat.le_refl _); have z5 := cell_beh q5 g2 (Nat.le_refl _))
            go_wp2_with fail
            refine hK.out _ _ ?hS6 (fun hHeld => ?hR6)
            case hS6 => (try dsimp only); go_keep
            clear hK K
            (try simp only [Act.put, List.setIfInBounds_toArray, List.set_cons_zero, List.set_cons_succ])
            refine wpAnyH_take (i := 5) (oi := ⟨some 28, _, _, _, _, _⟩) (v := ?v7) rfl (by kernel_rfl) (by kernel_rfl) (by kernel_rfl) (fun _ _ _ h => h) (Or.inl ⟨by rfl, ?h7⟩) (by assumption) ?r7
            case h7 => (intro w hSw; (try dsimp only at hSw); go_simp <;> with_reducible rfl)
            (try simp only [Act.put, List.setIfInBounds_toArray, List.set_cons_zero, List.set_cons_succ])
            refine wpAnyH_take (i := 6) (oi := ⟨some 29, _, _, _, _, _⟩) (v := ?v8) rfl (by kernel_rfl) (by kernel_rfl) (by kernel_rfl) (fun _ _ _ h => h) (Or.inl ⟨by rfl, ?h8⟩) (by assumption) ?r8
            case h8 => (intro w hSw; (try dsimp only at hSw); go_simp <;> with_reducible rfl)
            (try simp only [Act.put, List.setIfInBounds_toArray, List.set_cons_zero, List.set_cons_succ])
            refine wpAnyH_take (i := 7) (oi := ⟨some 30, _, _, _, _, _⟩) (v := ?v9) rfl (by kernel_rfl) (by kernel_rfl) (by kernel_rfl) (fun _ _ _ h => h) (Or.inl ⟨by rfl, ?h9⟩) (by assumption) ?r9
            case h9 => (intro w hSw; (try dsimp only at hSw); go_simp <;> with_reducible rfl)
            (try simp only [Act.put, List.setIfInBounds_toArray, List.set_cons_zero, List.set_cons_succ])
            refine wpAnyH_take (i := 8) (oi := ⟨some 31, _, _, _, _, _⟩) (v := ?v10) rfl (by kernel_rfl) (by kernel_rfl) (by kernel_rfl) (fun _ _ _ h => h) (Or.inl ⟨by rfl, ?h10⟩) (by assumption) ?r10
            case h10 => (intro w hSw; (try dsimp only at hSw); go_simp <;> with_reducible rfl)
            (try simp only [Act.put, List.setIfInBounds_toArray, List.set_cons_zero, List.set_cons_succ])
            refine wpAnyH_take (i := 9) (oi := ⟨some 32, _, _, _, _, _⟩) (v := ?v11) rfl (by kernel_rfl) (by kernel_rfl) (by kernel_rfl) (fun _ _ _ h => h) (Or.inl ⟨by rfl, ?h11⟩) (by assumption) ?r11
            case h11 => (intro w hSw; (try dsimp only at hSw); go_simp <;> with_reducible rfl)
            (try simp only [Act.put, List.setIfInBounds_toArray, List.set_cons_zero, List.set_cons_succ])
            refine wpAnyH_take (i := 10) (oi := ⟨some 33, _, _, _, _, _⟩) (v := undef) rfl (by kernel_rfl) (by kernel_rfl) (by kernel_rfl) (fun _ _ _ h => h) (Or.inr ⟨by rfl, rfl⟩) (by assumption) ?_
            (try simp only [Act.put, List.setIfInBounds_toArray, List.set_cons_zero, List.set_cons_succ])
            refine wpAnyH_take (i := 11) (oi := ⟨some 34, _, _, _, _, _⟩) (v := undef) rfl (by kernel_rfl) (by kernel_rfl) (by kernel_rfl) (fun _ _ _ h => h) (Or.inr ⟨by rfl, rfl⟩) (by assumption) ?_
            (try simp only [Act.put, List.setIfInBounds_toArray, List.set_cons_zero, List.set_cons_succ])
            refine wpAnyH_take (i := 12) (oi := ⟨some 35, _, _, _, _, _⟩) (v := undef) rfl (by kernel_rfl) (by kernel_rfl) (by kernel_rfl) (fun _ _ _ h => h) (Or.inr ⟨by rfl, rfl⟩) (by assumption) ?_
            (try simp only [Act.put, List.setIfInBounds_toArray, List.set_cons_zero, List.set_cons_succ])
            refine wpAnyH_take (i := 13) (oi := ⟨some 36, _, _, _, _, _⟩) (v := undef) rfl (by kernel_rfl) (by kernel_rfl) (by kernel_rfl) (fun _ _ _ h => h) (Or.inr ⟨by rfl, rfl⟩) (by assumption) ?_
            (try simp only [Act.put, List.setIfInBounds_toArray, List.set_cons_zero, List.set_cons_succ])
            refine wpAnyH_take (i := 14) (oi := ⟨some 37, _, _, _, _, _⟩) (v := undef) rfl (by kernel_rfl) (by kernel_rfl) (by kernel_rfl) (fun _ _ _ h => h) (Or.inr ⟨by rfl, rfl⟩) (by assumption) ?_
            (try simp only [Act.put, List.setIfInBounds_toArray, List.set_cons_zero, List.set_cons_succ])
            refine wpAnyH_ready (rs := [15]) (by kernel_rfl) (by simp) ?_
            refine AllReadyH.cons (o := ⟨some 38, _, _, _, _, _⟩) rfl (fun K hK => ?_) AllReadyH.nil
            rw [if_neg (by rw [Bool.not_eq_true]; rfl)]
            refine hK.out _ _ ?hS12 (fun hHeld => ?hR12)
            case hS12 => (try dsimp only); go_keep
            clear hK K
            (try simp only [Act.put, List.setIfInBounds_toArray, List.set_cons_zero, List.set_cons_succ])
            refine wpAnyH_take (i := 16) (oi := ⟨some 39, _, _, _, _, _⟩) (v := ?v13) rfl (by kernel_rfl) (by kernel_rfl) (by kernel_rfl) (fun _ _ _ h => h) (Or.inl ⟨by rfl, ?h13⟩) (by assumption) ?r13
            case h13 => (intro w hSw; (try dsimp only at hSw); go_simp <;> with_reducible rfl)
            (try simp only [Act.put, List.setIfInBounds_toArray, List.set_cons_zero, List.set_cons_succ])
            refine wpAnyH_take (i := 17) (oi := ⟨some 40, _, _, _, _, _⟩) (v := ?v14) rfl (by kernel_rfl) (by kernel_rfl) (by kernel_rfl) (fun _ _ _ h => h) (Or.inl ⟨by rfl, ?h14⟩) (by assumption) ?r14
            case h14 => (intro w hSw; (try dsimp only at hSw); go_simp <;> with_reducible rfl)
            (try simp only [Act.put, List.setIfInBounds_toArray, List.set_cons_zero, List.set_cons_succ])
            refine wpAnyH_take (i := 18) (oi := ⟨some 22, _, _, _, _, _⟩) (v := ?v15) rfl (by kernel_rfl) (by kernel_rfl) (by kernel_rfl) (fun _ _ _ h => h) (Or.inl ⟨by rfl, ?h15⟩) (by assumption) ?r15
            case h15 => (intro w hSw; (try dsimp only at hSw); go_simp <;> with_reducible rfl)
            (try simp only [Act.put, List.setIfInBounds_toArray, List.set_cons_zero, List.set_cons_succ])
            refine wpAnyH_done (by kernel_rfl) ?_ _
            clear HI HT
            by_cases h12 : 12 ≤ S.length
            · have h12i : (12 : Int) ≤ (S.length : Int) := by omega
              go_wp2_with fail
              go_ret
              exact ⟨int_ret (by rw [HR.out]; simp_all), k2⟩
            · have h12i : ¬ (12 : Int) ≤ (S.length : Int) := by omega
              have h12j : (S.length : Int) < 12 := by omega
              go_wp2_with fail
              go_ret
              exact ⟨int_ret (by rw [HR.out]; simp_all), k2⟩
          · have hgb : (xg != 0) = true := by simpa using hg
            cases R2
            · refine wp_region_held_drew (S := (fun w' => w'.cell? ⟨w.heap.size, 0, none⟩ = some (.slice s1 S.length s2) ∧ w'.cell? ⟨w.heap.size, 1, none⟩ = some (.slice p1 P.length p2) ∧ w'.cell? ⟨w.heap.size, 2, none⟩ = some (.slice a1 A.length a2) ∧ w'.cell? ⟨w.heap.size + 1, 0, none⟩ = some (.int .i64 xi) ∧ w'.cell? ⟨w.heap.size + 1, 1, none⟩ = some (.int .i64 xt) ∧ w'.cell? ⟨w.heap.size + 1, 2, none⟩ = some (.int .i64 xg))) (by kernel_rfl) ?hS16 (fun hHeld => ?hR16)
              case hS16 => (try dsimp only); go_keep
              refine wpAnyH_take (i := 0) (oi := ⟨some 23, _, _, _, _, _⟩) (v := ?v17) rfl (by kernel_rfl) (by kernel_rfl) (by kernel_rfl) (fun _ _ _ h => h) (Or.inl ⟨by rfl, ?h17⟩) (by assumption) ?r17
              case h17 => (intro w hSw; (try dsimp only at hSw); go_simp <;> with_reducible rfl)
              (try simp only [Act.put, List.setIfInBounds_toArray, List.set_cons_zero, List.set_cons_succ])
              refine wpAnyH_take (i := 1) (oi := ⟨some 24, _, _, _, _, _⟩) (v := ?v18) rfl (by kernel_rfl) (by kernel_rfl) (by kernel_rfl) (fun _ _ _ h => h) (Or.inl ⟨by rfl, ?h18⟩) (by assumption) ?r18
              case h18 => (intro w hSw; (try dsimp only at hSw); go_simp <;> with_reducible rfl)
              (try simp only [Act.put, List.setIfInBounds_toArray, List.set_cons_zero, List.set_cons_succ])
              refine wpAnyH_take (i := 2) (oi := ⟨some 25, _, _, _, _, _⟩) (v := ?v19) rfl (by kernel_rfl) (by kernel_rfl) (by kernel_rfl) (fun _ _ _ h => h) (Or.inl ⟨by rfl, ?h19⟩) (by assumption) ?r19
              case h19 => (intro w hSw; (try dsimp only at hSw); go_simp <;> with_reducible rfl)
              (try simp only [Act.put, List.setIfInBounds_toArray, List.set_cons_zero, List.set_cons_succ])
              refine wpAnyH_ready (rs := [3]) (by kernel_rfl) (by simp) ?_
              refine AllReadyH.cons (o := ⟨some 26, _, _, _, _, _⟩) rfl (fun K hK => ?_) AllReadyH.nil
              go_simp
              (go_at_call 103; refine (withId_any _ _).mono ?_; rintro e w1 ⟨bi, rfl, hbi, hb1⟩; have g1 : Below W0.heap.size W0 w1 := ((Below.refl _ W0).drew).trans hb1; have k1 : Below w.heap.size w w1 := hb0.trans (g1.mono hb0.size); have y0 := cell_beh q0 g1 (Nat.le_refl _); have y1 := cell_beh q1 g1 (Nat.le_refl _); have y2 := cell_beh q2 g1 (Nat.le_refl _); have y3 := cell_beh q3 g1 (Nat.le_refl _); have y4 := cell_beh q4 g1 (Nat.le_refl _); have y5 := cell_beh q5 g1 (Nat.le_refl _))
              go_wp2_with fail
              refine hK.out _ _ ?hS20 (fun hHeld => ?hR20)
              case hS20 => (try dsimp only); go_keep
              clear hK K
              (try simp only [Act.put, List.setIfInBounds_toArray, List.set_cons_zero, List.set_cons_succ])
              refine wpAnyH_ready (rs := [4]) (by kernel_rfl) (by simp) ?_
              refine AllReadyH.cons (o := ⟨some 27, _, _, _, _, _⟩) rfl (fun K hK => ?_) AllReadyH.nil
              go_simp
              (go_at_call 102; refine (unhide HI _ _ k1 hbi).mono ?_; rintro e w2 ⟨rfl, hb2⟩; have g2 : Below W0.heap.size W0 w2 := g1.trans (hb2.mono g1.size); have k2 : Below w.heap.size w w2 := hb0.trans (g2.mono hb0.size); have z0 := cell_beh q0 g2 (Nat.le_refl _); have z1 := cell_beh q1 g2 (Nat.le_refl _); have z2 := cell_beh q2 g2 (Nat.le_refl _); have z3 := cell_beh q3 g2 (Nat.le_refl _); have z4 := cell_beh q4 g2 (Nat.le_refl _); have z5 := cell_beh q5 g2 (Nat.le_refl _))
              go_wp2_with fail
              refine hK.out _ _ ?hS21 (fun hHeld => ?hR21)
              case hS21 => (try dsimp only); go_keep
              clear hK K
              (try simp only [Act.put, List.setIfInBounds_toArray, List.set_cons_zero, List.set_cons_succ])
              refine wpAnyH_take (i := 5) (oi := ⟨some 28, _, _, _, _, _⟩) (v := ?v22) rfl (by kernel_rfl) (by kernel_rfl) (by kernel_rfl) (fun _ _ _ h => h) (Or.inl ⟨by rfl, ?h22⟩) (by assumption) ?r22
              case h22 => (intro w hSw; (try dsimp only at hSw); go_simp <;> with_reducible rfl)
              (try simp only [Act.put, List.setIfInBounds_toArray, List.set_cons_zero, List.set_cons_succ])
              refine wpAnyH_take (i := 6) (oi := ⟨some 29, _, _, _, _, _⟩) (v := ?v23) rfl (by kernel_rfl) (by kernel_rfl) (by kernel_rfl) (fun _ _ _ h => h) (Or.inl ⟨by rfl, ?h23⟩) (by assumption) ?r23
              case h23 => (intro w hSw; (try dsimp only at hSw); go_simp <;> with_reducible rfl)
              (try simp only [Act.put, List.setIfInBounds_toArray, List.set_cons_zero, List.set_cons_succ])
              refine wpAnyH_take (i := 7) (oi := ⟨some 30, _, _, _, _, _⟩) (v := ?v24) rfl (by kernel_rfl) (by kernel_rfl) (by kernel_rfl) (fun _ _ _ h => h) (Or.inl ⟨by rfl, ?h24⟩) (by assumption) ?r24
              case h24 => (intro w hSw; (try dsimp only at hSw); go_simp <;> with_reducible rfl)
              (try simp only [Act.put, List.setIfInBounds_toArray, List.set_cons_zero, List.set_cons_succ])
              refine wpAnyH_take (i := 8) (oi := ⟨some 31, _, _, _, _, _⟩) (v := ?v25) rfl (by kernel_rfl) (by kernel_rfl) (by kernel_rfl) (fun _ _ _ h => h) (Or.inl ⟨by rfl, ?h25⟩) (by assumption) ?r25
              case h25 => (intro w hSw; (try dsimp only at hSw); go_simp <;> with_reducible rfl)
              (try simp only [Act.put, List.setIfInBounds_toArray, List.set_cons_zero, List.set_cons_succ])
              refine wpAnyH_take (i := 9) (oi := ⟨some 32, _, _, _, _, _⟩) (v := ?v26) rfl (by kernel_rfl) (by kernel_rfl) (by kernel_rfl) (fun _ _ _ h => h) (Or.inl ⟨by rfl, ?h26⟩) (by assumption) ?r26
              case h26 => (intro w hSw; (try dsimp only at hSw); go_simp <;> with_reducible rfl)
              (try simp only [Act.put, List.setIfInBounds_toArray, List.set_cons_zero, List.set_cons_succ])
              refine wpAnyH_take (i := 10) (oi := ⟨some 33, _, _, _, _, _⟩) (v := ?v27) rfl (by kernel_rfl) (by kernel_rfl) (by kernel_rfl) (fun _ _ _ h => h) (Or.inl ⟨by rfl, ?h27⟩) (by assumption) ?r27
              case h27 => (intro w hSw; (try dsimp only at hSw); go_simp <;> with_reducible rfl)
              (try simp only [Act.put, List.setIfInBounds_toArray, List.set_cons_zero, List.set_cons_succ])
              refine wpAnyH_take (i := 11) (oi := ⟨some 34, _, _, _, _, _⟩) (v := ?v28) rfl (by kernel_rfl) (by kernel_rfl) (by kernel_rfl) (fun _ _ _ h => h) (Or.inl ⟨by rfl, ?h28⟩) (by assumption) ?r28
              case h28 => (intro w hSw; (try dsimp only at hSw); go_simp <;> with_reducible rfl)
              (try simp only [Act.put, List.setIfInBounds_toArray, List.set_cons_zero, List.set_cons_succ])
              refine wpAnyH_take (i := 12) (oi := ⟨some 35, _, _, _, _, _⟩) (v := ?v29) rfl (by kernel_rfl) (by kernel_rfl) (by kernel_rfl) (fun _ _ _ h => h) (Or.inl ⟨by rfl, ?h29⟩) (by assumption) ?r29
              case h29 => (intro w hSw; (try dsimp only at hSw); go_simp <;> with_reducible rfl)
              (try simp only [Act.put, List.setIfInBounds_toArray, List.set_cons_zero, List.set_cons_succ])
              refine wpAnyH_take (i := 13) (oi := ⟨some 36, _, _, _, _, _⟩) (v := ?v30) rfl (by kernel_rfl) (by kernel_rfl) (by kernel_rfl) (fun _ _ _ h => h) (Or.inl ⟨by rfl, ?h30⟩) (by assumption) ?r30
              case h30 => (intro w hSw; (try dsimp only at hSw); go_simp <;> with_reducible rfl)
              (try simp only [Act.put, List.setIfInBounds_toArray, List.set_cons_zero, List.set_cons_succ])
              refine wpAnyH_take (i := 14) (oi := ⟨some 37, _, _, _, _, _⟩) (v := ?v31) rfl (by kernel_rfl) (by kernel_rfl) (by kernel_rfl) (fun _ _ _ h => h) (Or.inl ⟨by rfl, ?h31⟩) (by assumption) ?r31
              case h31 => (intro w hSw; (try dsimp only at hSw); go_simp <;> with_reducible rfl)
              (try simp only [Act.put, List.setIfInBounds_toArray, List.set_cons_zero, List.set_cons_succ])
              refine wpAnyH_ready (rs := [15]) (by kernel_rfl) (by simp) ?_
              refine AllReadyH.cons (o := ⟨some 38, _, _, _, _, _⟩) rfl (fun K hK => ?_) AllReadyH.nil
              go_simp
              (go_at_call 104; refine (unhide HT _ k2).mono ?_; rintro e w3 ⟨rfl, hb3⟩; have g3 : Below W0.heap.size W0 w3 := g2.trans (hb3.mono g2.size); have k3 : Below w.heap.size w w3 := hb0.trans (g3.mono hb0.size); have v0 := cell_beh q0 g3 (Nat.le_refl _); have v1 := cell_beh q1 g3 (Nat.le_refl _); have v2 := cell_beh q2 g3 (Nat.le_refl _); have v3 := cell_beh q3 g3 (Nat.le_refl _); have v4 := cell_beh q4 g3 (Nat.le_refl _); have v5 := cell_beh q5 g3 (Nat.le_refl _))
              go_wp2_with fail
              refine hK.out _ _ ?hS32 (fun hHeld => ?hR32)
              case hS32 => (try dsimp only); go_keep
              clear hK K
              (try simp only [Act.put, List.setIfInBounds_toArray, List.set_cons_zero, List.set_cons_succ])
              refine wpAnyH_take (i := 16) (oi := ⟨some 39, _, _, _, _, _⟩) (v := ?v33) rfl (by kernel_rfl) (by kernel_rfl) (by kernel_rfl) (fun _ _ _ h => h) (Or.inl ⟨by rfl, ?h33⟩) (by assumption) ?r33
              case h33 => (intro w hSw; (try dsimp only at hSw); go_simp <;> with_reducible rfl)
              (try simp only [Act.put, List.setIfInBounds_toArray, List.set_cons_zero, List.set_cons_succ])
              refine wpAnyH_take (i := 17) (oi := ⟨some 40, _, _, _, _, _⟩) (v := ?v34) rfl (by kernel_rfl) (by kernel_rfl) (by kernel_rfl) (fun _ _ _ h => h) (Or.inl ⟨by rfl, ?h34⟩) (by assumption) ?r34
              case h34 => (intro w hSw; (try dsimp only at hSw); go_simp <;> with_reducible rfl)
              (try simp only [Act.put, List.setIfInBounds_toArray, List.set_cons_zero, List.set_cons_succ])
              refine wpAnyH_take (i := 18) (oi := ⟨some 22, _, _, _, _, _⟩) (v := ?v35) rfl (by kernel_rfl) (by kernel_rfl) (by kernel_rfl) (fun _ _ _ h => h) (Or.inl ⟨by rfl, ?h35⟩) (by assumption) ?r35
              case h35 => (intro w hSw; (try dsimp only at hSw); go_simp <;> with_reducible rfl)
              (try simp only [Act.put, List.setIfInBounds_toArray, List.set_cons_zero, List.set_cons_succ])
              refine wpAnyH_done (by kernel_rfl) ?_ _
              clear HI HT
              by_cases h12 : 12 ≤ S.length
              · have h12i : (12 : Int) ≤ (S.length : Int) := by omega
                go_wp2_with fail
                go_ret
                exact ⟨int_ret (by rw [HR.out]; simp_all), k3⟩
              · have h12i : ¬ (12 : Int) ≤ (S.length : Int) := by omega
                have h12j : (S.length : Int) < 12 := by omega
                go_wp2_with fail
                go_ret
                exact ⟨int_ret (by rw [HR.out]; simp_all), k3⟩
            · refine wp_region_held_drew (S := (fun w' => w'.cell? ⟨w.heap.size, 0, none⟩ = some (.slice s1 S.length s2) ∧ w'.cell? ⟨w.heap.size, 1, none⟩ = some (.slice p1 P.length p2) ∧ w'.cell? ⟨w.heap.size, 2, none⟩ = some (.slice a1 A.length a2) ∧ w'.cell? ⟨w.heap.size + 1, 0, none⟩ = some (.int .i64 xi) ∧ w'.cell? ⟨w.heap.size + 1, 1, none⟩ = some (.int .i64 xt) ∧ w'.cell? ⟨w.heap.size + 1, 2, none⟩ = some (.int .i64 xg))) (by kernel_rfl) ?hS36 (fun hHeld => ?hR36)
              case hS36 => (try dsimp only); go_keep
              refine wpAnyH_take (i := 0) (oi := ⟨some 23, _, _, _, _, _⟩) (v := ?v37) rfl (by kernel_rfl) (by kernel_rfl) (by kernel_rfl) (fun _ _ _ h => h) (Or.inl ⟨by rfl, ?h37⟩) (by assumption) ?r37
              case h37 => (intro w hSw; (try dsimp only at hSw); go_simp <;> with_reducible rfl)
              (try simp only [Act.put, List.setIfInBounds_toArray, List.set_cons_zero, List.set_cons_succ])
              refine wpAnyH_take (i := 1) (oi := ⟨some 24, _, _, _, _, _⟩) (v := ?v38) rfl (by kernel_rfl) (by kernel_rfl) (by kernel_rfl) (fun _ _ _ h => h) (Or.inl ⟨by rfl, ?h38⟩) (by assumption) ?r38
              case h38 => (intro w hSw; (try dsimp only at hSw); go_simp <;> with_reducible rfl)
              (try simp only [Act.put, List.setIfInBounds_toArray, List.set_cons_zero, List.set_cons_succ])
              refine wpAnyH_take (i := 2) (oi := ⟨some 25, _, _, _, _, _⟩) (v := ?v39) rfl (by kernel_rfl) (by kernel_rfl) (by kernel_rfl) (fun _ _ _ h => h) (Or.inl ⟨by rfl, ?h39⟩) (by assumption) ?r39
              case h39 => (intro w hSw; (try dsimp only at hSw); go_simp <;> with_reducible rfl)
              (try simp only [Act.put, List.setIfInBounds_toArray, List.set_cons_zero, List.set_cons_succ])
              refine wpAnyH_ready (rs := [3]) (by kernel_rfl) (by simp) ?_
              refine AllReadyH.cons (o := ⟨some 26, _, _, _, _, _⟩) rfl (fun K hK => ?_) AllReadyH.nil
              go_simp
              (go_at_call 103; refine (withId_any _ _).mono ?_; rintro e w1 ⟨bi, rfl, hbi, hb1⟩; have g1 : Below W0.heap.size W0 w1 := ((Below.refl _ W0).drew).trans hb1; have k1 : Below w.heap.size w w1 := hb0.trans (g1.mono hb0.size); have y0 := cell_beh q0 g1 (Nat.le_refl _); have y1 := cell_beh q1 g1 (Nat.le_refl _); have y2 := cell_beh q2 g1 (Nat.le_refl _); have y3 := cell_beh q3 g1 (Nat.le_refl _); have y4 := cell_beh q4 g1 (Nat.le_refl _); have y5 := cell_beh q5 g1 (Nat.le_refl _))
              go_wp2_with fail
              refine hK.out _ _ ?hS40 (fun hHeld => ?hR40)
              case hS40 => (try dsimp only); go_keep
              clear hK K
              (try simp only [Act.put, List.setIfInBounds_toArray, List.set_cons_zero, List.set_cons_succ])
              refine wpAnyH_ready (rs := [4]) (by kernel_rfl) (by simp) ?_
              refine AllReadyH.cons (o := ⟨some 27, _, _, _, _, _⟩) rfl (fun K hK => ?_) AllReadyH.nil
              go_simp
              (go_at_call 102; refine (unhide HI _ _ k1 hbi).mono ?_; rintro e w2 ⟨rfl, hb2⟩; have g2 : Below W0.heap.size W0 w2 := g1.trans (hb2.mono g1.size); have k2 : Below w.heap.size w w2 := hb0.trans (g2.mono hb0.size); have z0 := cell_beh q0 g2 (Nat.le_refl _); have z1 := cell_beh q1 g2 (Nat.le_refl _); have z2 := cell_beh q2 g2 (Nat.le_refl _); have z3 := cell_beh q3 g2 (Nat.le_refl _); have z4 := cell_beh q4 g2 (Nat.le_refl _); have z5 := cell_beh q5 g2 (Nat.le_refl _))
              go_wp2_with fail
              refine hK.out _ _ ?hS41 (fun hHeld => ?hR41)
              case hS41 => (try dsimp only); go_keep
              clear hK K
              (try simp only [Act.put, List.setIfInBounds_toArray, List.set_cons_zero, List.set_cons_succ])
              refine wpAnyH_take (i := 5) (oi := ⟨some 28, _, _, _, _, _⟩) (v := ?v42) rfl (by kernel_rfl) (by kernel_rfl) (by kernel_rfl) (fun _ _ _ h => h) (Or.inl ⟨by rfl, ?h42⟩) (by assumption) ?r42
              case h42 => (intro w hSw; (try dsimp only at hSw); go_simp <;> with_reducible rfl)
              (try simp only [Act.put, List.setIfInBounds_toArray, List.set_cons_zero, List.set_cons_succ])
              refine wpAnyH_take (i := 6) (oi := ⟨some 29, _, _, _, _, _⟩) (v := ?v43) rfl (by kernel_rfl) (by kernel_rfl) (by kernel_rfl) (fun _ _ _ h => h) (Or.inl ⟨by rfl, ?h43⟩) (by assumption) ?r43
              case h43 => (intro w hSw; (try dsimp only at hSw); go_simp <;> with_reducible rfl)
              (try simp only [Act.put, List.setIfInBounds_toArray, List.set_cons_zero, List.set_cons_succ])
              refine wpAnyH_take (i := 7) (oi := ⟨some 30, _, _, _, _, _⟩) (v := ?v44) rfl (by kernel_rfl) (by kernel_rfl) (by kernel_rfl) (fun _ _ _ h => h) (Or.inl ⟨by rfl, ?h44⟩) (by assumption) ?r44
              case h44 => (intro w hSw; (try dsimp only at hSw); go_simp <;> with_reducible rfl)
              (try simp only [Act.put, List.setIfInBounds_toArray, List.set_cons_zero, List.set_cons_succ])
              refine wpAnyH_take (i := 8) (oi := ⟨some 31, _, _, _, _, _⟩) (v := ?v45) rfl (by kernel_rfl) (by kernel_rfl) (by kernel_rfl) (fun _ _ _ h => h) (Or.inl ⟨by rfl, ?h45⟩) (by assumption) ?r45
              case h45 => (intro w hSw; (try dsimp only at hSw); go_simp <;> with_reducible rfl)
              (try simp only [Act.put, List.setIfInBounds_toArray, List.set_cons_zero, List.set_cons_succ])
              refine wpAnyH_take (i := 9) (oi := ⟨some 32, _, _, _, _, _⟩) (v := ?v46) rfl (by kernel_rfl) (by kernel_rfl) (by kernel_rfl) (fun _ _ _ h => h) (Or.inl ⟨by rfl, ?h46⟩) (by assumption) ?r46
              case h46 => (intro w hSw; (try dsimp only at hSw); go_simp <;> with_reducible rfl)
              (try simp only [Act.put, List.setIfInBounds_toArray, List.set_cons_zero, List.set_cons_succ])
              refine wpAnyH_take (i := 10) (oi := ⟨some 33, _, _, _, _, _⟩) (v := ?v47) rfl (by kernel_rfl) (by kernel_rfl) (by kernel_rfl) (fun _ _ _ h => h) (Or.inl ⟨by rfl, ?h47⟩) (by assumption) ?r47
              case h47 => (intro w hSw; (try dsimp only at hSw); go_simp <;> with_reducible rfl)
              (try simp only [Act.put, List.setIfInBounds_toArray, List.set_cons_zero, List.set_cons_succ])
              refine wpAnyH_take (i := 11) (oi := ⟨some 34, _, _, _, _, _⟩) (v := ?v48) rfl (by kernel_rfl) (by kernel_rfl) (by kernel_rfl) (fun _ _ _ h => h) (Or.inl ⟨by rfl, ?h48⟩) (by assumption) ?r48
              case h48 => (intro w hSw; (try dsimp only at hSw); go_simp <;> with_reducible rfl)
              (try simp only [Act.put, List.setIfInBounds_toArray, List.set_cons_zero, List.set_cons_succ])
              refine wpAnyH_take (i := 12) (oi := ⟨some 35, _, _, _, _, _⟩) (v := ?v49) rfl (by kernel_rfl) (by kernel_rfl) (by kernel_rfl) (fun _ _ _ h => h) (Or.inl ⟨by rfl, ?h49⟩) (by assumption) ?r49
              case h49 => (intro w hSw; (try dsimp only at hSw); go_simp <;> with_reducible rfl)
              (try simp only [Act.put, List.setIfInBounds_toArray, List.set_cons_zero, List.set_cons_succ])
              refine wpAnyH_take (i := 13) (oi := ⟨some 36, _, _, _, _, _⟩) (v := ?v50) rfl (by kernel_rfl) (by kernel_rfl) (by kernel_rfl) (fun _ _ _ h => h) (Or.inl ⟨by rfl, ?h50⟩) (by assumption) ?r50
              case h50 => (intro w hSw; (try dsimp only at hSw); go_simp <;> with_reducible rfl)
              (try simp only [Act.put, List.setIfInBounds_toArray, List.set_cons_zero, List.set_cons_succ])
              refine wpAnyH_take (i := 14) (oi := ⟨some 37, _, _, _, _, _⟩) (v := ?v51) rfl (by kernel_rfl) (by kernel_rfl) (by kernel_rfl) (fun _ _ _ h => h) (Or.inl ⟨by rfl, ?h51⟩) (by assumption) ?r51
              case h51 => (intro w hSw; (try dsimp only at hSw); go_simp <;> with_reducible rfl)
              (try simp only [Act.put, List.setIfInBounds_toArray, List.set_cons_zero, List.set_cons_succ])
              refine wpAnyH_ready (rs := [15]) (by kernel_rfl) (by simp) ?_
              refine AllReadyH.cons (o := ⟨some 38, _, _, _, _, _⟩) rfl (fun K hK => ?_) AllReadyH.nil
              go_simp
              (go_at_call 104; refine (unhide HT _ k2).mono ?_; rintro e w3 ⟨rfl, hb3⟩; have g3 : Below W0.heap.size W0 w3 := g2.trans (hb3.mono g2.size); have k3 : Below w.heap.size w w3 := hb0.trans (g3.mono hb0.size); have v0 := cell_beh q0 g3 (Nat.le_refl _); have v1 := cell_beh q1 g3 (Nat.le_refl _); have v2 := cell_beh q2 g3 (Nat.le_refl _); have v3 := cell_beh q3 g3 (Nat.le_refl _); have v4 := cell_beh q4 g3 (Nat.le_refl _); have v5 := cell_beh q5 g3 (Nat.le_refl _))
              go_wp2_with fail
              refine hK.out _ _ ?hS52 (fun hHeld => ?hR52)
              case hS52 => (try dsimp only); go_keep
              clear hK K
              (try simp only [Act.put, List.setIfInBounds_toArray, List.set_cons_zero, List.set_cons_succ])
              refine wpAnyH_take (i := 16) (oi := ⟨some 39, _, _, _, _, _⟩) (v := ?v53) rfl (by kernel_rfl) (by kernel_rfl) (by kernel_rfl) (fun _ _ _ h => h) (Or.inl ⟨by rfl, ?h53⟩) (by assumption) ?r53
              case h53 => (intro w hSw; (try dsimp only at hSw); go_simp <;> with_reducible rfl)
              (try simp only [Act.put, List.setIfInBounds_toArray, List.set_cons_zero, List.set_cons_succ])
              refine wpAnyH_take (i := 17) (oi := ⟨some 40, _, _, _, _, _⟩) (v := ?v54) rfl (by kernel_rfl) (by kernel_rfl) (by kernel_rfl) (fun _ _ _ h => h) (Or.inl ⟨by rfl, ?h54⟩) (by assumption) ?r54
              case h54 => (intro w hSw; (try dsimp only at hSw); go_simp <;> with_reducible rfl)
              (try simp only [Act.put, List.setIfInBounds_toArray, List.set_cons_zero, List.set_cons_succ])
              refine wpAnyH_take (i := 18) (oi := ⟨some 22, _, _, _, _, _⟩) (v := ?v55) rfl (by kernel_rfl) (by kernel_rfl) (by kernel_rfl) (fun _ _ _ h => h) (Or.inl ⟨by rfl, ?h55⟩) (by assumption) ?r55
              case h55 => (intro w hSw; (try dsimp only at hSw); go_simp <;> with_reducible rfl)
              (try simp only [Act.put, List.setIfInBounds_toArray, List.set_cons_zero, List.set_cons_succ])
              refine wpAnyH_done (by kernel_rfl) ?_ _
              clear HI HT
              go_wp2_with fail
              go_ret
              exact ⟨int_ret (by rw [HR.out]; simp_all), k3⟩
        · refine wp_region_held_drew (S := (fun w' => w'.cell? ⟨w.heap.size, 0, none⟩ = some (.slice s1 S.length s2) ∧ w'.cell? ⟨w.heap.size, 1, none⟩ = some (.slice p1 P.length p2) ∧ w'.cell? ⟨w.heap.size, 2, none⟩ = some (.slice a1 A.length a2) ∧ w'.cell? ⟨w.heap.size + 1, 0, none⟩ = some (.int .i64 xi) ∧ w'.cell? ⟨w.heap.size + 1, 1, none⟩ = some (.int .i64 xt) ∧ w'.cell? ⟨w.heap.size + 1, 2, none⟩ = some (.int .i64 xg))) (by kernel_rfl) ?hS56 (fun hHeld => ?hR56)
          case hS56 => (try dsimp only); go_keep
          refine wpAnyH_take (i := 0) (oi := ⟨some 23, _, _, _, _, _⟩) (v := ?v57) rfl (by kernel_rfl) (by kernel_rfl) (by kernel_rfl) (fun _ _ _ h => h) (Or.inl ⟨by rfl, ?h57⟩) (by assumption) ?r57
          case h57 => (intro w hSw; (try dsimp only at hSw); go_simp <;> with_reducible rfl)
          (try simp only [Act.put, List.setIfInBounds_toArray, List.set_cons_zero, List.set_cons_succ])
          refine wpAnyH_take (i := 1) (oi := ⟨some 24, _, _, _, _, _⟩) (v := ?v58) rfl (by kernel_rfl) (by kernel_rfl) (by kernel_rfl) (fun _ _ _ h => h) (Or.inl ⟨by rfl, ?h58⟩) (by assumption) ?r58
          case h58 => (intro w hSw; (try dsimp only at hSw); go_simp <;> with_reducible rfl)
          (try simp only [Act.put, List.setIfInBounds_toArray, List.set_cons_zero, List.set_cons_succ])
          refine wpAnyH_take (i := 2) (oi := ⟨some 25, _, _, _, _, _⟩) (v := ?v59) rfl (by kernel_rfl) (by kernel_rfl) (by kernel_rfl) (fun _ _ _ h => h) (Or.inl ⟨by rfl, ?h59⟩) (by assumption) ?r59
          case h59 => (intro w hSw; (try dsimp only at hSw); go_simp <;> with_reducible rfl)
          (try simp only [Act.put, List.setIfInBounds_toArray, List.set_cons_zero, List.set_cons_succ])
          refine wpAnyH_ready (rs := [3]) (by kernel_rfl) (by simp) ?_
          refine AllReadyH.cons (o := ⟨some 26, _, _, _, _, _⟩) rfl (fun K hK => ?_) AllReadyH.nil
          go_simp
          (go_at_call 103; refine (withId_any _ _).mono ?_; rintro e w1 ⟨bi, rfl, hbi, hb1⟩; have g1 : Below W0.heap.size W0 w1 := ((Below.refl _ W0).drew).trans hb1; have k1 : Below w.heap.size w w1 := hb0.trans (g1.mono hb0.size); have y0 := cell_beh q0 g1 (Nat.le_refl _); have y1 := cell_beh q1 g1 (Nat.le_refl _); have y2 := cell_beh q2 g1 (Nat.le_refl _); have y3 := cell_beh q3 g1 (Nat.le_refl _); have y4 := cell_beh q4 g1 (Nat.le_refl _); have y5 := cell_beh q5 g1 (Nat.le_refl _))
          go_wp2_with fail
          refine hK.out _ _ ?hS60 (fun hHeld => ?hR60)
          case hS60 => (try dsimp only); go_keep
          clear hK K
          (try simp only [Act.put, List.setIfInBounds_toArray, List.set_cons_zero, List.set_cons_succ])
          refine wpAnyH_ready (rs := [4]) (by kernel_rfl) (by simp) ?_
          refine AllReadyH.cons (o := ⟨some 27, _, _, _, _, _⟩) rfl (fun K hK => ?_) AllReadyH.nil
          go_simp
          (go_at_call 102; refine (unhide HI _ _ k1 hbi).mono ?_; rintro e w2 ⟨rfl, hb2⟩; have g2 : Below W0.heap.size W0 w2 := g1.trans (hb2.mono g1.size); have k2 : Below w.heap.size w w2 := hb0.trans (g2.mono hb0.size); have z0 := cell_beh q0 g2 (Nat.le_refl _); have z1 := cell_beh q1 g2 (Nat.le_refl _); have z2 := cell_beh q2 g2 (Nat.le_refl _); have z3 := cell_beh q3 g2 (Nat.le_refl _); have z4 := cell_beh q4 g2 (Nat.le_refl _); have z5 := cell_beh q5 g2 (Nat.le_refl _))
          go_wp2_with fail
          refine hK.out _ _ ?hS61 (fun hHeld => ?hR61)
          case hS61 => (try dsimp only); go_keep
          clear hK K
          (try simp only [Act.put, List.setIfInBounds_toArray, List.set_cons_zero, List.set_cons_succ])
          refine wpAnyH_take (i := 5) (oi := ⟨some 28, _, _, _, _, _⟩) (v := ?v62) rfl (by kernel_rfl) (by kernel_rfl) (by kernel_rfl) (fun _ _ _ h => h) (Or.inl ⟨by rfl, ?h62⟩) (by assumption) ?r62
          case h62 => (intro w hSw; (try dsimp only at hSw); go_simp <;> with_reducible rfl)
          (try simp only [Act.put, List.setIfInBounds_toArray, List.set_cons_zero, List.set_cons_succ])
          refine wpAnyH_take (i := 6) (oi := ⟨some 29, _, _, _, _, _⟩) (v := undef) rfl (by kernel_rfl) (by kernel_rfl) (by kernel_rfl) (fun _ _ _ h => h) (Or.inr ⟨by rfl, rfl⟩) (by assumption) ?_
          (try simp only [Act.put, List.setIfInBounds_toArray, List.set_cons_zero, List.set_cons_succ])
          refine wpAnyH_take (i := 7) (oi := ⟨some 30, _, _, _, _, _⟩) (v := undef) rfl (by kernel_rfl) (by kernel_rfl) (by kernel_rfl) (fun _ _ _ h => h) (Or.inr ⟨by rfl, rfl⟩) (by assumption) ?_
          (try simp only [Act.put, List.setIfInBounds_toArray, List.set_cons_zero, List.set_cons_succ])
          refine wpAnyH_take (i := 8) (oi := ⟨some 31, _, _, _, _, _⟩) (v := undef) rfl (by kernel_rfl) (by kernel_rfl) (by kernel_rfl) (fun _ _ _ h => h) (Or.inr ⟨by rfl, rfl⟩) (by assumption) ?_
          (try simp only [Act.put, List.setIfInBounds_toArray, List.set_cons_zero, List.set_cons_succ])
          refine wpAnyH_take (i := 9) (oi := ⟨some 32, _, _, _, _, _⟩) (v := undef) rfl (by kernel_rfl) (by kernel_rfl) (by kernel_rfl) (fun _ _ _ h => h) (Or.inr ⟨by rfl, rfl⟩) (by assumption) ?_
          (try simp only [Act.put, List.setIfInBounds_toArray, List.set_cons_zero, List.set_cons_succ])
          refine wpAnyH_take (i := 10) (oi := ⟨some 33, _, _, _, _, _⟩) (v := undef) rfl (by kernel_rfl) (by kernel_rfl) (by kernel_rfl) (fun _ _ _ h => h) (Or.inr ⟨by rfl, rfl⟩) (by assumption) ?_
          (try simp only [Act.put, List.setIfInBounds_toArray, List.set_cons_zero, List.set_cons_succ])
          refine wpAnyH_take (i := 11) (oi := ⟨some 34, _, _, _, _, _⟩) (v := undef) rfl (by kernel_rfl) (by kernel_rfl) (by kernel_rfl) (fun _ _ _ h => h) (Or.inr ⟨by rfl, rfl⟩) (by assumption) ?_
          (try simp only [Act.put, List.setIfInBounds_toArray, List.set_cons_zero, List.set_cons_succ])
          refine wpAnyH_take (i := 12) (oi := ⟨some 35, _, _, _, _, _⟩) (v := undef) rfl (by kernel_rfl) (by kernel_rfl) (by kernel_rfl) (fun _ _ _ h => h) (Or.inr ⟨by rfl, rfl⟩) (by assumption) ?_
          (try simp only [Act.put, List.setIfInBounds_toArray, List.set_cons_zero, List.set_cons_succ])
          refine wpAnyH_take (i := 13) (oi := ⟨some 36, _, _, _, _, _⟩) (v := undef) rfl (by kernel_rfl) (by kernel_rfl) (by kernel_rfl) (fun _ _ _ h => h) (Or.inr ⟨by rfl, rfl⟩) (by assumption) ?_
          (try simp only [Act.put, List.setIfInBounds_toArray, List.set_cons_zero, List.set_cons_succ])
          refine wpAnyH_take (i := 14) (oi := ⟨some 37, _, _, _, _, _⟩) (v := undef) rfl (by kernel_rfl) (by kernel_rfl) (by kernel_rfl) (fun _ _ _ h => h) (Or.inr ⟨by rfl, rfl⟩) (by assumption) ?_
          (try simp only [Act.put, List.setIfInBounds_toArray, List.set_cons_zero, List.set_cons_succ])
          refine wpAnyH_ready (rs := [15]) (by kernel_rfl) (by simp) ?_
          refine AllReadyH.cons (o := ⟨some 38, _, _, _, _, _⟩) rfl (fun K hK => ?_) AllReadyH.nil
          rw [if_neg (by rw [Bool.not_eq_true]; rfl)]
          refine hK.out _ _ ?hS63 (fun hHeld => ?hR63)
          case hS63 => (try dsimp only); go_keep
          clear hK K
          (try simp only [Act.put, List.setIfInBounds_toArray, List.set_cons_zero, List.set_cons_succ])
          refine wpAnyH_take (i := 16) (oi := ⟨some 39, _, _, _, _, _⟩) (v := undef) rfl (by kernel_rfl) (by kernel_rfl) (by kernel_rfl) (fun _ _ _ h => h) (Or.inr ⟨by rfl, rfl⟩) (by assumption) ?_
          (try simp only [Act.put, List.setIfInBounds_toArray, List.set_cons_zero, List.set_cons_succ])
          refine wpAnyH_take (i := 17) (oi := ⟨some 40, _, _, _, _, _⟩) (v := ?v64) rfl (by kernel_rfl) (by kernel_rfl) (by kernel_rfl) (fun _ _ _ h => h) (Or.inl ⟨by rfl, ?h64⟩) (by assumption) ?r64
          case h64 => (intro w hSw; (try dsimp only at hSw); go_simp <;> with_reducible rfl)
          (try simp only [Act.put, List.setIfInBounds_toArray, List.set_cons_zero, List.set_cons_succ])
          refine wpAnyH_take (i := 18) (oi := ⟨some 22, _, _, _, _, _⟩) (v := ?v65) rfl (by kernel_rfl) (by kernel_rfl) (by kernel_rfl) (fun _ _ _ h => h) (Or.inl ⟨by rfl, ?h65⟩) (by assumption) ?r65
          case h65 => (intro w hSw; (try dsimp only at hSw); go_simp <;> with_reducible rfl)
          (try simp only [Act.put, List.setIfInBounds_toArray, List.set_cons_zero, List.set_cons_succ])
          refine wpAnyH_done (by kernel_rfl) ?_ _
          clear HI HT
          go_wp2_with fail
          go_ret
          exact ⟨int_ret (by rw [HR.out]; simp_all), k2⟩
      · have hr3' : inB xg 0 65535 = false := by simpa using hr3
        clear hr3 HI HT
        go_enter Tryz.func61, Tryz.ntmps61
        go_wp2_with (first | (go_at_call 100; refine (within_any _ _ _ _).mono ?_; rintro e w' ⟨rfl, rfl⟩) | (go_at_call 101; refine (cIsWord_any _ _).mono ?_; rintro e w' ⟨rfl, rfl⟩))
        go_ret
        exact ⟨int_ret (by rw [HR.out]; simp_all), ((Below.refl _ _).alloc (Nat.le_refl _) _).alloc (by simp) _⟩
    · have hr2' : inB xt 1 9 = false := by simpa using hr2
      clear hr2 HI HT
      go_enter Tryz.func61, Tryz.ntmps61
      go_wp2_with (first | (go_at_call 100; refine (within_any _ _ _ _).mono ?_; rintro e w' ⟨rfl, rfl⟩) | (go_at_call 101; refine (cIsWord_any _ _).mono ?_; rintro e w' ⟨rfl, rfl⟩))
      go_ret
      exact ⟨int_ret (by rw [HR.out]; simp_all), ((Below.refl _ _).alloc (Nat.le_refl _) _).alloc (by simp) _⟩
  · have hr1' : inB xi 1 500 = false := by simpa using hr1
    clear hr1 HI HT
    go_enter Tryz.func61, Tryz.ntmps61
    go_wp2_with (first | (go_at_call 100; refine (within_any _ _ _ _).mono ?_; rintro e w' ⟨rfl, rfl⟩) | (go_at_call 101; refine (cIsWord_any _ _).mono ?_; rintro e w' ⟨rfl, rfl⟩))
    go_ret
    exact ⟨int_ret (by rw [HR.out]; simp_all), ((Below.refl _ _).alloc (Nat.le_refl _) _).alloc (by simp) _⟩

end Go.Proofs.YtjcomoinggiedaaGreat

namespace Go.Proofs.YtjcomoinggiedaaGreat
open Go.RowKit
set_option linter.unusedVariables false
set_option maxRecDepth 100000

/-- P3.2: what is wrong with a port that comes. -/
def prFault (S : List Sw) (P : List Pr) (x : Pr) : Int :=
  if prInB x = false then 2 else if idx (fun s => s.i == x.s) S < 0 then 6 else if P.any (fun y => y.i == x.i || y.s == x.s && y.m == x.m) = true then 7 else
  if takenB S P (S.getD (idx (fun s => s.i == x.s) S).toNat sw0).t x.p = true then 7 else if 40 ≤ P.length then 1 else 0

set_option maxHeartbeats 8000000 in
theorem checkPort_any (sv pv av : Value) (S : List Sw) (P : List Pr) (A : List Ac) (x : Pr) (w : World) (hC : CfAt w sv pv av S P A) (h1 : S.length * 24 ≤ 140737488355328) (h2 : P.length * 40 ≤ 140737488355328) :
    Calls Tryz.prog 62 #[.agg #[sv, pv, av], .agg #[.int .i64 x.i, .int .i64 x.s, .int .i64 x.m, .int .i64 x.p, .int .i64 x.c]] w fun e w' => e = .returned (.int .i64 (prFault S P x)) ∧ Below w.heap.size w w' := by
  obtain ⟨xi, xs, xm, xp, xc⟩ := x
  have HC := hide hC
  have HB := hide (fun W => portInBounds_any xi xs xm xp xc W)
  have HI : Hid (∀ (W : World) (b : Nat), Below w.heap.size w W → W.cell? ⟨b, 0, none⟩ = some (.int .i64 xs) → Calls Tryz.prog 106 #[sv, .func (.func 159) #[] #[.pointer (some ⟨b, 0, none⟩)]] W fun e w' => e = .returned (.int .i64 (idx (fun s => s.i == xs) S)) ∧ Below W.heap.size W w') :=
    fun W b hW a => idxId_any S _ sv _ W (RowAt.below hC.1 hW (Nat.le_refl _)) (asksId a) h1
  have HP : Hid (∀ (W : World), Below w.heap.size w W → W.cell? ⟨w.heap.size + 1, 0, none⟩ = some (.int .i64 xi) → W.cell? ⟨w.heap.size + 1, 1, none⟩ = some (.int .i64 xs) → W.cell? ⟨w.heap.size + 1, 2, none⟩ = some (.int .i64 xm) → Calls Tryz.prog 107 #[.agg #[sv, pv, av], .func (.func 108) #[] #[.pointer (some ⟨w.heap.size + 1, 0, none⟩)]] W fun e w' => e = .returned (.bool (P.any (fun y => y.i == xi || y.s == xs && y.m == xm))) ∧ Below W.heap.size W w') :=
    fun W hW a b c => hasPortSame_any sv pv av P _ _ W (anySlice hC.1) (RowAt.below hC.2.1 hW (Nat.le_refl _)) (anySlice hC.2.2) (asksSame a b c) h2
  have HT : Hid (∀ (W : World) (t : Int), Below w.heap.size w W → Calls Tryz.prog 104 #[.agg #[sv, pv, av], .int .i64 t, .int .i64 xp] W fun e w' => e = .returned (.bool (takenB S P t xp)) ∧ Below W.heap.size W w') := fun W t hW => isTaken_any sv pv av S P A t xp W (hC.below hW (Nat.le_refl _)) h1 h2
  have HR : Hid (prFault S P ⟨xi, xs, xm, xp, xc⟩ = if prInB ⟨xi, xs, xm, xp, xc⟩ = false then 2 else if idx (fun s => s.i == xs) S < 0 then 6 else if P.any (fun y => y.i == xi || y.s == xs && y.m == xm) = true then 7 else
    if takenB S P (S.getD (idx (fun s => s.i == xs) S).toNat sw0).t xp = true then 7 else if 40 ≤ P.length then 1 else 0) := rfl
  have hbd := idx_bd (fun s : Sw => s.i == xs) S
  generalize prFault S P ⟨xi, xs, xm, xp, xc⟩ = R at *
  generalize idx (fun s : Sw => s.i == xs) S = I at *
  generalize P.any (fun y => y.i == xi || y.s == xs && y.m == xm) = R1 at *
  generalize prInB ⟨xi, xs, xm, xp, xc⟩ = R0 at *
  obtain ⟨s1, s2, rfl⟩ := hC.1.slice
  obtain ⟨p1, p2, rfl⟩ := hC.2.1.slice
  obtain ⟨a1, a2, rfl⟩ := hC.2.2.slice
  clear hC
  simp only
  go_enter Tryz.func62, Tryz.ntmps62
  go_wp2_with fail
  obtain ⟨W0, hW0⟩ : ∃ W0, W0 = (w.alloc (.cells #[.slice s1 S.length s2, .slice p1 P.length p2, .slice a1 A.length a2] 29)).alloc (.cells #[.int .i64 xi, .int .i64 xs, .int .i64 xm, .int .i64 xp, .int .i64 xc] 45) := ⟨_, rfl⟩
  have hb0 : Below w.heap.size w W0 := by rw [hW0]; exact ((Below.refl _ _).alloc (Nat.le_refl _) _).alloc (by simp) _
  have d0 : W0.cell? ⟨w.heap.size, 0, none⟩ = some (.slice s1 S.length s2) := by rw [hW0]; exact old_cell (new_cell w _ rfl _ _ _ _ rfl) _
  have d1 : W0.cell? ⟨w.heap.size, 1, none⟩ = some (.slice p1 P.length p2) := by rw [hW0]; exact old_cell (new_cell w _ rfl _ _ _ _ rfl) _
  have d2 : W0.cell? ⟨w.heap.size, 2, none⟩ = some (.slice a1 A.length a2) := by rw [hW0]; exact old_cell (new_cell w _ rfl _ _ _ _ rfl) _
  have d3 : W0.cell? ⟨w.heap.size + 1, 0, none⟩ = some (.int .i64 xi) := by rw [hW0]; exact new_cell _ _ (by simp) _ _ _ _ rfl
  have d4 : W0.cell? ⟨w.heap.size + 1, 1, none⟩ = some (.int .i64 xs) := by rw [hW0]; exact new_cell _ _ (by simp) _ _ _ _ rfl
  have d5 : W0.cell? ⟨w.heap.size + 1, 2, none⟩ = some (.int .i64 xm) := by rw [hW0]; exact new_cell _ _ (by simp) _ _ _ _ rfl
  have d6 : W0.cell? ⟨w.heap.size + 1, 3, none⟩ = some (.int .i64 xp) := by rw [hW0]; exact new_cell _ _ (by simp) _ _ _ _ rfl
  have d7 : W0.cell? ⟨w.heap.size + 1, 4, none⟩ = some (.int .i64 xc) := by rw [hW0]; exact new_cell _ _ (by simp) _ _ _ _ rfl
  rw [← hW0]
  clear hW0
  refine (unhide HB _).mono ?_
  rintro e W1 ⟨rfl, hB1⟩
  have q0 := cell_beh d0 hB1 (Nat.le_refl _)
  have q1 := cell_beh d1 hB1 (Nat.le_refl _)
  have q2 := cell_beh d2 hB1 (Nat.le_refl _)
  have q3 := cell_beh d3 hB1 (Nat.le_refl _)
  have q4 := cell_beh d4 hB1 (Nat.le_refl _)
  have q5 := cell_beh d5 hB1 (Nat.le_refl _)
  have q6 := cell_beh d6 hB1 (Nat.le_refl _)
  have q7 := cell_beh d7 hB1 (Nat.le_refl _)
  have hb1 := hb0.trans (hB1.mono hb0.size)
  clear HB hB1 hb0 d0 d1 d2 d3 d4 d5 d6 d7
  cases R0
  · clear HI HP HT
    go_wp2_with fail
    go_ret
    exact ⟨int_ret (by rw [HR.out]; simp), hb1⟩
  · go_wp2_with fail
    go_region_held3 (fun w' => w'.cell? ⟨w.heap.size, 0, none⟩ = some (.slice s1 S.length s2) ∧ w'.cell? ⟨w.heap.size, 1, none⟩ = some (.slice p1 P.length p2) ∧ w'.cell? ⟨w.heap.size, 2, none⟩ = some (.slice a1 A.length a2) ∧ w'.cell? ⟨w.heap.size + 1, 0, none⟩ = some (.int .i64 xi) ∧ w'.cell? ⟨w.heap.size + 1, 1, none⟩ = some (.int .i64 xs) ∧ w'.cell? ⟨w.heap.size + 1, 2, none⟩ = some (.int .i64 xm) ∧ w'.cell? ⟨w.heap.size + 1, 3, none⟩ = some (.int .i64 xp) ∧ w'.cell? ⟨w.heap.size + 1, 4, none⟩ = some (.int .i64 xc)) (go_keep)
      (first | (go_at_call 103; refine (withId_any _ _).mono ?_; rintro e w1 ⟨bi, rfl, hbi, hc1⟩; have g1 : Below W1.heap.size W1 w1 := ((Below.refl _ W1).drew).trans hc1; have k1 : Below w.heap.size w w1 := hb1.trans (g1.mono hb1.size); have y0 := cell_beh q0 g1 (Nat.le_refl _); have y1 := cell_beh q1 g1 (Nat.le_refl _); have y2 := cell_beh q2 g1 (Nat.le_refl _); have y3 := cell_beh q3 g1 (Nat.le_refl _); have y4 := cell_beh q4 g1 (Nat.le_refl _); have y5 := cell_beh q5 g1 (Nat.le_refl _); have y6 := cell_beh q6 g1 (Nat.le_refl _); have y7 := cell_beh q7 g1 (Nat.le_refl _)) | (go_at_call 106; refine (unhide HI _ _ k1 hbi).mono ?_; rintro e w2 ⟨rfl, hc2⟩; have g2 : Below W1.heap.size W1 w2 := g1.trans (hc2.mono g1.size); have k2 : Below w.heap.size w w2 := hb1.trans (g2.mono hb1.size); have z0 := cell_beh q0 g2 (Nat.le_refl _); have z1 := cell_beh q1 g2 (Nat.le_refl _); have z2 := cell_beh q2 g2 (Nat.le_refl _); have z3 := cell_beh q3 g2 (Nat.le_refl _); have z4 := cell_beh q4 g2 (Nat.le_refl _); have z5 := cell_beh q5 g2 (Nat.le_refl _); have z6 := cell_beh q6 g2 (Nat.le_refl _); have z7 := cell_beh q7 g2 (Nat.le_refl _)))
    clear y0 y1 y2 y3 y4 y5 y6 y7 q0 q1 q2 q3 q4 q5 q6 q7 HI hbi hc1 hc2 g1 g2 k1 hb1
    by_cases hI : I < 0
    · clear HP HT
      go_wp2_with fail
      go_ret
      exact ⟨int_ret (by rw [HR.out]; simp [hI]), k2⟩
    · obtain ⟨k, rfl⟩ : ∃ k : Nat, I = (k : Int) := ⟨I.toNat, by omega⟩
      have hk : k < S.length := by omega
      have hi1 : (0 : Int) ≤ (k : Int) := by omega
      have hi2 : (k : Int) < (S.length : Int) := by omega
      go_wp2_with fail
      refine (unhide HP _ k2 z3 z4 z5).mono ?_
      rintro e w3 ⟨rfl, hc3⟩
      have k3 := k2.trans (hc3.mono k2.size)
      have q0 := cell_beh z0 hc3 (Nat.le_refl _)
      have q1 := cell_beh z1 hc3 (Nat.le_refl _)
      have q2 := cell_beh z2 hc3 (Nat.le_refl _)
      have q3 := cell_beh z3 hc3 (Nat.le_refl _)
      have q4 := cell_beh z4 hc3 (Nat.le_refl _)
      have q5 := cell_beh z5 hc3 (Nat.le_refl _)
      have q6 := cell_beh z6 hc3 (Nat.le_refl _)
      have q7 := cell_beh z7 hc3 (Nat.le_refl _)
      clear HP hc3 k2 z0 z1 z2 z3 z4 z5 z6 z7
      cases R1
      · obtain ⟨b, off, cap, e1, hcap, hb, u0, u1, u2⟩ := sw_at (RowAt.below HC.out.1 k3 (Nat.le_refl _)) hk
        simp only [Value.slice.injEq, true_and] at e1
        obtain ⟨rfl, rfl⟩ := e1
        have HTT := hide (fun W hW => HT.out W (S.getD k sw0).t hW)
        have HRR : Hid (R = if takenB S P (S.getD k sw0).t xp = true then 7 else if 40 ≤ P.length then 1 else 0) := by
          show R = _
          rw [HR.out, if_neg (by simp), if_neg (by omega), if_neg (by simp), Int.toNat_natCast]
        clear HR HT HC
        generalize takenB S P (S.getD k sw0).t xp = R2 at *
        generalize (S.getD k sw0).t = xt at *
        generalize (S.getD k sw0).i = xj at *
        generalize (S.getD k sw0).g = xg at *
        go_wp2_with fail
        go_region_held3 (fun w' => w'.cell? ⟨w.heap.size, 0, none⟩ = some (.slice (some ⟨b, off, none⟩) S.length s2) ∧ w'.cell? ⟨w.heap.size, 1, none⟩ = some (.slice p1 P.length p2) ∧ w'.cell? ⟨w.heap.size, 2, none⟩ = some (.slice a1 A.length a2) ∧ w'.cell? ⟨w.heap.size + 1, 3, none⟩ = some (.int .i64 xp) ∧ w'.cell? ⟨b, off + k * 3 + 1, none⟩ = some (.int .i64 xt)) (go_keep)
          (first | (go_at_call 104; refine (unhide HTT _ k3.drew).mono ?_; rintro e w4 ⟨rfl, hc4⟩; have g4 : Below w3.heap.size w3 w4 := ((Below.refl _ w3).drew).trans hc4; have k4 : Below w.heap.size w w4 := k3.trans (g4.mono k3.size); have v0 := cell_beh q0 g4 (Nat.le_refl _); have v1 := cell_beh q1 g4 (Nat.le_refl _); have v2 := cell_beh q2 g4 (Nat.le_refl _); have v3 := cell_beh q6 g4 (Nat.le_refl _); have v4 := cell_beh u1 g4 (Nat.le_refl _)))
        clear HTT q0 q1 q2 q3 q4 q5 q6 q7 u0 u1 u2 k3 g4 hc4
        cases R2
        · by_cases h40 : 40 ≤ P.length
          · have h40i : (40 : Int) ≤ (P.length : Int) := by omega
            go_wp2_with fail
            go_ret
            exact ⟨int_ret (by rw [HRR.out, if_neg (by simp), if_pos h40]), k4⟩
          · have h40i : (P.length : Int) < 40 := by omega
            go_wp2_with fail
            go_ret
            exact ⟨int_ret (by rw [HRR.out, if_neg (by simp), if_neg h40]), k4⟩
        · go_wp2_with fail
          go_ret
          exact ⟨int_ret (by rw [HRR.out]; simp), k4⟩
      · clear HT
        go_wp2_with fail
        go_ret
        exact ⟨int_ret (by rw [HR.out, if_neg (by simp), if_neg (by omega)]; simp), k3⟩

end Go.Proofs.YtjcomoinggiedaaGreat

namespace Go.Proofs.YtjcomoinggiedaaGreat
open Go.RowKit
set_option linter.unusedVariables false
set_option maxRecDepth 100000

/-- Has a word no other bits than so many of the highest ones? -/
def highB (n b : Int) : Bool := n % (65536 / 2 ^ b.toNat) == 0

theorem and_words (a b : Nat) (ha : a ≤ 65535) (hb : b ≤ 65535) : bits .and .i64 (a : Int) (b : Int) = ((a &&& b : Nat) : Int) := by
  have e : ∀ c : Nat, c ≤ 65535 → (BitVec.ofInt 64 (c : Int)).toNat = c := fun c hc => by simp; omega
  show IntKind.i64.wrap ((BitVec.ofInt 64 (a : Int) &&& BitVec.ofInt 64 (b : Int)).toNat : Int) = _
  rw [BitVec.toNat_and, e a ha, e b hb]
  have : a &&& b ≤ a := Nat.and_le_left
  generalize a &&& b = n at *
  simp [IntKind.wrap, IntKind.bits, IntKind.signed]
  split <;> omega

set_option maxHeartbeats 1000000 in
theorem inHighest_any (n b : Int) (w : World) (hn : inB n 0 65535 = true) (hb : inB b 0 16 = true) :
    Calls Tryz.prog 110 #[.int .i64 n, .int .i64 b] w fun e w' => e = .returned (.bool (highB n b)) ∧ w' = w := by
  simp [inB] at hn hb
  obtain ⟨m, rfl⟩ := Int.eq_ofNat_of_zero_le hn.1
  obtain ⟨c, rfl⟩ := Int.eq_ofNat_of_zero_le hb.1
  have hc : c = 0 ∨ c = 1 ∨ c = 2 ∨ c = 3 ∨ c = 4 ∨ c = 5 ∨ c = 6 ∨ c = 7 ∨ c = 8 ∨ c = 9 ∨ c = 10 ∨ c = 11 ∨ c = 12 ∨ c = 13 ∨ c = 14 ∨ c = 15 ∨ c = 16 := by omega
  go_enter Tryz.func110, Tryz.ntmps110
  go_wp2
  go_ret
  refine ⟨bool_ret ?_, rfl⟩
  have key : ∀ n, n ≤ 16 → (bits .and .i64 (m : Int) ((2 ^ n - 1 : Nat) : Int) == 0) = ((m : Int) % ((2 ^ n : Nat) : Int) == 0) := fun n hn16 => by
    have h2 : 2 ^ n ≤ 2 ^ 16 := Nat.pow_le_pow_right (by omega) hn16
    rw [and_words m _ (by omega) (by omega), Nat.and_two_pow_sub_one_eq_mod, ← Int.natCast_emod]
  unfold highB
  rcases hc with rfl | rfl | rfl | rfl | rfl | rfl | rfl | rfl | rfl | rfl | rfl | rfl | rfl | rfl | rfl | rfl | rfl
  · exact key 16 (by omega)
  · exact key 15 (by omega)
  · exact key 14 (by omega)
  · exact key 13 (by omega)
  · exact key 12 (by omega)
  · exact key 11 (by omega)
  · exact key 10 (by omega)
  · exact key 9 (by omega)
  · exact key 8 (by omega)
  · exact key 7 (by omega)
  · exact key 6 (by omega)
  · exact key 5 (by omega)
  · exact key 4 (by omega)
  · exact key 3 (by omega)
  · exact key 2 (by omega)
  · exact key 1 (by omega)
  · exact key 0 (by omega)

/-- P3.3: what is wrong with a rule that comes. -/
def acFault (S : List Sw) (A : List Ac) (x : Ac) : Int :=
  if acInB x = false then 2 else if (highB x.src x.sb && highB x.dst x.db) = false then 4 else if S.any (fun s => s.i == x.s) = false then 6 else if 40 ≤ A.length then 1 else 0

set_option maxHeartbeats 8000000 in
theorem checkAcl_any (sv pv av : Value) (S : List Sw) (P : List Pr) (A : List Ac) (x : Ac) (w : World) (hC : CfAt w sv pv av S P A) (h1 : S.length * 24 ≤ 140737488355328) :
    Calls Tryz.prog 63 #[.agg #[sv, pv, av], .agg #[.int .i64 x.s, .int .i64 x.p, .bool x.n, .int .i64 x.src, .int .i64 x.sb, .int .i64 x.dst, .int .i64 x.db, .int .i64 x.o, .bool x.d]] w fun e w' => e = .returned (.int .i64 (acFault S A x)) ∧ Below w.heap.size w w' := by
  obtain ⟨xs, xp, xn, xf, xb, xd, xe, xo, xy⟩ := x
  have HB := hide (fun W => aclInBounds_any xs xp xn xf xb xd xe xo xy W)
  have HI : Hid (∀ (W : World) (b : Nat), Below w.heap.size w W → W.cell? ⟨b, 0, none⟩ = some (.int .i64 xs) → Calls Tryz.prog 102 #[.agg #[sv, pv, av], .func (.func 159) #[] #[.pointer (some ⟨b, 0, none⟩)]] W fun e w' => e = .returned (.bool (S.any (fun s => s.i == xs))) ∧ Below W.heap.size W w') :=
    fun W b hW a => hasSwitchId_any sv pv av S _ _ W (RowAt.below hC.1 hW (Nat.le_refl _)) (anySlice hC.2.1) (anySlice hC.2.2) (asksId a) h1
  have HR : Hid (acFault S A ⟨xs, xp, xn, xf, xb, xd, xe, xo, xy⟩ = if acInB ⟨xs, xp, xn, xf, xb, xd, xe, xo, xy⟩ = false then 2 else if (highB xf xb && highB xd xe) = false then 4 else if S.any (fun s => s.i == xs) = false then 6 else if 40 ≤ A.length then 1 else 0) := rfl
  have HQ : Hid (acInB ⟨xs, xp, xn, xf, xb, xd, xe, xo, xy⟩ = true → inB xf 0 65535 = true ∧ inB xb 0 16 = true ∧ inB xd 0 65535 = true ∧ inB xe 0 16 = true) := fun h => by
    unfold acInB at h
    simp only [Bool.and_eq_true] at h
    exact ⟨h.1.1.1.1.2, h.1.1.2, h.1.1.1.2, h.1.2⟩
  generalize acFault S A ⟨xs, xp, xn, xf, xb, xd, xe, xo, xy⟩ = R at *
  generalize S.any (fun s => s.i == xs) = R1 at *
  generalize acInB ⟨xs, xp, xn, xf, xb, xd, xe, xo, xy⟩ = R0 at *
  obtain ⟨s1, s2, rfl⟩ := hC.1.slice
  obtain ⟨p1, p2, rfl⟩ := hC.2.1.slice
  obtain ⟨a1, a2, rfl⟩ := hC.2.2.slice
  clear hC
  simp only
  go_enter Tryz.func63, Tryz.ntmps63
  go_wp2_with fail
  obtain ⟨W0, hW0⟩ : ∃ W0, W0 = (w.alloc (.cells #[.slice s1 S.length s2, .slice p1 P.length p2, .slice a1 A.length a2] 29)).alloc (.cells #[.int .i64 xs, .int .i64 xp, .bool xn, .int .i64 xf, .int .i64 xb, .int .i64 xd, .int .i64 xe, .int .i64 xo, .bool xy] 52) := ⟨_, rfl⟩
  have hb0 : Below w.heap.size w W0 := by rw [hW0]; exact ((Below.refl _ _).alloc (Nat.le_refl _) _).alloc (by simp) _
  have d0 : W0.cell? ⟨w.heap.size, 0, none⟩ = some (.slice s1 S.length s2) := by rw [hW0]; exact old_cell (new_cell w _ rfl _ _ _ _ rfl) _
  have d1 : W0.cell? ⟨w.heap.size, 1, none⟩ = some (.slice p1 P.length p2) := by rw [hW0]; exact old_cell (new_cell w _ rfl _ _ _ _ rfl) _
  have d2 : W0.cell? ⟨w.heap.size, 2, none⟩ = some (.slice a1 A.length a2) := by rw [hW0]; exact old_cell (new_cell w _ rfl _ _ _ _ rfl) _
  have d3 : W0.cell? ⟨w.heap.size + 1, 0, none⟩ = some (.int .i64 xs) := by rw [hW0]; exact new_cell _ _ (by simp) _ _ _ _ rfl
  have d4 : W0.cell? ⟨w.heap.size + 1, 1, none⟩ = some (.int .i64 xp) := by rw [hW0]; exact new_cell _ _ (by simp) _ _ _ _ rfl
  have d5 : W0.cell? ⟨w.heap.size + 1, 2, none⟩ = some (.bool xn) := by rw [hW0]; exact new_cell _ _ (by simp) _ _ _ _ rfl
  have d6 : W0.cell? ⟨w.heap.size + 1, 3, none⟩ = some (.int .i64 xf) := by rw [hW0]; exact new_cell _ _ (by simp) _ _ _ _ rfl
  have d7 : W0.cell? ⟨w.heap.size + 1, 4, none⟩ = some (.int .i64 xb) := by rw [hW0]; exact new_cell _ _ (by simp) _ _ _ _ rfl
  have d8 : W0.cell? ⟨w.heap.size + 1, 5, none⟩ = some (.int .i64 xd) := by rw [hW0]; exact new_cell _ _ (by simp) _ _ _ _ rfl
  have d9 : W0.cell? ⟨w.heap.size + 1, 6, none⟩ = some (.int .i64 xe) := by rw [hW0]; exact new_cell _ _ (by simp) _ _ _ _ rfl
  have d10 : W0.cell? ⟨w.heap.size + 1, 7, none⟩ = some (.int .i64 xo) := by rw [hW0]; exact new_cell _ _ (by simp) _ _ _ _ rfl
  have d11 : W0.cell? ⟨w.heap.size + 1, 8, none⟩ = some (.bool xy) := by rw [hW0]; exact new_cell _ _ (by simp) _ _ _ _ rfl
  rw [← hW0]
  clear hW0
  refine (unhide HB _).mono ?_
  rintro e W1 ⟨rfl, hB1⟩
  have q0 := cell_beh d0 hB1 (Nat.le_refl _)
  have q1 := cell_beh d1 hB1 (Nat.le_refl _)
  have q2 := cell_beh d2 hB1 (Nat.le_refl _)
  have q3 := cell_beh d3 hB1 (Nat.le_refl _)
  have q4 := cell_beh d4 hB1 (Nat.le_refl _)
  have q5 := cell_beh d5 hB1 (Nat.le_refl _)
  have q6 := cell_beh d6 hB1 (Nat.le_refl _)
  have q7 := cell_beh d7 hB1 (Nat.le_refl _)
  have q8 := cell_beh d8 hB1 (Nat.le_refl _)
  have q9 := cell_beh d9 hB1 (Nat.le_refl _)
  have q10 := cell_beh d10 hB1 (Nat.le_refl _)
  have q11 := cell_beh d11 hB1 (Nat.le_refl _)
  have hb1 := hb0.trans (hB1.mono hb0.size)
  clear HB hB1 hb0 d0 d1 d2 d3 d4 d5 d6 d7 d8 d9 d10 d11
  cases R0
  · clear HI HQ
    go_wp2_with fail
    go_ret
    exact ⟨int_ret (by rw [HR.out]; simp), hb1⟩
  · obtain ⟨g1, g2, g3, g4⟩ := HQ.out rfl
    have HH := hide (fun W => inHighest_any xf xb W g1 g2)
    have HJ := hide (fun W => inHighest_any xd xe W g3 g4)
    clear HQ g1 g2 g3 g4
    generalize highB xf xb = B1 at *
    generalize highB xd xe = B2 at *
    go_wp2_with fail
    refine (unhide HH _).mono ?_
    rintro e w' ⟨rfl, rfl⟩
    cases B1
    · clear HI HJ HH
      go_wp2_with fail
      go_ret
      exact ⟨int_ret (by rw [HR.out]; simp), hb1⟩
    · go_wp2_with fail
      refine (unhide HJ _).mono ?_
      rintro e w' ⟨rfl, rfl⟩
      cases B2
      · clear HI HJ HH
        go_wp2_with fail
        go_ret
        exact ⟨int_ret (by rw [HR.out]; simp), hb1⟩
      · clear HH HJ q4 q5 q6 q7 q8 q9 q10 q11
        rename World => W1
        go_wp2_with fail
        go_region_held3 (fun w' => w'.cell? ⟨w.heap.size, 0, none⟩ = some (.slice s1 S.length s2) ∧ w'.cell? ⟨w.heap.size, 1, none⟩ = some (.slice p1 P.length p2) ∧ w'.cell? ⟨w.heap.size, 2, none⟩ = some (.slice a1 A.length a2) ∧ w'.cell? ⟨w.heap.size + 1, 0, none⟩ = some (.int .i64 xs)) (go_keep)
          (first | (go_at_call 103; refine (withId_any _ _).mono ?_; rintro e w1 ⟨bi, rfl, hbi, hc1⟩; have g1 : Below W1.heap.size W1 w1 := ((Below.refl _ W1).drew).trans hc1; have k1 : Below w.heap.size w w1 := hb1.trans (g1.mono hb1.size); have y0 := cell_beh q0 g1 (Nat.le_refl _); have y1 := cell_beh q1 g1 (Nat.le_refl _); have y2 := cell_beh q2 g1 (Nat.le_refl _); have y3 := cell_beh q3 g1 (Nat.le_refl _)) | (go_at_call 102; refine (unhide HI _ _ k1 hbi).mono ?_; rintro e w2 ⟨rfl, hc2⟩; have g2 : Below W1.heap.size W1 w2 := g1.trans (hc2.mono g1.size); have k2 : Below w.heap.size w w2 := hb1.trans (g2.mono hb1.size); have z0 := cell_beh q0 g2 (Nat.le_refl _); have z1 := cell_beh q1 g2 (Nat.le_refl _); have z2 := cell_beh q2 g2 (Nat.le_refl _); have z3 := cell_beh q3 g2 (Nat.le_refl _)))
        clear HI q0 q1 q2 q3 y0 y1 y2 y3 hb1 hbi hc1 hc2 g1 g2 k1
        cases R1
        · go_wp2_with fail
          go_ret
          exact ⟨int_ret (by rw [HR.out]; simp), k2⟩
        · by_cases h40 : 40 ≤ A.length
          · have h40i : (40 : Int) ≤ (A.length : Int) := by omega
            go_wp2_with fail
            go_ret
            exact ⟨int_ret (by rw [HR.out]; simp [h40]), k2⟩
          · have h40i : (A.length : Int) < 40 := by omega
            go_wp2_with fail
            go_ret
            exact ⟨int_ret (by rw [HR.out]; simp [h40]), k2⟩

end Go.Proofs.YtjcomoinggiedaaGreat

namespace Go.Proofs.YtjcomoinggiedaaGreat
open Go.RowKit
set_option linter.unusedVariables false
set_option maxRecDepth 100000

/-- May what there is come, one by one? -/
def swsMay (S : List Sw) : Bool := (List.range S.length).all fun k => swFault (S.take k) [] (S.getD k sw0) == 0
def prsMay (S : List Sw) (P : List Pr) : Bool := (List.range P.length).all fun k => prFault S (P.take k) (P.getD k pr0) == 0
def acsMay (S : List Sw) (A : List Ac) : Bool := (List.range A.length).all fun k => acFault S (A.take k) (A.getD k ac0) == 0
theorem range_yes {n : Nat} {f : Nat → Bool} (h : ∀ j, j < n → f j = true) : (List.range n).all f = true := by
  rw [List.all_eq_true]
  intro x hx
  exact h x (List.mem_range.1 hx)
theorem range_no {n : Nat} {f : Nat → Bool} {k : Nat} (hk : k < n) (h : f k = false) : (List.range n).all f = false := by
  rw [List.all_eq_false]
  exact ⟨k, List.mem_range.2 hk, by simp [h]⟩
theorem ptake_len {α : Type} {l : List α} (k c : Nat) (h : l.length * c ≤ 140737488355328) : (l.take k).length * c ≤ 140737488355328 := Nat.le_trans (Nat.mul_le_mul_right _ (by rw [List.length_take]; exact Nat.min_le_right _ _)) h

set_option maxHeartbeats 4000000 in
theorem switchesMayBe_any (sv pv av : Value) (S : List Sw) (P : List Pr) (A : List Ac) (w : World) (hC : CfAt w sv pv av S P A) (h1 : S.length * 24 ≤ 140737488355328) :
    Calls Tryz.prog 58 #[.agg #[sv, pv, av]] w fun e w' => e = .returned (.bool (swsMay S)) ∧ Below w.heap.size w w' := by
  have HC := hide hC
  have HY : Hid ((∀ j, j < S.length → (swFault (S.take j) [] (S.getD j sw0) == 0) = true) → swsMay S = true) := fun h => range_yes h
  have HNO : Hid (∀ k, k < S.length → (swFault (S.take k) [] (S.getD k sw0) == 0) = false → swsMay S = false) := fun k hk h => range_no hk h
  generalize swsMay S = R at *
  obtain ⟨s1, s2, rfl⟩ := hC.1.slice
  obtain ⟨p1, p2, rfl⟩ := hC.2.1.slice
  obtain ⟨a1, a2, rfl⟩ := hC.2.2.slice
  clear hC
  go_enter Tryz.func58, Tryz.ntmps58
  go_wp2_with fail
  obtain ⟨W0, hW0⟩ : ∃ W0, W0 = w.alloc (.cells #[.slice s1 S.length s2, .slice p1 P.length p2, .slice a1 A.length a2] 29) := ⟨_, rfl⟩
  have hb0 : Below w.heap.size w W0 := by rw [hW0]; exact (Below.refl _ _).alloc (Nat.le_refl _) _
  have d0 : W0.cell? ⟨w.heap.size, 0, none⟩ = some (.slice s1 S.length s2) := by rw [hW0]; exact new_cell w _ rfl _ _ _ _ rfl
  have d1 : W0.cell? ⟨w.heap.size, 1, none⟩ = some (.slice p1 P.length p2) := by rw [hW0]; exact new_cell w _ rfl _ _ _ _ rfl
  have d2 : W0.cell? ⟨w.heap.size, 2, none⟩ = some (.slice a1 A.length a2) := by rw [hW0]; exact new_cell w _ rfl _ _ _ _ rfl
  have hz0 : w.heap.size < W0.heap.size := cell_in d0
  rw [← hW0]
  clear hW0
  go_loopw [8] (fun i wr => ∃ k : Nat, k ≤ S.length ∧ i = .int .i64 k ∧ Hid (∀ j, j < k → (swFault (S.take j) [] (S.getD j sw0) == 0) = true) ∧ Below W0.heap.size W0 wr) (fun i _ => S.length - (intOf i).toNat)
  case atStart => exact ⟨0, by omega, rfl, hide (fun j h => absurd h (by omega)), Below.refl _ _⟩
  case round =>
    obtain ⟨k, hk, rfl, HALL, hbr⟩ := hrel
    have hbw := hb0.trans (hbr.mono hb0.size)
    have q0 := cell_beh d0 hbr (Nat.le_refl _)
    have q1 := cell_beh d1 hbr (Nat.le_refl _)
    have q2 := cell_beh d2 hbr (Nat.le_refl _)
    by_cases hlt : k < S.length
    · obtain ⟨b, off, cap', e1, hcap, hb, g0, g1, g2⟩ := sw_at (RowAt.below HC.out.1 hbw (Nat.le_refl _)) hlt
      have HK : Hid (∀ W : World, Below w.heap.size w W → Calls Tryz.prog 61 #[.agg #[.slice s1 k s2, .slice none 0 0, .slice none 0 0], .agg #[.int .i64 (S.getD k sw0).i, .int .i64 (S.getD k sw0).t, .int .i64 (S.getD k sw0).g]] W fun e w' => e = .returned (.int .i64 (swFault (S.take k) [] (S.getD k sw0))) ∧ Below W.heap.size W w') := fun W hW => checkSwitch_any _ _ _ (S.take k) [] [] (S.getD k sw0) W ⟨RowAt.take (RowAt.below HC.out.1 hW (Nat.le_refl _)) k hlt, RowAt.nil _ _ _, RowAt.nil _ _ _⟩ (ptake_len k 24 h1) (by simp)
      simp only [Value.slice.injEq, true_and] at e1
      obtain ⟨rfl, rfl⟩ := e1
      have HN1 := hide (HNO.out k hlt)
      have HNX : Hid ((swFault (S.take k) [] (S.getD k sw0) == 0) = true → ∀ j, j < k + 1 → (swFault (S.take j) [] (S.getD j sw0) == 0) = true) := fun h j hj => by
        by_cases e : j = k
        · subst e; exact h
        · exact HALL.out j (by omega)
      have HRS := hide hlt
      clear HALL d0 d1 d2
      generalize swFault (S.take k) [] (S.getD k sw0) = G at HK HN1 HNX
      generalize (S.getD k sw0).i = x0 at *
      generalize (S.getD k sw0).t = x1 at *
      generalize (S.getD k sw0).g = x2 at *
      have q3 : (0 : Int) ≤ (k : Int) := by omega
      have q4 : (k : Int) < (S.length : Int) := by omega
      have q5 : (k : Int) ≤ (s2 : Int) := by omega
      go_wp2_with fail
      obtain ⟨W1, hW1⟩ : ∃ W1, W1 = wr.alloc (.cells #[.int .i64 x0, .int .i64 x1, .int .i64 x2] 42) := ⟨_, rfl⟩
      obtain ⟨B, hB⟩ : ∃ B, B = wr.heap.size := ⟨_, rfl⟩
      have hb1 : Below wr.heap.size wr W1 := by rw [hW1]; exact (Below.refl _ _).alloc (Nat.le_refl _) _
      have y0 : W1.cell? ⟨B, 0, none⟩ = some (.int .i64 x0) := by rw [hW1, hB]; exact new_cell wr _ rfl _ _ _ _ rfl
      have y1 : W1.cell? ⟨B, 1, none⟩ = some (.int .i64 x1) := by rw [hW1, hB]; exact new_cell wr _ rfl _ _ _ _ rfl
      have y2 : W1.cell? ⟨B, 2, none⟩ = some (.int .i64 x2) := by rw [hW1, hB]; exact new_cell wr _ rfl _ _ _ _ rfl
      have r0 := cell_beh q0 hb1 (Nat.le_refl _)
      have r1 := cell_beh q1 hb1 (Nat.le_refl _)
      have r2 := cell_beh q2 hb1 (Nat.le_refl _)
      have hk1 : Below w.heap.size w W1 := hbw.trans (hb1.mono hbw.size)
      have hr1 : Below W0.heap.size W0 W1 := hbr.trans (hb1.mono hbr.size)
      rw [← hW1, ← hB]
      clear hW1 hB hb1 q0 q1 q2 hbw hbr g0 g1 g2
      go_region_held3 (fun w' => w'.cell? ⟨w.heap.size, 0, none⟩ = some (.slice (some ⟨b, off, none⟩) S.length s2) ∧ w'.cell? ⟨w.heap.size, 1, none⟩ = some (.slice p1 P.length p2) ∧ w'.cell? ⟨w.heap.size, 2, none⟩ = some (.slice a1 A.length a2) ∧ w'.cell? ⟨B, 0, none⟩ = some (.int .i64 x0) ∧ w'.cell? ⟨B, 1, none⟩ = some (.int .i64 x1) ∧ w'.cell? ⟨B, 2, none⟩ = some (.int .i64 x2)) (go_keep)
        (first | (go_at_call 61; refine (unhide HK _ hk1.drew).mono ?_; rintro e w2 ⟨rfl, hc2⟩; have g2 : Below W1.heap.size W1 w2 := ((Below.refl _ W1).drew).trans hc2; have v0 := cell_beh r0 g2 (Nat.le_refl _); have v1 := cell_beh r1 g2 (Nat.le_refl _); have v2 := cell_beh r2 g2 (Nat.le_refl _); have u0 := cell_beh y0 g2 (Nat.le_refl _); have u1 := cell_beh y1 g2 (Nat.le_refl _); have u2 := cell_beh y2 g2 (Nat.le_refl _)))
      have HB2 : Hid (Below W0.heap.size W0 w2) := hr1.trans (g2.mono hr1.size)
      clear hr1 hk1 g2 hc2 r0 r1 r2 v0 v1 v2 HK y0 u0 y1 u1 y2 u2
      by_cases hG : G = 0
      · subst hG
        have HN := hide (HNX.out rfl)
        clear HNX HN1
        go_wp2_with fail
        go_roundw
        case rel => exact ⟨k + 1, by omega, by go_num, HN, HB2.out⟩
        case measure => simp [intOf]; omega
      · have HN := hide (HN1.out (by simpa using hG))
        clear HNX HN1
        go_wp2_with fail
        go_ret
        exact ⟨bool_ret HN.out.symm, hb0.trans (HB2.out.mono hb0.size)⟩
    · have HN := hide (HY.out fun j hj => HALL.out j (by omega))
      clear HALL q0 q1 q2 d0 d1 d2
      go_wp2_with fail
      go_ret
      exact ⟨bool_ret HN.out.symm, hbw⟩

set_option maxHeartbeats 4000000 in
theorem portsMayBe_any (sv pv av : Value) (S : List Sw) (P : List Pr) (A : List Ac) (w : World) (hC : CfAt w sv pv av S P A) (h1 : S.length * 24 ≤ 140737488355328) (h2 : P.length * 40 ≤ 140737488355328) :
    Calls Tryz.prog 59 #[.agg #[sv, pv, av]] w fun e w' => e = .returned (.bool (prsMay S P)) ∧ Below w.heap.size w w' := by
  have HC := hide hC
  have HY : Hid ((∀ j, j < P.length → (prFault S (P.take j) (P.getD j pr0) == 0) = true) → prsMay S P = true) := fun h => range_yes h
  have HNO : Hid (∀ k, k < P.length → (prFault S (P.take k) (P.getD k pr0) == 0) = false → prsMay S P = false) := fun k hk h => range_no hk h
  generalize prsMay S P = R at *
  obtain ⟨s1, s2, rfl⟩ := hC.1.slice
  obtain ⟨p1, p2, rfl⟩ := hC.2.1.slice
  obtain ⟨a1, a2, rfl⟩ := hC.2.2.slice
  clear hC
  go_enter Tryz.func59, Tryz.ntmps59
  go_wp2_with fail
  obtain ⟨W0, hW0⟩ : ∃ W0, W0 = w.alloc (.cells #[.slice s1 S.length s2, .slice p1 P.length p2, .slice a1 A.length a2] 29) := ⟨_, rfl⟩
  have hb0 : Below w.heap.size w W0 := by rw [hW0]; exact (Below.refl _ _).alloc (Nat.le_refl _) _
  have d0 : W0.cell? ⟨w.heap.size, 0, none⟩ = some (.slice s1 S.length s2) := by rw [hW0]; exact new_cell w _ rfl _ _ _ _ rfl
  have d1 : W0.cell? ⟨w.heap.size, 1, none⟩ = some (.slice p1 P.length p2) := by rw [hW0]; exact new_cell w _ rfl _ _ _ _ rfl
  have d2 : W0.cell? ⟨w.heap.size, 2, none⟩ = some (.slice a1 A.length a2) := by rw [hW0]; exact new_cell w _ rfl _ _ _ _ rfl
  have hz0 : w.heap.size < W0.heap.size := cell_in d0
  rw [← hW0]
  clear hW0
  go_loopw [8] (fun i wr => ∃ k : Nat, k ≤ P.length ∧ i = .int .i64 k ∧ Hid (∀ j, j < k → (prFault S (P.take j) (P.getD j pr0) == 0) = true) ∧ Below W0.heap.size W0 wr) (fun i _ => P.length - (intOf i).toNat)
  case atStart => exact ⟨0, by omega, rfl, hide (fun j h => absurd h (by omega)), Below.refl _ _⟩
  case round =>
    obtain ⟨k, hk, rfl, HALL, hbr⟩ := hrel
    have hbw := hb0.trans (hbr.mono hb0.size)
    have q0 := cell_beh d0 hbr (Nat.le_refl _)
    have q1 := cell_beh d1 hbr (Nat.le_refl _)
    have q2 := cell_beh d2 hbr (Nat.le_refl _)
    by_cases hlt : k < P.length
    · obtain ⟨b, off, cap', e1, hcap, hb, g0, g1, g2, g3, g4⟩ := pr_at (RowAt.below HC.out.2.1 hbw (Nat.le_refl _)) hlt
      have HK : Hid (∀ W : World, Below w.heap.size w W → Calls Tryz.prog 62 #[.agg #[.slice s1 S.length s2, .slice p1 k p2, .slice none 0 0], .agg #[.int .i64 (P.getD k pr0).i, .int .i64 (P.getD k pr0).s, .int .i64 (P.getD k pr0).m, .int .i64 (P.getD k pr0).p, .int .i64 (P.getD k pr0).c]] W fun e w' => e = .returned (.int .i64 (prFault S (P.take k) (P.getD k pr0))) ∧ Below W.heap.size W w') := fun W hW => checkPort_any _ _ _ S (P.take k) [] (P.getD k pr0) W ⟨RowAt.below HC.out.1 hW (Nat.le_refl _), RowAt.take (RowAt.below HC.out.2.1 hW (Nat.le_refl _)) k hlt, RowAt.nil _ _ _⟩ h1 (ptake_len k 40 h2)
      simp only [Value.slice.injEq, true_and] at e1
      obtain ⟨rfl, rfl⟩ := e1
      have HN1 := hide (HNO.out k hlt)
      have HNX : Hid ((prFault S (P.take k) (P.getD k pr0) == 0) = true → ∀ j, j < k + 1 → (prFault S (P.take j) (P.getD j pr0) == 0) = true) := fun h j hj => by
        by_cases e : j = k
        · subst e; exact h
        · exact HALL.out j (by omega)
      have HRS := hide hlt
      clear HALL d0 d1 d2
      generalize prFault S (P.take k) (P.getD k pr0) = G at HK HN1 HNX
      generalize (P.getD k pr0).i = x0 at *
      generalize (P.getD k pr0).s = x1 at *
      generalize (P.getD k pr0).m = x2 at *
      generalize (P.getD k pr0).p = x3 at *
      generalize (P.getD k pr0).c = x4 at *
      have q3 : (0 : Int) ≤ (k : Int) := by omega
      have q4 : (k : Int) < (P.length : Int) := by omega
      have q5 : (k : Int) ≤ (p2 : Int) := by omega
      go_wp2_with fail
      obtain ⟨W1, hW1⟩ : ∃ W1, W1 = wr.alloc (.cells #[.int .i64 x0, .int .i64 x1, .int .i64 x2, .int .i64 x3, .int .i64 x4] 45) := ⟨_, rfl⟩
      obtain ⟨B, hB⟩ : ∃ B, B = wr.heap.size := ⟨_, rfl⟩
      have hb1 : Below wr.heap.size wr W1 := by rw [hW1]; exact (Below.refl _ _).alloc (Nat.le_refl _) _
      have y0 : W1.cell? ⟨B, 0, none⟩ = some (.int .i64 x0) := by rw [hW1, hB]; exact new_cell wr _ rfl _ _ _ _ rfl
      have y1 : W1.cell? ⟨B, 1, none⟩ = some (.int .i64 x1) := by rw [hW1, hB]; exact new_cell wr _ rfl _ _ _ _ rfl
      have y2 : W1.cell? ⟨B, 2, none⟩ = some (.int .i64 x2) := by rw [hW1, hB]; exact new_cell wr _ rfl _ _ _ _ rfl
      have y3 : W1.cell? ⟨B, 3, none⟩ = some (.int .i64 x3) := by rw [hW1, hB]; exact new_cell wr _ rfl _ _ _ _ rfl
      have y4 : W1.cell? ⟨B, 4, none⟩ = some (.int .i64 x4) := by rw [hW1, hB]; exact new_cell wr _ rfl _ _ _ _ rfl
      have r0 := cell_beh q0 hb1 (Nat.le_refl _)
      have r1 := cell_beh q1 hb1 (Nat.le_refl _)
      have r2 := cell_beh q2 hb1 (Nat.le_refl _)
      have hk1 : Below w.heap.size w W1 := hbw.trans (hb1.mono hbw.size)
      have hr1 : Below W0.heap.size W0 W1 := hbr.trans (hb1.mono hbr.size)
      rw [← hW1, ← hB]
      clear hW1 hB hb1 q0 q1 q2 hbw hbr g0 g1 g2 g3 g4
      go_region_held3 (fun w' => w'.cell? ⟨w.heap.size, 0, none⟩ = some (.slice s1 S.length s2) ∧ w'.cell? ⟨w.heap.size, 1, none⟩ = some (.slice (some ⟨b, off, none⟩) P.length p2) ∧ w'.cell? ⟨w.heap.size, 2, none⟩ = some (.slice a1 A.length a2) ∧ w'.cell? ⟨B, 0, none⟩ = some (.int .i64 x0) ∧ w'.cell? ⟨B, 1, none⟩ = some (.int .i64 x1) ∧ w'.cell? ⟨B, 2, none⟩ = some (.int .i64 x2) ∧ w'.cell? ⟨B, 3, none⟩ = some (.int .i64 x3) ∧ w'.cell? ⟨B, 4, none⟩ = some (.int .i64 x4)) (go_keep)
        (first | (go_at_call 62; refine (unhide HK _ hk1.drew).mono ?_; rintro e w2 ⟨rfl, hc2⟩; have g2 : Below W1.heap.size W1 w2 := ((Below.refl _ W1).drew).trans hc2; have v0 := cell_beh r0 g2 (Nat.le_refl _); have v1 := cell_beh r1 g2 (Nat.le_refl _); have v2 := cell_beh r2 g2 (Nat.le_refl _); have u0 := cell_beh y0 g2 (Nat.le_refl _); have u1 := cell_beh y1 g2 (Nat.le_refl _); have u2 := cell_beh y2 g2 (Nat.le_refl _); have u3 := cell_beh y3 g2 (Nat.le_refl _); have u4 := cell_beh y4 g2 (Nat.le_refl _)))
      have HB2 : Hid (Below W0.heap.size W0 w2) := hr1.trans (g2.mono hr1.size)
      clear hr1 hk1 g2 hc2 r0 r1 r2 v0 v1 v2 HK y0 u0 y1 u1 y2 u2 y3 u3 y4 u4
      by_cases hG : G = 0
      · subst hG
        have HN := hide (HNX.out rfl)
        clear HNX HN1
        go_wp2_with fail
        go_roundw
        case rel => exact ⟨k + 1, by omega, by go_num, HN, HB2.out⟩
        case measure => simp [intOf]; omega
      · have HN := hide (HN1.out (by simpa using hG))
        clear HNX HN1
        go_wp2_with fail
        go_ret
        exact ⟨bool_ret HN.out.symm, hb0.trans (HB2.out.mono hb0.size)⟩
    · have HN := hide (HY.out fun j hj => HALL.out j (by omega))
      clear HALL q0 q1 q2 d0 d1 d2
      go_wp2_with fail
      go_ret
      exact ⟨bool_ret HN.out.symm, hbw⟩

set_option maxHeartbeats 4000000 in
theorem aclsMayBe_any (sv pv av : Value) (S : List Sw) (P : List Pr) (A : List Ac) (w : World) (hC : CfAt w sv pv av S P A) (h1 : S.length * 24 ≤ 140737488355328) (h3 : A.length * 72 ≤ 140737488355328) :
    Calls Tryz.prog 60 #[.agg #[sv, pv, av]] w fun e w' => e = .returned (.bool (acsMay S A)) ∧ Below w.heap.size w w' := by
  have HC := hide hC
  have HY : Hid ((∀ j, j < A.length → (acFault S (A.take j) (A.getD j ac0) == 0) = true) → acsMay S A = true) := fun h => range_yes h
  have HNO : Hid (∀ k, k < A.length → (acFault S (A.take k) (A.getD k ac0) == 0) = false → acsMay S A = false) := fun k hk h => range_no hk h
  generalize acsMay S A = R at *
  obtain ⟨s1, s2, rfl⟩ := hC.1.slice
  obtain ⟨p1, p2, rfl⟩ := hC.2.1.slice
  obtain ⟨a1, a2, rfl⟩ := hC.2.2.slice
  clear hC
  go_enter Tryz.func60, Tryz.ntmps60
  go_wp2_with fail
  obtain ⟨W0, hW0⟩ : ∃ W0, W0 = w.alloc (.cells #[.slice s1 S.length s2, .slice p1 P.length p2, .slice a1 A.length a2] 29) := ⟨_, rfl⟩
  have hb0 : Below w.heap.size w W0 := by rw [hW0]; exact (Below.refl _ _).alloc (Nat.le_refl _) _
  have d0 : W0.cell? ⟨w.heap.size, 0, none⟩ = some (.slice s1 S.length s2) := by rw [hW0]; exact new_cell w _ rfl _ _ _ _ rfl
  have d1 : W0.cell? ⟨w.heap.size, 1, none⟩ = some (.slice p1 P.length p2) := by rw [hW0]; exact new_cell w _ rfl _ _ _ _ rfl
  have d2 : W0.cell? ⟨w.heap.size, 2, none⟩ = some (.slice a1 A.length a2) := by rw [hW0]; exact new_cell w _ rfl _ _ _ _ rfl
  have hz0 : w.heap.size < W0.heap.size := cell_in d0
  rw [← hW0]
  clear hW0
  go_loopw [8] (fun i wr => ∃ k : Nat, k ≤ A.length ∧ i = .int .i64 k ∧ Hid (∀ j, j < k → (acFault S (A.take j) (A.getD j ac0) == 0) = true) ∧ Below W0.heap.size W0 wr) (fun i _ => A.length - (intOf i).toNat)
  case atStart => exact ⟨0, by omega, rfl, hide (fun j h => absurd h (by omega)), Below.refl _ _⟩
  case round =>
    obtain ⟨k, hk, rfl, HALL, hbr⟩ := hrel
    have hbw := hb0.trans (hbr.mono hb0.size)
    have q0 := cell_beh d0 hbr (Nat.le_refl _)
    have q1 := cell_beh d1 hbr (Nat.le_refl _)
    have q2 := cell_beh d2 hbr (Nat.le_refl _)
    by_cases hlt : k < A.length
    · obtain ⟨b, off, cap', e1, hcap, hb, g0, g1, g2, g3, g4, g5, g6, g7, g8⟩ := ac_at (RowAt.below HC.out.2.2 hbw (Nat.le_refl _)) hlt
      have HK : Hid (∀ W : World, Below w.heap.size w W → Calls Tryz.prog 63 #[.agg #[.slice s1 S.length s2, .slice p1 P.length p2, .slice a1 k a2], .agg #[.int .i64 (A.getD k ac0).s, .int .i64 (A.getD k ac0).p, .bool (A.getD k ac0).n, .int .i64 (A.getD k ac0).src, .int .i64 (A.getD k ac0).sb, .int .i64 (A.getD k ac0).dst, .int .i64 (A.getD k ac0).db, .int .i64 (A.getD k ac0).o, .bool (A.getD k ac0).d]] W fun e w' => e = .returned (.int .i64 (acFault S (A.take k) (A.getD k ac0))) ∧ Below W.heap.size W w') := fun W hW => checkAcl_any _ _ _ S P (A.take k) (A.getD k ac0) W ⟨RowAt.below HC.out.1 hW (Nat.le_refl _), RowAt.below HC.out.2.1 hW (Nat.le_refl _), RowAt.take (RowAt.below HC.out.2.2 hW (Nat.le_refl _)) k hlt⟩ h1
      simp only [Value.slice.injEq, true_and] at e1
      obtain ⟨rfl, rfl⟩ := e1
      have HN1 := hide (HNO.out k hlt)
      have HNX : Hid ((acFault S (A.take k) (A.getD k ac0) == 0) = true → ∀ j, j < k + 1 → (acFault S (A.take j) (A.getD j ac0) == 0) = true) := fun h j hj => by
        by_cases e : j = k
        · subst e; exact h
        · exact HALL.out j (by omega)
      have HRS := hide hlt
      clear HALL d0 d1 d2
      generalize acFault S (A.take k) (A.getD k ac0) = G at HK HN1 HNX
      generalize (A.getD k ac0).s = x0 at *
      generalize (A.getD k ac0).p = x1 at *
      generalize (A.getD k ac0).n = x2 at *
      generalize (A.getD k ac0).src = x3 at *
      generalize (A.getD k ac0).sb = x4 at *
      generalize (A.getD k ac0).dst = x5 at *
      generalize (A.getD k ac0).db = x6 at *
      generalize (A.getD k ac0).o = x7 at *
      generalize (A.getD k ac0).d = x8 at *
      have q3 : (0 : Int) ≤ (k : Int) := by omega
      have q4 : (k : Int) < (A.length : Int) := by omega
      have q5 : (k : Int) ≤ (a2 : Int) := by omega
      go_wp2_with fail
      obtain ⟨W1, hW1⟩ : ∃ W1, W1 = wr.alloc (.cells #[.int .i64 x0, .int .i64 x1, .bool x2, .int .i64 x3, .int .i64 x4, .int .i64 x5, .int .i64 x6, .int .i64 x7, .bool x8] 52) := ⟨_, rfl⟩
      obtain ⟨B, hB⟩ : ∃ B, B = wr.heap.size := ⟨_, rfl⟩
      have hb1 : Below wr.heap.size wr W1 := by rw [hW1]; exact (Below.refl _ _).alloc (Nat.le_refl _) _
      have y0 : W1.cell? ⟨B, 0, none⟩ = some (.int .i64 x0) := by rw [hW1, hB]; exact new_cell wr _ rfl _ _ _ _ rfl
      have y1 : W1.cell? ⟨B, 1, none⟩ = some (.int .i64 x1) := by rw [hW1, hB]; exact new_cell wr _ rfl _ _ _ _ rfl
      have y2 : W1.cell? ⟨B, 2, none⟩ = some (.bool x2) := by rw [hW1, hB]; exact new_cell wr _ rfl _ _ _ _ rfl
      have y3 : W1.cell? ⟨B, 3, none⟩ = some (.int .i64 x3) := by rw [hW1, hB]; exact new_cell wr _ rfl _ _ _ _ rfl
      have y4 : W1.cell? ⟨B, 4, none⟩ = some (.int .i64 x4) := by rw [hW1, hB]; exact new_cell wr _ rfl _ _ _ _ rfl
      have y5 : W1.cell? ⟨B, 5, none⟩ = some (.int .i64 x5) := by rw [hW1, hB]; exact new_cell wr _ rfl _ _ _ _ rfl
      have y6 : W1.cell? ⟨B, 6, none⟩ = some (.int .i64 x6) := by rw [hW1, hB]; exact new_cell wr _ rfl _ _ _ _ rfl
      have y7 : W1.cell? ⟨B, 7, none⟩ = some (.int .i64 x7) := by rw [hW1, hB]; exact new_cell wr _ rfl _ _ _ _ rfl
      have y8 : W1.cell? ⟨B, 8, none⟩ = some (.bool x8) := by rw [hW1, hB]; exact new_cell wr _ rfl _ _ _ _ rfl
      have r0 := cell_beh q0 hb1 (Nat.le_refl _)
      have r1 := cell_beh q1 hb1 (Nat.le_refl _)
      have r2 := cell_beh q2 hb1 (Nat.le_refl _)
      have hk1 : Below w.heap.size w W1 := hbw.trans (hb1.mono hbw.size)
      have hr1 : Below W0.heap.size W0 W1 := hbr.trans (hb1.mono hbr.size)
      rw [← hW1, ← hB]
      clear hW1 hB hb1 q0 q1 q2 hbw hbr g0 g1 g2 g3 g4 g5 g6 g7 g8
      go_region_held3 (fun w' => w'.cell? ⟨w.heap.size, 0, none⟩ = some (.slice s1 S.length s2) ∧ w'.cell? ⟨w.heap.size, 1, none⟩ = some (.slice p1 P.length p2) ∧ w'.cell? ⟨w.heap.size, 2, none⟩ = some (.slice (some ⟨b, off, none⟩) A.length a2) ∧ w'.cell? ⟨B, 0, none⟩ = some (.int .i64 x0) ∧ w'.cell? ⟨B, 1, none⟩ = some (.int .i64 x1) ∧ w'.cell? ⟨B, 2, none⟩ = some (.bool x2) ∧ w'.cell? ⟨B, 3, none⟩ = some (.int .i64 x3) ∧ w'.cell? ⟨B, 4, none⟩ = some (.int .i64 x4) ∧ w'.cell? ⟨B, 5, none⟩ = some (.int .i64 x5) ∧ w'.cell? ⟨B, 6, none⟩ = some (.int .i64 x6) ∧ w'.cell? ⟨B, 7, none⟩ = some (.int .i64 x7) ∧ w'.cell? ⟨B, 8, none⟩ = some (.bool x8)) (go_keep)
        (first | (go_at_call 63; refine (unhide HK _ hk1.drew).mono ?_; rintro e w2 ⟨rfl, hc2⟩; have g2 : Below W1.heap.size W1 w2 := ((Below.refl _ W1).drew).trans hc2; have v0 := cell_beh r0 g2 (Nat.le_refl _); have v1 := cell_beh r1 g2 (Nat.le_refl _); have v2 := cell_beh r2 g2 (Nat.le_refl _); have u0 := cell_beh y0 g2 (Nat.le_refl _); have u1 := cell_beh y1 g2 (Nat.le_refl _); have u2 := cell_beh y2 g2 (Nat.le_refl _); have u3 := cell_beh y3 g2 (Nat.le_refl _); have u4 := cell_beh y4 g2 (Nat.le_refl _); have u5 := cell_beh y5 g2 (Nat.le_refl _); have u6 := cell_beh y6 g2 (Nat.le_refl _); have u7 := cell_beh y7 g2 (Nat.le_refl _); have u8 := cell_beh y8 g2 (Nat.le_refl _)))
      have HB2 : Hid (Below W0.heap.size W0 w2) := hr1.trans (g2.mono hr1.size)
      clear hr1 hk1 g2 hc2 r0 r1 r2 v0 v1 v2 HK y0 u0 y1 u1 y2 u2 y3 u3 y4 u4 y5 u5 y6 u6 y7 u7 y8 u8
      by_cases hG : G = 0
      · subst hG
        have HN := hide (HNX.out rfl)
        clear HNX HN1
        go_wp2_with fail
        go_roundw
        case rel => exact ⟨k + 1, by omega, by go_num, HN, HB2.out⟩
        case measure => simp [intOf]; omega
      · have HN := hide (HN1.out (by simpa using hG))
        clear HNX HN1
        go_wp2_with fail
        go_ret
        exact ⟨bool_ret HN.out.symm, hb0.trans (HB2.out.mono hb0.size)⟩
    · have HN := hide (HY.out fun j hj => HALL.out j (by omega))
      clear HALL q0 q1 q2 d0 d1 d2
      go_wp2_with fail
      go_ret
      exact ⟨bool_ret HN.out.symm, hbw⟩

/-- P3.4: may it be wanted? -/
def may (S : List Sw) (P : List Pr) (A : List Ac) : Bool := swsMay S && prsMay S P && acsMay S A

set_option maxHeartbeats 4000000 in
theorem confCheck_any (sv pv av : Value) (S : List Sw) (P : List Pr) (A : List Ac) (w : World) (hC : CfAt w sv pv av S P A) (h1 : S.length * 24 ≤ 140737488355328) (h2 : P.length * 40 ≤ 140737488355328) (h3 : A.length * 72 ≤ 140737488355328) :
    Calls Tryz.prog 39 #[.agg #[sv, pv, av]] w fun e w' => e = .returned (.int .i64 (if may S P A = true then 0 else 8)) ∧ Below w.heap.size w w' := by
  have H1 : Hid (∀ W : World, Below w.heap.size w W → Calls Tryz.prog 58 #[.agg #[sv, pv, av]] W fun e w' => e = .returned (.bool (swsMay S)) ∧ Below W.heap.size W w') := fun W hW => switchesMayBe_any sv pv av S P A W (hC.below hW (Nat.le_refl _)) h1
  have H2 : Hid (∀ W : World, Below w.heap.size w W → Calls Tryz.prog 59 #[.agg #[sv, pv, av]] W fun e w' => e = .returned (.bool (prsMay S P)) ∧ Below W.heap.size W w') := fun W hW => portsMayBe_any sv pv av S P A W (hC.below hW (Nat.le_refl _)) h1 h2
  have H3 : Hid (∀ W : World, Below w.heap.size w W → Calls Tryz.prog 60 #[.agg #[sv, pv, av]] W fun e w' => e = .returned (.bool (acsMay S A)) ∧ Below W.heap.size W w') := fun W hW => aclsMayBe_any sv pv av S P A W (hC.below hW (Nat.le_refl _)) h1 h3
  have HR : Hid ((if may S P A = true then (0 : Int) else 8) = if (swsMay S && prsMay S P && acsMay S A) = true then 0 else 8) := rfl
  generalize (if may S P A = true then (0 : Int) else 8) = R at *
  generalize swsMay S = R1 at *
  generalize prsMay S P = R2 at *
  generalize acsMay S A = R3 at *
  obtain ⟨s1, s2, rfl⟩ := hC.1.slice
  obtain ⟨p1, p2, rfl⟩ := hC.2.1.slice
  obtain ⟨a1, a2, rfl⟩ := hC.2.2.slice
  clear hC
  go_enter Tryz.func39, Tryz.ntmps39
  go_wp2_with fail
  obtain ⟨W0, hW0⟩ : ∃ W0, W0 = w.alloc (.cells #[.slice s1 S.length s2, .slice p1 P.length p2, .slice a1 A.length a2] 29) := ⟨_, rfl⟩
  have hb0 : Below w.heap.size w W0 := by rw [hW0]; exact (Below.refl _ _).alloc (Nat.le_refl _) _
  have d0 : W0.cell? ⟨w.heap.size, 0, none⟩ = some (.slice s1 S.length s2) := by rw [hW0]; exact new_cell w _ rfl _ _ _ _ rfl
  have d1 : W0.cell? ⟨w.heap.size, 1, none⟩ = some (.slice p1 P.length p2) := by rw [hW0]; exact new_cell w _ rfl _ _ _ _ rfl
  have d2 : W0.cell? ⟨w.heap.size, 2, none⟩ = some (.slice a1 A.length a2) := by rw [hW0]; exact new_cell w _ rfl _ _ _ _ rfl
  rw [← hW0]
  clear hW0
  refine (unhide H1 _ hb0).mono ?_
  rintro e w1 ⟨rfl, hc1⟩
  have k1 := hb0.trans (hc1.mono hb0.size)
  have q0 := cell_beh d0 hc1 (Nat.le_refl _)
  have q1 := cell_beh d1 hc1 (Nat.le_refl _)
  have q2 := cell_beh d2 hc1 (Nat.le_refl _)
  clear d0 d1 d2 hb0 hc1 H1
  cases R1
  · clear H2 H3
    go_wp2_with fail
    go_ret
    exact ⟨int_ret (by rw [HR.out]; simp), k1⟩
  · go_wp2_with fail
    refine (unhide H2 _ k1).mono ?_
    rintro e w2 ⟨rfl, hc2⟩
    have k2 := k1.trans (hc2.mono k1.size)
    have d0 := cell_beh q0 hc2 (Nat.le_refl _)
    have d1 := cell_beh q1 hc2 (Nat.le_refl _)
    have d2 := cell_beh q2 hc2 (Nat.le_refl _)
    clear q0 q1 q2 k1 hc2 H2
    cases R2
    · clear H3
      go_wp2_with fail
      go_ret
      exact ⟨int_ret (by rw [HR.out]; simp), k2⟩
    · go_wp2_with fail
      refine (unhide H3 _ k2).mono ?_
      rintro e w3 ⟨rfl, hc3⟩
      have k3 := k2.trans (hc3.mono k2.size)
      clear d0 d1 d2 k2 hc3 H3
      cases R3
      · go_wp2_with fail
        go_ret
        exact ⟨int_ret (by rw [HR.out]; simp), k3⟩
      · go_wp2_with fail
        go_ret
        exact ⟨int_ret (by rw [HR.out]; simp), k3⟩

end Go.Proofs.YtjcomoinggiedaaGreat

namespace Go.Proofs.YtjcomoinggiedaaGreat
open Go.RowKit
set_option linter.unusedVariables false
set_option maxRecDepth 100000

/-- What is asked of the closure. -/
def AsksAt (w : World) (b0 : Nat) (p : Pr → Bool) : Prop := ∀ (W : World) (x : Pr), Below w.heap.size w W → Calls Tryz.prog 111 #[.agg #[.int .i64 x.i, .int .i64 x.s, .int .i64 x.m, .int .i64 x.p, .int .i64 x.c], .pointer (some ⟨b0, 0, none⟩)] W fun e w' => e = .returned (.bool (p x)) ∧ Below W.heap.size W w'
set_option maxHeartbeats 2000000 in
theorem idxAt_any (l : List Pr) (p : Pr → Bool) (v : Value) (b0 : Nat) (w : World) (hF : PrsAt w v l) (hT : AsksAt w b0 p) (hl : l.length * 40 ≤ 140737488355328) :
    Calls Tryz.prog 44 #[v, .func (.func 111) #[] #[.pointer (some ⟨b0, 0, none⟩)]] w fun e w' => e = .returned (.int .i64 (idx p l)) ∧ Below w.heap.size w w' := by
  have HF := hide hF
  have HT := hide hT
  obtain ⟨a, cap, rfl⟩ := hF.slice
  clear hF hT
  go_enter Tryz.func44, Tryz.ntmps44
  go_wp2_with fail
  go_loopw [8] (fun i wr => ∃ k : Nat, k ≤ l.length ∧ i = .int .i64 k ∧ Hid (∀ j, j < k → p (l.getD j pr0) = false) ∧ Below w.heap.size w wr) (fun i _ => l.length - (intOf i).toNat)
  case atStart => exact ⟨0, by omega, rfl, hide (fun j h => absurd h (by omega)), Below.refl _ _⟩
  case round =>
    obtain ⟨k, hk, rfl, HALL, hbr⟩ := hrel
    by_cases hlt : k < l.length
    · obtain ⟨b, off, cap', e1, hcap, -, g0, g1, g2, g3, g4⟩ := pr_at (RowAt.below HF.out hbr (Nat.le_refl _)) hlt
      simp only [Value.slice.injEq, true_and] at e1
      obtain ⟨rfl, rfl⟩ := e1
      have HST : Hid (∀ W : World, Below w.heap.size w W → Calls Tryz.prog 111 #[.agg #[.int .i64 (l.getD k pr0).i, .int .i64 (l.getD k pr0).s, .int .i64 (l.getD k pr0).m, .int .i64 (l.getD k pr0).p, .int .i64 (l.getD k pr0).c], .pointer (some ⟨b0, 0, none⟩)] W fun e w' => e = .returned (.bool (p (l.getD k pr0))) ∧ Below W.heap.size W w') := fun W hW => HT.out W _ hW
      have HNX : Hid (p (l.getD k pr0) = false → ∀ j, j < k + 1 → p (l.getD j pr0) = false) := fun h j hj => by
        by_cases e : j = k
        · subst e; exact h
        · exact HALL.out j (by omega)
      have HFD : Hid (p (l.getD k pr0) = true → idx p l = k) := fun h => idx_at pr0 hlt HALL.out h
      generalize p (l.getD k pr0) = R at *
      generalize (l.getD k pr0).i = y0 at *
      generalize (l.getD k pr0).s = y1 at *
      generalize (l.getD k pr0).m = y2 at *
      generalize (l.getD k pr0).p = y3 at *
      generalize (l.getD k pr0).c = y4 at *
      have q1 : (0 : Int) ≤ (k : Int) := by omega
      have q2 : (k : Int) < (l.length : Int) := by omega
      clear HALL
      go_wp2_with fail
      refine (unhide HST _ ?_).mono ?_
      · first | exact hbr | exact hbr.drew | exact ⟨hbr.os, hbr.tape, hbr.output, hbr.size, hbr.block⟩
      rintro e w1 ⟨rfl, hb1⟩
      have HB1 : Hid (Below w.heap.size w w1) := hbr.trans (hb1.mono hbr.size)
      clear hb1 hbr HST g0 g1 g2 g3 g4
      cases R
      · have HN := hide (HNX.out rfl)
        clear HNX HFD
        go_wp2_with fail
        go_roundw
        case rel => exact ⟨k + 1, by omega, by go_num, HN, HB1.out⟩
        case measure => simp [intOf]; omega
      · have HN := hide (HFD.out rfl)
        clear HNX HFD
        go_wp2_with fail
        go_ret
        exact ⟨int_ret HN.out.symm, HB1.out⟩
    · have HN : Hid (idx p l = -1) := idx_no pr0 fun i hi => HALL.out i (by omega)
      have HB1 := hide hbr
      clear HALL hbr
      go_wp2_with fail
      go_ret
      exact ⟨int_ret HN.out.symm, HB1.out⟩
end Go.Proofs.YtjcomoinggiedaaGreat

namespace Go.Proofs.YtjcomoinggiedaaGreat
open Go.RowKit
set_option linter.unusedVariables false
set_option maxRecDepth 100000

/-- An act. -/
structure Ax where
  k : Int
  si : Int
  st : Int
  sg : Int
  pi : Int
  ps : Int
  pm : Int
  pp : Int
  pc : Int
  rs : Int
  rp : Int
  rn : Bool
  rf : Int
  rb : Int
  rt : Int
  re : Int
  ro : Int
  rd : Bool
  n : Int
  m : Int
  f0 : Int
  f1 : Int
  f2 : Int
  f3 : Int
  f4 : Int
  f5 : Int
  f6 : Int
  body : ByteArray

def Ax.s (a : Ax) : Sw := ⟨a.si, a.st, a.sg⟩
def Ax.p (a : Ax) : Pr := ⟨a.pi, a.ps, a.pm, a.pp, a.pc⟩
def Ax.r (a : Ax) : Ac := ⟨a.rs, a.rp, a.rn, a.rf, a.rb, a.rt, a.re, a.ro, a.rd⟩
abbrev actV (a : Ax) : Value := .agg #[.int .i64 a.k, .int .i64 a.si, .int .i64 a.st, .int .i64 a.sg, .int .i64 a.pi, .int .i64 a.ps, .int .i64 a.pm, .int .i64 a.pp, .int .i64 a.pc, .int .i64 a.rs, .int .i64 a.rp, .bool a.rn, .int .i64 a.rf, .int .i64 a.rb, .int .i64 a.rt, .int .i64 a.re, .int .i64 a.ro, .bool a.rd, .int .i64 a.n, .int .i64 a.m, .int .i64 a.f0, .int .i64 a.f1, .int .i64 a.f2, .int .i64 a.f3, .int .i64 a.f4, .int .i64 a.f5, .int .i64 a.f6, .string a.body]

set_option maxHeartbeats 400000 in
theorem isAt_any (x : Pr) (id : Int) (b : Nat) (w : World) (h : w.cell? ⟨b, 0, none⟩ = some (.int .i64 id)) :
    Calls Tryz.prog 111 #[.agg #[.int .i64 x.i, .int .i64 x.s, .int .i64 x.m, .int .i64 x.p, .int .i64 x.c], .pointer (some ⟨b, 0, none⟩)] w fun e w' => e = .returned (.bool (x.i == id)) ∧ Below w.heap.size w w' := by
  have hlt := cell_in h
  have hne : b ≠ w.heap.size := by omega
  go_enter Tryz.func111, Tryz.ntmps111
  go_wp2
  all_goals go_ret
  all_goals exact ⟨bool_ret (by rw [Bool.eq_iff_iff] <;> simp), (Below.refl _ _).alloc (Nat.le_refl _) _⟩
theorem asksAt {w : World} {b : Nat} {id : Int} (h : w.cell? ⟨b, 0, none⟩ = some (.int .i64 id)) : AsksAt w b (fun x => x.i == id) := fun W x hW => isAt_any x id b W (cell_beh h hW (Nat.le_refl _))

/-- The place of the port with a number. -/
def pat (P : List Pr) (id : Int) : Int := idx (fun x => x.i == id) P

set_option maxHeartbeats 1000000 in
theorem portAt_any (sv pv av : Value) (S : List Sw) (P : List Pr) (A : List Ac) (id : Int) (w : World) (hC : CfAt w sv pv av S P A) (h2 : P.length * 40 ≤ 140737488355328) :
    Calls Tryz.prog 65 #[.agg #[sv, pv, av], .int .i64 id] w fun e w' => e = .returned (.int .i64 (pat P id)) ∧ Below w.heap.size w w' := by
  have HI : Hid (∀ (W : World) (b : Nat), Below w.heap.size w W → W.cell? ⟨b, 0, none⟩ = some (.int .i64 id) → Calls Tryz.prog 44 #[pv, .func (.func 111) #[] #[.pointer (some ⟨b, 0, none⟩)]] W fun e w' => e = .returned (.int .i64 (pat P id)) ∧ Below W.heap.size W w') :=
    fun W b hW a => idxAt_any P _ pv _ W (RowAt.below hC.2.1 hW (Nat.le_refl _)) (asksAt a) h2
  obtain ⟨s1, s2, rfl⟩ := hC.1.slice
  obtain ⟨p1, p2, rfl⟩ := hC.2.1.slice
  obtain ⟨a1, a2, rfl⟩ := hC.2.2.slice
  clear hC
  generalize pat P id = R at *
  go_enter Tryz.func65, Tryz.ntmps65
  go_wp2_with fail
  refine (unhide HI _ _ (((Below.refl _ _).alloc (Nat.le_refl _) _).alloc (by simp) _) (by first | exact new_cell _ _ (by simp) _ _ _ _ rfl | exact old_cell (new_cell w _ rfl _ _ _ _ rfl) _)).mono ?_
  rintro e w1 ⟨rfl, hb1⟩
  have hb : Below w.heap.size w w1 := (((Below.refl _ w).alloc (Nat.le_refl _) _).alloc (by simp) _).trans (hb1.mono (by simp; omega))
  clear hb1 HI
  go_wp2_with fail
  go_ret
  exact ⟨rfl, hb⟩

set_option maxHeartbeats 1000000 in
theorem checkThere_any (place many : Int) (w : World) (h0 : 0 ≤ many) (h1 : many ≤ 1000000000000000) :
    Calls Tryz.prog 64 #[.int .i64 place, .int .i64 many] w fun e w' => e = .returned (.int .i64 (if inB place 0 (many - 1) = true then 0 else 6)) ∧ w' = w := by
  have HW := hide (fun W => within_any place 0 (many - 1) W)
  have hw : IntKind.i64.wrap (many - 1) = many - 1 := by
    simp [IntKind.wrap, IntKind.bits, IntKind.signed]
    split <;> omega
  generalize inB place 0 (many - 1) = R at *
  go_enter Tryz.func64, Tryz.ntmps64
  go_wp2_with fail
  refine (unhide HW _).mono ?_
  rintro e w' ⟨rfl, rfl⟩
  cases R
  · go_wp2_with fail
    go_ret
    exact ⟨rfl, rfl⟩
  · go_wp2_with fail
    go_ret
    exact ⟨rfl, rfl⟩

set_option maxHeartbeats 1000000 in
theorem checkBind_any (sv pv av : Value) (S : List Sw) (P : List Pr) (A : List Ac) (id m : Int) (w : World) (hC : CfAt w sv pv av S P A) (h2 : P.length * 40 ≤ 140737488355328) :
    Calls Tryz.prog 66 #[.agg #[sv, pv, av], .int .i64 id, .int .i64 m] w fun e w' => e = .returned (.int .i64 (if inB (pat P id) 0 (P.length - 1) = true then (if inB m (-1) 5 = true then 0 else 2) else 6)) ∧ Below w.heap.size w w' := by
  have HI : Hid (∀ (W : World), Below w.heap.size w W → Calls Tryz.prog 65 #[.agg #[sv, pv, av], .int .i64 id] W fun e w' => e = .returned (.int .i64 (pat P id)) ∧ Below W.heap.size W w') := fun W hW => portAt_any sv pv av S P A id W (hC.below hW (Nat.le_refl _)) h2
  have HT := hide (fun W => checkThere_any (pat P id) (P.length : Int) W (by omega) (by omega))
  have HB := hide (fun W => isChassis_any m W)
  obtain ⟨s1, s2, rfl⟩ := hC.1.slice
  obtain ⟨p1, p2, rfl⟩ := hC.2.1.slice
  obtain ⟨a1, a2, rfl⟩ := hC.2.2.slice
  clear hC
  obtain ⟨E, hE⟩ : ∃ E : Int, E = if inB (pat P id) 0 ((P.length : Int) - 1) = true then 0 else 6 := ⟨_, rfl⟩
  rw [← hE] at HT
  have HE := hide hE
  clear hE
  generalize inB (pat P id) 0 ((P.length : Int) - 1) = R at *
  generalize pat P id = I at *
  generalize inB m (-1) 5 = Q at *
  have hb0 : Below w.heap.size w (w.alloc (.cells #[.slice s1 S.length s2, .slice p1 P.length p2, .slice a1 A.length a2] 29)) := (Below.refl _ _).alloc (Nat.le_refl _) _
  go_enter Tryz.func66, Tryz.ntmps66
  go_wp2_with fail
  obtain ⟨W0, hW0⟩ : ∃ W0, W0 = w.alloc (.cells #[.slice s1 S.length s2, .slice p1 P.length p2, .slice a1 A.length a2] 29) := ⟨_, rfl⟩
  have c0 : W0.cell? ⟨w.heap.size, 0, none⟩ = some (.slice s1 S.length s2) := by rw [hW0]; exact new_cell w _ rfl _ _ _ _ rfl
  have c1 : W0.cell? ⟨w.heap.size, 1, none⟩ = some (.slice p1 P.length p2) := by rw [hW0]; exact new_cell w _ rfl _ _ _ _ rfl
  have c2 : W0.cell? ⟨w.heap.size, 2, none⟩ = some (.slice a1 A.length a2) := by rw [hW0]; exact new_cell w _ rfl _ _ _ _ rfl
  rw [← hW0] at hb0 ⊢
  clear hW0
  go_region_held3 (fun w' => w'.cell? ⟨w.heap.size, 0, none⟩ = some (.slice s1 S.length s2) ∧ w'.cell? ⟨w.heap.size, 1, none⟩ = some (.slice p1 P.length p2) ∧ w'.cell? ⟨w.heap.size, 2, none⟩ = some (.slice a1 A.length a2)) (go_keep)
    (first | (go_at_call 65; refine (unhide HI _ hb0.drew).mono ?_; rintro e w1 ⟨rfl, hc1⟩; have g1 : Below W0.heap.size W0 w1 := ((Below.refl _ W0).drew).trans hc1; have hb : Below w.heap.size w w1 := hb0.trans (g1.mono hb0.size); have z0 := cell_beh c0 g1 (Nat.le_refl _); have z1 := cell_beh c1 g1 (Nat.le_refl _); have z2 := cell_beh c2 g1 (Nat.le_refl _)) | (go_at_call 64; refine (unhide HT _).mono ?_; rintro e w2 ⟨rfl, rfl⟩))
  clear c0 c1 c2 z0 z1 z2 g1 hc1 hb0 HI HT
  cases R
  · obtain rfl : E = 6 := HE.out
    go_wp2_with fail
    go_ret
    exact ⟨rfl, hb⟩
  · obtain rfl : E = 0 := HE.out
    go_wp2_with fail
    refine (unhide HB _).mono ?_
    rintro e w2 ⟨rfl, rfl⟩
    cases Q
    · go_wp2_with fail
      go_ret
      exact ⟨rfl, hb⟩
    · go_wp2_with fail
      go_ret
      exact ⟨rfl, hb⟩

/-- P3.5: what is wrong with an act, where what is wanted may be. -/
def actFault (S : List Sw) (P : List Pr) (A : List Ac) (a : Ax) : Int :=
  if a.k = 1 then swFault S P a.s else if a.k = 2 then prFault S P a.p else if a.k = 3 then acFault S A a.r else if a.k = 4 then (if inB (pat P a.n) 0 (P.length - 1) = true then 0 else 6) else
  if a.k = 6 then (if inB (pat P a.n) 0 (P.length - 1) = true then (if inB a.m (-1) 5 = true then 0 else 2) else 6) else if a.k = 5 then (if inB a.n 0 (A.length - 1) = true then 0 else 6) else 3

set_option maxHeartbeats 8000000 in
theorem checkAct_any (sv pv av : Value) (S : List Sw) (P : List Pr) (A : List Ac) (a : Ax) (w : World) (hC : CfAt w sv pv av S P A) (h1 : S.length * 24 ≤ 140737488355328) (h2 : P.length * 40 ≤ 140737488355328) (h3 : A.length * 72 ≤ 140737488355328) :
    Calls Tryz.prog 40 #[.agg #[sv, pv, av], actV a] w fun e w' => e = .returned (.int .i64 (actFault S P A a)) ∧ Below w.heap.size w w' := by
  have H1 := hide (fun W (hW : Below w.heap.size w W) => checkSwitch_any sv pv av S P A a.s W (hC.below hW (Nat.le_refl _)) h1 h2)
  have H2 := hide (fun W (hW : Below w.heap.size w W) => checkPort_any sv pv av S P A a.p W (hC.below hW (Nat.le_refl _)) h1 h2)
  have H3 := hide (fun W (hW : Below w.heap.size w W) => checkAcl_any sv pv av S P A a.r W (hC.below hW (Nat.le_refl _)) h1)
  have H4 := hide (fun W (hW : Below w.heap.size w W) => portAt_any sv pv av S P A a.n W (hC.below hW (Nat.le_refl _)) h2)
  have H5 := hide (fun W => checkThere_any (pat P a.n) (P.length : Int) W (by omega) (by omega))
  have H6 := hide (fun W (hW : Below w.heap.size w W) => checkBind_any sv pv av S P A a.n a.m W (hC.below hW (Nat.le_refl _)) h2)
  have H7 := hide (fun W => checkThere_any a.n (A.length : Int) W (by omega) (by omega))
  obtain ⟨s1, s2, rfl⟩ := hC.1.slice
  obtain ⟨p1, p2, rfl⟩ := hC.2.1.slice
  obtain ⟨a1, a2, rfl⟩ := hC.2.2.slice
  clear hC
  obtain ⟨k, si, st, sg, pi, ps, pm, pp, pc, rs, rp, rn, rf, rb, rt, re, ro, rd, n, m, f0, f1, f2, f3, f4, f5, f6, body⟩ := a
  have hcase : k = 1 ∨ k = 2 ∨ k = 3 ∨ k = 4 ∨ k = 5 ∨ k = 6 ∨ (¬ k = 1 ∧ ¬ k = 2 ∧ ¬ k = 3 ∧ ¬ k = 4 ∧ ¬ k = 5 ∧ ¬ k = 6) := by omega
  have HR : Hid (actFault S P A ⟨k, si, st, sg, pi, ps, pm, pp, pc, rs, rp, rn, rf, rb, rt, re, ro, rd, n, m, f0, f1, f2, f3, f4, f5, f6, body⟩ = if k = 1 then swFault S P ⟨si, st, sg⟩ else if k = 2 then prFault S P ⟨pi, ps, pm, pp, pc⟩ else if k = 3 then acFault S A ⟨rs, rp, rn, rf, rb, rt, re, ro, rd⟩ else if k = 4 then (if inB (pat P n) 0 (P.length - 1) = true then 0 else 6) else
    if k = 6 then (if inB (pat P n) 0 (P.length - 1) = true then (if inB m (-1) 5 = true then 0 else 2) else 6) else if k = 5 then (if inB n 0 (A.length - 1) = true then 0 else 6) else 3) := rfl
  generalize actFault S P A ⟨k, si, st, sg, pi, ps, pm, pp, pc, rs, rp, rn, rf, rb, rt, re, ro, rd, n, m, f0, f1, f2, f3, f4, f5, f6, body⟩ = R at *
  simp only [Ax.s, Ax.p, Ax.r] at H1 H2 H3 H4 H5 H6 H7 ⊢
  generalize swFault S P ⟨si, st, sg⟩ = E1 at *
  generalize prFault S P ⟨pi, ps, pm, pp, pc⟩ = E2 at *
  generalize acFault S A ⟨rs, rp, rn, rf, rb, rt, re, ro, rd⟩ = E3 at *
  generalize (if inB (pat P n) 0 ((P.length : Int) - 1) = true then (if inB m (-1) 5 = true then (0 : Int) else 2) else 6) = E6 at *
  generalize (if inB (pat P n) 0 ((P.length : Int) - 1) = true then (0 : Int) else 6) = E4 at *
  generalize (if inB n 0 ((A.length : Int) - 1) = true then (0 : Int) else 6) = E5 at *
  generalize pat P n = I at *
  have hb0 : Below w.heap.size w ((w.alloc (.cells #[.slice s1 S.length s2, .slice p1 P.length p2, .slice a1 A.length a2] 29)).alloc (.cells #[.int .i64 k, .int .i64 si, .int .i64 st, .int .i64 sg, .int .i64 pi, .int .i64 ps, .int .i64 pm, .int .i64 pp, .int .i64 pc, .int .i64 rs, .int .i64 rp, .bool rn, .int .i64 rf, .int .i64 rb, .int .i64 rt, .int .i64 re, .int .i64 ro, .bool rd, .int .i64 n, .int .i64 m, .int .i64 f0, .int .i64 f1, .int .i64 f2, .int .i64 f3, .int .i64 f4, .int .i64 f5, .int .i64 f6, .string body] 54)) := ((Below.refl _ _).alloc (Nat.le_refl _) _).alloc (by simp) _
  go_enter Tryz.func40, Tryz.ntmps40
  rcases hcase with rfl | rfl | rfl | rfl | rfl | rfl | ⟨k1, k2, k3, k4, k5, k6⟩
  · go_wp2_with fail
    refine (unhide H1 _ hb0).mono ?_
    rintro e w1 ⟨rfl, hb1⟩
    have hb := hb0.trans (hb1.mono hb0.size)
    clear hb0 hb1 H1 H2 H3 H4 H5 H6 H7
    go_wp2_with fail
    go_ret
    exact ⟨int_ret (by rw [HR.out]; simp), hb⟩
  · go_wp2_with fail
    refine (unhide H2 _ hb0).mono ?_
    rintro e w1 ⟨rfl, hb1⟩
    have hb := hb0.trans (hb1.mono hb0.size)
    clear hb0 hb1 H1 H2 H3 H4 H5 H6 H7
    go_wp2_with fail
    go_ret
    exact ⟨int_ret (by rw [HR.out]; simp), hb⟩
  · go_wp2_with fail
    refine (unhide H3 _ hb0).mono ?_
    rintro e w1 ⟨rfl, hb1⟩
    have hb := hb0.trans (hb1.mono hb0.size)
    clear hb0 hb1 H1 H2 H3 H4 H5 H6 H7
    go_wp2_with fail
    go_ret
    exact ⟨int_ret (by rw [HR.out]; simp), hb⟩
  · go_wp2_with fail
    obtain ⟨W0, hW0⟩ : ∃ W0, W0 = (w.alloc (.cells #[.slice s1 S.length s2, .slice p1 P.length p2, .slice a1 A.length a2] 29)).alloc (.cells #[.int .i64 4, .int .i64 si, .int .i64 st, .int .i64 sg, .int .i64 pi, .int .i64 ps, .int .i64 pm, .int .i64 pp, .int .i64 pc, .int .i64 rs, .int .i64 rp, .bool rn, .int .i64 rf, .int .i64 rb, .int .i64 rt, .int .i64 re, .int .i64 ro, .bool rd, .int .i64 n, .int .i64 m, .int .i64 f0, .int .i64 f1, .int .i64 f2, .int .i64 f3, .int .i64 f4, .int .i64 f5, .int .i64 f6, .string body] 54) := ⟨_, rfl⟩
    have c0 : W0.cell? ⟨w.heap.size, 0, none⟩ = some (.slice s1 S.length s2) := by rw [hW0]; exact old_cell (new_cell w _ rfl _ _ _ _ rfl) _
    have c1 : W0.cell? ⟨w.heap.size, 1, none⟩ = some (.slice p1 P.length p2) := by rw [hW0]; exact old_cell (new_cell w _ rfl _ _ _ _ rfl) _
    have c2 : W0.cell? ⟨w.heap.size, 2, none⟩ = some (.slice a1 A.length a2) := by rw [hW0]; exact old_cell (new_cell w _ rfl _ _ _ _ rfl) _
    have c3 : W0.cell? ⟨w.heap.size + 1, 18, none⟩ = some (.int .i64 n) := by rw [hW0]; exact new_cell _ _ (by simp) _ _ _ _ rfl
    rw [← hW0] at hb0 ⊢
    clear hW0 H1 H2 H3 H6 H7
    go_region_held3 (fun w' => w'.cell? ⟨w.heap.size, 0, none⟩ = some (.slice s1 S.length s2) ∧ w'.cell? ⟨w.heap.size, 1, none⟩ = some (.slice p1 P.length p2) ∧ w'.cell? ⟨w.heap.size, 2, none⟩ = some (.slice a1 A.length a2) ∧ w'.cell? ⟨w.heap.size + 1, 18, none⟩ = some (.int .i64 n)) (go_keep)
      (first | (go_at_call 65; refine (unhide H4 _ hb0.drew).mono ?_; rintro e w1 ⟨rfl, hc1⟩; have g1 : Below W0.heap.size W0 w1 := ((Below.refl _ W0).drew).trans hc1; have hb : Below w.heap.size w w1 := hb0.trans (g1.mono hb0.size); have z0 := cell_beh c0 g1 (Nat.le_refl _); have z1 := cell_beh c1 g1 (Nat.le_refl _); have z2 := cell_beh c2 g1 (Nat.le_refl _); have z3 := cell_beh c3 g1 (Nat.le_refl _)) | (go_at_call 64; refine (unhide H5 _).mono ?_; rintro e w2 ⟨rfl, rfl⟩))
    clear c0 c1 c2 c3 z0 z1 z2 z3 g1 hc1 hb0 H4 H5
    go_wp2_with fail
    go_ret
    exact ⟨int_ret (by rw [HR.out]; simp), hb⟩
  · clear H1 H2 H3 H4 H5 H6
    go_wp2_with fail
    refine (unhide H7 _).mono ?_
    rintro e w2 ⟨rfl, rfl⟩
    go_wp2_with fail
    go_ret
    exact ⟨int_ret (by rw [HR.out]; simp), hb0⟩
  · go_wp2_with fail
    refine (unhide H6 _ hb0).mono ?_
    rintro e w1 ⟨rfl, hb1⟩
    have hb := hb0.trans (hb1.mono hb0.size)
    clear hb0 hb1 H1 H2 H3 H4 H5 H6 H7
    go_wp2_with fail
    go_ret
    exact ⟨int_ret (by rw [HR.out]; simp), hb⟩
  · clear H1 H2 H3 H4 H5 H6 H7
    go_wp2_with fail
    go_ret
    exact ⟨int_ret (by rw [HR.out]; simp_all), hb0⟩

end Go.Proofs.YtjcomoinggiedaaGreat

namespace Go.Proofs.YtjcomoinggiedaaGreat
open Go.RowKit
set_option linter.unusedVariables false
set_option maxRecDepth 100000

theorem heap_set_c {w : World} {g j : Nat} {v : Value} {cur : Array Value} {e : TypeId} (h : w.heap[g]? = some (.cells cur e (0, 0))) : (w.setCell ⟨g, j, none⟩ v).heap[g]? = some (.cells (cur.setIfInBounds j v) e (0, 0)) := by
  rw [Go.Sort.setCell_eq]
  unfold Go.Sort.mapBlock
  simp only [Array.getElem?_modify, if_true]
  rw [h]
  rfl
theorem own_set_c {w : World} {B e size n cap g : Nat} {xs : List Value} (h : w.ownsRow B e size (.slice (some ⟨g, 0, none⟩) n cap) n xs) (j : Nat) (v : Value) : (w.setCell ⟨g, j, none⟩ v).ownsRow B e size (.slice (some ⟨g, 0, none⟩) n cap) n (xs.set j v) := by
  obtain ⟨hlen, ⟨h, _⟩ | ⟨g', cap', cur, hv, hB, hheap, hnc, hcm, hcs, htk⟩⟩ := h
  · simp at h
  simp only [Value.slice.injEq, Option.some.injEq, Addr.mk.injEq] at hv
  obtain ⟨⟨rfl, _⟩, _, rfl⟩ := hv
  refine ⟨by simpa using hlen, .inr ⟨g, cap, _, rfl, hB, heap_set_c hheap, hnc, hcm, by simpa using hcs, ?_⟩⟩
  rw [← htk, Array.toList_setIfInBounds]
  refine List.ext_getElem? fun i => ?_
  simp only [List.getElem?_take, List.getElem?_set, List.length_take]
  by_cases hi : i < n * size
  · simp only [hi, if_true]
    by_cases hji : j = i
    · subst hji
      simp only [if_true]
      have : (j < min (n * size) cur.toList.length) ↔ j < cur.toList.length := by omega
      simp only [this]
    · simp [hji]
  · simp only [hi, if_false]
    by_cases hji : j = i
    · subst hji
      simp
      omega
    · simp [hji]
theorem set_far_c {xs : List Value} {j : Nat} {v : Value} (h : xs.length ≤ j) : xs.set j v = xs := List.set_eq_of_length_le h
theorem own_prefix_c {w : World} {B e size n m cap g : Nat} {xs : List Value} (h : w.ownsRow B e size (.slice (some ⟨g, 0, none⟩) n cap) n xs) (hm : m ≤ n) : w.ownsRow B e size (.slice (some ⟨g, 0, none⟩) m cap) m (xs.take (m * size)) := by
  obtain ⟨hlen, ⟨h, _⟩ | ⟨g', cap', cur, hv, hB, hheap, hnc, hcm, hcs, htk⟩⟩ := h
  · simp at h
  simp only [Value.slice.injEq, Option.some.injEq, Addr.mk.injEq] at hv
  obtain ⟨⟨rfl, _⟩, _, rfl⟩ := hv
  have hmn : m * size ≤ n * size := Nat.mul_le_mul_right _ hm
  refine ⟨by rw [List.length_take, hlen]; omega, .inr ⟨g, cap, cur, rfl, hB, hheap, by omega, hcm, hcs, ?_⟩⟩
  rw [← htk, List.take_take, Nat.min_eq_left hmn]
theorem grown_set_c {w w' : World} {g j : Nat} {v : Value} (h : w.grownBy w' (some g)) : w.grownBy (w'.setCell ⟨g, j, none⟩ v) (some g) :=
  ⟨h.os, h.tape, h.output, by simpa using h.size, fun k hk hne => (Below.heap_setCell w' _ _ k (fun e => hne (by rw [e]))).trans (h.block k hk hne)⟩
theorem grown_refl_c (w : World) (row : Option Nat) : w.grownBy w row := ⟨rfl, rfl, rfl, Nat.le_refl _, fun _ _ _ => rfl⟩
theorem grown_trans_c {a b c : World} {g : Nat} (h : a.grownBy b (some g)) (k : b.grownBy c (some g)) : a.grownBy c (some g) :=
  ⟨k.os.trans h.os, k.tape.trans h.tape, k.output.trans h.output, Nat.le_trans h.size k.size, fun i hi hne => (k.block i (Nat.lt_of_lt_of_le hi h.size) hne).trans (h.block i hi hne)⟩
theorem own_setCells_c {B e size n cap g : Nat} {xs : List Value} : ∀ (vs : List Value) (o : Nat) (w : World), w.ownsRow B e size (.slice (some ⟨g, 0, none⟩) n cap) n xs → n * size ≤ o → (w.setCells g o vs).ownsRow B e size (.slice (some ⟨g, 0, none⟩) n cap) n xs
  | [], _, _, h, _ => h
  | v :: r, o, w, h, ho => by
    have h1 := own_set_c h o v
    rw [set_far_c (by rw [h.1]; exact ho)] at h1
    exact own_setCells_c r (o + 1) _ h1 (by omega)
theorem grown_setCells_c {g : Nat} {w : World} : ∀ (vs : List Value) (o : Nat) (w' : World), w.grownBy w' (some g) → w.grownBy (w'.setCells g o vs) (some g)
  | [], _, _, h => h
  | v :: r, o, w', h => grown_setCells_c r (o + 1) _ (grown_set_c h)

/-- A list of which some places are written. -/
def ovr : List Value → Nat → List Value → List Value
  | xs, _, [] => xs
  | xs, o, v :: r => ovr (xs.set o v) (o + 1) r
theorem own_ovr {B e size n cap g : Nat} : ∀ (vs : List Value) (xs : List Value) (o : Nat) (w : World), w.ownsRow B e size (.slice (some ⟨g, 0, none⟩) n cap) n xs → (w.setCells g o vs).ownsRow B e size (.slice (some ⟨g, 0, none⟩) n cap) n (ovr xs o vs)
  | [], _, _, _, h => h
  | v :: r, xs, o, w, h => own_ovr r (xs.set o v) (o + 1) _ (own_set_c h o v)
theorem ovr_is : ∀ (vs : List Value) (xs : List Value) (o : Nat), o + vs.length ≤ xs.length → ovr xs o vs = xs.take o ++ vs ++ xs.drop (o + vs.length)
  | [], xs, o, _ => by simp [ovr]
  | v :: r, xs, o, h => by
    simp only [List.length_cons] at h
    simp only [ovr]
    rw [ovr_is r (xs.set o v) (o + 1) (by simp; omega)]
    have h1 : (xs.set o v).take (o + 1) = xs.take o ++ [v] := by
      rw [List.take_succ_eq_append_getElem (by simp; omega), List.take_set_of_le (Nat.le_refl _)]
      simp
    have h2 : (xs.set o v).drop (o + 1 + r.length) = xs.drop (o + (v :: r).length) := by
      rw [List.drop_set_of_lt (by omega)]
      simp only [List.length_cons]
      congr 1
      omega
    rw [h1, h2]
    simp
theorem flat_take {α : Type} {C : α → List Value} {sz : Nat} (hC : ∀ x, (C x).length = sz) : ∀ (l : List α) (k : Nat), (l.flatMap C).take (k * sz) = (l.take k).flatMap C
  | [], k => by simp
  | x :: r, 0 => by simp
  | x :: r, k + 1 => by
    have ih := flat_take hC r k
    rw [List.flatMap_cons, List.take_succ_cons, List.flatMap_cons, ← ih, List.take_append, hC]
    have e : (k + 1) * sz - sz = k * sz := by rw [Nat.add_mul]; omega
    rw [e, List.take_of_length_le (by rw [hC, Nat.add_mul]; omega)]
theorem flat_drop {α : Type} {C : α → List Value} {sz : Nat} (hC : ∀ x, (C x).length = sz) : ∀ (l : List α) (k : Nat), (l.flatMap C).drop (k * sz) = (l.drop k).flatMap C
  | [], k => by simp
  | x :: r, 0 => by simp
  | x :: r, k + 1 => by
    have ih := flat_drop hC r k
    rw [List.flatMap_cons, List.drop_succ_cons, ← ih, List.drop_append, hC]
    have e : (k + 1) * sz - sz = k * sz := by rw [Nat.add_mul]; omega
    rw [e, List.drop_of_length_le (by rw [hC, Nat.add_mul]; omega)]
    simp
/-- What a row holds when an element went. -/
theorem gone_row {α : Type} {C : α → List Value} {sz : Nat} (hC : ∀ x, (C x).length = sz) (l : List α) (k : Nat) (hk : k < l.length) : (ovr (l.flatMap C) (k * sz) ((l.drop (k + 1)).flatMap C)).take ((l.length - 1) * sz) = (l.eraseIdx k).flatMap C := by
  have hl := flat_len hC l
  have hd := flat_len hC (l.drop (k + 1))
  rw [List.length_drop] at hd
  have hle : k * sz + (l.length - (k + 1)) * sz = (l.length - 1) * sz := by rw [← Nat.add_mul]; congr 1; omega
  have hle2 : (l.length - 1) * sz ≤ l.length * sz := Nat.mul_le_mul_right _ (by omega)
  rw [ovr_is _ _ _ (by rw [hl, hd]; omega), flat_take hC, List.take_append_of_le_length]
  · rw [List.take_of_length_le]
    · rw [List.eraseIdx_eq_take_drop_succ, List.flatMap_append]
    · rw [List.length_append, flat_len hC, hd, List.length_take]
      have : min k l.length = k := by omega
      rw [this]; omega
  · rw [List.length_append, flat_len hC, hd, List.length_take]
    have : min k l.length = k := by omega
    rw [this]; omega

theorem clearPr (w : World) (b o c : Nat) (hc : ∀ j, j < 5 → (w.cell? ⟨b, o + j, none⟩).isSome = true) (hf : ∀ j, j < 5 → w.frozen? ⟨b, o + j, none⟩ = false) :
    ∃ vs, ∀ ty, (Builtin.clear_ #[26] ty #[.slice (some ⟨b, o, none⟩) 1 c]).run Tryz.prog w = .ok (.tuple #[]) (w.setCells b o vs) := by
  have hv : ∀ w, (zeroValue 45).run Tryz.prog w = .ok (.agg #[.int .i64 0, .int .i64 0, .int .i64 0, .int .i64 0, .int .i64 0]) w := fun w => by kernel_rfl
  refine ⟨(Builtin.zeroCells #[.int .i64 0, .int .i64 0, .int .i64 0, .int .i64 0, .int .i64 0] 1).toList, fun ty => ?_⟩
  have hlen : (Builtin.zeroCells #[Value.int .i64 0, .int .i64 0, .int .i64 0, .int .i64 0, .int .i64 0] 1).toList.length = 5 := by simp [Builtin.zeroCells]
  have hone : ∀ v ∈ (Builtin.zeroCells #[Value.int .i64 0, .int .i64 0, .int .i64 0, .int .i64 0, .int .i64 0] 1).toList, v.oneCell' = true := all_one (by kernel_rfl)
  have hst := run_storeCells_cells (P := Tryz.prog) b o (Builtin.zeroCells #[.int .i64 0, .int .i64 0, .int .i64 0, .int .i64 0, .int .i64 0] 1).toList 0 w (by rw [hlen]; simpa using hc) (by rw [hlen]; simpa using hf) hone
  simp only [Nat.add_zero] at hst
  simp [Builtin.clear_, run_underlying Tryz.underlying26, hv, hst, Value.cells]

set_option maxHeartbeats 4000000 in
theorem deletePr_any (l : List Pr) (B g cap k : Nat) (w : World) (hown : w.ownsRow B 45 5 (.slice (some ⟨g, 0, none⟩) l.length cap) l.length (l.flatMap prC)) (hk : k < l.length) (hl : l.length ≤ 1000) :
    Calls Tryz.prog 67 #[.slice (some ⟨g, 0, none⟩) l.length cap, .int .i64 k, .int .i64 (k + 1)] w fun e w' => e = .returned (.slice (some ⟨g, 0, none⟩) (l.length - 1) cap) ∧
      w'.ownsRow B 45 5 (.slice (some ⟨g, 0, none⟩) (l.length - 1) cap) (l.length - 1) ((l.eraseIdx k).flatMap prC) ∧ w.grownBy w' (some g) := by
  obtain ⟨i0, hi, hz0, hz1, hz2⟩ := info_parts infoPr
  have HO := hide hown
  have hcap : l.length ≤ cap ∧ cap ≤ maxLen := by
    obtain ⟨_, ⟨h, _⟩ | ⟨g', cap', cur, hv, _, _, hnc, hm, _⟩⟩ := hown
    · simp at h
    · simp only [Value.slice.injEq] at hv
      obtain ⟨_, _, rfl⟩ := hv
      exact ⟨hnc, hm⟩
  obtain ⟨hcap, hcm⟩ := hcap
  unfold maxLen at hcm
  have hcells : ∀ j, j < l.length * 5 → w.cell? ⟨g, j, none⟩ = (l.flatMap prC)[j]? := fun j hj => hown.cellAt j hj
  have hfz : ∀ j, w.frozen? ⟨g, j, none⟩ = false := fun j => hown.frozenAt j
  clear hown
  obtain ⟨news, hnews⟩ : ∃ news, news = (l.drop (k + 1)).flatMap prC := ⟨_, rfl⟩
  have hlen : news.length = (l.length - (k + 1)) * 5 := by rw [hnews, flat_len prC_len, List.length_drop]
  have hfl := flat_len prC_len l
  have hget : ∀ t u, news[t]? = some u → w.cell? ⟨g, (k + 1) * 5 + t, none⟩ = some u := fun t u hu => by
    have ht : t < news.length := (List.getElem?_eq_some_iff.1 hu).1
    rw [hcells _ (by rw [hlen] at ht; omega)]
    rw [hnews, ← flat_drop prC_len, List.getElem?_drop] at hu
    exact hu
  have s1 : Hid (news.length = (l.length - (k + 1)) * 5) := hlen
  have s2 : Hid (∀ u ∈ news, u.oneCell' = true) := by rw [hnews]; exact prC_one _
  have s3 : Hid (∀ t, t < news.length → (w.drew.cell? ⟨g, 0 + k * 5 + t, none⟩).isSome = true ∧ w.drew.frozen? ⟨g, 0 + k * 5 + t, none⟩ = false) := by
    intro t ht
    refine ⟨?_, hfz _⟩
    show (w.cell? _).isSome = true
    have hjl : 0 + k * 5 + t < l.length * 5 := by rw [hlen] at ht; omega
    rw [hcells _ hjl, List.getElem?_eq_getElem (by rw [hfl]; exact hjl)]
    rfl
  obtain ⟨A, hA, hsrc⟩ : ∃ A : Addr, (if cap = k + 1 then some (⟨g, 0, none⟩ : Addr) else some ⟨g, (k + 1) * 5, none⟩) = some A ∧ Hid (∀ t u, news[t]? = some u → w.drew.cell? (A.add t) = some u) := by
    by_cases h : cap = k + 1
    · refine ⟨⟨g, 0, none⟩, by simp [h], fun t u hu => ?_⟩
      have h0 : news.length = 0 := by rw [hlen]; have : l.length - (k + 1) = 0 := by omega
                                      rw [this, Nat.zero_mul]
      rw [List.length_eq_zero_iff.1 h0] at hu
      simp at hu
    · refine ⟨⟨g, (k + 1) * 5, none⟩, by simp [h], fun t u hu => ?_⟩
      rw [add_fl]
      exact hget t u hu
  obtain ⟨W1, hW1⟩ : ∃ W1, W1 = w.drew.setCells g (0 + k * 5) news := ⟨_, rfl⟩
  have HW : Hid (W1 = w.drew.setCells g (0 + k * 5) news) := hW1
  have HO1 : Hid (W1.ownsRow B 45 5 (.slice (some ⟨g, 0, none⟩) l.length cap) l.length (ovr (l.flatMap prC) (k * 5) news)) := by
    show World.ownsRow _ _ _ _ _ _ _
    rw [hW1, Nat.zero_add]
    exact own_ovr news _ _ _ HO.out.drew
  have HG1 : Hid (w.grownBy W1 (some g)) := by
    show World.grownBy _ _ _
    rw [hW1]
    exact grown_setCells_c news _ _ ⟨rfl, rfl, rfl, Nat.le_refl _, fun _ _ _ => rfl⟩
  obtain ⟨vs, hclr⟩ := clearPr W1 g ((l.length - 1) * 5) (cap - (l.length - 1)) (fun j hj => by
    have := HO1.out.cellAt ((l.length - 1) * 5 + j) (by omega)
    rw [this, List.getElem?_eq_getElem (by rw [HO1.out.1]; omega)]
    rfl) (fun j hj => HO1.out.frozenAt _)
  have HP1 : Hid (W1.ownsRow B 45 5 (.slice (some ⟨g, 0, none⟩) (l.length - 1) cap) (l.length - 1) ((l.eraseIdx k).flatMap prC)) := by
    show World.ownsRow _ _ _ _ _ _ _
    rw [← gone_row prC_len l k hk, ← hnews]
    exact own_prefix_c HO1.out (by omega)
  have HP2 := hide (own_setCells_c vs ((l.length - 1) * 5) W1 HP1.out (Nat.le_refl _))
  have HG2 := hide (grown_setCells_c vs ((l.length - 1) * 5) W1 HG1.out)
  clear hW1 hcells hfz hget hlen hfl hnews HO1 HP1 HG1 HO
  have hic : k ≤ cap := by omega
  have hjc : k + 1 ≤ cap := by omega
  have hq1 : (0 : Int) ≤ (k : Int) + 1 := by omega
  have hq2 : (k : Int) + 1 ≤ (l.length : Int) := by omega
  have hq3 : k + (l.length - (k + 1)) = l.length - 1 := by omega
  have hq4 : l.length - (l.length - 1) = 1 := by omega
  go_enter Tryz.func67, Tryz.ntmps67
  go_wp2_with fail
  go_region_law (refine step_append_room rfl (.tmp 22) (.tmp 25) 26 rfl 45 i0 5 Tryz.underlying26 hi hz1 g 0 k cap (by simp [Act.eval, Act.put]) A (l.length - (k + 1)) (cap - (k + 1)) news (by simp [Act.eval, Act.put]) s1.out hsrc.out s2.out (by omega) s3.out ?_; rw [← HW.out])
  have hr1 : ((l.length - 1 : Nat) : Int) ≤ (l.length : Int) := by omega
  have hr2 : (l.length : Int) ≤ (cap : Int) := by omega
  have hr3 : ¬ cap = l.length - 1 := by omega
  have hr4 : (0 : Int) ≤ ((l.length - 1 : Nat) : Int) := by omega
  generalize hq : l.length - 1 = q at *
  clear s1 s2 s3 hsrc hA HW
  go_wp2_with (simp only [hclr])
  go_ret
  subst hq
  exact ⟨rfl, HP2.out, HG2.out⟩

theorem clearAc (w : World) (b o c : Nat) (hc : ∀ j, j < 9 → (w.cell? ⟨b, o + j, none⟩).isSome = true) (hf : ∀ j, j < 9 → w.frozen? ⟨b, o + j, none⟩ = false) :
    ∃ vs, ∀ ty, (Builtin.clear_ #[27] ty #[.slice (some ⟨b, o, none⟩) 1 c]).run Tryz.prog w = .ok (.tuple #[]) (w.setCells b o vs) := by
  have hv : ∀ w, (zeroValue 52).run Tryz.prog w = .ok (.agg #[.int .i64 0, .int .i64 0, .bool false, .int .i64 0, .int .i64 0, .int .i64 0, .int .i64 0, .int .i64 0, .bool false]) w := fun w => by kernel_rfl
  refine ⟨(Builtin.zeroCells #[.int .i64 0, .int .i64 0, .bool false, .int .i64 0, .int .i64 0, .int .i64 0, .int .i64 0, .int .i64 0, .bool false] 1).toList, fun ty => ?_⟩
  have hlen : (Builtin.zeroCells #[Value.int .i64 0, .int .i64 0, .bool false, .int .i64 0, .int .i64 0, .int .i64 0, .int .i64 0, .int .i64 0, .bool false] 1).toList.length = 9 := by simp [Builtin.zeroCells]
  have hone : ∀ v ∈ (Builtin.zeroCells #[Value.int .i64 0, .int .i64 0, .bool false, .int .i64 0, .int .i64 0, .int .i64 0, .int .i64 0, .int .i64 0, .bool false] 1).toList, v.oneCell' = true := all_one (by kernel_rfl)
  have hst := run_storeCells_cells (P := Tryz.prog) b o (Builtin.zeroCells #[.int .i64 0, .int .i64 0, .bool false, .int .i64 0, .int .i64 0, .int .i64 0, .int .i64 0, .int .i64 0, .bool false] 1).toList 0 w (by rw [hlen]; simpa using hc) (by rw [hlen]; simpa using hf) hone
  simp only [Nat.add_zero] at hst
  simp [Builtin.clear_, run_underlying Tryz.underlying27, hv, hst, Value.cells]

set_option maxHeartbeats 4000000 in
theorem deleteAc_any (l : List Ac) (B g cap k : Nat) (w : World) (hown : w.ownsRow B 52 9 (.slice (some ⟨g, 0, none⟩) l.length cap) l.length (l.flatMap acC)) (hk : k < l.length) (hl : l.length ≤ 1000) :
    Calls Tryz.prog 68 #[.slice (some ⟨g, 0, none⟩) l.length cap, .int .i64 k, .int .i64 (k + 1)] w fun e w' => e = .returned (.slice (some ⟨g, 0, none⟩) (l.length - 1) cap) ∧
      w'.ownsRow B 52 9 (.slice (some ⟨g, 0, none⟩) (l.length - 1) cap) (l.length - 1) ((l.eraseIdx k).flatMap acC) ∧ w.grownBy w' (some g) := by
  obtain ⟨i0, hi, hz0, hz1, hz2⟩ := info_parts infoAc
  have HO := hide hown
  have hcap : l.length ≤ cap ∧ cap ≤ maxLen := by
    obtain ⟨_, ⟨h, _⟩ | ⟨g', cap', cur, hv, _, _, hnc, hm, _⟩⟩ := hown
    · simp at h
    · simp only [Value.slice.injEq] at hv
      obtain ⟨_, _, rfl⟩ := hv
      exact ⟨hnc, hm⟩
  obtain ⟨hcap, hcm⟩ := hcap
  unfold maxLen at hcm
  have hcells : ∀ j, j < l.length * 9 → w.cell? ⟨g, j, none⟩ = (l.flatMap acC)[j]? := fun j hj => hown.cellAt j hj
  have hfz : ∀ j, w.frozen? ⟨g, j, none⟩ = false := fun j => hown.frozenAt j
  clear hown
  obtain ⟨news, hnews⟩ : ∃ news, news = (l.drop (k + 1)).flatMap acC := ⟨_, rfl⟩
  have hlen : news.length = (l.length - (k + 1)) * 9 := by rw [hnews, flat_len acC_len, List.length_drop]
  have hfl := flat_len acC_len l
  have hget : ∀ t u, news[t]? = some u → w.cell? ⟨g, (k + 1) * 9 + t, none⟩ = some u := fun t u hu => by
    have ht : t < news.length := (List.getElem?_eq_some_iff.1 hu).1
    rw [hcells _ (by rw [hlen] at ht; omega)]
    rw [hnews, ← flat_drop acC_len, List.getElem?_drop] at hu
    exact hu
  have s1 : Hid (news.length = (l.length - (k + 1)) * 9) := hlen
  have s2 : Hid (∀ u ∈ news, u.oneCell' = true) := by rw [hnews]; exact acC_one _
  have s3 : Hid (∀ t, t < news.length → (w.drew.cell? ⟨g, 0 + k * 9 + t, none⟩).isSome = true ∧ w.drew.frozen? ⟨g, 0 + k * 9 + t, none⟩ = false) := by
    intro t ht
    refine ⟨?_, hfz _⟩
    show (w.cell? _).isSome = true
    have hjl : 0 + k * 9 + t < l.length * 9 := by rw [hlen] at ht; omega
    rw [hcells _ hjl, List.getElem?_eq_getElem (by rw [hfl]; exact hjl)]
    rfl
  obtain ⟨A, hA, hsrc⟩ : ∃ A : Addr, (if cap = k + 1 then some (⟨g, 0, none⟩ : Addr) else some ⟨g, (k + 1) * 9, none⟩) = some A ∧ Hid (∀ t u, news[t]? = some u → w.drew.cell? (A.add t) = some u) := by
    by_cases h : cap = k + 1
    · refine ⟨⟨g, 0, none⟩, by simp [h], fun t u hu => ?_⟩
      have h0 : news.length = 0 := by rw [hlen]; have : l.length - (k + 1) = 0 := by omega
                                      rw [this, Nat.zero_mul]
      rw [List.length_eq_zero_iff.1 h0] at hu
      simp at hu
    · refine ⟨⟨g, (k + 1) * 9, none⟩, by simp [h], fun t u hu => ?_⟩
      rw [add_fl]
      exact hget t u hu
  obtain ⟨W1, hW1⟩ : ∃ W1, W1 = w.drew.setCells g (0 + k * 9) news := ⟨_, rfl⟩
  have HW : Hid (W1 = w.drew.setCells g (0 + k * 9) news) := hW1
  have HO1 : Hid (W1.ownsRow B 52 9 (.slice (some ⟨g, 0, none⟩) l.length cap) l.length (ovr (l.flatMap acC) (k * 9) news)) := by
    show World.ownsRow _ _ _ _ _ _ _
    rw [hW1, Nat.zero_add]
    exact own_ovr news _ _ _ HO.out.drew
  have HG1 : Hid (w.grownBy W1 (some g)) := by
    show World.grownBy _ _ _
    rw [hW1]
    exact grown_setCells_c news _ _ ⟨rfl, rfl, rfl, Nat.le_refl _, fun _ _ _ => rfl⟩
  obtain ⟨vs, hclr⟩ := clearAc W1 g ((l.length - 1) * 9) (cap - (l.length - 1)) (fun j hj => by
    have := HO1.out.cellAt ((l.length - 1) * 9 + j) (by omega)
    rw [this, List.getElem?_eq_getElem (by rw [HO1.out.1]; omega)]
    rfl) (fun j hj => HO1.out.frozenAt _)
  have HP1 : Hid (W1.ownsRow B 52 9 (.slice (some ⟨g, 0, none⟩) (l.length - 1) cap) (l.length - 1) ((l.eraseIdx k).flatMap acC)) := by
    show World.ownsRow _ _ _ _ _ _ _
    rw [← gone_row acC_len l k hk, ← hnews]
    exact own_prefix_c HO1.out (by omega)
  have HP2 := hide (own_setCells_c vs ((l.length - 1) * 9) W1 HP1.out (Nat.le_refl _))
  have HG2 := hide (grown_setCells_c vs ((l.length - 1) * 9) W1 HG1.out)
  clear hW1 hcells hfz hget hlen hfl hnews HO1 HP1 HG1 HO
  have hic : k ≤ cap := by omega
  have hjc : k + 1 ≤ cap := by omega
  have hq1 : (0 : Int) ≤ (k : Int) + 1 := by omega
  have hq2 : (k : Int) + 1 ≤ (l.length : Int) := by omega
  have hq3 : k + (l.length - (k + 1)) = l.length - 1 := by omega
  have hq4 : l.length - (l.length - 1) = 1 := by omega
  go_enter Tryz.func68, Tryz.ntmps68
  go_wp2_with fail
  go_region_law (refine step_append_room rfl (.tmp 22) (.tmp 25) 27 rfl 52 i0 9 Tryz.underlying27 hi hz1 g 0 k cap (by simp [Act.eval, Act.put]) A (l.length - (k + 1)) (cap - (k + 1)) news (by simp [Act.eval, Act.put]) s1.out hsrc.out s2.out (by omega) s3.out ?_; rw [← HW.out])
  have hr1 : ((l.length - 1 : Nat) : Int) ≤ (l.length : Int) := by omega
  have hr2 : (l.length : Int) ≤ (cap : Int) := by omega
  have hr3 : ¬ cap = l.length - 1 := by omega
  have hr4 : (0 : Int) ≤ ((l.length - 1 : Nat) : Int) := by omega
  generalize hq : l.length - 1 = q at *
  clear s1 s2 s3 hsrc hA HW
  go_wp2_with (simp only [hclr])
  go_ret
  subst hq
  exact ⟨rfl, HP2.out, HG2.out⟩

end Go.Proofs.YtjcomoinggiedaaGreat

namespace Go.Proofs.YtjcomoinggiedaaGreat
open Go.RowKit
set_option linter.unusedVariables false
set_option maxRecDepth 100000

set_option maxHeartbeats 1000000 in
theorem freshSw_any (v : Value) (l : List Sw) (w : World) (hM : SwsAt w v l) (hl : l.length * 24 ≤ 140737488355328) :
    Calls Tryz.prog 28 #[v] w fun e w' => ∃ u, e = .returned u ∧ w'.ownsRow w.heap.size 42 3 u l.length (l.flatMap swC) ∧ Below w.heap.size w w' := by
  obtain ⟨i0, hi, hz0, hz1, hz2⟩ := info_parts infoSw
  have HM := hide hM
  obtain ⟨a, cap, rfl, hn, hL⟩ := hM
  cases a with
  | none =>
    obtain rfl := hn rfl
    have h0 : l.length = 0 := by
      rcases hL with h | ⟨_, _, h, _⟩
      · exact h
      · simp at h
    obtain rfl : l = [] := List.eq_nil_of_length_eq_zero h0
    clear hL hn HM h0 hl
    go_enter Tryz.func28, Tryz.ntmps28
    go_wp2
    go_ret
    exact ⟨_, rfl, World.ownsRow_nil _ _ _ _, Below.refl _ _⟩
  | some ad =>
    have HN := hide (RowAt.news swC_len HM.out)
    have H1 := hide (swC_one l)
    clear hL hn
    go_enter Tryz.func28, Tryz.ntmps28
    go_wp2_with (at_builtin; refine wpList_append_own _ rfl _ _ 25 rfl w.heap.size 42 i0 _ 3 24 Tryz.underlying25 hi hz0 hz1 hz2 rfl (by decide) _ _ _ rfl (World.ownsRow_nil w w.heap.size 42 3) ad l.length cap (l.flatMap swC) rfl ?a0 HN.out H1.out ?a1 ?a2 ?a3 ?_)
    case a0 => rw [flat_len swC_len]
    case a1 => unfold maxLen; omega
    case a2 => omega
    case a3 => exact Nat.le_refl _
    intro v1 w1 ho1 hg1 _
    have hb1 : Below w.heap.size w w1 := (Below.refl _ w).grown hg1 (by simp) (own_ge (World.ownsRow_nil w w.heap.size 42 3))
    have HO : Hid (w1.ownsRow w.heap.size 42 3 v1 l.length (l.flatMap swC)) := hide ho1
    clear ho1 hg1
    go_wp2
    go_ret
    exact ⟨v1, rfl, HO.out, hb1⟩

set_option maxHeartbeats 1000000 in
theorem freshPr_any (v : Value) (l : List Pr) (w : World) (hM : PrsAt w v l) (hl : l.length * 40 ≤ 140737488355328) :
    Calls Tryz.prog 29 #[v] w fun e w' => ∃ u, e = .returned u ∧ w'.ownsRow w.heap.size 45 5 u l.length (l.flatMap prC) ∧ Below w.heap.size w w' := by
  obtain ⟨i0, hi, hz0, hz1, hz2⟩ := info_parts infoPr
  have HM := hide hM
  obtain ⟨a, cap, rfl, hn, hL⟩ := hM
  cases a with
  | none =>
    obtain rfl := hn rfl
    have h0 : l.length = 0 := by
      rcases hL with h | ⟨_, _, h, _⟩
      · exact h
      · simp at h
    obtain rfl : l = [] := List.eq_nil_of_length_eq_zero h0
    clear hL hn HM h0 hl
    go_enter Tryz.func29, Tryz.ntmps29
    go_wp2
    go_ret
    exact ⟨_, rfl, World.ownsRow_nil _ _ _ _, Below.refl _ _⟩
  | some ad =>
    have HN := hide (RowAt.news prC_len HM.out)
    have H1 := hide (prC_one l)
    clear hL hn
    go_enter Tryz.func29, Tryz.ntmps29
    go_wp2_with (at_builtin; refine wpList_append_own _ rfl _ _ 26 rfl w.heap.size 45 i0 _ 5 40 Tryz.underlying26 hi hz0 hz1 hz2 rfl (by decide) _ _ _ rfl (World.ownsRow_nil w w.heap.size 45 5) ad l.length cap (l.flatMap prC) rfl ?a0 HN.out H1.out ?a1 ?a2 ?a3 ?_)
    case a0 => rw [flat_len prC_len]
    case a1 => unfold maxLen; omega
    case a2 => omega
    case a3 => exact Nat.le_refl _
    intro v1 w1 ho1 hg1 _
    have hb1 : Below w.heap.size w w1 := (Below.refl _ w).grown hg1 (by simp) (own_ge (World.ownsRow_nil w w.heap.size 45 5))
    have HO : Hid (w1.ownsRow w.heap.size 45 5 v1 l.length (l.flatMap prC)) := hide ho1
    clear ho1 hg1
    go_wp2
    go_ret
    exact ⟨v1, rfl, HO.out, hb1⟩

set_option maxHeartbeats 1000000 in
theorem freshAc_any (v : Value) (l : List Ac) (w : World) (hM : AcsAt w v l) (hl : l.length * 72 ≤ 140737488355328) :
    Calls Tryz.prog 30 #[v] w fun e w' => ∃ u, e = .returned u ∧ w'.ownsRow w.heap.size 52 9 u l.length (l.flatMap acC) ∧ Below w.heap.size w w' := by
  obtain ⟨i0, hi, hz0, hz1, hz2⟩ := info_parts infoAc
  have HM := hide hM
  obtain ⟨a, cap, rfl, hn, hL⟩ := hM
  cases a with
  | none =>
    obtain rfl := hn rfl
    have h0 : l.length = 0 := by
      rcases hL with h | ⟨_, _, h, _⟩
      · exact h
      · simp at h
    obtain rfl : l = [] := List.eq_nil_of_length_eq_zero h0
    clear hL hn HM h0 hl
    go_enter Tryz.func30, Tryz.ntmps30
    go_wp2
    go_ret
    exact ⟨_, rfl, World.ownsRow_nil _ _ _ _, Below.refl _ _⟩
  | some ad =>
    have HN := hide (RowAt.news acC_len HM.out)
    have H1 := hide (acC_one l)
    clear hL hn
    go_enter Tryz.func30, Tryz.ntmps30
    go_wp2_with (at_builtin; refine wpList_append_own _ rfl _ _ 27 rfl w.heap.size 52 i0 _ 9 72 Tryz.underlying27 hi hz0 hz1 hz2 rfl (by decide) _ _ _ rfl (World.ownsRow_nil w w.heap.size 52 9) ad l.length cap (l.flatMap acC) rfl ?a0 HN.out H1.out ?a1 ?a2 ?a3 ?_)
    case a0 => rw [flat_len acC_len]
    case a1 => unfold maxLen; omega
    case a2 => omega
    case a3 => exact Nat.le_refl _
    intro v1 w1 ho1 hg1 _
    have hb1 : Below w.heap.size w w1 := (Below.refl _ w).grown hg1 (by simp) (own_ge (World.ownsRow_nil w w.heap.size 52 9))
    have HO : Hid (w1.ownsRow w.heap.size 52 9 v1 l.length (l.flatMap acC)) := hide ho1
    clear ho1 hg1
    go_wp2
    go_ret
    exact ⟨v1, rfl, HO.out, hb1⟩

/-- What is wanted lies in rows of the call's own, apart from one another. -/
structure Own3 (w : World) (B : Nat) (sv pv av : Value) (S : List Sw) (P : List Pr) (A : List Ac) : Prop where
  s : w.ownsRow B 42 3 sv S.length (S.flatMap swC)
  p : w.ownsRow B 45 5 pv P.length (P.flatMap prC)
  a : w.ownsRow B 52 9 av A.length (A.flatMap acC)
  sp : sv.ownBlock = none ∨ sv.ownBlock ≠ pv.ownBlock
  sa : sv.ownBlock = none ∨ sv.ownBlock ≠ av.ownBlock
  pa : pv.ownBlock = none ∨ pv.ownBlock ≠ av.ownBlock
theorem Own3.cf {w : World} {B : Nat} {sv pv av : Value} {S : List Sw} {P : List Pr} {A : List Ac} (h : Own3 w B sv pv av S P A) : CfAt w sv pv av S P A :=
  ⟨RowAt.of_own swC_len (by omega) h.s, RowAt.of_own prC_len (by omega) h.p, RowAt.of_own acC_len (by omega) h.a⟩
set_option maxHeartbeats 2000000 in
theorem copy_any (sv pv av : Value) (S : List Sw) (P : List Pr) (A : List Ac) (w : World) (hC : CfAt w sv pv av S P A) (h1 : S.length * 24 ≤ 140737488355328) (h2 : P.length * 40 ≤ 140737488355328) (h3 : A.length * 72 ≤ 140737488355328) :
    Calls Tryz.prog 11 #[.agg #[sv, pv, av]] w fun e w' => ∃ su pu au, e = .returned (.agg #[su, pu, au]) ∧ Own3 w' w.heap.size su pu au S P A ∧ Below w.heap.size w w' := by
  have HC := hide hC
  have HS : Hid (∀ W : World, Below w.heap.size w W → Calls Tryz.prog 28 #[sv] W fun e w' => ∃ u, e = .returned u ∧ w'.ownsRow W.heap.size 42 3 u S.length (S.flatMap swC) ∧ Below W.heap.size W w') := fun W hW => freshSw_any sv S W (RowAt.below HC.out.1 hW (Nat.le_refl _)) h1
  have HP : Hid (∀ W : World, Below w.heap.size w W → Calls Tryz.prog 29 #[pv] W fun e w' => ∃ u, e = .returned u ∧ w'.ownsRow W.heap.size 45 5 u P.length (P.flatMap prC) ∧ Below W.heap.size W w') := fun W hW => freshPr_any pv P W (RowAt.below HC.out.2.1 hW (Nat.le_refl _)) h2
  have HA : Hid (∀ W : World, Below w.heap.size w W → Calls Tryz.prog 30 #[av] W fun e w' => ∃ u, e = .returned u ∧ w'.ownsRow W.heap.size 52 9 u A.length (A.flatMap acC) ∧ Below W.heap.size W w') := fun W hW => freshAc_any av A W (RowAt.below HC.out.2.2 hW (Nat.le_refl _)) h3
  obtain ⟨s1, s2, rfl⟩ := hC.1.slice
  obtain ⟨p1, p2, rfl⟩ := hC.2.1.slice
  obtain ⟨a1, a2, rfl⟩ := hC.2.2.slice
  clear hC HC
  go_enter Tryz.func11, Tryz.ntmps11
  go_wp2_with fail
  obtain ⟨W0, hW0⟩ : ∃ W0, W0 = (w.alloc (.cells #[.slice s1 S.length s2, .slice p1 P.length p2, .slice a1 A.length a2] 29)).alloc (.cells #[.slice none 0 0, .slice none 0 0, .slice none 0 0] 29) := ⟨_, rfl⟩
  have hb0 : Below w.heap.size w W0 := by rw [hW0]; exact ((Below.refl _ _).alloc (Nat.le_refl _) _).alloc (by simp) _
  have hz0 : w.heap.size + 2 ≤ W0.heap.size := by rw [hW0]; simp
  have c0 : W0.cell? ⟨w.heap.size, 0, none⟩ = some (.slice s1 S.length s2) := by rw [hW0]; simp
  have c1 : W0.cell? ⟨w.heap.size, 1, none⟩ = some (.slice p1 P.length p2) := by rw [hW0]; simp
  have c2 : W0.cell? ⟨w.heap.size, 2, none⟩ = some (.slice a1 A.length a2) := by rw [hW0]; simp
  have r0 : W0.cell? ⟨w.heap.size + 1, 0, none⟩ = some (.slice none 0 0) := by rw [hW0]; simp
  have r1 : W0.cell? ⟨w.heap.size + 1, 1, none⟩ = some (.slice none 0 0) := by rw [hW0]; simp
  have r2 : W0.cell? ⟨w.heap.size + 1, 2, none⟩ = some (.slice none 0 0) := by rw [hW0]; simp
  have f0 : W0.frozen? ⟨w.heap.size + 1, 0, none⟩ = false := by rw [hW0]; simp
  have f1 : W0.frozen? ⟨w.heap.size + 1, 1, none⟩ = false := by rw [hW0]; simp
  have f2 : W0.frozen? ⟨w.heap.size + 1, 2, none⟩ = false := by rw [hW0]; simp
  rw [← hW0]
  clear hW0 h1 h2 h3
  have e0 : Below (w.heap.size + 2) W0 W0.drew := (Below.refl _ _).drew
  go_region_held3 (fun w' => w'.cell? ⟨w.heap.size, 0, none⟩ = some (.slice s1 S.length s2) ∧ w'.cell? ⟨w.heap.size, 1, none⟩ = some (.slice p1 P.length p2) ∧ w'.cell? ⟨w.heap.size, 2, none⟩ = some (.slice a1 A.length a2)) (go_keep)
    (first | (go_at_call 28; refine (unhide HS _ hb0.drew).mono ?_; rintro e w1 ⟨u1, rfl, ho1, hb1⟩; obtain ⟨o1, m1, rfl⟩ := own_slc ho1; have HO1 := hide ho1; clear ho1; have g1 : Below (w.heap.size + 2) W0 w1 := e0.trans (hb1.mono hz0); have k1 : Below w.heap.size w w1 := hb0.trans (g1.mono (by omega)); have y0 := (g1.cell (p := ⟨w.heap.size, 0, none⟩) (by simp)).trans c0; have y1 := (g1.cell (p := ⟨w.heap.size, 1, none⟩) (by simp)).trans c1; have y2 := (g1.cell (p := ⟨w.heap.size, 2, none⟩) (by simp)).trans c2)
            | (go_at_call 29; refine (unhide HP _ k1).mono ?_; rintro e w2 ⟨u2, rfl, ho2, hb2⟩; obtain ⟨o2, m2, rfl⟩ := own_slc ho2; have HO2 := hide ho2; clear ho2; have g2 : Below (w.heap.size + 2) W0 w2 := g1.trans (hb2.mono (Nat.le_trans hz0 g1.size)); have k2 : Below w.heap.size w w2 := hb0.trans (g2.mono (by omega)); have x0 := (g2.cell (p := ⟨w.heap.size, 0, none⟩) (by simp)).trans c0; have x1 := (g2.cell (p := ⟨w.heap.size, 1, none⟩) (by simp)).trans c1; have x2 := (g2.cell (p := ⟨w.heap.size, 2, none⟩) (by simp)).trans c2)
            | (go_at_call 30; refine (unhide HA _ k2).mono ?_; rintro e w3 ⟨u3, rfl, ho3, hb3⟩; obtain ⟨o3, m3, rfl⟩ := own_slc ho3; have HO3 := hide ho3; clear ho3; have g3 : Below (w.heap.size + 2) W0 w3 := g2.trans (hb3.mono (Nat.le_trans hz0 g2.size)); have k3 : Below w.heap.size w w3 := hb0.trans (g3.mono (by omega)); have v0 := (g3.cell (p := ⟨w.heap.size, 0, none⟩) (by simp)).trans c0; have v1 := (g3.cell (p := ⟨w.heap.size, 1, none⟩) (by simp)).trans c1; have v2 := (g3.cell (p := ⟨w.heap.size, 2, none⟩) (by simp)).trans c2; have t0 := (g3.cell (p := ⟨w.heap.size + 1, 0, none⟩) (by simp)).trans r0; have t1 := (g3.cell (p := ⟨w.heap.size + 1, 1, none⟩) (by simp)).trans r1; have t2 := (g3.cell (p := ⟨w.heap.size + 1, 2, none⟩) (by simp)).trans r2; have l0 := (g3.frozen (p := ⟨w.heap.size + 1, 0, none⟩) (by simp)).trans f0; have l1 := (g3.frozen (p := ⟨w.heap.size + 1, 1, none⟩) (by simp)).trans f1; have l2 := (g3.frozen (p := ⟨w.heap.size + 1, 2, none⟩) (by simp)).trans f2))
  have N1 : w.heap.size + 1 < W0.drew.heap.size := by have := hz0; simp; omega
  have N2 : w.heap.size + 1 < w1.heap.size := Nat.lt_of_lt_of_le N1 hb1.size
  have N3 : w.heap.size + 1 < w2.heap.size := Nat.lt_of_lt_of_le N2 hb2.size
  have O1 := hide (own_below (own_below HO1.out hb2) hb3)
  have O2 := hide (own_below HO2.out hb3)
  have A12 := hide (own_apart HO1.out HO2.out (Nat.le_refl _))
  have A13 := hide (own_apart (own_below HO1.out hb2) HO3.out (Nat.le_refl _))
  have A23 := hide (own_apart HO2.out HO3.out (Nat.le_refl _))
  clear HO1 HO2 y0 y1 y2 x0 x1 x2 v0 v1 v2 g1 g2 g3 k1 k2 l0 l1 l2 hb2 hb3 hb1 c0 c1 c2 r0 r1 r2 f0 f1 f2 e0 HS HP HA
  obtain ⟨q0, q1, q2⟩ := set3 t0 t1 t2 (.slice o1 S.length m1) (.slice o2 P.length m2) (.slice o3 A.length m3)
  have HB : Hid (Below w.heap.size w (((w3.setCell ⟨w.heap.size + 1, 0, none⟩ (.slice o1 S.length m1)).setCell ⟨w.heap.size + 1, 1, none⟩ (.slice o2 P.length m2)).setCell ⟨w.heap.size + 1, 2, none⟩ (.slice o3 A.length m3))) := ((k3.setCell (Nat.le_succ _) _).setCell (Nat.le_succ _) _).setCell (Nat.le_succ _) _
  have R1 := hide (own_less (ownsRow_setCell_below (ownsRow_setCell_below (ownsRow_setCell_below O1.out (a := ⟨w.heap.size + 1, 0, none⟩) N1 (.slice o1 S.length m1)) (a := ⟨w.heap.size + 1, 1, none⟩) N1 (.slice o2 P.length m2)) (a := ⟨w.heap.size + 1, 2, none⟩) N1 (.slice o3 A.length m3)) (show w.heap.size ≤ W0.drew.heap.size by omega))
  have R2 := hide (own_less (ownsRow_setCell_below (ownsRow_setCell_below (ownsRow_setCell_below O2.out (a := ⟨w.heap.size + 1, 0, none⟩) N2 (.slice o1 S.length m1)) (a := ⟨w.heap.size + 1, 1, none⟩) N2 (.slice o2 P.length m2)) (a := ⟨w.heap.size + 1, 2, none⟩) N2 (.slice o3 A.length m3)) (show w.heap.size ≤ w1.heap.size by omega))
  have R3 := hide (own_less (ownsRow_setCell_below (ownsRow_setCell_below (ownsRow_setCell_below HO3.out (a := ⟨w.heap.size + 1, 0, none⟩) N3 (.slice o1 S.length m1)) (a := ⟨w.heap.size + 1, 1, none⟩) N3 (.slice o2 P.length m2)) (a := ⟨w.heap.size + 1, 2, none⟩) N3 (.slice o3 A.length m3)) (show w.heap.size ≤ w2.heap.size by omega))
  clear O1 O2 HO3 k3 t0 t1 t2 N1 N2 N3
  generalize (((w3.setCell ⟨w.heap.size + 1, 0, none⟩ (.slice o1 S.length m1)).setCell ⟨w.heap.size + 1, 1, none⟩ (.slice o2 P.length m2)).setCell ⟨w.heap.size + 1, 2, none⟩ (.slice o3 A.length m3)) = W at *
  go_wp2_with fail
  refine bodyPost_ret (v := .agg #[.slice o1 S.length m1, .slice o2 P.length m2, .slice o3 A.length m3]) ?_ rfl ⟨_, _, _, rfl, ⟨R1.out, R2.out, R3.out, A12.out, A13.out, A23.out⟩, HB.out⟩
  simp [results, Tryz.results11, go_sem, q0, q1, q2]

end Go.Proofs.YtjcomoinggiedaaGreat
