/- Texts joined: Kn. -/
import Derived.Test.YtjcomoinggiedaaGreatJTopSilent8
namespace Go.Proofs.YtjcomoinggiedaaGreat
open Go.RowKit
set_option linter.unusedVariables false
set_option maxRecDepth 100000

/-- The switches with which it begins. -/
def S0 : List Sw := [⟨1, 1, 200⟩, ⟨2, 1, 201⟩, ⟨3, 1, 0⟩, ⟨4, 2, 200⟩]
def gate (k : Nat) : Int := [200, 201, 0, 200].getD k 0
def ia (k : Nat) : Ax := ⟨1, 1 + (k : Int), 1 + (k : Int) / 3, gate k, 0, 0, 0, 0, 0, 0, 0, false, 0, 0, 0, 0, 0, false, 0, 0, 0, 0, 0, 0, 0, 0, 0, ⟨#[]⟩⟩
theorem ini {k : Nat} (h : k < 4) : appE (S0.take k) [] [] (ia k) = 0 ∧ apS (S0.take k) [] [] (ia k) = S0.take (k + 1) ∧ apP (S0.take k) [] [] (ia k) = [] ∧ apA (S0.take k) [] [] (ia k) = [] := by
  rcases (show k = 0 ∨ k = 1 ∨ k = 2 ∨ k = 3 by omega) with rfl | rfl | rfl | rfl <;> exact ⟨by decide, by rfl, by rfl, by rfl⟩
theorem gate_at {k : Nat} (h : k < 4) : (#[Value.int .i64 200, .int .i64 201, .int .i64 0, .int .i64 200] : Array Value)[k]? = some (.int .i64 (gate k)) := by
  rcases (show k = 0 ∨ k = 1 ∨ k = 2 ∨ k = 3 by omega) with rfl | rfl | rfl | rfl <;> rfl
theorem fine0 : Fine S0 [] [] := ⟨by decide, by decide, by decide⟩

def KnAt (w wr : World) (cb : Nat) : Prop := ∃ (S : List Sw) (P : List Pr) (A : List Ac) (sv pv av : Value), wr.cell? ⟨cb, 0, none⟩ = some sv ∧ wr.cell? ⟨cb, 1, none⟩ = some pv ∧ wr.cell? ⟨cb, 2, none⟩ = some av ∧ wr.frozen? ⟨cb, 0, none⟩ = false ∧ wr.frozen? ⟨cb, 1, none⟩ = false ∧ wr.frozen? ⟨cb, 2, none⟩ = false ∧ wr.cell? ⟨w.heap.size, 0, none⟩ = some (.slice none 0 0) ∧ wr.frozen? ⟨w.heap.size, 0, none⟩ = false ∧ wr.cell? ⟨w.heap.size, 1, none⟩ = some (.slice none 0 0) ∧ wr.frozen? ⟨w.heap.size, 1, none⟩ = false ∧ wr.cell? ⟨w.heap.size, 2, none⟩ = some (.slice none 0 0) ∧ wr.frozen? ⟨w.heap.size, 2, none⟩ = false ∧ Hid (Fine S P A) ∧ Hid (CfAt wr sv pv av S P A) ∧ Below w.heap.size w wr
theorem KnAt.mk {w wr : World} {cb : Nat} (h : ∃ (S : List Sw) (P : List Pr) (A : List Ac) (sv pv av : Value), wr.cell? ⟨cb, 0, none⟩ = some sv ∧ wr.cell? ⟨cb, 1, none⟩ = some pv ∧ wr.cell? ⟨cb, 2, none⟩ = some av ∧ wr.frozen? ⟨cb, 0, none⟩ = false ∧ wr.frozen? ⟨cb, 1, none⟩ = false ∧ wr.frozen? ⟨cb, 2, none⟩ = false ∧ wr.cell? ⟨w.heap.size, 0, none⟩ = some (.slice none 0 0) ∧ wr.frozen? ⟨w.heap.size, 0, none⟩ = false ∧ wr.cell? ⟨w.heap.size, 1, none⟩ = some (.slice none 0 0) ∧ wr.frozen? ⟨w.heap.size, 1, none⟩ = false ∧ wr.cell? ⟨w.heap.size, 2, none⟩ = some (.slice none 0 0) ∧ wr.frozen? ⟨w.heap.size, 2, none⟩ = false ∧ Hid (Fine S P A) ∧ Hid (CfAt wr sv pv av S P A) ∧ Below w.heap.size w wr) : KnAt w wr cb := h

set_option maxHeartbeats 16000000 in
theorem conf_any (l : List Rw) (lv : Value) (w : World) (hL : RowAt rwC 4 w lv l) :
    Calls Tryz.prog 8 #[lv, .int .i64 40] w fun e w' => ∃ su pu au, e = .returned (.agg #[su, pu, au]) ∧ ∃ S P A, CfAt w' su pu au S P A ∧ Fine S P A ∧ Below w.heap.size w w' := by
  have HL := hide hL
  have HCH : Hid (∀ (W : World) (x : Rw), Calls Tryz.prog 24 #[.agg #[.int .i64 x.k, .int .i64 x.a, .int .i64 x.b, .int .i64 x.c]] W fun e w' => ∃ x : Ax, e = .returned (actV x) ∧ x.si ≤ 6 ∧ Below W.heap.size W w') := fun W x => change_any (x.k, x.a, x.b, x.c) W x.ok.1 x.ok.2.1 x.ok.2.2.1 x.ok.2.2.2
  have HAP := hide (fun (W : World) (a : Ax) (sv pv av : Value) (S : List Sw) (P : List Pr) (A : List Ac) (hC : CfAt W sv pv av S P A) (hm : S.length ≤ 12 ∧ P.length ≤ 40 ∧ A.length ≤ 40) => apply_any sv pv av S P A a W hC (by omega) (by omega) (by omega))
  obtain ⟨la, lc, rfl⟩ := hL.slice
  clear hL
  go_enter Tryz.func8, Tryz.ntmps8
  go_wp2_with fail
  obtain ⟨W0, hW0⟩ : ∃ W0, W0 = (w.alloc (.cells #[.slice none 0 0, .slice none 0 0, .slice none 0 0] 29)).alloc (.cells #[.slice none 0 0, .slice none 0 0, .slice none 0 0] 29) := ⟨_, rfl⟩
  obtain ⟨cb, hcb⟩ : ∃ cb, cb = w.heap.size + 1 := ⟨_, rfl⟩
  have k0 : Below w.heap.size w W0 := by rw [hW0]; exact ((Below.refl _ w).alloc (Nat.le_refl _) _).alloc (by simp) _
  have c0 : W0.cell? ⟨cb, 0, none⟩ = some (.slice none 0 0) := by rw [hW0, hcb]; exact new_cell _ _ (by simp) _ _ _ _ rfl
  have y0 : W0.frozen? ⟨cb, 0, none⟩ = false := by rw [hW0, hcb]; exact new_frozen _ _ (by simp) _ _ _
  have c1 : W0.cell? ⟨cb, 1, none⟩ = some (.slice none 0 0) := by rw [hW0, hcb]; exact new_cell _ _ (by simp) _ _ _ _ rfl
  have y1 : W0.frozen? ⟨cb, 1, none⟩ = false := by rw [hW0, hcb]; exact new_frozen _ _ (by simp) _ _ _
  have c2 : W0.cell? ⟨cb, 2, none⟩ = some (.slice none 0 0) := by rw [hW0, hcb]; exact new_cell _ _ (by simp) _ _ _ _ rfl
  have y2 : W0.frozen? ⟨cb, 2, none⟩ = false := by rw [hW0, hcb]; exact new_frozen _ _ (by simp) _ _ _
  have r0 : W0.cell? ⟨w.heap.size, 0, none⟩ = some (.slice none 0 0) := by rw [hW0]; exact old_cell (new_cell w _ rfl _ _ _ _ rfl) _
  have x0 : W0.frozen? ⟨w.heap.size, 0, none⟩ = false := by rw [hW0]; exact old_frozen (by simp) (new_frozen w _ rfl _ _ _) _
  have r1 : W0.cell? ⟨w.heap.size, 1, none⟩ = some (.slice none 0 0) := by rw [hW0]; exact old_cell (new_cell w _ rfl _ _ _ _ rfl) _
  have x1 : W0.frozen? ⟨w.heap.size, 1, none⟩ = false := by rw [hW0]; exact old_frozen (by simp) (new_frozen w _ rfl _ _ _) _
  have r2 : W0.cell? ⟨w.heap.size, 2, none⟩ = some (.slice none 0 0) := by rw [hW0]; exact old_cell (new_cell w _ rfl _ _ _ _ rfl) _
  have x2 : W0.frozen? ⟨w.heap.size, 2, none⟩ = false := by rw [hW0]; exact old_frozen (by simp) (new_frozen w _ rfl _ _ _) _
  have hwc : w.heap.size < cb := by omega
  rw [← hW0, ← hcb]
  clear hW0 hcb
  go_loopw [13] (fun i wr => ∃ (k : Nat) (T : List Sw) (sv pv av : Value), k ≤ 4 ∧ i = .int .i64 k ∧ wr.cell? ⟨cb, 0, none⟩ = some sv ∧ wr.cell? ⟨cb, 1, none⟩ = some pv ∧ wr.cell? ⟨cb, 2, none⟩ = some av ∧ wr.frozen? ⟨cb, 0, none⟩ = false ∧ wr.frozen? ⟨cb, 1, none⟩ = false ∧ wr.frozen? ⟨cb, 2, none⟩ = false ∧ wr.cell? ⟨w.heap.size, 0, none⟩ = some (.slice none 0 0) ∧ wr.frozen? ⟨w.heap.size, 0, none⟩ = false ∧ wr.cell? ⟨w.heap.size, 1, none⟩ = some (.slice none 0 0) ∧ wr.frozen? ⟨w.heap.size, 1, none⟩ = false ∧ wr.cell? ⟨w.heap.size, 2, none⟩ = some (.slice none 0 0) ∧ wr.frozen? ⟨w.heap.size, 2, none⟩ = false ∧ Hid (T = S0.take k) ∧ Hid (CfAt wr sv pv av T [] []) ∧ Below w.heap.size w wr) (fun i _ => 4 - (intOf i).toNat)
  case atStart => exact ⟨0, [], _, _, _, by omega, rfl, c0, c1, c2, y0, y1, y2, r0, x0, r1, x1, r2, x2, hide rfl, hide ⟨RowAt.nil _ _ _, RowAt.nil _ _ _, RowAt.nil _ _ _⟩, k0⟩
  case round =>
    clear c0 c1 c2 y0 y1 y2 r0 r1 r2 x0 x1 x2 k0
    obtain ⟨k, T, sv, pv, av, hk, rfl, c0, c1, c2, y0, y1, y2, r0, x0, r1, x1, r2, x2, HT, HC, k0⟩ := hrel
    by_cases hlt : k < 4
    · obtain ⟨T', hT'⟩ : ∃ T', T' = S0.take (k + 1) := ⟨_, rfl⟩
      have HAP1 : Hid (∀ (W : World) (sv pv av : Value), CfAt W sv pv av T [] [] → Calls Tryz.prog 23 #[.agg #[sv, pv, av], actV (ia k)] W fun e w' => ∃ su pu au, e = .returned (.tuple #[.agg #[su, pu, au], .int .i64 0]) ∧ CfAt w' su pu au T' [] [] ∧ Below W.heap.size W w') := fun W sv pv av hC => by
        rw [HT.out] at hC
        rw [hT']
        have := HAP.out W (ia k) sv pv av _ _ _ hC ⟨by simp; omega, by simp, by simp⟩
        obtain ⟨q1, q2, q3, q4⟩ := ini hlt
        rw [q1, q2, q3, q4] at this
        exact this
      have HT1 := hide hT'
      clear hT' HT
      clear HAP HCH HL
      obtain ⟨s1, s2, rfl⟩ := HC.out.1.slice
      obtain ⟨s3, s4, rfl⟩ := HC.out.2.1.slice
      obtain ⟨s5, s6, rfl⟩ := HC.out.2.2.slice
      have hk0 : (0 : Int) ≤ (k : Int) := by omega
      have hk4 : (k : Int) < 4 := by omega
      have u0 := wrap_i64_in (1 + (k : Int)) (by omega) (by omega)
      have u1 := wrap_i64_in ((k : Int) / 3) (by omega) (by omega)
      have u2 := wrap_i64_in (1 + (k : Int) / 3) (by omega) (by omega)
      unfold ia at HAP1
      go_wp2_with fail
      refine wp_region_held_drew (S := (fun w' => w'.cell? ⟨cb, 0, none⟩ = some (.slice s1 T.length s2) ∧ w'.cell? ⟨cb, 1, none⟩ = some (.slice s3 0 s4) ∧ w'.cell? ⟨cb, 2, none⟩ = some (.slice s5 0 s6))) (by kernel_rfl) ⟨c0, c1, c2⟩ (fun hHeld => ?_)
      have HDW : Below wr.heap.size wr wr.drew := (Below.refl _ _).drew
      replace y0 := (HDW.frozen (p := ⟨cb, 0, none⟩) (cell_in c0)).trans y0
      replace y1 := (HDW.frozen (p := ⟨cb, 1, none⟩) (cell_in c1)).trans y1
      replace y2 := (HDW.frozen (p := ⟨cb, 2, none⟩) (cell_in c2)).trans y2
      replace x0 := (HDW.frozen (p := ⟨w.heap.size, 0, none⟩) (cell_in r0)).trans x0
      replace x1 := (HDW.frozen (p := ⟨w.heap.size, 1, none⟩) (cell_in r1)).trans x1
      replace x2 := (HDW.frozen (p := ⟨w.heap.size, 2, none⟩) (cell_in r2)).trans x2
      replace c0 := cell_beh c0 HDW (Nat.le_refl _)
      replace c1 := cell_beh c1 HDW (Nat.le_refl _)
      replace c2 := cell_beh c2 HDW (Nat.le_refl _)
      replace r0 := cell_beh r0 HDW (Nat.le_refl _)
      replace r1 := cell_beh r1 HDW (Nat.le_refl _)
      replace r2 := cell_beh r2 HDW (Nat.le_refl _)
      replace HC := hide (HC.out.below HDW (Nat.le_refl _))
      replace k0 := k0.trans (HDW.mono k0.size)
      clear HDW
      generalize wr.drew = V0 at *
      refine wpAnyH_take (i := 0) (oi := ⟨some 17, _, _, _, _, _⟩) (v := ?v1) rfl (by kernel_rfl) (by kernel_rfl) (by kernel_rfl) (fun _ _ _ h => h) (Or.inl ⟨by rfl, ?h1⟩) (by assumption) ?r1
      case h1 => (intro w hSw; (try dsimp only at hSw); go_simp <;> with_reducible rfl)
      (try simp only [Act.put, List.setIfInBounds_toArray, List.set_cons_zero, List.set_cons_succ])
      refine wpAnyH_take (i := 1) (oi := ⟨some 18, _, _, _, _, _⟩) (v := ?v2) rfl (by kernel_rfl) (by kernel_rfl) (by kernel_rfl) (fun _ _ _ h => h) (Or.inl ⟨by rfl, ?h2⟩) (by assumption) ?r2
      case h2 => (intro w hSw; (try dsimp only at hSw); go_simp <;> with_reducible rfl)
      (try simp only [Act.put, List.setIfInBounds_toArray, List.set_cons_zero, List.set_cons_succ])
      refine wpAnyH_take (i := 2) (oi := ⟨some 19, _, _, _, _, _⟩) (v := ?v3) rfl (by kernel_rfl) (by kernel_rfl) (by kernel_rfl) (fun _ _ _ h => h) (Or.inl ⟨by rfl, ?h3⟩) (by assumption) ?r3
      case h3 => (intro w hSw; (try dsimp only at hSw); go_simp <;> with_reducible rfl)
      (try simp only [Act.put, List.setIfInBounds_toArray, List.set_cons_zero, List.set_cons_succ])
      refine wpAnyH_take (i := 3) (oi := ⟨some 20, _, _, _, _, _⟩) (v := ?v4) rfl (by kernel_rfl) (by kernel_rfl) (by kernel_rfl) (fun _ _ _ h => h) (Or.inl ⟨by rfl, ?h4⟩) (by assumption) ?r4
      case h4 => (intro w hSw; (try dsimp only at hSw); go_simp <;> with_reducible rfl)
      (try simp only [Act.put, List.setIfInBounds_toArray, List.set_cons_zero, List.set_cons_succ])
      refine wpAnyH_take (i := 4) (oi := ⟨some 21, _, _, _, _, _⟩) (v := ?v5) rfl (by kernel_rfl) (by kernel_rfl) (by kernel_rfl) (fun _ _ _ h => h) (Or.inl ⟨by rfl, ?h5⟩) (by assumption) ?r5
      case h5 => (intro w hSw; (try dsimp only at hSw); go_simp <;> with_reducible rfl)
      (try simp only [Act.put, List.setIfInBounds_toArray, List.set_cons_zero, List.set_cons_succ])
      refine wpAnyH_take (i := 5) (oi := ⟨some 22, _, _, _, _, _⟩) (v := ?v6) rfl (by kernel_rfl) (by kernel_rfl) (by kernel_rfl) (fun _ _ _ h => h) (Or.inl ⟨by rfl, ?h6⟩) (by assumption) ?r6
      case h6 => (intro w hSw; (try dsimp only at hSw); go_simp <;> with_reducible rfl)
      (try simp only [Act.put, List.setIfInBounds_toArray, List.set_cons_zero, List.set_cons_succ])
      refine wpAnyH_take (i := 7) (oi := ⟨some 24, _, _, _, _, _⟩) (v := ?v7) rfl (by kernel_rfl) (by kernel_rfl) (by kernel_rfl) (fun _ _ _ h => h) (Or.inl ⟨by rfl, ?h7⟩) (by assumption) ?r7
      case h7 => (intro w hSw; (try dsimp only at hSw); go_simp <;> with_reducible rfl)
      (try simp only [Act.put, List.setIfInBounds_toArray, List.set_cons_zero, List.set_cons_succ])
      refine wpAnyH_ready (rs := [6, 16]) (by kernel_rfl) (by simp) ?_
      refine (AllReadyH.cons (o := ⟨some 23, _, _, _, _, _⟩) rfl (fun K hK => ?_) (AllReadyH.cons (o := ⟨some 7, _, _, _, _, _⟩) rfl (fun K hK => ?_) AllReadyH.nil))
      · go_simp
        clear hHeld
        obtain ⟨V1, hV⟩ : ∃ V1, V1 = V0.alloc (.cells #[.int .i64 200, .int .i64 201, .int .i64 0, .int .i64 200] 3) := ⟨_, rfl⟩
        obtain ⟨ga, hga⟩ : ∃ ga, ga = V0.heap.size := ⟨_, rfl⟩
        have hbN : Below V0.heap.size V0 V1 := by rw [hV]; exact (Below.refl _ _).alloc (Nat.le_refl _) _
        have ag : V1.cell? ⟨ga, k, none⟩ = some (.int .i64 (gate k)) := by rw [hV, hga]; exact new_cell V0 _ rfl _ _ _ _ (gate_at hlt)
        have hcg : w.heap.size ≤ ga := by rw [hga]; exact k0.size
        replace y0 := (hbN.frozen (p := ⟨cb, 0, none⟩) (cell_in c0)).trans y0
        replace y1 := (hbN.frozen (p := ⟨cb, 1, none⟩) (cell_in c1)).trans y1
        replace y2 := (hbN.frozen (p := ⟨cb, 2, none⟩) (cell_in c2)).trans y2
        replace x0 := (hbN.frozen (p := ⟨w.heap.size, 0, none⟩) (cell_in r0)).trans x0
        replace x1 := (hbN.frozen (p := ⟨w.heap.size, 1, none⟩) (cell_in r1)).trans x1
        replace x2 := (hbN.frozen (p := ⟨w.heap.size, 2, none⟩) (cell_in r2)).trans x2
        replace c0 := cell_beh c0 hbN (Nat.le_refl _)
        replace c1 := cell_beh c1 hbN (Nat.le_refl _)
        replace c2 := cell_beh c2 hbN (Nat.le_refl _)
        replace r0 := cell_beh r0 hbN (Nat.le_refl _)
        replace r1 := cell_beh r1 hbN (Nat.le_refl _)
        replace r2 := cell_beh r2 hbN (Nat.le_refl _)
        replace HC := hide (HC.out.below hbN (Nat.le_refl _))
        replace k0 := k0.trans (hbN.mono k0.size)
        rw [← hV, ← hga]
        clear hV hga hbN
        refine hK.out _ _ ⟨c0, c1, c2⟩ (fun hHeld => ?_)
        clear hK K
        (try simp only [Act.put, List.setIfInBounds_toArray, List.set_cons_zero, List.set_cons_succ])
        refine wpAnyH_take (i := 8) (oi := ⟨some 25, _, _, _, _, _⟩) (v := ?v8) rfl (by kernel_rfl) (by kernel_rfl) (by kernel_rfl) (fun _ _ _ h => h) (Or.inl ⟨by rfl, ?h8⟩) (by assumption) ?r8
        case h8 => (intro w hSw; (try dsimp only at hSw); go_simp <;> with_reducible rfl)
        (try simp only [Act.put, List.setIfInBounds_toArray, List.set_cons_zero, List.set_cons_succ])
        refine wpAnyH_ready (rs := [9, 16]) (by kernel_rfl) (by simp) ?_
        refine (AllReadyH.cons (o := ⟨some 26, _, _, _, _, _⟩) rfl (fun K hK => ?_) (AllReadyH.cons (o := ⟨some 7, _, _, _, _, _⟩) rfl (fun K hK => ?_) AllReadyH.nil))
        · clear hHeld
          go_simp
          refine hK.out _ _ ⟨c0, c1, c2⟩ (fun hHeld => ?_)
          clear hK K
          (try simp only [Act.put, List.setIfInBounds_toArray, List.set_cons_zero, List.set_cons_succ])
          refine wpAnyH_take (i := 10) (oi := ⟨some 27, _, _, _, _, _⟩) (v := ?v9) rfl (by kernel_rfl) (by kernel_rfl) (by kernel_rfl) (fun _ _ _ h => h) (Or.inl ⟨by rfl, ?h9⟩) (by assumption) ?r9
          case h9 => (intro w hSw; (try dsimp only at hSw); go_simp <;> with_reducible rfl)
          (try simp only [Act.put, List.setIfInBounds_toArray, List.set_cons_zero, List.set_cons_succ])
          refine wpAnyH_take (i := 11) (oi := ⟨some 28, _, _, _, _, _⟩) (v := ?v10) rfl (by kernel_rfl) (by kernel_rfl) (by kernel_rfl) (fun _ _ _ h => h) (Or.inl ⟨by rfl, ?h10⟩) (by assumption) ?r10
          case h10 => (intro w hSw; (try dsimp only at hSw); go_simp <;> with_reducible rfl)
          (try simp only [Act.put, List.setIfInBounds_toArray, List.set_cons_zero, List.set_cons_succ])
          refine wpAnyH_ready (rs := [12, 16]) (by kernel_rfl) (by simp) ?_
          refine (AllReadyH.cons (o := ⟨some 29, _, _, _, _, _⟩) rfl (fun K hK => ?_) (AllReadyH.cons (o := ⟨some 7, _, _, _, _, _⟩) rfl (fun K hK => ?_) AllReadyH.nil))
          · go_simp
            clear hHeld
            refine (unhide HAP1 _ _ _ _ HC.out).mono ?_
            rintro e V3 ⟨su, pu, au, rfl, hcN, hbN⟩
            replace y0 := (hbN.frozen (p := ⟨cb, 0, none⟩) (cell_in c0)).trans y0
            replace y1 := (hbN.frozen (p := ⟨cb, 1, none⟩) (cell_in c1)).trans y1
            replace y2 := (hbN.frozen (p := ⟨cb, 2, none⟩) (cell_in c2)).trans y2
            replace x0 := (hbN.frozen (p := ⟨w.heap.size, 0, none⟩) (cell_in r0)).trans x0
            replace x1 := (hbN.frozen (p := ⟨w.heap.size, 1, none⟩) (cell_in r1)).trans x1
            replace x2 := (hbN.frozen (p := ⟨w.heap.size, 2, none⟩) (cell_in r2)).trans x2
            replace c0 := cell_beh c0 hbN (Nat.le_refl _)
            replace c1 := cell_beh c1 hbN (Nat.le_refl _)
            replace c2 := cell_beh c2 hbN (Nat.le_refl _)
            replace r0 := cell_beh r0 hbN (Nat.le_refl _)
            replace r1 := cell_beh r1 hbN (Nat.le_refl _)
            replace r2 := cell_beh r2 hbN (Nat.le_refl _)
            replace ag := cell_beh ag hbN (Nat.le_refl _)
            replace HC := hide (HC.out.below hbN (Nat.le_refl _))
            replace k0 := k0.trans (hbN.mono k0.size)
            have HN := hide hcN
            clear hcN hbN
            obtain ⟨t1, t2, rfl⟩ := HN.out.1.slice
            obtain ⟨t3, t4, rfl⟩ := HN.out.2.1.slice
            obtain ⟨t5, t6, rfl⟩ := HN.out.2.2.slice
            go_wp2_with fail
            refine hK.out _ _ ⟨c0, c1, c2⟩ (fun hHeld => ?_)
            clear hK K
            (try simp only [Act.put, List.setIfInBounds_toArray, List.set_cons_zero, List.set_cons_succ])
            refine wpAnyH_take (i := 13) (oi := ⟨some 16, _, _, _, _, _⟩) (v := ?v11) rfl (by kernel_rfl) (by kernel_rfl) (by kernel_rfl) (fun _ _ _ h => h) (Or.inl ⟨by rfl, ?h11⟩) (by assumption) ?r11
            case h11 => (intro w hSw; (try dsimp only at hSw); go_simp <;> with_reducible rfl)
            (try simp only [Act.put, List.setIfInBounds_toArray, List.set_cons_zero, List.set_cons_succ])
            refine wpAnyH_take (i := 14) (oi := ⟨some 30, _, _, _, _, _⟩) (v := ?v12) rfl (by kernel_rfl) (by kernel_rfl) (by kernel_rfl) (fun _ _ _ h => h) (Or.inl ⟨by rfl, ?h12⟩) (by assumption) ?r12
            case h12 => (intro w hSw; (try dsimp only at hSw); go_simp <;> with_reducible rfl)
            (try simp only [Act.put, List.setIfInBounds_toArray, List.set_cons_zero, List.set_cons_succ])
            refine wpAnyH_take (i := 15) (oi := ⟨some 31, _, _, _, _, _⟩) (v := ?v13) rfl (by kernel_rfl) (by kernel_rfl) (by kernel_rfl) (fun _ _ _ h => h) (Or.inl ⟨by rfl, ?h13⟩) (by assumption) ?r13
            case h13 => (intro w hSw; (try dsimp only at hSw); go_simp <;> with_reducible rfl)
            (try simp only [Act.put, List.setIfInBounds_toArray, List.set_cons_zero, List.set_cons_succ])
            refine wpAnyH_ready (rs := [16]) (by kernel_rfl) (by simp) ?_
            refine (AllReadyH.cons (o := ⟨some 7, _, _, _, _, _⟩) rfl (fun K hK => ?_) AllReadyH.nil)
            go_simp
            clear hHeld
            obtain ⟨V4, hV⟩ : ∃ V4, V4 = V3.alloc (.cells #[.slice none 0 0, .slice none 0 0, .slice none 0 0] 29) := ⟨_, rfl⟩
            obtain ⟨db, hdb⟩ : ∃ db, db = V3.heap.size := ⟨_, rfl⟩
            have hbN : Below V3.heap.size V3 V4 := by rw [hV]; exact (Below.refl _ _).alloc (Nat.le_refl _) _
            have d0 : V4.cell? ⟨db, 0, none⟩ = some (.slice none 0 0) := by rw [hV, hdb]; exact new_cell V3 _ rfl _ _ _ _ rfl
            have d1 : V4.cell? ⟨db, 1, none⟩ = some (.slice none 0 0) := by rw [hV, hdb]; exact new_cell V3 _ rfl _ _ _ _ rfl
            have d2 : V4.cell? ⟨db, 2, none⟩ = some (.slice none 0 0) := by rw [hV, hdb]; exact new_cell V3 _ rfl _ _ _ _ rfl
            have z0 : V4.frozen? ⟨db, 0, none⟩ = false := by rw [hV, hdb]; exact new_frozen V3 _ rfl _ _ _
            have z1 : V4.frozen? ⟨db, 1, none⟩ = false := by rw [hV, hdb]; exact new_frozen V3 _ rfl _ _ _
            have z2 : V4.frozen? ⟨db, 2, none⟩ = false := by rw [hV, hdb]; exact new_frozen V3 _ rfl _ _ _
            have hcd : cb < db := by rw [hdb]; exact cell_in c0
            have hwd : w.heap.size ≤ db := by rw [hdb]; exact k0.size
            replace y0 := (hbN.frozen (p := ⟨cb, 0, none⟩) (cell_in c0)).trans y0
            replace y1 := (hbN.frozen (p := ⟨cb, 1, none⟩) (cell_in c1)).trans y1
            replace y2 := (hbN.frozen (p := ⟨cb, 2, none⟩) (cell_in c2)).trans y2
            replace x0 := (hbN.frozen (p := ⟨w.heap.size, 0, none⟩) (cell_in r0)).trans x0
            replace x1 := (hbN.frozen (p := ⟨w.heap.size, 1, none⟩) (cell_in r1)).trans x1
            replace x2 := (hbN.frozen (p := ⟨w.heap.size, 2, none⟩) (cell_in r2)).trans x2
            replace c0 := cell_beh c0 hbN (Nat.le_refl _)
            replace c1 := cell_beh c1 hbN (Nat.le_refl _)
            replace c2 := cell_beh c2 hbN (Nat.le_refl _)
            replace r0 := cell_beh r0 hbN (Nat.le_refl _)
            replace r1 := cell_beh r1 hbN (Nat.le_refl _)
            replace r2 := cell_beh r2 hbN (Nat.le_refl _)
            replace ag := cell_beh ag hbN (Nat.le_refl _)
            replace HC := hide (HC.out.below hbN (Nat.le_refl _))
            replace HN := hide (HN.out.below hbN (Nat.le_refl _))
            replace k0 := k0.trans (hbN.mono k0.size)
            rw [← hV, ← hdb]
            clear hV hdb hbN
            refine hK.out _ _ ⟨c0, c1, c2⟩ (fun hHeld => ?_)
            clear hK K
            (try simp only [Act.put, List.setIfInBounds_toArray, List.set_cons_zero, List.set_cons_succ])
            refine wpAnyH_ready (rs := [17]) (by kernel_rfl) (by simp) ?_
            refine (AllReadyH.cons (o := ⟨none, _, _, _, _, _⟩) rfl (fun K hK => ?_) AllReadyH.nil)
            have hne1 : ¬ cb = db := by omega
            have hne2 : ¬ db = cb := by omega
            go_simp
            clear hHeld
            obtain ⟨e0, e1, e2⟩ := set3 d0 d1 d2 (.slice t1 T'.length t2) (.slice t3 0 t4) (.slice t5 0 t6)
            replace HC := hide (((HC.out.set_box d0 (.slice t1 T'.length t2)).set_box ((World.cell?_setCell_other _ _ _ _ (by simp)).trans d1) (.slice t3 0 t4)).set_box ((World.cell?_setCell_other _ _ _ _ (by simp)).trans ((World.cell?_setCell_other _ _ _ _ (by simp)).trans d2)) (.slice t5 0 t6))
            replace HN := hide (((HN.out.set_box d0 (.slice t1 T'.length t2)).set_box ((World.cell?_setCell_other _ _ _ _ (by simp)).trans d1) (.slice t3 0 t4)).set_box ((World.cell?_setCell_other _ _ _ _ (by simp)).trans ((World.cell?_setCell_other _ _ _ _ (by simp)).trans d2)) (.slice t5 0 t6))
            replace k0 := ((k0.setCell (p := ⟨db, 0, none⟩) (by show _ ≤ db; omega) (.slice t1 T'.length t2)).setCell (p := ⟨db, 1, none⟩) (by show _ ≤ db; omega) (.slice t3 0 t4)).setCell (p := ⟨db, 2, none⟩) (by show _ ≤ db; omega) (.slice t5 0 t6)
            replace c0 : (((V4.setCell ⟨db, 0, none⟩ (.slice t1 T'.length t2)).setCell ⟨db, 1, none⟩ (.slice t3 0 t4)).setCell ⟨db, 2, none⟩ (.slice t5 0 t6)).cell? ⟨cb, 0, none⟩ = some _ := ((World.cell?_setCell_other _ _ _ _ (by simp <;> omega)).trans ((World.cell?_setCell_other _ _ _ _ (by simp <;> omega)).trans ((World.cell?_setCell_other _ _ _ _ (by simp <;> omega)).trans c0)))
            replace c1 : (((V4.setCell ⟨db, 0, none⟩ (.slice t1 T'.length t2)).setCell ⟨db, 1, none⟩ (.slice t3 0 t4)).setCell ⟨db, 2, none⟩ (.slice t5 0 t6)).cell? ⟨cb, 1, none⟩ = some _ := ((World.cell?_setCell_other _ _ _ _ (by simp <;> omega)).trans ((World.cell?_setCell_other _ _ _ _ (by simp <;> omega)).trans ((World.cell?_setCell_other _ _ _ _ (by simp <;> omega)).trans c1)))
            replace c2 : (((V4.setCell ⟨db, 0, none⟩ (.slice t1 T'.length t2)).setCell ⟨db, 1, none⟩ (.slice t3 0 t4)).setCell ⟨db, 2, none⟩ (.slice t5 0 t6)).cell? ⟨cb, 2, none⟩ = some _ := ((World.cell?_setCell_other _ _ _ _ (by simp <;> omega)).trans ((World.cell?_setCell_other _ _ _ _ (by simp <;> omega)).trans ((World.cell?_setCell_other _ _ _ _ (by simp <;> omega)).trans c2)))
            replace r0 : (((V4.setCell ⟨db, 0, none⟩ (.slice t1 T'.length t2)).setCell ⟨db, 1, none⟩ (.slice t3 0 t4)).setCell ⟨db, 2, none⟩ (.slice t5 0 t6)).cell? ⟨w.heap.size, 0, none⟩ = some _ := ((World.cell?_setCell_other _ _ _ _ (by simp <;> omega)).trans ((World.cell?_setCell_other _ _ _ _ (by simp <;> omega)).trans ((World.cell?_setCell_other _ _ _ _ (by simp <;> omega)).trans r0)))
            replace r1 : (((V4.setCell ⟨db, 0, none⟩ (.slice t1 T'.length t2)).setCell ⟨db, 1, none⟩ (.slice t3 0 t4)).setCell ⟨db, 2, none⟩ (.slice t5 0 t6)).cell? ⟨w.heap.size, 1, none⟩ = some _ := ((World.cell?_setCell_other _ _ _ _ (by simp <;> omega)).trans ((World.cell?_setCell_other _ _ _ _ (by simp <;> omega)).trans ((World.cell?_setCell_other _ _ _ _ (by simp <;> omega)).trans r1)))
            replace r2 : (((V4.setCell ⟨db, 0, none⟩ (.slice t1 T'.length t2)).setCell ⟨db, 1, none⟩ (.slice t3 0 t4)).setCell ⟨db, 2, none⟩ (.slice t5 0 t6)).cell? ⟨w.heap.size, 2, none⟩ = some _ := ((World.cell?_setCell_other _ _ _ _ (by simp <;> omega)).trans ((World.cell?_setCell_other _ _ _ _ (by simp <;> omega)).trans ((World.cell?_setCell_other _ _ _ _ (by simp <;> omega)).trans r2)))
            clear ag
            replace y0 : (((V4.setCell ⟨db, 0, none⟩ (.slice t1 T'.length t2)).setCell ⟨db, 1, none⟩ (.slice t3 0 t4)).setCell ⟨db, 2, none⟩ (.slice t5 0 t6)).frozen? ⟨cb, 0, none⟩ = false := by rw [World.frozen?_setCell, World.frozen?_setCell, World.frozen?_setCell]; exact y0
            replace y1 : (((V4.setCell ⟨db, 0, none⟩ (.slice t1 T'.length t2)).setCell ⟨db, 1, none⟩ (.slice t3 0 t4)).setCell ⟨db, 2, none⟩ (.slice t5 0 t6)).frozen? ⟨cb, 1, none⟩ = false := by rw [World.frozen?_setCell, World.frozen?_setCell, World.frozen?_setCell]; exact y1
            replace y2 : (((V4.setCell ⟨db, 0, none⟩ (.slice t1 T'.length t2)).setCell ⟨db, 1, none⟩ (.slice t3 0 t4)).setCell ⟨db, 2, none⟩ (.slice t5 0 t6)).frozen? ⟨cb, 2, none⟩ = false := by rw [World.frozen?_setCell, World.frozen?_setCell, World.frozen?_setCell]; exact y2
            replace x0 : (((V4.setCell ⟨db, 0, none⟩ (.slice t1 T'.length t2)).setCell ⟨db, 1, none⟩ (.slice t3 0 t4)).setCell ⟨db, 2, none⟩ (.slice t5 0 t6)).frozen? ⟨w.heap.size, 0, none⟩ = false := by rw [World.frozen?_setCell, World.frozen?_setCell, World.frozen?_setCell]; exact x0
            replace x1 : (((V4.setCell ⟨db, 0, none⟩ (.slice t1 T'.length t2)).setCell ⟨db, 1, none⟩ (.slice t3 0 t4)).setCell ⟨db, 2, none⟩ (.slice t5 0 t6)).frozen? ⟨w.heap.size, 1, none⟩ = false := by rw [World.frozen?_setCell, World.frozen?_setCell, World.frozen?_setCell]; exact x1
            replace x2 : (((V4.setCell ⟨db, 0, none⟩ (.slice t1 T'.length t2)).setCell ⟨db, 1, none⟩ (.slice t3 0 t4)).setCell ⟨db, 2, none⟩ (.slice t5 0 t6)).frozen? ⟨w.heap.size, 2, none⟩ = false := by rw [World.frozen?_setCell, World.frozen?_setCell, World.frozen?_setCell]; exact x2
            clear d0 d1 d2 z0 z1 z2
            have d0 := e0
            have d1 := e1
            have d2 := e2
            clear e0 e1 e2
            generalize (((V4.setCell ⟨db, 0, none⟩ (.slice t1 T'.length t2)).setCell ⟨db, 1, none⟩ (.slice t3 0 t4)).setCell ⟨db, 2, none⟩ (.slice t5 0 t6)) = V at *
            refine hK.out _ _ ⟨c0, c1, c2⟩ (fun hHeld => ?_)
            clear hK K
            (try simp only [Act.put, List.setIfInBounds_toArray, List.set_cons_zero, List.set_cons_succ])
            refine wpAnyH_take (i := 18) (oi := ⟨some 8, _, _, _, _, _⟩) (v := ?v14) rfl (by kernel_rfl) (by kernel_rfl) (by kernel_rfl) (fun _ _ _ h => h) (Or.inl ⟨by rfl, ?h14⟩) (by assumption) ?r14
            case h14 => (intro w hSw; (try dsimp only at hSw); go_simp <;> with_reducible rfl)
            (try simp only [Act.put, List.setIfInBounds_toArray, List.set_cons_zero, List.set_cons_succ])
            refine wpAnyH_done (by kernel_rfl) ?_ _
            clear hHeld
            go_wp2_with fail
            obtain ⟨v0, v1, v2⟩ := set3 c0 c1 c2 (.slice t1 T'.length t2) (.slice t3 0 t4) (.slice t5 0 t6)
            go_roundw
            case rel => exact ⟨k + 1, T', _, _, _, by omega, by go_num, v0, v1, v2, (by rw [World.frozen?_setCell, World.frozen?_setCell, World.frozen?_setCell]; exact y0), (by rw [World.frozen?_setCell, World.frozen?_setCell, World.frozen?_setCell]; exact y1), (by rw [World.frozen?_setCell, World.frozen?_setCell, World.frozen?_setCell]; exact y2), (World.cell?_setCell_other _ _ _ _ (by simp <;> omega)).trans ((World.cell?_setCell_other _ _ _ _ (by simp <;> omega)).trans ((World.cell?_setCell_other _ _ _ _ (by simp <;> omega)).trans r0)), (by rw [World.frozen?_setCell, World.frozen?_setCell, World.frozen?_setCell]; exact x0), (World.cell?_setCell_other _ _ _ _ (by simp <;> omega)).trans ((World.cell?_setCell_other _ _ _ _ (by simp <;> omega)).trans ((World.cell?_setCell_other _ _ _ _ (by simp <;> omega)).trans r1)), (by rw [World.frozen?_setCell, World.frozen?_setCell, World.frozen?_setCell]; exact x1), (World.cell?_setCell_other _ _ _ _ (by simp <;> omega)).trans ((World.cell?_setCell_other _ _ _ _ (by simp <;> omega)).trans ((World.cell?_setCell_other _ _ _ _ (by simp <;> omega)).trans r2)), (by rw [World.frozen?_setCell, World.frozen?_setCell, World.frozen?_setCell]; exact x2), HT1, hide (((HN.out.set_box c0 _).set_box ((World.cell?_setCell_other _ _ _ _ (by simp)).trans c1) _).set_box ((World.cell?_setCell_other _ _ _ _ (by simp)).trans ((World.cell?_setCell_other _ _ _ _ (by simp)).trans c2)) _), ((k0.setCell (p := ⟨cb, 0, none⟩) (by show _ ≤ cb; omega) _).setCell (p := ⟨cb, 1, none⟩) (by show _ ≤ cb; omega) _).setCell (p := ⟨cb, 2, none⟩) (by show _ ≤ cb; omega) _⟩
            case measure => simp [intOf]; omega
          · go_simp
            clear hHeld
            obtain ⟨V3, hV⟩ : ∃ V3, V3 = V1.alloc (.cells #[.slice none 0 0, .slice none 0 0, .slice none 0 0] 29) := ⟨_, rfl⟩
            obtain ⟨db, hdb⟩ : ∃ db, db = V1.heap.size := ⟨_, rfl⟩
            have hbN : Below V1.heap.size V1 V3 := by rw [hV]; exact (Below.refl _ _).alloc (Nat.le_refl _) _
            have d0 : V3.cell? ⟨db, 0, none⟩ = some (.slice none 0 0) := by rw [hV, hdb]; exact new_cell V1 _ rfl _ _ _ _ rfl
            have d1 : V3.cell? ⟨db, 1, none⟩ = some (.slice none 0 0) := by rw [hV, hdb]; exact new_cell V1 _ rfl _ _ _ _ rfl
            have d2 : V3.cell? ⟨db, 2, none⟩ = some (.slice none 0 0) := by rw [hV, hdb]; exact new_cell V1 _ rfl _ _ _ _ rfl
            have z0 : V3.frozen? ⟨db, 0, none⟩ = false := by rw [hV, hdb]; exact new_frozen V1 _ rfl _ _ _
            have z1 : V3.frozen? ⟨db, 1, none⟩ = false := by rw [hV, hdb]; exact new_frozen V1 _ rfl _ _ _
            have z2 : V3.frozen? ⟨db, 2, none⟩ = false := by rw [hV, hdb]; exact new_frozen V1 _ rfl _ _ _
            have hcd : cb < db := by rw [hdb]; exact cell_in c0
            have hwd : w.heap.size ≤ db := by rw [hdb]; exact k0.size
            replace y0 := (hbN.frozen (p := ⟨cb, 0, none⟩) (cell_in c0)).trans y0
            replace y1 := (hbN.frozen (p := ⟨cb, 1, none⟩) (cell_in c1)).trans y1
            replace y2 := (hbN.frozen (p := ⟨cb, 2, none⟩) (cell_in c2)).trans y2
            replace x0 := (hbN.frozen (p := ⟨w.heap.size, 0, none⟩) (cell_in r0)).trans x0
            replace x1 := (hbN.frozen (p := ⟨w.heap.size, 1, none⟩) (cell_in r1)).trans x1
            replace x2 := (hbN.frozen (p := ⟨w.heap.size, 2, none⟩) (cell_in r2)).trans x2
            replace c0 := cell_beh c0 hbN (Nat.le_refl _)
            replace c1 := cell_beh c1 hbN (Nat.le_refl _)
            replace c2 := cell_beh c2 hbN (Nat.le_refl _)
            replace r0 := cell_beh r0 hbN (Nat.le_refl _)
            replace r1 := cell_beh r1 hbN (Nat.le_refl _)
            replace r2 := cell_beh r2 hbN (Nat.le_refl _)
            replace ag := cell_beh ag hbN (Nat.le_refl _)
            replace HC := hide (HC.out.below hbN (Nat.le_refl _))
            replace k0 := k0.trans (hbN.mono k0.size)
            rw [← hV, ← hdb]
            clear hV hdb hbN
            refine hK.out _ _ ⟨c0, c1, c2⟩ (fun hHeld => ?_)
            clear hK K
            (try simp only [Act.put, List.setIfInBounds_toArray, List.set_cons_zero, List.set_cons_succ])
            refine wpAnyH_ready (rs := [12]) (by kernel_rfl) (by simp) ?_
            refine (AllReadyH.cons (o := ⟨some 29, _, _, _, _, _⟩) rfl (fun K hK => ?_) AllReadyH.nil)
            go_simp
            clear hHeld
            refine (unhide HAP1 _ _ _ _ HC.out).mono ?_
            rintro e V4 ⟨su, pu, au, rfl, hcN, hbN⟩
            replace y0 := (hbN.frozen (p := ⟨cb, 0, none⟩) (cell_in c0)).trans y0
            replace y1 := (hbN.frozen (p := ⟨cb, 1, none⟩) (cell_in c1)).trans y1
            replace y2 := (hbN.frozen (p := ⟨cb, 2, none⟩) (cell_in c2)).trans y2
            replace x0 := (hbN.frozen (p := ⟨w.heap.size, 0, none⟩) (cell_in r0)).trans x0
            replace x1 := (hbN.frozen (p := ⟨w.heap.size, 1, none⟩) (cell_in r1)).trans x1
            replace x2 := (hbN.frozen (p := ⟨w.heap.size, 2, none⟩) (cell_in r2)).trans x2
            replace z0 := (hbN.frozen (p := ⟨db, 0, none⟩) (cell_in d0)).trans z0
            replace z1 := (hbN.frozen (p := ⟨db, 1, none⟩) (cell_in d1)).trans z1
            replace z2 := (hbN.frozen (p := ⟨db, 2, none⟩) (cell_in d2)).trans z2
            replace c0 := cell_beh c0 hbN (Nat.le_refl _)
            replace c1 := cell_beh c1 hbN (Nat.le_refl _)
            replace c2 := cell_beh c2 hbN (Nat.le_refl _)
            replace r0 := cell_beh r0 hbN (Nat.le_refl _)
            replace r1 := cell_beh r1 hbN (Nat.le_refl _)
            replace r2 := cell_beh r2 hbN (Nat.le_refl _)
            replace ag := cell_beh ag hbN (Nat.le_refl _)
            replace d0 := cell_beh d0 hbN (Nat.le_refl _)
            replace d1 := cell_beh d1 hbN (Nat.le_refl _)
            replace d2 := cell_beh d2 hbN (Nat.le_refl _)
            replace HC := hide (HC.out.below hbN (Nat.le_refl _))
            replace k0 := k0.trans (hbN.mono k0.size)
            have HN := hide hcN
            clear hcN hbN
            obtain ⟨t1, t2, rfl⟩ := HN.out.1.slice
            obtain ⟨t3, t4, rfl⟩ := HN.out.2.1.slice
            obtain ⟨t5, t6, rfl⟩ := HN.out.2.2.slice
            go_wp2_with fail
            refine hK.out _ _ ⟨c0, c1, c2⟩ (fun hHeld => ?_)
            clear hK K
            (try simp only [Act.put, List.setIfInBounds_toArray, List.set_cons_zero, List.set_cons_succ])
            refine wpAnyH_take (i := 13) (oi := ⟨some 16, _, _, _, _, _⟩) (v := ?v15) rfl (by kernel_rfl) (by kernel_rfl) (by kernel_rfl) (fun _ _ _ h => h) (Or.inl ⟨by rfl, ?h15⟩) (by assumption) ?r15
            case h15 => (intro w hSw; (try dsimp only at hSw); go_simp <;> with_reducible rfl)
            (try simp only [Act.put, List.setIfInBounds_toArray, List.set_cons_zero, List.set_cons_succ])
            refine wpAnyH_take (i := 14) (oi := ⟨some 30, _, _, _, _, _⟩) (v := ?v16) rfl (by kernel_rfl) (by kernel_rfl) (by kernel_rfl) (fun _ _ _ h => h) (Or.inl ⟨by rfl, ?h16⟩) (by assumption) ?r16
            case h16 => (intro w hSw; (try dsimp only at hSw); go_simp <;> with_reducible rfl)
            (try simp only [Act.put, List.setIfInBounds_toArray, List.set_cons_zero, List.set_cons_succ])
            refine wpAnyH_take (i := 15) (oi := ⟨some 31, _, _, _, _, _⟩) (v := ?v17) rfl (by kernel_rfl) (by kernel_rfl) (by kernel_rfl) (fun _ _ _ h => h) (Or.inl ⟨by rfl, ?h17⟩) (by assumption) ?r17
            case h17 => (intro w hSw; (try dsimp only at hSw); go_simp <;> with_reducible rfl)
            (try simp only [Act.put, List.setIfInBounds_toArray, List.set_cons_zero, List.set_cons_succ])
            refine wpAnyH_ready (rs := [17]) (by kernel_rfl) (by simp) ?_
            refine (AllReadyH.cons (o := ⟨none, _, _, _, _, _⟩) rfl (fun K hK => ?_) AllReadyH.nil)
            have hne1 : ¬ cb = db := by omega
            have hne2 : ¬ db = cb := by omega
            go_simp
            clear hHeld
            obtain ⟨e0, e1, e2⟩ := set3 d0 d1 d2 (.slice t1 T'.length t2) (.slice t3 0 t4) (.slice t5 0 t6)
            replace HC := hide (((HC.out.set_box d0 (.slice t1 T'.length t2)).set_box ((World.cell?_setCell_other _ _ _ _ (by simp)).trans d1) (.slice t3 0 t4)).set_box ((World.cell?_setCell_other _ _ _ _ (by simp)).trans ((World.cell?_setCell_other _ _ _ _ (by simp)).trans d2)) (.slice t5 0 t6))
            replace HN := hide (((HN.out.set_box d0 (.slice t1 T'.length t2)).set_box ((World.cell?_setCell_other _ _ _ _ (by simp)).trans d1) (.slice t3 0 t4)).set_box ((World.cell?_setCell_other _ _ _ _ (by simp)).trans ((World.cell?_setCell_other _ _ _ _ (by simp)).trans d2)) (.slice t5 0 t6))
            replace k0 := ((k0.setCell (p := ⟨db, 0, none⟩) (by show _ ≤ db; omega) (.slice t1 T'.length t2)).setCell (p := ⟨db, 1, none⟩) (by show _ ≤ db; omega) (.slice t3 0 t4)).setCell (p := ⟨db, 2, none⟩) (by show _ ≤ db; omega) (.slice t5 0 t6)
            replace c0 : (((V4.setCell ⟨db, 0, none⟩ (.slice t1 T'.length t2)).setCell ⟨db, 1, none⟩ (.slice t3 0 t4)).setCell ⟨db, 2, none⟩ (.slice t5 0 t6)).cell? ⟨cb, 0, none⟩ = some _ := ((World.cell?_setCell_other _ _ _ _ (by simp <;> omega)).trans ((World.cell?_setCell_other _ _ _ _ (by simp <;> omega)).trans ((World.cell?_setCell_other _ _ _ _ (by simp <;> omega)).trans c0)))
            replace c1 : (((V4.setCell ⟨db, 0, none⟩ (.slice t1 T'.length t2)).setCell ⟨db, 1, none⟩ (.slice t3 0 t4)).setCell ⟨db, 2, none⟩ (.slice t5 0 t6)).cell? ⟨cb, 1, none⟩ = some _ := ((World.cell?_setCell_other _ _ _ _ (by simp <;> omega)).trans ((World.cell?_setCell_other _ _ _ _ (by simp <;> omega)).trans ((World.cell?_setCell_other _ _ _ _ (by simp <;> omega)).trans c1)))
            replace c2 : (((V4.setCell ⟨db, 0, none⟩ (.slice t1 T'.length t2)).setCell ⟨db, 1, none⟩ (.slice t3 0 t4)).setCell ⟨db, 2, none⟩ (.slice t5 0 t6)).cell? ⟨cb, 2, none⟩ = some _ := ((World.cell?_setCell_other _ _ _ _ (by simp <;> omega)).trans ((World.cell?_setCell_other _ _ _ _ (by simp <;> omega)).trans ((World.cell?_setCell_other _ _ _ _ (by simp <;> omega)).trans c2)))
            replace r0 : (((V4.setCell ⟨db, 0, none⟩ (.slice t1 T'.length t2)).setCell ⟨db, 1, none⟩ (.slice t3 0 t4)).setCell ⟨db, 2, none⟩ (.slice t5 0 t6)).cell? ⟨w.heap.size, 0, none⟩ = some _ := ((World.cell?_setCell_other _ _ _ _ (by simp <;> omega)).trans ((World.cell?_setCell_other _ _ _ _ (by simp <;> omega)).trans ((World.cell?_setCell_other _ _ _ _ (by simp <;> omega)).trans r0)))
            replace r1 : (((V4.setCell ⟨db, 0, none⟩ (.slice t1 T'.length t2)).setCell ⟨db, 1, none⟩ (.slice t3 0 t4)).setCell ⟨db, 2, none⟩ (.slice t5 0 t6)).cell? ⟨w.heap.size, 1, none⟩ = some _ := ((World.cell?_setCell_other _ _ _ _ (by simp <;> omega)).trans ((World.cell?_setCell_other _ _ _ _ (by simp <;> omega)).trans ((World.cell?_setCell_other _ _ _ _ (by simp <;> omega)).trans r1)))
            replace r2 : (((V4.setCell ⟨db, 0, none⟩ (.slice t1 T'.length t2)).setCell ⟨db, 1, none⟩ (.slice t3 0 t4)).setCell ⟨db, 2, none⟩ (.slice t5 0 t6)).cell? ⟨w.heap.size, 2, none⟩ = some _ := ((World.cell?_setCell_other _ _ _ _ (by simp <;> omega)).trans ((World.cell?_setCell_other _ _ _ _ (by simp <;> omega)).trans ((World.cell?_setCell_other _ _ _ _ (by simp <;> omega)).trans r2)))
            clear ag
            replace y0 : (((V4.setCell ⟨db, 0, none⟩ (.slice t1 T'.length t2)).setCell ⟨db, 1, none⟩ (.slice t3 0 t4)).setCell ⟨db, 2, none⟩ (.slice t5 0 t6)).frozen? ⟨cb, 0, none⟩ = false := by rw [World.frozen?_setCell, World.frozen?_setCell, World.frozen?_setCell]; exact y0
            replace y1 : (((V4.setCell ⟨db, 0, none⟩ (.slice t1 T'.length t2)).setCell ⟨db, 1, none⟩ (.slice t3 0 t4)).setCell ⟨db, 2, none⟩ (.slice t5 0 t6)).frozen? ⟨cb, 1, none⟩ = false := by rw [World.frozen?_setCell, World.frozen?_setCell, World.frozen?_setCell]; exact y1
            replace y2 : (((V4.setCell ⟨db, 0, none⟩ (.slice t1 T'.length t2)).setCell ⟨db, 1, none⟩ (.slice t3 0 t4)).setCell ⟨db, 2, none⟩ (.slice t5 0 t6)).frozen? ⟨cb, 2, none⟩ = false := by rw [World.frozen?_setCell, World.frozen?_setCell, World.frozen?_setCell]; exact y2
            replace x0 : (((V4.setCell ⟨db, 0, none⟩ (.slice t1 T'.length t2)).setCell ⟨db, 1, none⟩ (.slice t3 0 t4)).setCell ⟨db, 2, none⟩ (.slice t5 0 t6)).frozen? ⟨w.heap.size, 0, none⟩ = false := by rw [World.frozen?_setCell, World.frozen?_setCell, World.frozen?_setCell]; exact x0
            replace x1 : (((V4.setCell ⟨db, 0, none⟩ (.slice t1 T'.length t2)).setCell ⟨db, 1, none⟩ (.slice t3 0 t4)).setCell ⟨db, 2, none⟩ (.slice t5 0 t6)).frozen? ⟨w.heap.size, 1, none⟩ = false := by rw [World.frozen?_setCell, World.frozen?_setCell, World.frozen?_setCell]; exact x1
            replace x2 : (((V4.setCell ⟨db, 0, none⟩ (.slice t1 T'.length t2)).setCell ⟨db, 1, none⟩ (.slice t3 0 t4)).setCell ⟨db, 2, none⟩ (.slice t5 0 t6)).frozen? ⟨w.heap.size, 2, none⟩ = false := by rw [World.frozen?_setCell, World.frozen?_setCell, World.frozen?_setCell]; exact x2
            clear d0 d1 d2 z0 z1 z2
            have d0 := e0
            have d1 := e1
            have d2 := e2
            clear e0 e1 e2
            generalize (((V4.setCell ⟨db, 0, none⟩ (.slice t1 T'.length t2)).setCell ⟨db, 1, none⟩ (.slice t3 0 t4)).setCell ⟨db, 2, none⟩ (.slice t5 0 t6)) = V at *
            refine hK.out _ _ ⟨c0, c1, c2⟩ (fun hHeld => ?_)
            clear hK K
            (try simp only [Act.put, List.setIfInBounds_toArray, List.set_cons_zero, List.set_cons_succ])
            refine wpAnyH_take (i := 18) (oi := ⟨some 8, _, _, _, _, _⟩) (v := ?v18) rfl (by kernel_rfl) (by kernel_rfl) (by kernel_rfl) (fun _ _ _ h => h) (Or.inl ⟨by rfl, ?h18⟩) (by assumption) ?r18
            case h18 => (intro w hSw; (try dsimp only at hSw); go_simp <;> with_reducible rfl)
            (try simp only [Act.put, List.setIfInBounds_toArray, List.set_cons_zero, List.set_cons_succ])
            refine wpAnyH_done (by kernel_rfl) ?_ _
            clear hHeld
            go_wp2_with fail
            obtain ⟨v0, v1, v2⟩ := set3 c0 c1 c2 (.slice t1 T'.length t2) (.slice t3 0 t4) (.slice t5 0 t6)
            go_roundw
            case rel => exact ⟨k + 1, T', _, _, _, by omega, by go_num, v0, v1, v2, (by rw [World.frozen?_setCell, World.frozen?_setCell, World.frozen?_setCell]; exact y0), (by rw [World.frozen?_setCell, World.frozen?_setCell, World.frozen?_setCell]; exact y1), (by rw [World.frozen?_setCell, World.frozen?_setCell, World.frozen?_setCell]; exact y2), (World.cell?_setCell_other _ _ _ _ (by simp <;> omega)).trans ((World.cell?_setCell_other _ _ _ _ (by simp <;> omega)).trans ((World.cell?_setCell_other _ _ _ _ (by simp <;> omega)).trans r0)), (by rw [World.frozen?_setCell, World.frozen?_setCell, World.frozen?_setCell]; exact x0), (World.cell?_setCell_other _ _ _ _ (by simp <;> omega)).trans ((World.cell?_setCell_other _ _ _ _ (by simp <;> omega)).trans ((World.cell?_setCell_other _ _ _ _ (by simp <;> omega)).trans r1)), (by rw [World.frozen?_setCell, World.frozen?_setCell, World.frozen?_setCell]; exact x1), (World.cell?_setCell_other _ _ _ _ (by simp <;> omega)).trans ((World.cell?_setCell_other _ _ _ _ (by simp <;> omega)).trans ((World.cell?_setCell_other _ _ _ _ (by simp <;> omega)).trans r2)), (by rw [World.frozen?_setCell, World.frozen?_setCell, World.frozen?_setCell]; exact x2), HT1, hide (((HN.out.set_box c0 _).set_box ((World.cell?_setCell_other _ _ _ _ (by simp)).trans c1) _).set_box ((World.cell?_setCell_other _ _ _ _ (by simp)).trans ((World.cell?_setCell_other _ _ _ _ (by simp)).trans c2)) _), ((k0.setCell (p := ⟨cb, 0, none⟩) (by show _ ≤ cb; omega) _).setCell (p := ⟨cb, 1, none⟩) (by show _ ≤ cb; omega) _).setCell (p := ⟨cb, 2, none⟩) (by show _ ≤ cb; omega) _⟩
            case measure => simp [intOf]; omega
        · go_simp
          clear hHeld
          obtain ⟨V2, hV⟩ : ∃ V2, V2 = V1.alloc (.cells #[.slice none 0 0, .slice none 0 0, .slice none 0 0] 29) := ⟨_, rfl⟩
          obtain ⟨db, hdb⟩ : ∃ db, db = V1.heap.size := ⟨_, rfl⟩
          have hbN : Below V1.heap.size V1 V2 := by rw [hV]; exact (Below.refl _ _).alloc (Nat.le_refl _) _
          have d0 : V2.cell? ⟨db, 0, none⟩ = some (.slice none 0 0) := by rw [hV, hdb]; exact new_cell V1 _ rfl _ _ _ _ rfl
          have d1 : V2.cell? ⟨db, 1, none⟩ = some (.slice none 0 0) := by rw [hV, hdb]; exact new_cell V1 _ rfl _ _ _ _ rfl
          have d2 : V2.cell? ⟨db, 2, none⟩ = some (.slice none 0 0) := by rw [hV, hdb]; exact new_cell V1 _ rfl _ _ _ _ rfl
          have z0 : V2.frozen? ⟨db, 0, none⟩ = false := by rw [hV, hdb]; exact new_frozen V1 _ rfl _ _ _
          have z1 : V2.frozen? ⟨db, 1, none⟩ = false := by rw [hV, hdb]; exact new_frozen V1 _ rfl _ _ _
          have z2 : V2.frozen? ⟨db, 2, none⟩ = false := by rw [hV, hdb]; exact new_frozen V1 _ rfl _ _ _
          have hcd : cb < db := by rw [hdb]; exact cell_in c0
          have hwd : w.heap.size ≤ db := by rw [hdb]; exact k0.size
          replace y0 := (hbN.frozen (p := ⟨cb, 0, none⟩) (cell_in c0)).trans y0
          replace y1 := (hbN.frozen (p := ⟨cb, 1, none⟩) (cell_in c1)).trans y1
          replace y2 := (hbN.frozen (p := ⟨cb, 2, none⟩) (cell_in c2)).trans y2
          replace x0 := (hbN.frozen (p := ⟨w.heap.size, 0, none⟩) (cell_in r0)).trans x0
          replace x1 := (hbN.frozen (p := ⟨w.heap.size, 1, none⟩) (cell_in r1)).trans x1
          replace x2 := (hbN.frozen (p := ⟨w.heap.size, 2, none⟩) (cell_in r2)).trans x2
          replace c0 := cell_beh c0 hbN (Nat.le_refl _)
          replace c1 := cell_beh c1 hbN (Nat.le_refl _)
          replace c2 := cell_beh c2 hbN (Nat.le_refl _)
          replace r0 := cell_beh r0 hbN (Nat.le_refl _)
          replace r1 := cell_beh r1 hbN (Nat.le_refl _)
          replace r2 := cell_beh r2 hbN (Nat.le_refl _)
          replace ag := cell_beh ag hbN (Nat.le_refl _)
          replace HC := hide (HC.out.below hbN (Nat.le_refl _))
          replace k0 := k0.trans (hbN.mono k0.size)
          rw [← hV, ← hdb]
          clear hV hdb hbN
          refine hK.out _ _ ⟨c0, c1, c2⟩ (fun hHeld => ?_)
          clear hK K
          (try simp only [Act.put, List.setIfInBounds_toArray, List.set_cons_zero, List.set_cons_succ])
          refine wpAnyH_ready (rs := [9]) (by kernel_rfl) (by simp) ?_
          refine (AllReadyH.cons (o := ⟨some 26, _, _, _, _, _⟩) rfl (fun K hK => ?_) AllReadyH.nil)
          clear hHeld
          go_simp
          refine hK.out _ _ ⟨c0, c1, c2⟩ (fun hHeld => ?_)
          clear hK K
          (try simp only [Act.put, List.setIfInBounds_toArray, List.set_cons_zero, List.set_cons_succ])
          refine wpAnyH_take (i := 10) (oi := ⟨some 27, _, _, _, _, _⟩) (v := ?v19) rfl (by kernel_rfl) (by kernel_rfl) (by kernel_rfl) (fun _ _ _ h => h) (Or.inl ⟨by rfl, ?h19⟩) (by assumption) ?r19
          case h19 => (intro w hSw; (try dsimp only at hSw); go_simp <;> with_reducible rfl)
          (try simp only [Act.put, List.setIfInBounds_toArray, List.set_cons_zero, List.set_cons_succ])
          refine wpAnyH_take (i := 11) (oi := ⟨some 28, _, _, _, _, _⟩) (v := ?v20) rfl (by kernel_rfl) (by kernel_rfl) (by kernel_rfl) (fun _ _ _ h => h) (Or.inl ⟨by rfl, ?h20⟩) (by assumption) ?r20
          case h20 => (intro w hSw; (try dsimp only at hSw); go_simp <;> with_reducible rfl)
          (try simp only [Act.put, List.setIfInBounds_toArray, List.set_cons_zero, List.set_cons_succ])
          refine wpAnyH_ready (rs := [12]) (by kernel_rfl) (by simp) ?_
          refine (AllReadyH.cons (o := ⟨some 29, _, _, _, _, _⟩) rfl (fun K hK => ?_) AllReadyH.nil)
          go_simp
          clear hHeld
          refine (unhide HAP1 _ _ _ _ HC.out).mono ?_
          rintro e V4 ⟨su, pu, au, rfl, hcN, hbN⟩
          replace y0 := (hbN.frozen (p := ⟨cb, 0, none⟩) (cell_in c0)).trans y0
          replace y1 := (hbN.frozen (p := ⟨cb, 1, none⟩) (cell_in c1)).trans y1
          replace y2 := (hbN.frozen (p := ⟨cb, 2, none⟩) (cell_in c2)).trans y2
          replace x0 := (hbN.frozen (p := ⟨w.heap.size, 0, none⟩) (cell_in r0)).trans x0
          replace x1 := (hbN.frozen (p := ⟨w.heap.size, 1, none⟩) (cell_in r1)).trans x1
          replace x2 := (hbN.frozen (p := ⟨w.heap.size, 2, none⟩) (cell_in r2)).trans x2
          replace z0 := (hbN.frozen (p := ⟨db, 0, none⟩) (cell_in d0)).trans z0
          replace z1 := (hbN.frozen (p := ⟨db, 1, none⟩) (cell_in d1)).trans z1
          replace z2 := (hbN.frozen (p := ⟨db, 2, none⟩) (cell_in d2)).trans z2
          replace c0 := cell_beh c0 hbN (Nat.le_refl _)
          replace c1 := cell_beh c1 hbN (Nat.le_refl _)
          replace c2 := cell_beh c2 hbN (Nat.le_refl _)
          replace r0 := cell_beh r0 hbN (Nat.le_refl _)
          replace r1 := cell_beh r1 hbN (Nat.le_refl _)
          replace r2 := cell_beh r2 hbN (Nat.le_refl _)
          replace ag := cell_beh ag hbN (Nat.le_refl _)
          replace d0 := cell_beh d0 hbN (Nat.le_refl _)
          replace d1 := cell_beh d1 hbN (Nat.le_refl _)
          replace d2 := cell_beh d2 hbN (Nat.le_refl _)
          replace HC := hide (HC.out.below hbN (Nat.le_refl _))
          replace k0 := k0.trans (hbN.mono k0.size)
          have HN := hide hcN
          clear hcN hbN
          obtain ⟨t1, t2, rfl⟩ := HN.out.1.slice
          obtain ⟨t3, t4, rfl⟩ := HN.out.2.1.slice
          obtain ⟨t5, t6, rfl⟩ := HN.out.2.2.slice
          go_wp2_with fail
          refine hK.out _ _ ⟨c0, c1, c2⟩ (fun hHeld => ?_)
          clear hK K
          (try simp only [Act.put, List.setIfInBounds_toArray, List.set_cons_zero, List.set_cons_succ])
          refine wpAnyH_take (i := 13) (oi := ⟨some 16, _, _, _, _, _⟩) (v := ?v21) rfl (by kernel_rfl) (by kernel_rfl) (by kernel_rfl) (fun _ _ _ h => h) (Or.inl ⟨by rfl, ?h21⟩) (by assumption) ?r21
          case h21 => (intro w hSw; (try dsimp only at hSw); go_simp <;> with_reducible rfl)
          (try simp only [Act.put, List.setIfInBounds_toArray, List.set_cons_zero, List.set_cons_succ])
          refine wpAnyH_take (i := 14) (oi := ⟨some 30, _, _, _, _, _⟩) (v := ?v22) rfl (by kernel_rfl) (by kernel_rfl) (by kernel_rfl) (fun _ _ _ h => h) (Or.inl ⟨by rfl, ?h22⟩) (by assumption) ?r22
          case h22 => (intro w hSw; (try dsimp only at hSw); go_simp <;> with_reducible rfl)
          (try simp only [Act.put, List.setIfInBounds_toArray, List.set_cons_zero, List.set_cons_succ])
          refine wpAnyH_take (i := 15) (oi := ⟨some 31, _, _, _, _, _⟩) (v := ?v23) rfl (by kernel_rfl) (by kernel_rfl) (by kernel_rfl) (fun _ _ _ h => h) (Or.inl ⟨by rfl, ?h23⟩) (by assumption) ?r23
          case h23 => (intro w hSw; (try dsimp only at hSw); go_simp <;> with_reducible rfl)
          (try simp only [Act.put, List.setIfInBounds_toArray, List.set_cons_zero, List.set_cons_succ])
          refine wpAnyH_ready (rs := [17]) (by kernel_rfl) (by simp) ?_
          refine (AllReadyH.cons (o := ⟨none, _, _, _, _, _⟩) rfl (fun K hK => ?_) AllReadyH.nil)
          have hne1 : ¬ cb = db := by omega
          have hne2 : ¬ db = cb := by omega
          go_simp
          clear hHeld
          obtain ⟨e0, e1, e2⟩ := set3 d0 d1 d2 (.slice t1 T'.length t2) (.slice t3 0 t4) (.slice t5 0 t6)
          replace HC := hide (((HC.out.set_box d0 (.slice t1 T'.length t2)).set_box ((World.cell?_setCell_other _ _ _ _ (by simp)).trans d1) (.slice t3 0 t4)).set_box ((World.cell?_setCell_other _ _ _ _ (by simp)).trans ((World.cell?_setCell_other _ _ _ _ (by simp)).trans d2)) (.slice t5 0 t6))
          replace HN := hide (((HN.out.set_box d0 (.slice t1 T'.length t2)).set_box ((World.cell?_setCell_other _ _ _ _ (by simp)).trans d1) (.slice t3 0 t4)).set_box ((World.cell?_setCell_other _ _ _ _ (by simp)).trans ((World.cell?_setCell_other _ _ _ _ (by simp)).trans d2)) (.slice t5 0 t6))
          replace k0 := ((k0.setCell (p := ⟨db, 0, none⟩) (by show _ ≤ db; omega) (.slice t1 T'.length t2)).setCell (p := ⟨db, 1, none⟩) (by show _ ≤ db; omega) (.slice t3 0 t4)).setCell (p := ⟨db, 2, none⟩) (by show _ ≤ db; omega) (.slice t5 0 t6)
          replace c0 : (((V4.setCell ⟨db, 0, none⟩ (.slice t1 T'.length t2)).setCell ⟨db, 1, none⟩ (.slice t3 0 t4)).setCell ⟨db, 2, none⟩ (.slice t5 0 t6)).cell? ⟨cb, 0, none⟩ = some _ := ((World.cell?_setCell_other _ _ _ _ (by simp <;> omega)).trans ((World.cell?_setCell_other _ _ _ _ (by simp <;> omega)).trans ((World.cell?_setCell_other _ _ _ _ (by simp <;> omega)).trans c0)))
          replace c1 : (((V4.setCell ⟨db, 0, none⟩ (.slice t1 T'.length t2)).setCell ⟨db, 1, none⟩ (.slice t3 0 t4)).setCell ⟨db, 2, none⟩ (.slice t5 0 t6)).cell? ⟨cb, 1, none⟩ = some _ := ((World.cell?_setCell_other _ _ _ _ (by simp <;> omega)).trans ((World.cell?_setCell_other _ _ _ _ (by simp <;> omega)).trans ((World.cell?_setCell_other _ _ _ _ (by simp <;> omega)).trans c1)))
          replace c2 : (((V4.setCell ⟨db, 0, none⟩ (.slice t1 T'.length t2)).setCell ⟨db, 1, none⟩ (.slice t3 0 t4)).setCell ⟨db, 2, none⟩ (.slice t5 0 t6)).cell? ⟨cb, 2, none⟩ = some _ := ((World.cell?_setCell_other _ _ _ _ (by simp <;> omega)).trans ((World.cell?_setCell_other _ _ _ _ (by simp <;> omega)).trans ((World.cell?_setCell_other _ _ _ _ (by simp <;> omega)).trans c2)))
          replace r0 : (((V4.setCell ⟨db, 0, none⟩ (.slice t1 T'.length t2)).setCell ⟨db, 1, none⟩ (.slice t3 0 t4)).setCell ⟨db, 2, none⟩ (.slice t5 0 t6)).cell? ⟨w.heap.size, 0, none⟩ = some _ := ((World.cell?_setCell_other _ _ _ _ (by simp <;> omega)).trans ((World.cell?_setCell_other _ _ _ _ (by simp <;> omega)).trans ((World.cell?_setCell_other _ _ _ _ (by simp <;> omega)).trans r0)))
          replace r1 : (((V4.setCell ⟨db, 0, none⟩ (.slice t1 T'.length t2)).setCell ⟨db, 1, none⟩ (.slice t3 0 t4)).setCell ⟨db, 2, none⟩ (.slice t5 0 t6)).cell? ⟨w.heap.size, 1, none⟩ = some _ := ((World.cell?_setCell_other _ _ _ _ (by simp <;> omega)).trans ((World.cell?_setCell_other _ _ _ _ (by simp <;> omega)).trans ((World.cell?_setCell_other _ _ _ _ (by simp <;> omega)).trans r1)))
          replace r2 : (((V4.setCell ⟨db, 0, none⟩ (.slice t1 T'.length t2)).setCell ⟨db, 1, none⟩ (.slice t3 0 t4)).setCell ⟨db, 2, none⟩ (.slice t5 0 t6)).cell? ⟨w.heap.size, 2, none⟩ = some _ := ((World.cell?_setCell_other _ _ _ _ (by simp <;> omega)).trans ((World.cell?_setCell_other _ _ _ _ (by simp <;> omega)).trans ((World.cell?_setCell_other _ _ _ _ (by simp <;> omega)).trans r2)))
          clear ag
          replace y0 : (((V4.setCell ⟨db, 0, none⟩ (.slice t1 T'.length t2)).setCell ⟨db, 1, none⟩ (.slice t3 0 t4)).setCell ⟨db, 2, none⟩ (.slice t5 0 t6)).frozen? ⟨cb, 0, none⟩ = false := by rw [World.frozen?_setCell, World.frozen?_setCell, World.frozen?_setCell]; exact y0
          replace y1 : (((V4.setCell ⟨db, 0, none⟩ (.slice t1 T'.length t2)).setCell ⟨db, 1, none⟩ (.slice t3 0 t4)).setCell ⟨db, 2, none⟩ (.slice t5 0 t6)).frozen? ⟨cb, 1, none⟩ = false := by rw [World.frozen?_setCell, World.frozen?_setCell, World.frozen?_setCell]; exact y1
          replace y2 : (((V4.setCell ⟨db, 0, none⟩ (.slice t1 T'.length t2)).setCell ⟨db, 1, none⟩ (.slice t3 0 t4)).setCell ⟨db, 2, none⟩ (.slice t5 0 t6)).frozen? ⟨cb, 2, none⟩ = false := by rw [World.frozen?_setCell, World.frozen?_setCell, World.frozen?_setCell]; exact y2
          replace x0 : (((V4.setCell ⟨db, 0, none⟩ (.slice t1 T'.length t2)).setCell ⟨db, 1, none⟩ (.slice t3 0 t4)).setCell ⟨db, 2, none⟩ (.slice t5 0 t6)).frozen? ⟨w.heap.size, 0, none⟩ = false := by rw [World.frozen?_setCell, World.frozen?_setCell, World.frozen?_setCell]; exact x0
          replace x1 : (((V4.setCell ⟨db, 0, none⟩ (.slice t1 T'.length t2)).setCell ⟨db, 1, none⟩ (.slice t3 0 t4)).setCell ⟨db, 2, none⟩ (.slice t5 0 t6)).frozen? ⟨w.heap.size, 1, none⟩ = false := by rw [World.frozen?_setCell, World.frozen?_setCell, World.frozen?_setCell]; exact x1
          replace x2 : (((V4.setCell ⟨db, 0, none⟩ (.slice t1 T'.length t2)).setCell ⟨db, 1, none⟩ (.slice t3 0 t4)).setCell ⟨db, 2, none⟩ (.slice t5 0 t6)).frozen? ⟨w.heap.size, 2, none⟩ = false := by rw [World.frozen?_setCell, World.frozen?_setCell, World.frozen?_setCell]; exact x2
          clear d0 d1 d2 z0 z1 z2
          have d0 := e0
          have d1 := e1
          have d2 := e2
          clear e0 e1 e2
          generalize (((V4.setCell ⟨db, 0, none⟩ (.slice t1 T'.length t2)).setCell ⟨db, 1, none⟩ (.slice t3 0 t4)).setCell ⟨db, 2, none⟩ (.slice t5 0 t6)) = V at *
          refine hK.out _ _ ⟨c0, c1, c2⟩ (fun hHeld => ?_)
          clear hK K
          (try simp only [Act.put, List.setIfInBounds_toArray, List.set_cons_zero, List.set_cons_succ])
          refine wpAnyH_take (i := 18) (oi := ⟨some 8, _, _, _, _, _⟩) (v := ?v24) rfl (by kernel_rfl) (by kernel_rfl) (by kernel_rfl) (fun _ _ _ h => h) (Or.inl ⟨by rfl, ?h24⟩) (by assumption) ?r24
          case h24 => (intro w hSw; (try dsimp only at hSw); go_simp <;> with_reducible rfl)
          (try simp only [Act.put, List.setIfInBounds_toArray, List.set_cons_zero, List.set_cons_succ])
          refine wpAnyH_done (by kernel_rfl) ?_ _
          clear hHeld
          go_wp2_with fail
          obtain ⟨v0, v1, v2⟩ := set3 c0 c1 c2 (.slice t1 T'.length t2) (.slice t3 0 t4) (.slice t5 0 t6)
          go_roundw
          case rel => exact ⟨k + 1, T', _, _, _, by omega, by go_num, v0, v1, v2, (by rw [World.frozen?_setCell, World.frozen?_setCell, World.frozen?_setCell]; exact y0), (by rw [World.frozen?_setCell, World.frozen?_setCell, World.frozen?_setCell]; exact y1), (by rw [World.frozen?_setCell, World.frozen?_setCell, World.frozen?_setCell]; exact y2), (World.cell?_setCell_other _ _ _ _ (by simp <;> omega)).trans ((World.cell?_setCell_other _ _ _ _ (by simp <;> omega)).trans ((World.cell?_setCell_other _ _ _ _ (by simp <;> omega)).trans r0)), (by rw [World.frozen?_setCell, World.frozen?_setCell, World.frozen?_setCell]; exact x0), (World.cell?_setCell_other _ _ _ _ (by simp <;> omega)).trans ((World.cell?_setCell_other _ _ _ _ (by simp <;> omega)).trans ((World.cell?_setCell_other _ _ _ _ (by simp <;> omega)).trans r1)), (by rw [World.frozen?_setCell, World.frozen?_setCell, World.frozen?_setCell]; exact x1), (World.cell?_setCell_other _ _ _ _ (by simp <;> omega)).trans ((World.cell?_setCell_other _ _ _ _ (by simp <;> omega)).trans ((World.cell?_setCell_other _ _ _ _ (by simp <;> omega)).trans r2)), (by rw [World.frozen?_setCell, World.frozen?_setCell, World.frozen?_setCell]; exact x2), HT1, hide (((HN.out.set_box c0 _).set_box ((World.cell?_setCell_other _ _ _ _ (by simp)).trans c1) _).set_box ((World.cell?_setCell_other _ _ _ _ (by simp)).trans ((World.cell?_setCell_other _ _ _ _ (by simp)).trans c2)) _), ((k0.setCell (p := ⟨cb, 0, none⟩) (by show _ ≤ cb; omega) _).setCell (p := ⟨cb, 1, none⟩) (by show _ ≤ cb; omega) _).setCell (p := ⟨cb, 2, none⟩) (by show _ ≤ cb; omega) _⟩
          case measure => simp [intOf]; omega
      · go_simp
        clear hHeld
        obtain ⟨V1, hV⟩ : ∃ V1, V1 = V0.alloc (.cells #[.slice none 0 0, .slice none 0 0, .slice none 0 0] 29) := ⟨_, rfl⟩
        obtain ⟨db, hdb⟩ : ∃ db, db = V0.heap.size := ⟨_, rfl⟩
        have hbN : Below V0.heap.size V0 V1 := by rw [hV]; exact (Below.refl _ _).alloc (Nat.le_refl _) _
        have d0 : V1.cell? ⟨db, 0, none⟩ = some (.slice none 0 0) := by rw [hV, hdb]; exact new_cell V0 _ rfl _ _ _ _ rfl
        have d1 : V1.cell? ⟨db, 1, none⟩ = some (.slice none 0 0) := by rw [hV, hdb]; exact new_cell V0 _ rfl _ _ _ _ rfl
        have d2 : V1.cell? ⟨db, 2, none⟩ = some (.slice none 0 0) := by rw [hV, hdb]; exact new_cell V0 _ rfl _ _ _ _ rfl
        have z0 : V1.frozen? ⟨db, 0, none⟩ = false := by rw [hV, hdb]; exact new_frozen V0 _ rfl _ _ _
        have z1 : V1.frozen? ⟨db, 1, none⟩ = false := by rw [hV, hdb]; exact new_frozen V0 _ rfl _ _ _
        have z2 : V1.frozen? ⟨db, 2, none⟩ = false := by rw [hV, hdb]; exact new_frozen V0 _ rfl _ _ _
        have hcd : cb < db := by rw [hdb]; exact cell_in c0
        have hwd : w.heap.size ≤ db := by rw [hdb]; exact k0.size
        replace y0 := (hbN.frozen (p := ⟨cb, 0, none⟩) (cell_in c0)).trans y0
        replace y1 := (hbN.frozen (p := ⟨cb, 1, none⟩) (cell_in c1)).trans y1
        replace y2 := (hbN.frozen (p := ⟨cb, 2, none⟩) (cell_in c2)).trans y2
        replace x0 := (hbN.frozen (p := ⟨w.heap.size, 0, none⟩) (cell_in r0)).trans x0
        replace x1 := (hbN.frozen (p := ⟨w.heap.size, 1, none⟩) (cell_in r1)).trans x1
        replace x2 := (hbN.frozen (p := ⟨w.heap.size, 2, none⟩) (cell_in r2)).trans x2
        replace c0 := cell_beh c0 hbN (Nat.le_refl _)
        replace c1 := cell_beh c1 hbN (Nat.le_refl _)
        replace c2 := cell_beh c2 hbN (Nat.le_refl _)
        replace r0 := cell_beh r0 hbN (Nat.le_refl _)
        replace r1 := cell_beh r1 hbN (Nat.le_refl _)
        replace r2 := cell_beh r2 hbN (Nat.le_refl _)
        replace HC := hide (HC.out.below hbN (Nat.le_refl _))
        replace k0 := k0.trans (hbN.mono k0.size)
        rw [← hV, ← hdb]
        clear hV hdb hbN
        refine hK.out _ _ ⟨c0, c1, c2⟩ (fun hHeld => ?_)
        clear hK K
        (try simp only [Act.put, List.setIfInBounds_toArray, List.set_cons_zero, List.set_cons_succ])
        refine wpAnyH_ready (rs := [6]) (by kernel_rfl) (by simp) ?_
        refine (AllReadyH.cons (o := ⟨some 23, _, _, _, _, _⟩) rfl (fun K hK => ?_) AllReadyH.nil)
        go_simp
        clear hHeld
        obtain ⟨V2, hV⟩ : ∃ V2, V2 = V1.alloc (.cells #[.int .i64 200, .int .i64 201, .int .i64 0, .int .i64 200] 3) := ⟨_, rfl⟩
        obtain ⟨ga, hga⟩ : ∃ ga, ga = V1.heap.size := ⟨_, rfl⟩
        have hbN : Below V1.heap.size V1 V2 := by rw [hV]; exact (Below.refl _ _).alloc (Nat.le_refl _) _
        have ag : V2.cell? ⟨ga, k, none⟩ = some (.int .i64 (gate k)) := by rw [hV, hga]; exact new_cell V1 _ rfl _ _ _ _ (gate_at hlt)
        have hcg : w.heap.size ≤ ga := by rw [hga]; exact k0.size
        replace y0 := (hbN.frozen (p := ⟨cb, 0, none⟩) (cell_in c0)).trans y0
        replace y1 := (hbN.frozen (p := ⟨cb, 1, none⟩) (cell_in c1)).trans y1
        replace y2 := (hbN.frozen (p := ⟨cb, 2, none⟩) (cell_in c2)).trans y2
        replace x0 := (hbN.frozen (p := ⟨w.heap.size, 0, none⟩) (cell_in r0)).trans x0
        replace x1 := (hbN.frozen (p := ⟨w.heap.size, 1, none⟩) (cell_in r1)).trans x1
        replace x2 := (hbN.frozen (p := ⟨w.heap.size, 2, none⟩) (cell_in r2)).trans x2
        replace z0 := (hbN.frozen (p := ⟨db, 0, none⟩) (cell_in d0)).trans z0
        replace z1 := (hbN.frozen (p := ⟨db, 1, none⟩) (cell_in d1)).trans z1
        replace z2 := (hbN.frozen (p := ⟨db, 2, none⟩) (cell_in d2)).trans z2
        replace c0 := cell_beh c0 hbN (Nat.le_refl _)
        replace c1 := cell_beh c1 hbN (Nat.le_refl _)
        replace c2 := cell_beh c2 hbN (Nat.le_refl _)
        replace r0 := cell_beh r0 hbN (Nat.le_refl _)
        replace r1 := cell_beh r1 hbN (Nat.le_refl _)
        replace r2 := cell_beh r2 hbN (Nat.le_refl _)
        replace d0 := cell_beh d0 hbN (Nat.le_refl _)
        replace d1 := cell_beh d1 hbN (Nat.le_refl _)
        replace d2 := cell_beh d2 hbN (Nat.le_refl _)
        replace HC := hide (HC.out.below hbN (Nat.le_refl _))
        replace k0 := k0.trans (hbN.mono k0.size)
        rw [← hV, ← hga]
        clear hV hga hbN
        refine hK.out _ _ ⟨c0, c1, c2⟩ (fun hHeld => ?_)
        clear hK K
        (try simp only [Act.put, List.setIfInBounds_toArray, List.set_cons_zero, List.set_cons_succ])
        refine wpAnyH_take (i := 8) (oi := ⟨some 25, _, _, _, _, _⟩) (v := ?v25) rfl (by kernel_rfl) (by kernel_rfl) (by kernel_rfl) (fun _ _ _ h => h) (Or.inl ⟨by rfl, ?h25⟩) (by assumption) ?r25
        case h25 => (intro w hSw; (try dsimp only at hSw); go_simp <;> with_reducible rfl)
        (try simp only [Act.put, List.setIfInBounds_toArray, List.set_cons_zero, List.set_cons_succ])
        refine wpAnyH_ready (rs := [9]) (by kernel_rfl) (by simp) ?_
        refine (AllReadyH.cons (o := ⟨some 26, _, _, _, _, _⟩) rfl (fun K hK => ?_) AllReadyH.nil)
        clear hHeld
        go_simp
        refine hK.out _ _ ⟨c0, c1, c2⟩ (fun hHeld => ?_)
        clear hK K
        (try simp only [Act.put, List.setIfInBounds_toArray, List.set_cons_zero, List.set_cons_succ])
        refine wpAnyH_take (i := 10) (oi := ⟨some 27, _, _, _, _, _⟩) (v := ?v26) rfl (by kernel_rfl) (by kernel_rfl) (by kernel_rfl) (fun _ _ _ h => h) (Or.inl ⟨by rfl, ?h26⟩) (by assumption) ?r26
        case h26 => (intro w hSw; (try dsimp only at hSw); go_simp <;> with_reducible rfl)
        (try simp only [Act.put, List.setIfInBounds_toArray, List.set_cons_zero, List.set_cons_succ])
        refine wpAnyH_take (i := 11) (oi := ⟨some 28, _, _, _, _, _⟩) (v := ?v27) rfl (by kernel_rfl) (by kernel_rfl) (by kernel_rfl) (fun _ _ _ h => h) (Or.inl ⟨by rfl, ?h27⟩) (by assumption) ?r27
        case h27 => (intro w hSw; (try dsimp only at hSw); go_simp <;> with_reducible rfl)
        (try simp only [Act.put, List.setIfInBounds_toArray, List.set_cons_zero, List.set_cons_succ])
        refine wpAnyH_ready (rs := [12]) (by kernel_rfl) (by simp) ?_
        refine (AllReadyH.cons (o := ⟨some 29, _, _, _, _, _⟩) rfl (fun K hK => ?_) AllReadyH.nil)
        go_simp
        clear hHeld
        refine (unhide HAP1 _ _ _ _ HC.out).mono ?_
        rintro e V4 ⟨su, pu, au, rfl, hcN, hbN⟩
        replace y0 := (hbN.frozen (p := ⟨cb, 0, none⟩) (cell_in c0)).trans y0
        replace y1 := (hbN.frozen (p := ⟨cb, 1, none⟩) (cell_in c1)).trans y1
        replace y2 := (hbN.frozen (p := ⟨cb, 2, none⟩) (cell_in c2)).trans y2
        replace x0 := (hbN.frozen (p := ⟨w.heap.size, 0, none⟩) (cell_in r0)).trans x0
        replace x1 := (hbN.frozen (p := ⟨w.heap.size, 1, none⟩) (cell_in r1)).trans x1
        replace x2 := (hbN.frozen (p := ⟨w.heap.size, 2, none⟩) (cell_in r2)).trans x2
        replace z0 := (hbN.frozen (p := ⟨db, 0, none⟩) (cell_in d0)).trans z0
        replace z1 := (hbN.frozen (p := ⟨db, 1, none⟩) (cell_in d1)).trans z1
        replace z2 := (hbN.frozen (p := ⟨db, 2, none⟩) (cell_in d2)).trans z2
        replace c0 := cell_beh c0 hbN (Nat.le_refl _)
        replace c1 := cell_beh c1 hbN (Nat.le_refl _)
        replace c2 := cell_beh c2 hbN (Nat.le_refl _)
        replace r0 := cell_beh r0 hbN (Nat.le_refl _)
        replace r1 := cell_beh r1 hbN (Nat.le_refl _)
        replace r2 := cell_beh r2 hbN (Nat.le_refl _)
        replace d0 := cell_beh d0 hbN (Nat.le_refl _)
        replace d1 := cell_beh d1 hbN (Nat.le_refl _)
        replace d2 := cell_beh d2 hbN (Nat.le_refl _)
        replace ag := cell_beh ag hbN (Nat.le_refl _)
        replace HC := hide (HC.out.below hbN (Nat.le_refl _))
        replace k0 := k0.trans (hbN.mono k0.size)
        have HN := hide hcN
        clear hcN hbN
        obtain ⟨t1, t2, rfl⟩ := HN.out.1.slice
        obtain ⟨t3, t4, rfl⟩ := HN.out.2.1.slice
        obtain ⟨t5, t6, rfl⟩ := HN.out.2.2.slice
        go_wp2_with fail
        refine hK.out _ _ ⟨c0, c1, c2⟩ (fun hHeld => ?_)
        clear hK K
        (try simp only [Act.put, List.setIfInBounds_toArray, List.set_cons_zero, List.set_cons_succ])
        refine wpAnyH_take (i := 13) (oi := ⟨some 16, _, _, _, _, _⟩) (v := ?v28) rfl (by kernel_rfl) (by kernel_rfl) (by kernel_rfl) (fun _ _ _ h => h) (Or.inl ⟨by rfl, ?h28⟩) (by assumption) ?r28
        case h28 => (intro w hSw; (try dsimp only at hSw); go_simp <;> with_reducible rfl)
        (try simp only [Act.put, List.setIfInBounds_toArray, List.set_cons_zero, List.set_cons_succ])
        refine wpAnyH_take (i := 14) (oi := ⟨some 30, _, _, _, _, _⟩) (v := ?v29) rfl (by kernel_rfl) (by kernel_rfl) (by kernel_rfl) (fun _ _ _ h => h) (Or.inl ⟨by rfl, ?h29⟩) (by assumption) ?r29
        case h29 => (intro w hSw; (try dsimp only at hSw); go_simp <;> with_reducible rfl)
        (try simp only [Act.put, List.setIfInBounds_toArray, List.set_cons_zero, List.set_cons_succ])
        refine wpAnyH_take (i := 15) (oi := ⟨some 31, _, _, _, _, _⟩) (v := ?v30) rfl (by kernel_rfl) (by kernel_rfl) (by kernel_rfl) (fun _ _ _ h => h) (Or.inl ⟨by rfl, ?h30⟩) (by assumption) ?r30
        case h30 => (intro w hSw; (try dsimp only at hSw); go_simp <;> with_reducible rfl)
        (try simp only [Act.put, List.setIfInBounds_toArray, List.set_cons_zero, List.set_cons_succ])
        refine wpAnyH_ready (rs := [17]) (by kernel_rfl) (by simp) ?_
        refine (AllReadyH.cons (o := ⟨none, _, _, _, _, _⟩) rfl (fun K hK => ?_) AllReadyH.nil)
        have hne1 : ¬ cb = db := by omega
        have hne2 : ¬ db = cb := by omega
        go_simp
        clear hHeld
        obtain ⟨e0, e1, e2⟩ := set3 d0 d1 d2 (.slice t1 T'.length t2) (.slice t3 0 t4) (.slice t5 0 t6)
        replace HC := hide (((HC.out.set_box d0 (.slice t1 T'.length t2)).set_box ((World.cell?_setCell_other _ _ _ _ (by simp)).trans d1) (.slice t3 0 t4)).set_box ((World.cell?_setCell_other _ _ _ _ (by simp)).trans ((World.cell?_setCell_other _ _ _ _ (by simp)).trans d2)) (.slice t5 0 t6))
        replace HN := hide (((HN.out.set_box d0 (.slice t1 T'.length t2)).set_box ((World.cell?_setCell_other _ _ _ _ (by simp)).trans d1) (.slice t3 0 t4)).set_box ((World.cell?_setCell_other _ _ _ _ (by simp)).trans ((World.cell?_setCell_other _ _ _ _ (by simp)).trans d2)) (.slice t5 0 t6))
        replace k0 := ((k0.setCell (p := ⟨db, 0, none⟩) (by show _ ≤ db; omega) (.slice t1 T'.length t2)).setCell (p := ⟨db, 1, none⟩) (by show _ ≤ db; omega) (.slice t3 0 t4)).setCell (p := ⟨db, 2, none⟩) (by show _ ≤ db; omega) (.slice t5 0 t6)
        replace c0 : (((V4.setCell ⟨db, 0, none⟩ (.slice t1 T'.length t2)).setCell ⟨db, 1, none⟩ (.slice t3 0 t4)).setCell ⟨db, 2, none⟩ (.slice t5 0 t6)).cell? ⟨cb, 0, none⟩ = some _ := ((World.cell?_setCell_other _ _ _ _ (by simp <;> omega)).trans ((World.cell?_setCell_other _ _ _ _ (by simp <;> omega)).trans ((World.cell?_setCell_other _ _ _ _ (by simp <;> omega)).trans c0)))
        replace c1 : (((V4.setCell ⟨db, 0, none⟩ (.slice t1 T'.length t2)).setCell ⟨db, 1, none⟩ (.slice t3 0 t4)).setCell ⟨db, 2, none⟩ (.slice t5 0 t6)).cell? ⟨cb, 1, none⟩ = some _ := ((World.cell?_setCell_other _ _ _ _ (by simp <;> omega)).trans ((World.cell?_setCell_other _ _ _ _ (by simp <;> omega)).trans ((World.cell?_setCell_other _ _ _ _ (by simp <;> omega)).trans c1)))
        replace c2 : (((V4.setCell ⟨db, 0, none⟩ (.slice t1 T'.length t2)).setCell ⟨db, 1, none⟩ (.slice t3 0 t4)).setCell ⟨db, 2, none⟩ (.slice t5 0 t6)).cell? ⟨cb, 2, none⟩ = some _ := ((World.cell?_setCell_other _ _ _ _ (by simp <;> omega)).trans ((World.cell?_setCell_other _ _ _ _ (by simp <;> omega)).trans ((World.cell?_setCell_other _ _ _ _ (by simp <;> omega)).trans c2)))
        replace r0 : (((V4.setCell ⟨db, 0, none⟩ (.slice t1 T'.length t2)).setCell ⟨db, 1, none⟩ (.slice t3 0 t4)).setCell ⟨db, 2, none⟩ (.slice t5 0 t6)).cell? ⟨w.heap.size, 0, none⟩ = some _ := ((World.cell?_setCell_other _ _ _ _ (by simp <;> omega)).trans ((World.cell?_setCell_other _ _ _ _ (by simp <;> omega)).trans ((World.cell?_setCell_other _ _ _ _ (by simp <;> omega)).trans r0)))
        replace r1 : (((V4.setCell ⟨db, 0, none⟩ (.slice t1 T'.length t2)).setCell ⟨db, 1, none⟩ (.slice t3 0 t4)).setCell ⟨db, 2, none⟩ (.slice t5 0 t6)).cell? ⟨w.heap.size, 1, none⟩ = some _ := ((World.cell?_setCell_other _ _ _ _ (by simp <;> omega)).trans ((World.cell?_setCell_other _ _ _ _ (by simp <;> omega)).trans ((World.cell?_setCell_other _ _ _ _ (by simp <;> omega)).trans r1)))
        replace r2 : (((V4.setCell ⟨db, 0, none⟩ (.slice t1 T'.length t2)).setCell ⟨db, 1, none⟩ (.slice t3 0 t4)).setCell ⟨db, 2, none⟩ (.slice t5 0 t6)).cell? ⟨w.heap.size, 2, none⟩ = some _ := ((World.cell?_setCell_other _ _ _ _ (by simp <;> omega)).trans ((World.cell?_setCell_other _ _ _ _ (by simp <;> omega)).trans ((World.cell?_setCell_other _ _ _ _ (by simp <;> omega)).trans r2)))
        clear ag
        replace y0 : (((V4.setCell ⟨db, 0, none⟩ (.slice t1 T'.length t2)).setCell ⟨db, 1, none⟩ (.slice t3 0 t4)).setCell ⟨db, 2, none⟩ (.slice t5 0 t6)).frozen? ⟨cb, 0, none⟩ = false := by rw [World.frozen?_setCell, World.frozen?_setCell, World.frozen?_setCell]; exact y0
        replace y1 : (((V4.setCell ⟨db, 0, none⟩ (.slice t1 T'.length t2)).setCell ⟨db, 1, none⟩ (.slice t3 0 t4)).setCell ⟨db, 2, none⟩ (.slice t5 0 t6)).frozen? ⟨cb, 1, none⟩ = false := by rw [World.frozen?_setCell, World.frozen?_setCell, World.frozen?_setCell]; exact y1
        replace y2 : (((V4.setCell ⟨db, 0, none⟩ (.slice t1 T'.length t2)).setCell ⟨db, 1, none⟩ (.slice t3 0 t4)).setCell ⟨db, 2, none⟩ (.slice t5 0 t6)).frozen? ⟨cb, 2, none⟩ = false := by rw [World.frozen?_setCell, World.frozen?_setCell, World.frozen?_setCell]; exact y2
        replace x0 : (((V4.setCell ⟨db, 0, none⟩ (.slice t1 T'.length t2)).setCell ⟨db, 1, none⟩ (.slice t3 0 t4)).setCell ⟨db, 2, none⟩ (.slice t5 0 t6)).frozen? ⟨w.heap.size, 0, none⟩ = false := by rw [World.frozen?_setCell, World.frozen?_setCell, World.frozen?_setCell]; exact x0
        replace x1 : (((V4.setCell ⟨db, 0, none⟩ (.slice t1 T'.length t2)).setCell ⟨db, 1, none⟩ (.slice t3 0 t4)).setCell ⟨db, 2, none⟩ (.slice t5 0 t6)).frozen? ⟨w.heap.size, 1, none⟩ = false := by rw [World.frozen?_setCell, World.frozen?_setCell, World.frozen?_setCell]; exact x1
        replace x2 : (((V4.setCell ⟨db, 0, none⟩ (.slice t1 T'.length t2)).setCell ⟨db, 1, none⟩ (.slice t3 0 t4)).setCell ⟨db, 2, none⟩ (.slice t5 0 t6)).frozen? ⟨w.heap.size, 2, none⟩ = false := by rw [World.frozen?_setCell, World.frozen?_setCell, World.frozen?_setCell]; exact x2
        clear d0 d1 d2 z0 z1 z2
        have d0 := e0
        have d1 := e1
        have d2 := e2
        clear e0 e1 e2
        generalize (((V4.setCell ⟨db, 0, none⟩ (.slice t1 T'.length t2)).setCell ⟨db, 1, none⟩ (.slice t3 0 t4)).setCell ⟨db, 2, none⟩ (.slice t5 0 t6)) = V at *
        refine hK.out _ _ ⟨c0, c1, c2⟩ (fun hHeld => ?_)
        clear hK K
        (try simp only [Act.put, List.setIfInBounds_toArray, List.set_cons_zero, List.set_cons_succ])
        refine wpAnyH_take (i := 18) (oi := ⟨some 8, _, _, _, _, _⟩) (v := ?v31) rfl (by kernel_rfl) (by kernel_rfl) (by kernel_rfl) (fun _ _ _ h => h) (Or.inl ⟨by rfl, ?h31⟩) (by assumption) ?r31
        case h31 => (intro w hSw; (try dsimp only at hSw); go_simp <;> with_reducible rfl)
        (try simp only [Act.put, List.setIfInBounds_toArray, List.set_cons_zero, List.set_cons_succ])
        refine wpAnyH_done (by kernel_rfl) ?_ _
        clear hHeld
        go_wp2_with fail
        obtain ⟨v0, v1, v2⟩ := set3 c0 c1 c2 (.slice t1 T'.length t2) (.slice t3 0 t4) (.slice t5 0 t6)
        go_roundw
        case rel => exact ⟨k + 1, T', _, _, _, by omega, by go_num, v0, v1, v2, (by rw [World.frozen?_setCell, World.frozen?_setCell, World.frozen?_setCell]; exact y0), (by rw [World.frozen?_setCell, World.frozen?_setCell, World.frozen?_setCell]; exact y1), (by rw [World.frozen?_setCell, World.frozen?_setCell, World.frozen?_setCell]; exact y2), (World.cell?_setCell_other _ _ _ _ (by simp <;> omega)).trans ((World.cell?_setCell_other _ _ _ _ (by simp <;> omega)).trans ((World.cell?_setCell_other _ _ _ _ (by simp <;> omega)).trans r0)), (by rw [World.frozen?_setCell, World.frozen?_setCell, World.frozen?_setCell]; exact x0), (World.cell?_setCell_other _ _ _ _ (by simp <;> omega)).trans ((World.cell?_setCell_other _ _ _ _ (by simp <;> omega)).trans ((World.cell?_setCell_other _ _ _ _ (by simp <;> omega)).trans r1)), (by rw [World.frozen?_setCell, World.frozen?_setCell, World.frozen?_setCell]; exact x1), (World.cell?_setCell_other _ _ _ _ (by simp <;> omega)).trans ((World.cell?_setCell_other _ _ _ _ (by simp <;> omega)).trans ((World.cell?_setCell_other _ _ _ _ (by simp <;> omega)).trans r2)), (by rw [World.frozen?_setCell, World.frozen?_setCell, World.frozen?_setCell]; exact x2), HT1, hide (((HN.out.set_box c0 _).set_box ((World.cell?_setCell_other _ _ _ _ (by simp)).trans c1) _).set_box ((World.cell?_setCell_other _ _ _ _ (by simp)).trans ((World.cell?_setCell_other _ _ _ _ (by simp)).trans c2)) _), ((k0.setCell (p := ⟨cb, 0, none⟩) (by show _ ≤ cb; omega) _).setCell (p := ⟨cb, 1, none⟩) (by show _ ≤ cb; omega) _).setCell (p := ⟨cb, 2, none⟩) (by show _ ≤ cb; omega) _⟩
        case measure => simp [intOf]; omega
    · have HAP2 : Hid (∀ (W : World) (a : Ax) (sv pv av : Value) (S : List Sw) (P : List Pr) (A : List Ac), a.si ≤ 6 → Fine S P A → CfAt W sv pv av S P A → Calls Tryz.prog 23 #[.agg #[sv, pv, av], actV a] W fun e w' => ∃ (su pu au : Value) (E : Int), e = .returned (.tuple #[.agg #[su, pu, au], .int .i64 E]) ∧ ∃ LS LP LA, CfAt w' su pu au LS LP LA ∧ (E = 0 → Fine LS LP LA) ∧ Below W.heap.size W w') := fun W a sv pv av S P A hs hf hC => by
        refine (HAP.out W a sv pv av S P A hC (may_len hf.1)).mono ?_
        rintro e w' ⟨su, pu, au, rfl, hc, hb⟩
        exact ⟨su, pu, au, _, rfl, _, _, _, hc, fun h => fine_next hf h hs, hb⟩
      have hk4 : k = 4 := by omega
      have HF : Hid (Fine T [] []) := by rw [HT.out, hk4]; exact fine0
      clear HT hk hk4
      obtain ⟨s1, s2, rfl⟩ := HC.out.1.slice
      obtain ⟨s3, s4, rfl⟩ := HC.out.2.1.slice
      obtain ⟨s5, s6, rfl⟩ := HC.out.2.2.slice
      go_wp2_with fail
      rename World => W1
      clear HAP
      go_loopw [9] (fun i wr => ∃ (k : Nat), k ≤ l.length ∧ k ≤ 40 ∧ i = .int .i64 k ∧ KnAt w wr cb) (fun i _ => l.length - (intOf i).toNat)
      case atStart => exact ⟨0, by omega, by omega, rfl, KnAt.mk ⟨T, [], [], _, _, _, c0, c1, c2, y0, y1, y2, r0, x0, r1, x1, r2, x2, HF, HC, k0⟩⟩
      case round =>
        clear c0 c1 c2 y0 y1 y2 r0 r1 r2 x0 x1 x2 k0 HF HC
        obtain ⟨k, hkl, hk, rfl, HREL⟩ := hrel
        obtain ⟨S, P, A, sv, pv, av, c0, c1, c2, y0, y1, y2, r0, x0, r1, x1, r2, x2, HF, HC, k0⟩ := HREL
        obtain ⟨m1, m2, rfl⟩ := HC.out.1.slice
        obtain ⟨m3, m4, rfl⟩ := HC.out.2.1.slice
        obtain ⟨m5, m6, rfl⟩ := HC.out.2.2.slice
        by_cases hlt : k < l.length
        · by_cases h40 : k < 40
          · obtain ⟨b, off, cap', e1, hcap, hb, g0, g1, g2, g3⟩ := rw_at (RowAt.below HL.out k0 (Nat.le_refl _)) hlt
            obtain ⟨b2, off2, cap2, f1, _, hbw, _⟩ := rw_at HL.out hlt
            simp only [Value.slice.injEq, true_and] at e1 f1
            obtain ⟨rfl, rfl⟩ := e1
            have hbe := f1.1
            simp only [Option.some.injEq, Addr.mk.injEq] at hbe
            rw [← hbe.1] at hbw
            clear hbe f1
            have HCX := hide (fun W => HCH.out W (l.getD k rw0))
            clear HCH
            generalize (l.getD k rw0).k = x4 at *
            generalize (l.getD k rw0).a = x5 at *
            generalize (l.getD k rw0).b = x6 at *
            generalize (l.getD k rw0).c = x7 at *
            have q3 : (0 : Int) ≤ (k : Int) := by omega
            have q4 : (k : Int) < (l.length : Int) := by omega
            have q5 : (k : Int) < 40 := by omega
            go_wp2_with fail
            refine wp_region_held_drew (S := (fun w' => w'.cell? ⟨cb, 0, none⟩ = some (.slice m1 S.length m2) ∧ w'.cell? ⟨cb, 1, none⟩ = some (.slice m3 P.length m4) ∧ w'.cell? ⟨cb, 2, none⟩ = some (.slice m5 A.length m6) ∧ w'.cell? ⟨b, off + k * 4, none⟩ = some (.int .i64 x4) ∧ w'.cell? ⟨b, off + k * 4 + 1, none⟩ = some (.int .i64 x5) ∧ w'.cell? ⟨b, off + k * 4 + 2, none⟩ = some (.int .i64 x6) ∧ w'.cell? ⟨b, off + k * 4 + 3, none⟩ = some (.int .i64 x7))) (by kernel_rfl) ⟨c0, c1, c2, g0, g1, g2, g3⟩ (fun hHeld => ?_)
            have HDW : Below wr.heap.size wr wr.drew := (Below.refl _ _).drew
            replace y0 := (HDW.frozen (p := ⟨cb, 0, none⟩) (cell_in c0)).trans y0
            replace y1 := (HDW.frozen (p := ⟨cb, 1, none⟩) (cell_in c1)).trans y1
            replace y2 := (HDW.frozen (p := ⟨cb, 2, none⟩) (cell_in c2)).trans y2
            replace x0 := (HDW.frozen (p := ⟨w.heap.size, 0, none⟩) (cell_in r0)).trans x0
            replace x1 := (HDW.frozen (p := ⟨w.heap.size, 1, none⟩) (cell_in r1)).trans x1
            replace x2 := (HDW.frozen (p := ⟨w.heap.size, 2, none⟩) (cell_in r2)).trans x2
            replace c0 := cell_beh c0 HDW (Nat.le_refl _)
            replace c1 := cell_beh c1 HDW (Nat.le_refl _)
            replace c2 := cell_beh c2 HDW (Nat.le_refl _)
            replace r0 := cell_beh r0 HDW (Nat.le_refl _)
            replace r1 := cell_beh r1 HDW (Nat.le_refl _)
            replace r2 := cell_beh r2 HDW (Nat.le_refl _)
            replace g0 := cell_beh g0 HDW (Nat.le_refl _)
            replace g1 := cell_beh g1 HDW (Nat.le_refl _)
            replace g2 := cell_beh g2 HDW (Nat.le_refl _)
            replace g3 := cell_beh g3 HDW (Nat.le_refl _)
            replace HC := hide (HC.out.below HDW (Nat.le_refl _))
            replace k0 := k0.trans (HDW.mono k0.size)
            clear HDW
            generalize wr.drew = V0 at *
            refine wpAnyH_take (i := 0) (oi := ⟨some 48, _, _, _, _, _⟩) (v := ?v32) rfl (by kernel_rfl) (by kernel_rfl) (by kernel_rfl) (fun _ _ _ h => h) (Or.inl ⟨by rfl, ?h32⟩) (by assumption) ?r32
            case h32 => (intro w hSw; (try dsimp only at hSw); go_simp <;> with_reducible rfl)
            (try simp only [Act.put, List.setIfInBounds_toArray, List.set_cons_zero, List.set_cons_succ])
            refine wpAnyH_take (i := 1) (oi := ⟨some 49, _, _, _, _, _⟩) (v := ?v33) rfl (by kernel_rfl) (by kernel_rfl) (by kernel_rfl) (fun _ _ _ h => h) (Or.inl ⟨by rfl, ?h33⟩) (by assumption) ?r33
            case h33 => (intro w hSw; (try dsimp only at hSw); go_simp <;> with_reducible rfl)
            (try simp only [Act.put, List.setIfInBounds_toArray, List.set_cons_zero, List.set_cons_succ])
            refine wpAnyH_take (i := 2) (oi := ⟨some 50, _, _, _, _, _⟩) (v := ?v34) rfl (by kernel_rfl) (by kernel_rfl) (by kernel_rfl) (fun _ _ _ h => h) (Or.inl ⟨by rfl, ?h34⟩) (by assumption) ?r34
            case h34 => (intro w hSw; (try dsimp only at hSw); go_simp <;> with_reducible rfl)
            (try simp only [Act.put, List.setIfInBounds_toArray, List.set_cons_zero, List.set_cons_succ])
            refine wpAnyH_take (i := 3) (oi := ⟨some 51, _, _, _, _, _⟩) (v := ?v35) rfl (by kernel_rfl) (by kernel_rfl) (by kernel_rfl) (fun _ _ _ h => h) (Or.inl ⟨by rfl, ?h35⟩) (by assumption) ?r35
            case h35 => (intro w hSw; (try dsimp only at hSw); go_simp <;> with_reducible rfl)
            (try simp only [Act.put, List.setIfInBounds_toArray, List.set_cons_zero, List.set_cons_succ])
            refine wpAnyH_take (i := 4) (oi := ⟨some 52, _, _, _, _, _⟩) (v := ?v36) rfl (by kernel_rfl) (by kernel_rfl) (by kernel_rfl) (fun _ _ _ h => h) (Or.inl ⟨by rfl, ?h36⟩) (by assumption) ?r36
            case h36 => (intro w hSw; (try dsimp only at hSw); go_simp <;> with_reducible rfl)
            (try simp only [Act.put, List.setIfInBounds_toArray, List.set_cons_zero, List.set_cons_succ])
            refine wpAnyH_ready (rs := [5, 10]) (by kernel_rfl) (by simp) ?_
            refine (AllReadyH.cons (o := ⟨some 53, _, _, _, _, _⟩) rfl (fun K hK => ?_) (AllReadyH.cons (o := ⟨some 10, _, _, _, _, _⟩) rfl (fun K hK => ?_) AllReadyH.nil))
            · go_simp
              clear hHeld
              refine (unhide HCX _).mono ?_
              rintro e V1 ⟨ax, rfl, hsi, hbN⟩
              replace y0 := (hbN.frozen (p := ⟨cb, 0, none⟩) (cell_in c0)).trans y0
              replace y1 := (hbN.frozen (p := ⟨cb, 1, none⟩) (cell_in c1)).trans y1
              replace y2 := (hbN.frozen (p := ⟨cb, 2, none⟩) (cell_in c2)).trans y2
              replace x0 := (hbN.frozen (p := ⟨w.heap.size, 0, none⟩) (cell_in r0)).trans x0
              replace x1 := (hbN.frozen (p := ⟨w.heap.size, 1, none⟩) (cell_in r1)).trans x1
              replace x2 := (hbN.frozen (p := ⟨w.heap.size, 2, none⟩) (cell_in r2)).trans x2
              replace c0 := cell_beh c0 hbN (Nat.le_refl _)
              replace c1 := cell_beh c1 hbN (Nat.le_refl _)
              replace c2 := cell_beh c2 hbN (Nat.le_refl _)
              replace r0 := cell_beh r0 hbN (Nat.le_refl _)
              replace r1 := cell_beh r1 hbN (Nat.le_refl _)
              replace r2 := cell_beh r2 hbN (Nat.le_refl _)
              replace g0 := cell_beh g0 hbN (Nat.le_refl _)
              replace g1 := cell_beh g1 hbN (Nat.le_refl _)
              replace g2 := cell_beh g2 hbN (Nat.le_refl _)
              replace g3 := cell_beh g3 hbN (Nat.le_refl _)
              replace HC := hide (HC.out.below hbN (Nat.le_refl _))
              replace k0 := k0.trans (hbN.mono k0.size)
              clear hbN
              go_wp2_with fail
              refine hK.out _ _ ⟨c0, c1, c2, g0, g1, g2, g3⟩ (fun hHeld => ?_)
              clear hK K
              (try simp only [Act.put, List.setIfInBounds_toArray, List.set_cons_zero, List.set_cons_succ])
              refine wpAnyH_ready (rs := [6, 10]) (by kernel_rfl) (by simp) ?_
              refine (AllReadyH.cons (o := ⟨some 54, _, _, _, _, _⟩) rfl (fun K hK => ?_) (AllReadyH.cons (o := ⟨some 10, _, _, _, _, _⟩) rfl (fun K hK => ?_) AllReadyH.nil))
              · go_simp
                clear hHeld
                refine (unhide HAP2 _ _ _ _ _ _ _ _ hsi HF.out HC.out).mono ?_
                rintro e V2 ⟨su, pu, au, E, rfl, LS, LP, LA, hcN, hfN, hbN⟩
                replace y0 := (hbN.frozen (p := ⟨cb, 0, none⟩) (cell_in c0)).trans y0
                replace y1 := (hbN.frozen (p := ⟨cb, 1, none⟩) (cell_in c1)).trans y1
                replace y2 := (hbN.frozen (p := ⟨cb, 2, none⟩) (cell_in c2)).trans y2
                replace x0 := (hbN.frozen (p := ⟨w.heap.size, 0, none⟩) (cell_in r0)).trans x0
                replace x1 := (hbN.frozen (p := ⟨w.heap.size, 1, none⟩) (cell_in r1)).trans x1
                replace x2 := (hbN.frozen (p := ⟨w.heap.size, 2, none⟩) (cell_in r2)).trans x2
                replace c0 := cell_beh c0 hbN (Nat.le_refl _)
                replace c1 := cell_beh c1 hbN (Nat.le_refl _)
                replace c2 := cell_beh c2 hbN (Nat.le_refl _)
                replace r0 := cell_beh r0 hbN (Nat.le_refl _)
                replace r1 := cell_beh r1 hbN (Nat.le_refl _)
                replace r2 := cell_beh r2 hbN (Nat.le_refl _)
                replace g0 := cell_beh g0 hbN (Nat.le_refl _)
                replace g1 := cell_beh g1 hbN (Nat.le_refl _)
                replace g2 := cell_beh g2 hbN (Nat.le_refl _)
                replace g3 := cell_beh g3 hbN (Nat.le_refl _)
                replace HC := hide (HC.out.below hbN (Nat.le_refl _))
                replace k0 := k0.trans (hbN.mono k0.size)
                have HN := hide hcN
                have HFN := hide hfN
                clear hcN hbN hfN
                obtain ⟨t1, t2, rfl⟩ := HN.out.1.slice
                obtain ⟨t3, t4, rfl⟩ := HN.out.2.1.slice
                obtain ⟨t5, t6, rfl⟩ := HN.out.2.2.slice
                go_wp2_with fail
                refine hK.out _ _ ⟨c0, c1, c2, g0, g1, g2, g3⟩ (fun hHeld => ?_)
                clear hK K
                (try simp only [Act.put, List.setIfInBounds_toArray, List.set_cons_zero, List.set_cons_succ])
                refine wpAnyH_take (i := 7) (oi := ⟨some 47, _, _, _, _, _⟩) (v := ?v37) rfl (by kernel_rfl) (by kernel_rfl) (by kernel_rfl) (fun _ _ _ h => h) (Or.inl ⟨by rfl, ?h37⟩) (by assumption) ?r37
                case h37 => (intro w hSw; (try dsimp only at hSw); go_simp <;> with_reducible rfl)
                (try simp only [Act.put, List.setIfInBounds_toArray, List.set_cons_zero, List.set_cons_succ])
                refine wpAnyH_take (i := 8) (oi := ⟨some 55, _, _, _, _, _⟩) (v := ?v38) rfl (by kernel_rfl) (by kernel_rfl) (by kernel_rfl) (fun _ _ _ h => h) (Or.inl ⟨by rfl, ?h38⟩) (by assumption) ?r38
                case h38 => (intro w hSw; (try dsimp only at hSw); go_simp <;> with_reducible rfl)
                (try simp only [Act.put, List.setIfInBounds_toArray, List.set_cons_zero, List.set_cons_succ])
                refine wpAnyH_take (i := 9) (oi := ⟨some 56, _, _, _, _, _⟩) (v := ?v39) rfl (by kernel_rfl) (by kernel_rfl) (by kernel_rfl) (fun _ _ _ h => h) (Or.inl ⟨by rfl, ?h39⟩) (by assumption) ?r39
                case h39 => (intro w hSw; (try dsimp only at hSw); go_simp <;> with_reducible rfl)
                (try simp only [Act.put, List.setIfInBounds_toArray, List.set_cons_zero, List.set_cons_succ])
                refine wpAnyH_ready (rs := [10]) (by kernel_rfl) (by simp) ?_
                refine (AllReadyH.cons (o := ⟨some 10, _, _, _, _, _⟩) rfl (fun K hK => ?_) AllReadyH.nil)
                go_simp
                clear hHeld
                obtain ⟨V3, hV⟩ : ∃ V3, V3 = V2.alloc (.cells #[.slice none 0 0, .slice none 0 0, .slice none 0 0] 29) := ⟨_, rfl⟩
                obtain ⟨db, hdb⟩ : ∃ db, db = V2.heap.size := ⟨_, rfl⟩
                have hbN : Below V2.heap.size V2 V3 := by rw [hV]; exact (Below.refl _ _).alloc (Nat.le_refl _) _
                have d0 : V3.cell? ⟨db, 0, none⟩ = some (.slice none 0 0) := by rw [hV, hdb]; exact new_cell V2 _ rfl _ _ _ _ rfl
                have d1 : V3.cell? ⟨db, 1, none⟩ = some (.slice none 0 0) := by rw [hV, hdb]; exact new_cell V2 _ rfl _ _ _ _ rfl
                have d2 : V3.cell? ⟨db, 2, none⟩ = some (.slice none 0 0) := by rw [hV, hdb]; exact new_cell V2 _ rfl _ _ _ _ rfl
                have z0 : V3.frozen? ⟨db, 0, none⟩ = false := by rw [hV, hdb]; exact new_frozen V2 _ rfl _ _ _
                have z1 : V3.frozen? ⟨db, 1, none⟩ = false := by rw [hV, hdb]; exact new_frozen V2 _ rfl _ _ _
                have z2 : V3.frozen? ⟨db, 2, none⟩ = false := by rw [hV, hdb]; exact new_frozen V2 _ rfl _ _ _
                have hcd : cb < db := by rw [hdb]; exact cell_in c0
                have hwd : w.heap.size ≤ db := by rw [hdb]; exact k0.size
                replace y0 := (hbN.frozen (p := ⟨cb, 0, none⟩) (cell_in c0)).trans y0
                replace y1 := (hbN.frozen (p := ⟨cb, 1, none⟩) (cell_in c1)).trans y1
                replace y2 := (hbN.frozen (p := ⟨cb, 2, none⟩) (cell_in c2)).trans y2
                replace x0 := (hbN.frozen (p := ⟨w.heap.size, 0, none⟩) (cell_in r0)).trans x0
                replace x1 := (hbN.frozen (p := ⟨w.heap.size, 1, none⟩) (cell_in r1)).trans x1
                replace x2 := (hbN.frozen (p := ⟨w.heap.size, 2, none⟩) (cell_in r2)).trans x2
                replace c0 := cell_beh c0 hbN (Nat.le_refl _)
                replace c1 := cell_beh c1 hbN (Nat.le_refl _)
                replace c2 := cell_beh c2 hbN (Nat.le_refl _)
                replace r0 := cell_beh r0 hbN (Nat.le_refl _)
                replace r1 := cell_beh r1 hbN (Nat.le_refl _)
                replace r2 := cell_beh r2 hbN (Nat.le_refl _)
                replace g0 := cell_beh g0 hbN (Nat.le_refl _)
                replace g1 := cell_beh g1 hbN (Nat.le_refl _)
                replace g2 := cell_beh g2 hbN (Nat.le_refl _)
                replace g3 := cell_beh g3 hbN (Nat.le_refl _)
                replace HC := hide (HC.out.below hbN (Nat.le_refl _))
                replace HN := hide (HN.out.below hbN (Nat.le_refl _))
                replace k0 := k0.trans (hbN.mono k0.size)
                rw [← hV, ← hdb]
                clear hV hdb hbN
                refine hK.out _ _ ⟨c0, c1, c2, g0, g1, g2, g3⟩ (fun hHeld => ?_)
                clear hK K
                (try simp only [Act.put, List.setIfInBounds_toArray, List.set_cons_zero, List.set_cons_succ])
                refine wpAnyH_ready (rs := [11]) (by kernel_rfl) (by simp) ?_
                refine (AllReadyH.cons (o := ⟨none, _, _, _, _, _⟩) rfl (fun K hK => ?_) AllReadyH.nil)
                have hne1 : ¬ cb = db := by omega
                have hne2 : ¬ db = cb := by omega
                go_simp
                clear hHeld
                obtain ⟨e0, e1, e2⟩ := set3 d0 d1 d2 (.slice t1 LS.length t2) (.slice t3 LP.length t4) (.slice t5 LA.length t6)
                replace HC := hide (((HC.out.set_box d0 (.slice t1 LS.length t2)).set_box ((World.cell?_setCell_other _ _ _ _ (by simp)).trans d1) (.slice t3 LP.length t4)).set_box ((World.cell?_setCell_other _ _ _ _ (by simp)).trans ((World.cell?_setCell_other _ _ _ _ (by simp)).trans d2)) (.slice t5 LA.length t6))
                replace HN := hide (((HN.out.set_box d0 (.slice t1 LS.length t2)).set_box ((World.cell?_setCell_other _ _ _ _ (by simp)).trans d1) (.slice t3 LP.length t4)).set_box ((World.cell?_setCell_other _ _ _ _ (by simp)).trans ((World.cell?_setCell_other _ _ _ _ (by simp)).trans d2)) (.slice t5 LA.length t6))
                replace k0 := ((k0.setCell (p := ⟨db, 0, none⟩) (by show _ ≤ db; omega) (.slice t1 LS.length t2)).setCell (p := ⟨db, 1, none⟩) (by show _ ≤ db; omega) (.slice t3 LP.length t4)).setCell (p := ⟨db, 2, none⟩) (by show _ ≤ db; omega) (.slice t5 LA.length t6)
                replace c0 : (((V3.setCell ⟨db, 0, none⟩ (.slice t1 LS.length t2)).setCell ⟨db, 1, none⟩ (.slice t3 LP.length t4)).setCell ⟨db, 2, none⟩ (.slice t5 LA.length t6)).cell? ⟨cb, 0, none⟩ = some _ := ((World.cell?_setCell_other _ _ _ _ (by simp <;> omega)).trans ((World.cell?_setCell_other _ _ _ _ (by simp <;> omega)).trans ((World.cell?_setCell_other _ _ _ _ (by simp <;> omega)).trans c0)))
                replace c1 : (((V3.setCell ⟨db, 0, none⟩ (.slice t1 LS.length t2)).setCell ⟨db, 1, none⟩ (.slice t3 LP.length t4)).setCell ⟨db, 2, none⟩ (.slice t5 LA.length t6)).cell? ⟨cb, 1, none⟩ = some _ := ((World.cell?_setCell_other _ _ _ _ (by simp <;> omega)).trans ((World.cell?_setCell_other _ _ _ _ (by simp <;> omega)).trans ((World.cell?_setCell_other _ _ _ _ (by simp <;> omega)).trans c1)))
                replace c2 : (((V3.setCell ⟨db, 0, none⟩ (.slice t1 LS.length t2)).setCell ⟨db, 1, none⟩ (.slice t3 LP.length t4)).setCell ⟨db, 2, none⟩ (.slice t5 LA.length t6)).cell? ⟨cb, 2, none⟩ = some _ := ((World.cell?_setCell_other _ _ _ _ (by simp <;> omega)).trans ((World.cell?_setCell_other _ _ _ _ (by simp <;> omega)).trans ((World.cell?_setCell_other _ _ _ _ (by simp <;> omega)).trans c2)))
                replace r0 : (((V3.setCell ⟨db, 0, none⟩ (.slice t1 LS.length t2)).setCell ⟨db, 1, none⟩ (.slice t3 LP.length t4)).setCell ⟨db, 2, none⟩ (.slice t5 LA.length t6)).cell? ⟨w.heap.size, 0, none⟩ = some _ := ((World.cell?_setCell_other _ _ _ _ (by simp <;> omega)).trans ((World.cell?_setCell_other _ _ _ _ (by simp <;> omega)).trans ((World.cell?_setCell_other _ _ _ _ (by simp <;> omega)).trans r0)))
                replace r1 : (((V3.setCell ⟨db, 0, none⟩ (.slice t1 LS.length t2)).setCell ⟨db, 1, none⟩ (.slice t3 LP.length t4)).setCell ⟨db, 2, none⟩ (.slice t5 LA.length t6)).cell? ⟨w.heap.size, 1, none⟩ = some _ := ((World.cell?_setCell_other _ _ _ _ (by simp <;> omega)).trans ((World.cell?_setCell_other _ _ _ _ (by simp <;> omega)).trans ((World.cell?_setCell_other _ _ _ _ (by simp <;> omega)).trans r1)))
                replace r2 : (((V3.setCell ⟨db, 0, none⟩ (.slice t1 LS.length t2)).setCell ⟨db, 1, none⟩ (.slice t3 LP.length t4)).setCell ⟨db, 2, none⟩ (.slice t5 LA.length t6)).cell? ⟨w.heap.size, 2, none⟩ = some _ := ((World.cell?_setCell_other _ _ _ _ (by simp <;> omega)).trans ((World.cell?_setCell_other _ _ _ _ (by simp <;> omega)).trans ((World.cell?_setCell_other _ _ _ _ (by simp <;> omega)).trans r2)))
                replace g0 : (((V3.setCell ⟨db, 0, none⟩ (.slice t1 LS.length t2)).setCell ⟨db, 1, none⟩ (.slice t3 LP.length t4)).setCell ⟨db, 2, none⟩ (.slice t5 LA.length t6)).cell? ⟨b, off + k * 4, none⟩ = some _ := ((World.cell?_setCell_other _ _ _ _ (by simp <;> omega)).trans ((World.cell?_setCell_other _ _ _ _ (by simp <;> omega)).trans ((World.cell?_setCell_other _ _ _ _ (by simp <;> omega)).trans g0)))
                replace g1 : (((V3.setCell ⟨db, 0, none⟩ (.slice t1 LS.length t2)).setCell ⟨db, 1, none⟩ (.slice t3 LP.length t4)).setCell ⟨db, 2, none⟩ (.slice t5 LA.length t6)).cell? ⟨b, off + k * 4 + 1, none⟩ = some _ := ((World.cell?_setCell_other _ _ _ _ (by simp <;> omega)).trans ((World.cell?_setCell_other _ _ _ _ (by simp <;> omega)).trans ((World.cell?_setCell_other _ _ _ _ (by simp <;> omega)).trans g1)))
                replace g2 : (((V3.setCell ⟨db, 0, none⟩ (.slice t1 LS.length t2)).setCell ⟨db, 1, none⟩ (.slice t3 LP.length t4)).setCell ⟨db, 2, none⟩ (.slice t5 LA.length t6)).cell? ⟨b, off + k * 4 + 2, none⟩ = some _ := ((World.cell?_setCell_other _ _ _ _ (by simp <;> omega)).trans ((World.cell?_setCell_other _ _ _ _ (by simp <;> omega)).trans ((World.cell?_setCell_other _ _ _ _ (by simp <;> omega)).trans g2)))
                replace g3 : (((V3.setCell ⟨db, 0, none⟩ (.slice t1 LS.length t2)).setCell ⟨db, 1, none⟩ (.slice t3 LP.length t4)).setCell ⟨db, 2, none⟩ (.slice t5 LA.length t6)).cell? ⟨b, off + k * 4 + 3, none⟩ = some _ := ((World.cell?_setCell_other _ _ _ _ (by simp <;> omega)).trans ((World.cell?_setCell_other _ _ _ _ (by simp <;> omega)).trans ((World.cell?_setCell_other _ _ _ _ (by simp <;> omega)).trans g3)))
                replace y0 : (((V3.setCell ⟨db, 0, none⟩ (.slice t1 LS.length t2)).setCell ⟨db, 1, none⟩ (.slice t3 LP.length t4)).setCell ⟨db, 2, none⟩ (.slice t5 LA.length t6)).frozen? ⟨cb, 0, none⟩ = false := by rw [World.frozen?_setCell, World.frozen?_setCell, World.frozen?_setCell]; exact y0
                replace y1 : (((V3.setCell ⟨db, 0, none⟩ (.slice t1 LS.length t2)).setCell ⟨db, 1, none⟩ (.slice t3 LP.length t4)).setCell ⟨db, 2, none⟩ (.slice t5 LA.length t6)).frozen? ⟨cb, 1, none⟩ = false := by rw [World.frozen?_setCell, World.frozen?_setCell, World.frozen?_setCell]; exact y1
                replace y2 : (((V3.setCell ⟨db, 0, none⟩ (.slice t1 LS.length t2)).setCell ⟨db, 1, none⟩ (.slice t3 LP.length t4)).setCell ⟨db, 2, none⟩ (.slice t5 LA.length t6)).frozen? ⟨cb, 2, none⟩ = false := by rw [World.frozen?_setCell, World.frozen?_setCell, World.frozen?_setCell]; exact y2
                replace x0 : (((V3.setCell ⟨db, 0, none⟩ (.slice t1 LS.length t2)).setCell ⟨db, 1, none⟩ (.slice t3 LP.length t4)).setCell ⟨db, 2, none⟩ (.slice t5 LA.length t6)).frozen? ⟨w.heap.size, 0, none⟩ = false := by rw [World.frozen?_setCell, World.frozen?_setCell, World.frozen?_setCell]; exact x0
                replace x1 : (((V3.setCell ⟨db, 0, none⟩ (.slice t1 LS.length t2)).setCell ⟨db, 1, none⟩ (.slice t3 LP.length t4)).setCell ⟨db, 2, none⟩ (.slice t5 LA.length t6)).frozen? ⟨w.heap.size, 1, none⟩ = false := by rw [World.frozen?_setCell, World.frozen?_setCell, World.frozen?_setCell]; exact x1
                replace x2 : (((V3.setCell ⟨db, 0, none⟩ (.slice t1 LS.length t2)).setCell ⟨db, 1, none⟩ (.slice t3 LP.length t4)).setCell ⟨db, 2, none⟩ (.slice t5 LA.length t6)).frozen? ⟨w.heap.size, 2, none⟩ = false := by rw [World.frozen?_setCell, World.frozen?_setCell, World.frozen?_setCell]; exact x2
                clear d0 d1 d2 z0 z1 z2
                have d0 := e0
                have d1 := e1
                have d2 := e2
                clear e0 e1 e2
                generalize (((V3.setCell ⟨db, 0, none⟩ (.slice t1 LS.length t2)).setCell ⟨db, 1, none⟩ (.slice t3 LP.length t4)).setCell ⟨db, 2, none⟩ (.slice t5 LA.length t6)) = V at *
                refine hK.out _ _ ⟨c0, c1, c2, g0, g1, g2, g3⟩ (fun hHeld => ?_)
                clear hK K
                (try simp only [Act.put, List.setIfInBounds_toArray, List.set_cons_zero, List.set_cons_succ])
                refine wpAnyH_take (i := 12) (oi := ⟨some 11, _, _, _, _, _⟩) (v := ?v40) rfl (by kernel_rfl) (by kernel_rfl) (by kernel_rfl) (fun _ _ _ h => h) (Or.inl ⟨by rfl, ?h40⟩) (by assumption) ?r40
                case h40 => (intro w hSw; (try dsimp only at hSw); go_simp <;> with_reducible rfl)
                (try simp only [Act.put, List.setIfInBounds_toArray, List.set_cons_zero, List.set_cons_succ])
                refine wpAnyH_done (by kernel_rfl) ?_ _
                clear hHeld
                clear g0 g1 g2 g3
                by_cases hE : E = 0
                · subst hE
                  have HF2 := hide (HFN.out rfl)
                  go_wp2_with fail
                  obtain ⟨v0, v1, v2⟩ := set3 c0 c1 c2 (.slice t1 LS.length t2) (.slice t3 LP.length t4) (.slice t5 LA.length t6)
                  go_roundw
                  case rel => exact ⟨k + 1, by omega, by omega, by go_num, KnAt.mk ⟨LS, LP, LA, _, _, _, v0, v1, v2, (by rw [World.frozen?_setCell, World.frozen?_setCell, World.frozen?_setCell]; exact y0), (by rw [World.frozen?_setCell, World.frozen?_setCell, World.frozen?_setCell]; exact y1), (by rw [World.frozen?_setCell, World.frozen?_setCell, World.frozen?_setCell]; exact y2), (World.cell?_setCell_other _ _ _ _ (by simp <;> omega)).trans ((World.cell?_setCell_other _ _ _ _ (by simp <;> omega)).trans ((World.cell?_setCell_other _ _ _ _ (by simp <;> omega)).trans r0)), (by rw [World.frozen?_setCell, World.frozen?_setCell, World.frozen?_setCell]; exact x0), (World.cell?_setCell_other _ _ _ _ (by simp <;> omega)).trans ((World.cell?_setCell_other _ _ _ _ (by simp <;> omega)).trans ((World.cell?_setCell_other _ _ _ _ (by simp <;> omega)).trans r1)), (by rw [World.frozen?_setCell, World.frozen?_setCell, World.frozen?_setCell]; exact x1), (World.cell?_setCell_other _ _ _ _ (by simp <;> omega)).trans ((World.cell?_setCell_other _ _ _ _ (by simp <;> omega)).trans ((World.cell?_setCell_other _ _ _ _ (by simp <;> omega)).trans r2)), (by rw [World.frozen?_setCell, World.frozen?_setCell, World.frozen?_setCell]; exact x2), HF2, hide (((HN.out.set_box c0 _).set_box ((World.cell?_setCell_other _ _ _ _ (by simp)).trans c1) _).set_box ((World.cell?_setCell_other _ _ _ _ (by simp)).trans ((World.cell?_setCell_other _ _ _ _ (by simp)).trans c2)) _), ((k0.setCell (p := ⟨cb, 0, none⟩) (by show _ ≤ cb; omega) _).setCell (p := ⟨cb, 1, none⟩) (by show _ ≤ cb; omega) _).setCell (p := ⟨cb, 2, none⟩) (by show _ ≤ cb; omega) _⟩⟩
                  case measure => simp [intOf]; omega
                · have hEb : (E == 0) = false := by simpa using hE
                  go_wp2_with fail
                  go_roundw
                  case rel => exact ⟨k + 1, by omega, by omega, by go_num, KnAt.mk ⟨S, P, A, _, _, _, c0, c1, c2, y0, y1, y2, r0, x0, r1, x1, r2, x2, HF, HC, k0⟩⟩
                  case measure => simp [intOf]; omega
              · go_simp
                clear hHeld
                obtain ⟨V2, hV⟩ : ∃ V2, V2 = V1.alloc (.cells #[.slice none 0 0, .slice none 0 0, .slice none 0 0] 29) := ⟨_, rfl⟩
                obtain ⟨db, hdb⟩ : ∃ db, db = V1.heap.size := ⟨_, rfl⟩
                have hbN : Below V1.heap.size V1 V2 := by rw [hV]; exact (Below.refl _ _).alloc (Nat.le_refl _) _
                have d0 : V2.cell? ⟨db, 0, none⟩ = some (.slice none 0 0) := by rw [hV, hdb]; exact new_cell V1 _ rfl _ _ _ _ rfl
                have d1 : V2.cell? ⟨db, 1, none⟩ = some (.slice none 0 0) := by rw [hV, hdb]; exact new_cell V1 _ rfl _ _ _ _ rfl
                have d2 : V2.cell? ⟨db, 2, none⟩ = some (.slice none 0 0) := by rw [hV, hdb]; exact new_cell V1 _ rfl _ _ _ _ rfl
                have z0 : V2.frozen? ⟨db, 0, none⟩ = false := by rw [hV, hdb]; exact new_frozen V1 _ rfl _ _ _
                have z1 : V2.frozen? ⟨db, 1, none⟩ = false := by rw [hV, hdb]; exact new_frozen V1 _ rfl _ _ _
                have z2 : V2.frozen? ⟨db, 2, none⟩ = false := by rw [hV, hdb]; exact new_frozen V1 _ rfl _ _ _
                have hcd : cb < db := by rw [hdb]; exact cell_in c0
                have hwd : w.heap.size ≤ db := by rw [hdb]; exact k0.size
                replace y0 := (hbN.frozen (p := ⟨cb, 0, none⟩) (cell_in c0)).trans y0
                replace y1 := (hbN.frozen (p := ⟨cb, 1, none⟩) (cell_in c1)).trans y1
                replace y2 := (hbN.frozen (p := ⟨cb, 2, none⟩) (cell_in c2)).trans y2
                replace x0 := (hbN.frozen (p := ⟨w.heap.size, 0, none⟩) (cell_in r0)).trans x0
                replace x1 := (hbN.frozen (p := ⟨w.heap.size, 1, none⟩) (cell_in r1)).trans x1
                replace x2 := (hbN.frozen (p := ⟨w.heap.size, 2, none⟩) (cell_in r2)).trans x2
                replace c0 := cell_beh c0 hbN (Nat.le_refl _)
                replace c1 := cell_beh c1 hbN (Nat.le_refl _)
                replace c2 := cell_beh c2 hbN (Nat.le_refl _)
                replace r0 := cell_beh r0 hbN (Nat.le_refl _)
                replace r1 := cell_beh r1 hbN (Nat.le_refl _)
                replace r2 := cell_beh r2 hbN (Nat.le_refl _)
                replace g0 := cell_beh g0 hbN (Nat.le_refl _)
                replace g1 := cell_beh g1 hbN (Nat.le_refl _)
                replace g2 := cell_beh g2 hbN (Nat.le_refl _)
                replace g3 := cell_beh g3 hbN (Nat.le_refl _)
                replace HC := hide (HC.out.below hbN (Nat.le_refl _))
                replace k0 := k0.trans (hbN.mono k0.size)
                rw [← hV, ← hdb]
                clear hV hdb hbN
                refine hK.out _ _ ⟨c0, c1, c2, g0, g1, g2, g3⟩ (fun hHeld => ?_)
                clear hK K
                (try simp only [Act.put, List.setIfInBounds_toArray, List.set_cons_zero, List.set_cons_succ])
                refine wpAnyH_ready (rs := [6]) (by kernel_rfl) (by simp) ?_
                refine (AllReadyH.cons (o := ⟨some 54, _, _, _, _, _⟩) rfl (fun K hK => ?_) AllReadyH.nil)
                go_simp
                clear hHeld
                refine (unhide HAP2 _ _ _ _ _ _ _ _ hsi HF.out HC.out).mono ?_
                rintro e V3 ⟨su, pu, au, E, rfl, LS, LP, LA, hcN, hfN, hbN⟩
                replace y0 := (hbN.frozen (p := ⟨cb, 0, none⟩) (cell_in c0)).trans y0
                replace y1 := (hbN.frozen (p := ⟨cb, 1, none⟩) (cell_in c1)).trans y1
                replace y2 := (hbN.frozen (p := ⟨cb, 2, none⟩) (cell_in c2)).trans y2
                replace x0 := (hbN.frozen (p := ⟨w.heap.size, 0, none⟩) (cell_in r0)).trans x0
                replace x1 := (hbN.frozen (p := ⟨w.heap.size, 1, none⟩) (cell_in r1)).trans x1
                replace x2 := (hbN.frozen (p := ⟨w.heap.size, 2, none⟩) (cell_in r2)).trans x2
                replace z0 := (hbN.frozen (p := ⟨db, 0, none⟩) (cell_in d0)).trans z0
                replace z1 := (hbN.frozen (p := ⟨db, 1, none⟩) (cell_in d1)).trans z1
                replace z2 := (hbN.frozen (p := ⟨db, 2, none⟩) (cell_in d2)).trans z2
                replace c0 := cell_beh c0 hbN (Nat.le_refl _)
                replace c1 := cell_beh c1 hbN (Nat.le_refl _)
                replace c2 := cell_beh c2 hbN (Nat.le_refl _)
                replace r0 := cell_beh r0 hbN (Nat.le_refl _)
                replace r1 := cell_beh r1 hbN (Nat.le_refl _)
                replace r2 := cell_beh r2 hbN (Nat.le_refl _)
                replace g0 := cell_beh g0 hbN (Nat.le_refl _)
                replace g1 := cell_beh g1 hbN (Nat.le_refl _)
                replace g2 := cell_beh g2 hbN (Nat.le_refl _)
                replace g3 := cell_beh g3 hbN (Nat.le_refl _)
                replace d0 := cell_beh d0 hbN (Nat.le_refl _)
                replace d1 := cell_beh d1 hbN (Nat.le_refl _)
                replace d2 := cell_beh d2 hbN (Nat.le_refl _)
                replace HC := hide (HC.out.below hbN (Nat.le_refl _))
                replace k0 := k0.trans (hbN.mono k0.size)
                have HN := hide hcN
                have HFN := hide hfN
                clear hcN hbN hfN
                obtain ⟨t1, t2, rfl⟩ := HN.out.1.slice
                obtain ⟨t3, t4, rfl⟩ := HN.out.2.1.slice
                obtain ⟨t5, t6, rfl⟩ := HN.out.2.2.slice
                go_wp2_with fail
                refine hK.out _ _ ⟨c0, c1, c2, g0, g1, g2, g3⟩ (fun hHeld => ?_)
                clear hK K
                (try simp only [Act.put, List.setIfInBounds_toArray, List.set_cons_zero, List.set_cons_succ])
                refine wpAnyH_take (i := 7) (oi := ⟨some 47, _, _, _, _, _⟩) (v := ?v41) rfl (by kernel_rfl) (by kernel_rfl) (by kernel_rfl) (fun _ _ _ h => h) (Or.inl ⟨by rfl, ?h41⟩) (by assumption) ?r41
                case h41 => (intro w hSw; (try dsimp only at hSw); go_simp <;> with_reducible rfl)
                (try simp only [Act.put, List.setIfInBounds_toArray, List.set_cons_zero, List.set_cons_succ])
                refine wpAnyH_take (i := 8) (oi := ⟨some 55, _, _, _, _, _⟩) (v := ?v42) rfl (by kernel_rfl) (by kernel_rfl) (by kernel_rfl) (fun _ _ _ h => h) (Or.inl ⟨by rfl, ?h42⟩) (by assumption) ?r42
                case h42 => (intro w hSw; (try dsimp only at hSw); go_simp <;> with_reducible rfl)
                (try simp only [Act.put, List.setIfInBounds_toArray, List.set_cons_zero, List.set_cons_succ])
                refine wpAnyH_take (i := 9) (oi := ⟨some 56, _, _, _, _, _⟩) (v := ?v43) rfl (by kernel_rfl) (by kernel_rfl) (by kernel_rfl) (fun _ _ _ h => h) (Or.inl ⟨by rfl, ?h43⟩) (by assumption) ?r43
                case h43 => (intro w hSw; (try dsimp only at hSw); go_simp <;> with_reducible rfl)
                (try simp only [Act.put, List.setIfInBounds_toArray, List.set_cons_zero, List.set_cons_succ])
                refine wpAnyH_ready (rs := [11]) (by kernel_rfl) (by simp) ?_
                refine (AllReadyH.cons (o := ⟨none, _, _, _, _, _⟩) rfl (fun K hK => ?_) AllReadyH.nil)
                have hne1 : ¬ cb = db := by omega
                have hne2 : ¬ db = cb := by omega
                go_simp
                clear hHeld
                obtain ⟨e0, e1, e2⟩ := set3 d0 d1 d2 (.slice t1 LS.length t2) (.slice t3 LP.length t4) (.slice t5 LA.length t6)
                replace HC := hide (((HC.out.set_box d0 (.slice t1 LS.length t2)).set_box ((World.cell?_setCell_other _ _ _ _ (by simp)).trans d1) (.slice t3 LP.length t4)).set_box ((World.cell?_setCell_other _ _ _ _ (by simp)).trans ((World.cell?_setCell_other _ _ _ _ (by simp)).trans d2)) (.slice t5 LA.length t6))
                replace HN := hide (((HN.out.set_box d0 (.slice t1 LS.length t2)).set_box ((World.cell?_setCell_other _ _ _ _ (by simp)).trans d1) (.slice t3 LP.length t4)).set_box ((World.cell?_setCell_other _ _ _ _ (by simp)).trans ((World.cell?_setCell_other _ _ _ _ (by simp)).trans d2)) (.slice t5 LA.length t6))
                replace k0 := ((k0.setCell (p := ⟨db, 0, none⟩) (by show _ ≤ db; omega) (.slice t1 LS.length t2)).setCell (p := ⟨db, 1, none⟩) (by show _ ≤ db; omega) (.slice t3 LP.length t4)).setCell (p := ⟨db, 2, none⟩) (by show _ ≤ db; omega) (.slice t5 LA.length t6)
                replace c0 : (((V3.setCell ⟨db, 0, none⟩ (.slice t1 LS.length t2)).setCell ⟨db, 1, none⟩ (.slice t3 LP.length t4)).setCell ⟨db, 2, none⟩ (.slice t5 LA.length t6)).cell? ⟨cb, 0, none⟩ = some _ := ((World.cell?_setCell_other _ _ _ _ (by simp <;> omega)).trans ((World.cell?_setCell_other _ _ _ _ (by simp <;> omega)).trans ((World.cell?_setCell_other _ _ _ _ (by simp <;> omega)).trans c0)))
                replace c1 : (((V3.setCell ⟨db, 0, none⟩ (.slice t1 LS.length t2)).setCell ⟨db, 1, none⟩ (.slice t3 LP.length t4)).setCell ⟨db, 2, none⟩ (.slice t5 LA.length t6)).cell? ⟨cb, 1, none⟩ = some _ := ((World.cell?_setCell_other _ _ _ _ (by simp <;> omega)).trans ((World.cell?_setCell_other _ _ _ _ (by simp <;> omega)).trans ((World.cell?_setCell_other _ _ _ _ (by simp <;> omega)).trans c1)))
                replace c2 : (((V3.setCell ⟨db, 0, none⟩ (.slice t1 LS.length t2)).setCell ⟨db, 1, none⟩ (.slice t3 LP.length t4)).setCell ⟨db, 2, none⟩ (.slice t5 LA.length t6)).cell? ⟨cb, 2, none⟩ = some _ := ((World.cell?_setCell_other _ _ _ _ (by simp <;> omega)).trans ((World.cell?_setCell_other _ _ _ _ (by simp <;> omega)).trans ((World.cell?_setCell_other _ _ _ _ (by simp <;> omega)).trans c2)))
                replace r0 : (((V3.setCell ⟨db, 0, none⟩ (.slice t1 LS.length t2)).setCell ⟨db, 1, none⟩ (.slice t3 LP.length t4)).setCell ⟨db, 2, none⟩ (.slice t5 LA.length t6)).cell? ⟨w.heap.size, 0, none⟩ = some _ := ((World.cell?_setCell_other _ _ _ _ (by simp <;> omega)).trans ((World.cell?_setCell_other _ _ _ _ (by simp <;> omega)).trans ((World.cell?_setCell_other _ _ _ _ (by simp <;> omega)).trans r0)))
                replace r1 : (((V3.setCell ⟨db, 0, none⟩ (.slice t1 LS.length t2)).setCell ⟨db, 1, none⟩ (.slice t3 LP.length t4)).setCell ⟨db, 2, none⟩ (.slice t5 LA.length t6)).cell? ⟨w.heap.size, 1, none⟩ = some _ := ((World.cell?_setCell_other _ _ _ _ (by simp <;> omega)).trans ((World.cell?_setCell_other _ _ _ _ (by simp <;> omega)).trans ((World.cell?_setCell_other _ _ _ _ (by simp <;> omega)).trans r1)))
                replace r2 : (((V3.setCell ⟨db, 0, none⟩ (.slice t1 LS.length t2)).setCell ⟨db, 1, none⟩ (.slice t3 LP.length t4)).setCell ⟨db, 2, none⟩ (.slice t5 LA.length t6)).cell? ⟨w.heap.size, 2, none⟩ = some _ := ((World.cell?_setCell_other _ _ _ _ (by simp <;> omega)).trans ((World.cell?_setCell_other _ _ _ _ (by simp <;> omega)).trans ((World.cell?_setCell_other _ _ _ _ (by simp <;> omega)).trans r2)))
                replace g0 : (((V3.setCell ⟨db, 0, none⟩ (.slice t1 LS.length t2)).setCell ⟨db, 1, none⟩ (.slice t3 LP.length t4)).setCell ⟨db, 2, none⟩ (.slice t5 LA.length t6)).cell? ⟨b, off + k * 4, none⟩ = some _ := ((World.cell?_setCell_other _ _ _ _ (by simp <;> omega)).trans ((World.cell?_setCell_other _ _ _ _ (by simp <;> omega)).trans ((World.cell?_setCell_other _ _ _ _ (by simp <;> omega)).trans g0)))
                replace g1 : (((V3.setCell ⟨db, 0, none⟩ (.slice t1 LS.length t2)).setCell ⟨db, 1, none⟩ (.slice t3 LP.length t4)).setCell ⟨db, 2, none⟩ (.slice t5 LA.length t6)).cell? ⟨b, off + k * 4 + 1, none⟩ = some _ := ((World.cell?_setCell_other _ _ _ _ (by simp <;> omega)).trans ((World.cell?_setCell_other _ _ _ _ (by simp <;> omega)).trans ((World.cell?_setCell_other _ _ _ _ (by simp <;> omega)).trans g1)))
                replace g2 : (((V3.setCell ⟨db, 0, none⟩ (.slice t1 LS.length t2)).setCell ⟨db, 1, none⟩ (.slice t3 LP.length t4)).setCell ⟨db, 2, none⟩ (.slice t5 LA.length t6)).cell? ⟨b, off + k * 4 + 2, none⟩ = some _ := ((World.cell?_setCell_other _ _ _ _ (by simp <;> omega)).trans ((World.cell?_setCell_other _ _ _ _ (by simp <;> omega)).trans ((World.cell?_setCell_other _ _ _ _ (by simp <;> omega)).trans g2)))
                replace g3 : (((V3.setCell ⟨db, 0, none⟩ (.slice t1 LS.length t2)).setCell ⟨db, 1, none⟩ (.slice t3 LP.length t4)).setCell ⟨db, 2, none⟩ (.slice t5 LA.length t6)).cell? ⟨b, off + k * 4 + 3, none⟩ = some _ := ((World.cell?_setCell_other _ _ _ _ (by simp <;> omega)).trans ((World.cell?_setCell_other _ _ _ _ (by simp <;> omega)).trans ((World.cell?_setCell_other _ _ _ _ (by simp <;> omega)).trans g3)))
                replace y0 : (((V3.setCell ⟨db, 0, none⟩ (.slice t1 LS.length t2)).setCell ⟨db, 1, none⟩ (.slice t3 LP.length t4)).setCell ⟨db, 2, none⟩ (.slice t5 LA.length t6)).frozen? ⟨cb, 0, none⟩ = false := by rw [World.frozen?_setCell, World.frozen?_setCell, World.frozen?_setCell]; exact y0
                replace y1 : (((V3.setCell ⟨db, 0, none⟩ (.slice t1 LS.length t2)).setCell ⟨db, 1, none⟩ (.slice t3 LP.length t4)).setCell ⟨db, 2, none⟩ (.slice t5 LA.length t6)).frozen? ⟨cb, 1, none⟩ = false := by rw [World.frozen?_setCell, World.frozen?_setCell, World.frozen?_setCell]; exact y1
                replace y2 : (((V3.setCell ⟨db, 0, none⟩ (.slice t1 LS.length t2)).setCell ⟨db, 1, none⟩ (.slice t3 LP.length t4)).setCell ⟨db, 2, none⟩ (.slice t5 LA.length t6)).frozen? ⟨cb, 2, none⟩ = false := by rw [World.frozen?_setCell, World.frozen?_setCell, World.frozen?_setCell]; exact y2
                replace x0 : (((V3.setCell ⟨db, 0, none⟩ (.slice t1 LS.length t2)).setCell ⟨db, 1, none⟩ (.slice t3 LP.length t4)).setCell ⟨db, 2, none⟩ (.slice t5 LA.length t6)).frozen? ⟨w.heap.size, 0, none⟩ = false := by rw [World.frozen?_setCell, World.frozen?_setCell, World.frozen?_setCell]; exact x0
                replace x1 : (((V3.setCell ⟨db, 0, none⟩ (.slice t1 LS.length t2)).setCell ⟨db, 1, none⟩ (.slice t3 LP.length t4)).setCell ⟨db, 2, none⟩ (.slice t5 LA.length t6)).frozen? ⟨w.heap.size, 1, none⟩ = false := by rw [World.frozen?_setCell, World.frozen?_setCell, World.frozen?_setCell]; exact x1
                replace x2 : (((V3.setCell ⟨db, 0, none⟩ (.slice t1 LS.length t2)).setCell ⟨db, 1, none⟩ (.slice t3 LP.length t4)).setCell ⟨db, 2, none⟩ (.slice t5 LA.length t6)).frozen? ⟨w.heap.size, 2, none⟩ = false := by rw [World.frozen?_setCell, World.frozen?_setCell, World.frozen?_setCell]; exact x2
                clear d0 d1 d2 z0 z1 z2
                have d0 := e0
                have d1 := e1
                have d2 := e2
                clear e0 e1 e2
                generalize (((V3.setCell ⟨db, 0, none⟩ (.slice t1 LS.length t2)).setCell ⟨db, 1, none⟩ (.slice t3 LP.length t4)).setCell ⟨db, 2, none⟩ (.slice t5 LA.length t6)) = V at *
                refine hK.out _ _ ⟨c0, c1, c2, g0, g1, g2, g3⟩ (fun hHeld => ?_)
                clear hK K
                (try simp only [Act.put, List.setIfInBounds_toArray, List.set_cons_zero, List.set_cons_succ])
                refine wpAnyH_take (i := 12) (oi := ⟨some 11, _, _, _, _, _⟩) (v := ?v44) rfl (by kernel_rfl) (by kernel_rfl) (by kernel_rfl) (fun _ _ _ h => h) (Or.inl ⟨by rfl, ?h44⟩) (by assumption) ?r44
                case h44 => (intro w hSw; (try dsimp only at hSw); go_simp <;> with_reducible rfl)
                (try simp only [Act.put, List.setIfInBounds_toArray, List.set_cons_zero, List.set_cons_succ])
                refine wpAnyH_done (by kernel_rfl) ?_ _
                clear hHeld
                clear g0 g1 g2 g3
                by_cases hE : E = 0
                · subst hE
                  have HF2 := hide (HFN.out rfl)
                  go_wp2_with fail
                  obtain ⟨v0, v1, v2⟩ := set3 c0 c1 c2 (.slice t1 LS.length t2) (.slice t3 LP.length t4) (.slice t5 LA.length t6)
                  go_roundw
                  case rel => exact ⟨k + 1, by omega, by omega, by go_num, KnAt.mk ⟨LS, LP, LA, _, _, _, v0, v1, v2, (by rw [World.frozen?_setCell, World.frozen?_setCell, World.frozen?_setCell]; exact y0), (by rw [World.frozen?_setCell, World.frozen?_setCell, World.frozen?_setCell]; exact y1), (by rw [World.frozen?_setCell, World.frozen?_setCell, World.frozen?_setCell]; exact y2), (World.cell?_setCell_other _ _ _ _ (by simp <;> omega)).trans ((World.cell?_setCell_other _ _ _ _ (by simp <;> omega)).trans ((World.cell?_setCell_other _ _ _ _ (by simp <;> omega)).trans r0)), (by rw [World.frozen?_setCell, World.frozen?_setCell, World.frozen?_setCell]; exact x0), (World.cell?_setCell_other _ _ _ _ (by simp <;> omega)).trans ((World.cell?_setCell_other _ _ _ _ (by simp <;> omega)).trans ((World.cell?_setCell_other _ _ _ _ (by simp <;> omega)).trans r1)), (by rw [World.frozen?_setCell, World.frozen?_setCell, World.frozen?_setCell]; exact x1), (World.cell?_setCell_other _ _ _ _ (by simp <;> omega)).trans ((World.cell?_setCell_other _ _ _ _ (by simp <;> omega)).trans ((World.cell?_setCell_other _ _ _ _ (by simp <;> omega)).trans r2)), (by rw [World.frozen?_setCell, World.frozen?_setCell, World.frozen?_setCell]; exact x2), HF2, hide (((HN.out.set_box c0 _).set_box ((World.cell?_setCell_other _ _ _ _ (by simp)).trans c1) _).set_box ((World.cell?_setCell_other _ _ _ _ (by simp)).trans ((World.cell?_setCell_other _ _ _ _ (by simp)).trans c2)) _), ((k0.setCell (p := ⟨cb, 0, none⟩) (by show _ ≤ cb; omega) _).setCell (p := ⟨cb, 1, none⟩) (by show _ ≤ cb; omega) _).setCell (p := ⟨cb, 2, none⟩) (by show _ ≤ cb; omega) _⟩⟩
                  case measure => simp [intOf]; omega
                · have hEb : (E == 0) = false := by simpa using hE
                  go_wp2_with fail
                  go_roundw
                  case rel => exact ⟨k + 1, by omega, by omega, by go_num, KnAt.mk ⟨S, P, A, _, _, _, c0, c1, c2, y0, y1, y2, r0, x0, r1, x1, r2, x2, HF, HC, k0⟩⟩
                  case measure => simp [intOf]; omega
            · go_simp
              clear hHeld
              obtain ⟨V1, hV⟩ : ∃ V1, V1 = V0.alloc (.cells #[.slice none 0 0, .slice none 0 0, .slice none 0 0] 29) := ⟨_, rfl⟩
              obtain ⟨db, hdb⟩ : ∃ db, db = V0.heap.size := ⟨_, rfl⟩
              have hbN : Below V0.heap.size V0 V1 := by rw [hV]; exact (Below.refl _ _).alloc (Nat.le_refl _) _
              have d0 : V1.cell? ⟨db, 0, none⟩ = some (.slice none 0 0) := by rw [hV, hdb]; exact new_cell V0 _ rfl _ _ _ _ rfl
              have d1 : V1.cell? ⟨db, 1, none⟩ = some (.slice none 0 0) := by rw [hV, hdb]; exact new_cell V0 _ rfl _ _ _ _ rfl
              have d2 : V1.cell? ⟨db, 2, none⟩ = some (.slice none 0 0) := by rw [hV, hdb]; exact new_cell V0 _ rfl _ _ _ _ rfl
              have z0 : V1.frozen? ⟨db, 0, none⟩ = false := by rw [hV, hdb]; exact new_frozen V0 _ rfl _ _ _
              have z1 : V1.frozen? ⟨db, 1, none⟩ = false := by rw [hV, hdb]; exact new_frozen V0 _ rfl _ _ _
              have z2 : V1.frozen? ⟨db, 2, none⟩ = false := by rw [hV, hdb]; exact new_frozen V0 _ rfl _ _ _
              have hcd : cb < db := by rw [hdb]; exact cell_in c0
              have hwd : w.heap.size ≤ db := by rw [hdb]; exact k0.size
              replace y0 := (hbN.frozen (p := ⟨cb, 0, none⟩) (cell_in c0)).trans y0
              replace y1 := (hbN.frozen (p := ⟨cb, 1, none⟩) (cell_in c1)).trans y1
              replace y2 := (hbN.frozen (p := ⟨cb, 2, none⟩) (cell_in c2)).trans y2
              replace x0 := (hbN.frozen (p := ⟨w.heap.size, 0, none⟩) (cell_in r0)).trans x0
              replace x1 := (hbN.frozen (p := ⟨w.heap.size, 1, none⟩) (cell_in r1)).trans x1
              replace x2 := (hbN.frozen (p := ⟨w.heap.size, 2, none⟩) (cell_in r2)).trans x2
              replace c0 := cell_beh c0 hbN (Nat.le_refl _)
              replace c1 := cell_beh c1 hbN (Nat.le_refl _)
              replace c2 := cell_beh c2 hbN (Nat.le_refl _)
              replace r0 := cell_beh r0 hbN (Nat.le_refl _)
              replace r1 := cell_beh r1 hbN (Nat.le_refl _)
              replace r2 := cell_beh r2 hbN (Nat.le_refl _)
              replace g0 := cell_beh g0 hbN (Nat.le_refl _)
              replace g1 := cell_beh g1 hbN (Nat.le_refl _)
              replace g2 := cell_beh g2 hbN (Nat.le_refl _)
              replace g3 := cell_beh g3 hbN (Nat.le_refl _)
              replace HC := hide (HC.out.below hbN (Nat.le_refl _))
              replace k0 := k0.trans (hbN.mono k0.size)
              rw [← hV, ← hdb]
              clear hV hdb hbN
              refine hK.out _ _ ⟨c0, c1, c2, g0, g1, g2, g3⟩ (fun hHeld => ?_)
              clear hK K
              (try simp only [Act.put, List.setIfInBounds_toArray, List.set_cons_zero, List.set_cons_succ])
              refine wpAnyH_ready (rs := [5]) (by kernel_rfl) (by simp) ?_
              refine (AllReadyH.cons (o := ⟨some 53, _, _, _, _, _⟩) rfl (fun K hK => ?_) AllReadyH.nil)
              go_simp
              clear hHeld
              refine (unhide HCX _).mono ?_
              rintro e V2 ⟨ax, rfl, hsi, hbN⟩
              replace y0 := (hbN.frozen (p := ⟨cb, 0, none⟩) (cell_in c0)).trans y0
              replace y1 := (hbN.frozen (p := ⟨cb, 1, none⟩) (cell_in c1)).trans y1
              replace y2 := (hbN.frozen (p := ⟨cb, 2, none⟩) (cell_in c2)).trans y2
              replace x0 := (hbN.frozen (p := ⟨w.heap.size, 0, none⟩) (cell_in r0)).trans x0
              replace x1 := (hbN.frozen (p := ⟨w.heap.size, 1, none⟩) (cell_in r1)).trans x1
              replace x2 := (hbN.frozen (p := ⟨w.heap.size, 2, none⟩) (cell_in r2)).trans x2
              replace z0 := (hbN.frozen (p := ⟨db, 0, none⟩) (cell_in d0)).trans z0
              replace z1 := (hbN.frozen (p := ⟨db, 1, none⟩) (cell_in d1)).trans z1
              replace z2 := (hbN.frozen (p := ⟨db, 2, none⟩) (cell_in d2)).trans z2
              replace c0 := cell_beh c0 hbN (Nat.le_refl _)
              replace c1 := cell_beh c1 hbN (Nat.le_refl _)
              replace c2 := cell_beh c2 hbN (Nat.le_refl _)
              replace r0 := cell_beh r0 hbN (Nat.le_refl _)
              replace r1 := cell_beh r1 hbN (Nat.le_refl _)
              replace r2 := cell_beh r2 hbN (Nat.le_refl _)
              replace g0 := cell_beh g0 hbN (Nat.le_refl _)
              replace g1 := cell_beh g1 hbN (Nat.le_refl _)
              replace g2 := cell_beh g2 hbN (Nat.le_refl _)
              replace g3 := cell_beh g3 hbN (Nat.le_refl _)
              replace d0 := cell_beh d0 hbN (Nat.le_refl _)
              replace d1 := cell_beh d1 hbN (Nat.le_refl _)
              replace d2 := cell_beh d2 hbN (Nat.le_refl _)
              replace HC := hide (HC.out.below hbN (Nat.le_refl _))
              replace k0 := k0.trans (hbN.mono k0.size)
              clear hbN
              go_wp2_with fail
              refine hK.out _ _ ⟨c0, c1, c2, g0, g1, g2, g3⟩ (fun hHeld => ?_)
              clear hK K
              (try simp only [Act.put, List.setIfInBounds_toArray, List.set_cons_zero, List.set_cons_succ])
              refine wpAnyH_ready (rs := [6]) (by kernel_rfl) (by simp) ?_
              refine (AllReadyH.cons (o := ⟨some 54, _, _, _, _, _⟩) rfl (fun K hK => ?_) AllReadyH.nil)
              go_simp
              clear hHeld
              refine (unhide HAP2 _ _ _ _ _ _ _ _ hsi HF.out HC.out).mono ?_
              rintro e V3 ⟨su, pu, au, E, rfl, LS, LP, LA, hcN, hfN, hbN⟩
              replace y0 := (hbN.frozen (p := ⟨cb, 0, none⟩) (cell_in c0)).trans y0
              replace y1 := (hbN.frozen (p := ⟨cb, 1, none⟩) (cell_in c1)).trans y1
              replace y2 := (hbN.frozen (p := ⟨cb, 2, none⟩) (cell_in c2)).trans y2
              replace x0 := (hbN.frozen (p := ⟨w.heap.size, 0, none⟩) (cell_in r0)).trans x0
              replace x1 := (hbN.frozen (p := ⟨w.heap.size, 1, none⟩) (cell_in r1)).trans x1
              replace x2 := (hbN.frozen (p := ⟨w.heap.size, 2, none⟩) (cell_in r2)).trans x2
              replace z0 := (hbN.frozen (p := ⟨db, 0, none⟩) (cell_in d0)).trans z0
              replace z1 := (hbN.frozen (p := ⟨db, 1, none⟩) (cell_in d1)).trans z1
              replace z2 := (hbN.frozen (p := ⟨db, 2, none⟩) (cell_in d2)).trans z2
              replace c0 := cell_beh c0 hbN (Nat.le_refl _)
              replace c1 := cell_beh c1 hbN (Nat.le_refl _)
              replace c2 := cell_beh c2 hbN (Nat.le_refl _)
              replace r0 := cell_beh r0 hbN (Nat.le_refl _)
              replace r1 := cell_beh r1 hbN (Nat.le_refl _)
              replace r2 := cell_beh r2 hbN (Nat.le_refl _)
              replace g0 := cell_beh g0 hbN (Nat.le_refl _)
              replace g1 := cell_beh g1 hbN (Nat.le_refl _)
              replace g2 := cell_beh g2 hbN (Nat.le_refl _)
              replace g3 := cell_beh g3 hbN (Nat.le_refl _)
              replace d0 := cell_beh d0 hbN (Nat.le_refl _)
              replace d1 := cell_beh d1 hbN (Nat.le_refl _)
              replace d2 := cell_beh d2 hbN (Nat.le_refl _)
              replace HC := hide (HC.out.below hbN (Nat.le_refl _))
              replace k0 := k0.trans (hbN.mono k0.size)
              have HN := hide hcN
              have HFN := hide hfN
              clear hcN hbN hfN
              obtain ⟨t1, t2, rfl⟩ := HN.out.1.slice
              obtain ⟨t3, t4, rfl⟩ := HN.out.2.1.slice
              obtain ⟨t5, t6, rfl⟩ := HN.out.2.2.slice
              go_wp2_with fail
              refine hK.out _ _ ⟨c0, c1, c2, g0, g1, g2, g3⟩ (fun hHeld => ?_)
              clear hK K
              (try simp only [Act.put, List.setIfInBounds_toArray, List.set_cons_zero, List.set_cons_succ])
              refine wpAnyH_take (i := 7) (oi := ⟨some 47, _, _, _, _, _⟩) (v := ?v45) rfl (by kernel_rfl) (by kernel_rfl) (by kernel_rfl) (fun _ _ _ h => h) (Or.inl ⟨by rfl, ?h45⟩) (by assumption) ?r45
              case h45 => (intro w hSw; (try dsimp only at hSw); go_simp <;> with_reducible rfl)
              (try simp only [Act.put, List.setIfInBounds_toArray, List.set_cons_zero, List.set_cons_succ])
              refine wpAnyH_take (i := 8) (oi := ⟨some 55, _, _, _, _, _⟩) (v := ?v46) rfl (by kernel_rfl) (by kernel_rfl) (by kernel_rfl) (fun _ _ _ h => h) (Or.inl ⟨by rfl, ?h46⟩) (by assumption) ?r46
              case h46 => (intro w hSw; (try dsimp only at hSw); go_simp <;> with_reducible rfl)
              (try simp only [Act.put, List.setIfInBounds_toArray, List.set_cons_zero, List.set_cons_succ])
              refine wpAnyH_take (i := 9) (oi := ⟨some 56, _, _, _, _, _⟩) (v := ?v47) rfl (by kernel_rfl) (by kernel_rfl) (by kernel_rfl) (fun _ _ _ h => h) (Or.inl ⟨by rfl, ?h47⟩) (by assumption) ?r47
              case h47 => (intro w hSw; (try dsimp only at hSw); go_simp <;> with_reducible rfl)
              (try simp only [Act.put, List.setIfInBounds_toArray, List.set_cons_zero, List.set_cons_succ])
              refine wpAnyH_ready (rs := [11]) (by kernel_rfl) (by simp) ?_
              refine (AllReadyH.cons (o := ⟨none, _, _, _, _, _⟩) rfl (fun K hK => ?_) AllReadyH.nil)
              have hne1 : ¬ cb = db := by omega
              have hne2 : ¬ db = cb := by omega
              go_simp
              clear hHeld
              obtain ⟨e0, e1, e2⟩ := set3 d0 d1 d2 (.slice t1 LS.length t2) (.slice t3 LP.length t4) (.slice t5 LA.length t6)
              replace HC := hide (((HC.out.set_box d0 (.slice t1 LS.length t2)).set_box ((World.cell?_setCell_other _ _ _ _ (by simp)).trans d1) (.slice t3 LP.length t4)).set_box ((World.cell?_setCell_other _ _ _ _ (by simp)).trans ((World.cell?_setCell_other _ _ _ _ (by simp)).trans d2)) (.slice t5 LA.length t6))
              replace HN := hide (((HN.out.set_box d0 (.slice t1 LS.length t2)).set_box ((World.cell?_setCell_other _ _ _ _ (by simp)).trans d1) (.slice t3 LP.length t4)).set_box ((World.cell?_setCell_other _ _ _ _ (by simp)).trans ((World.cell?_setCell_other _ _ _ _ (by simp)).trans d2)) (.slice t5 LA.length t6))
              replace k0 := ((k0.setCell (p := ⟨db, 0, none⟩) (by show _ ≤ db; omega) (.slice t1 LS.length t2)).setCell (p := ⟨db, 1, none⟩) (by show _ ≤ db; omega) (.slice t3 LP.length t4)).setCell (p := ⟨db, 2, none⟩) (by show _ ≤ db; omega) (.slice t5 LA.length t6)
              replace c0 : (((V3.setCell ⟨db, 0, none⟩ (.slice t1 LS.length t2)).setCell ⟨db, 1, none⟩ (.slice t3 LP.length t4)).setCell ⟨db, 2, none⟩ (.slice t5 LA.length t6)).cell? ⟨cb, 0, none⟩ = some _ := ((World.cell?_setCell_other _ _ _ _ (by simp <;> omega)).trans ((World.cell?_setCell_other _ _ _ _ (by simp <;> omega)).trans ((World.cell?_setCell_other _ _ _ _ (by simp <;> omega)).trans c0)))
              replace c1 : (((V3.setCell ⟨db, 0, none⟩ (.slice t1 LS.length t2)).setCell ⟨db, 1, none⟩ (.slice t3 LP.length t4)).setCell ⟨db, 2, none⟩ (.slice t5 LA.length t6)).cell? ⟨cb, 1, none⟩ = some _ := ((World.cell?_setCell_other _ _ _ _ (by simp <;> omega)).trans ((World.cell?_setCell_other _ _ _ _ (by simp <;> omega)).trans ((World.cell?_setCell_other _ _ _ _ (by simp <;> omega)).trans c1)))
              replace c2 : (((V3.setCell ⟨db, 0, none⟩ (.slice t1 LS.length t2)).setCell ⟨db, 1, none⟩ (.slice t3 LP.length t4)).setCell ⟨db, 2, none⟩ (.slice t5 LA.length t6)).cell? ⟨cb, 2, none⟩ = some _ := ((World.cell?_setCell_other _ _ _ _ (by simp <;> omega)).trans ((World.cell?_setCell_other _ _ _ _ (by simp <;> omega)).trans ((World.cell?_setCell_other _ _ _ _ (by simp <;> omega)).trans c2)))
              replace r0 : (((V3.setCell ⟨db, 0, none⟩ (.slice t1 LS.length t2)).setCell ⟨db, 1, none⟩ (.slice t3 LP.length t4)).setCell ⟨db, 2, none⟩ (.slice t5 LA.length t6)).cell? ⟨w.heap.size, 0, none⟩ = some _ := ((World.cell?_setCell_other _ _ _ _ (by simp <;> omega)).trans ((World.cell?_setCell_other _ _ _ _ (by simp <;> omega)).trans ((World.cell?_setCell_other _ _ _ _ (by simp <;> omega)).trans r0)))
              replace r1 : (((V3.setCell ⟨db, 0, none⟩ (.slice t1 LS.length t2)).setCell ⟨db, 1, none⟩ (.slice t3 LP.length t4)).setCell ⟨db, 2, none⟩ (.slice t5 LA.length t6)).cell? ⟨w.heap.size, 1, none⟩ = some _ := ((World.cell?_setCell_other _ _ _ _ (by simp <;> omega)).trans ((World.cell?_setCell_other _ _ _ _ (by simp <;> omega)).trans ((World.cell?_setCell_other _ _ _ _ (by simp <;> omega)).trans r1)))
              replace r2 : (((V3.setCell ⟨db, 0, none⟩ (.slice t1 LS.length t2)).setCell ⟨db, 1, none⟩ (.slice t3 LP.length t4)).setCell ⟨db, 2, none⟩ (.slice t5 LA.length t6)).cell? ⟨w.heap.size, 2, none⟩ = some _ := ((World.cell?_setCell_other _ _ _ _ (by simp <;> omega)).trans ((World.cell?_setCell_other _ _ _ _ (by simp <;> omega)).trans ((World.cell?_setCell_other _ _ _ _ (by simp <;> omega)).trans r2)))
              replace g0 : (((V3.setCell ⟨db, 0, none⟩ (.slice t1 LS.length t2)).setCell ⟨db, 1, none⟩ (.slice t3 LP.length t4)).setCell ⟨db, 2, none⟩ (.slice t5 LA.length t6)).cell? ⟨b, off + k * 4, none⟩ = some _ := ((World.cell?_setCell_other _ _ _ _ (by simp <;> omega)).trans ((World.cell?_setCell_other _ _ _ _ (by simp <;> omega)).trans ((World.cell?_setCell_other _ _ _ _ (by simp <;> omega)).trans g0)))
              replace g1 : (((V3.setCell ⟨db, 0, none⟩ (.slice t1 LS.length t2)).setCell ⟨db, 1, none⟩ (.slice t3 LP.length t4)).setCell ⟨db, 2, none⟩ (.slice t5 LA.length t6)).cell? ⟨b, off + k * 4 + 1, none⟩ = some _ := ((World.cell?_setCell_other _ _ _ _ (by simp <;> omega)).trans ((World.cell?_setCell_other _ _ _ _ (by simp <;> omega)).trans ((World.cell?_setCell_other _ _ _ _ (by simp <;> omega)).trans g1)))
              replace g2 : (((V3.setCell ⟨db, 0, none⟩ (.slice t1 LS.length t2)).setCell ⟨db, 1, none⟩ (.slice t3 LP.length t4)).setCell ⟨db, 2, none⟩ (.slice t5 LA.length t6)).cell? ⟨b, off + k * 4 + 2, none⟩ = some _ := ((World.cell?_setCell_other _ _ _ _ (by simp <;> omega)).trans ((World.cell?_setCell_other _ _ _ _ (by simp <;> omega)).trans ((World.cell?_setCell_other _ _ _ _ (by simp <;> omega)).trans g2)))
              replace g3 : (((V3.setCell ⟨db, 0, none⟩ (.slice t1 LS.length t2)).setCell ⟨db, 1, none⟩ (.slice t3 LP.length t4)).setCell ⟨db, 2, none⟩ (.slice t5 LA.length t6)).cell? ⟨b, off + k * 4 + 3, none⟩ = some _ := ((World.cell?_setCell_other _ _ _ _ (by simp <;> omega)).trans ((World.cell?_setCell_other _ _ _ _ (by simp <;> omega)).trans ((World.cell?_setCell_other _ _ _ _ (by simp <;> omega)).trans g3)))
              replace y0 : (((V3.setCell ⟨db, 0, none⟩ (.slice t1 LS.length t2)).setCell ⟨db, 1, none⟩ (.slice t3 LP.length t4)).setCell ⟨db, 2, none⟩ (.slice t5 LA.length t6)).frozen? ⟨cb, 0, none⟩ = false := by rw [World.frozen?_setCell, World.frozen?_setCell, World.frozen?_setCell]; exact y0
              replace y1 : (((V3.setCell ⟨db, 0, none⟩ (.slice t1 LS.length t2)).setCell ⟨db, 1, none⟩ (.slice t3 LP.length t4)).setCell ⟨db, 2, none⟩ (.slice t5 LA.length t6)).frozen? ⟨cb, 1, none⟩ = false := by rw [World.frozen?_setCell, World.frozen?_setCell, World.frozen?_setCell]; exact y1
              replace y2 : (((V3.setCell ⟨db, 0, none⟩ (.slice t1 LS.length t2)).setCell ⟨db, 1, none⟩ (.slice t3 LP.length t4)).setCell ⟨db, 2, none⟩ (.slice t5 LA.length t6)).frozen? ⟨cb, 2, none⟩ = false := by rw [World.frozen?_setCell, World.frozen?_setCell, World.frozen?_setCell]; exact y2
              replace x0 : (((V3.setCell ⟨db, 0, none⟩ (.slice t1 LS.length t2)).setCell ⟨db, 1, none⟩ (.slice t3 LP.length t4)).setCell ⟨db, 2, none⟩ (.slice t5 LA.length t6)).frozen? ⟨w.heap.size, 0, none⟩ = false := by rw [World.frozen?_setCell, World.frozen?_setCell, World.frozen?_setCell]; exact x0
              replace x1 : (((V3.setCell ⟨db, 0, none⟩ (.slice t1 LS.length t2)).setCell ⟨db, 1, none⟩ (.slice t3 LP.length t4)).setCell ⟨db, 2, none⟩ (.slice t5 LA.length t6)).frozen? ⟨w.heap.size, 1, none⟩ = false := by rw [World.frozen?_setCell, World.frozen?_setCell, World.frozen?_setCell]; exact x1
              replace x2 : (((V3.setCell ⟨db, 0, none⟩ (.slice t1 LS.length t2)).setCell ⟨db, 1, none⟩ (.slice t3 LP.length t4)).setCell ⟨db, 2, none⟩ (.slice t5 LA.length t6)).frozen? ⟨w.heap.size, 2, none⟩ = false := by rw [World.frozen?_setCell, World.frozen?_setCell, World.frozen?_setCell]; exact x2
              clear d0 d1 d2 z0 z1 z2
              have d0 := e0
              have d1 := e1
              have d2 := e2
              clear e0 e1 e2
              generalize (((V3.setCell ⟨db, 0, none⟩ (.slice t1 LS.length t2)).setCell ⟨db, 1, none⟩ (.slice t3 LP.length t4)).setCell ⟨db, 2, none⟩ (.slice t5 LA.length t6)) = V at *
              refine hK.out _ _ ⟨c0, c1, c2, g0, g1, g2, g3⟩ (fun hHeld => ?_)
              clear hK K
              (try simp only [Act.put, List.setIfInBounds_toArray, List.set_cons_zero, List.set_cons_succ])
              refine wpAnyH_take (i := 12) (oi := ⟨some 11, _, _, _, _, _⟩) (v := ?v48) rfl (by kernel_rfl) (by kernel_rfl) (by kernel_rfl) (fun _ _ _ h => h) (Or.inl ⟨by rfl, ?h48⟩) (by assumption) ?r48
              case h48 => (intro w hSw; (try dsimp only at hSw); go_simp <;> with_reducible rfl)
              (try simp only [Act.put, List.setIfInBounds_toArray, List.set_cons_zero, List.set_cons_succ])
              refine wpAnyH_done (by kernel_rfl) ?_ _
              clear hHeld
              clear g0 g1 g2 g3
              by_cases hE : E = 0
              · subst hE
                have HF2 := hide (HFN.out rfl)
                go_wp2_with fail
                obtain ⟨v0, v1, v2⟩ := set3 c0 c1 c2 (.slice t1 LS.length t2) (.slice t3 LP.length t4) (.slice t5 LA.length t6)
                go_roundw
                case rel => exact ⟨k + 1, by omega, by omega, by go_num, KnAt.mk ⟨LS, LP, LA, _, _, _, v0, v1, v2, (by rw [World.frozen?_setCell, World.frozen?_setCell, World.frozen?_setCell]; exact y0), (by rw [World.frozen?_setCell, World.frozen?_setCell, World.frozen?_setCell]; exact y1), (by rw [World.frozen?_setCell, World.frozen?_setCell, World.frozen?_setCell]; exact y2), (World.cell?_setCell_other _ _ _ _ (by simp <;> omega)).trans ((World.cell?_setCell_other _ _ _ _ (by simp <;> omega)).trans ((World.cell?_setCell_other _ _ _ _ (by simp <;> omega)).trans r0)), (by rw [World.frozen?_setCell, World.frozen?_setCell, World.frozen?_setCell]; exact x0), (World.cell?_setCell_other _ _ _ _ (by simp <;> omega)).trans ((World.cell?_setCell_other _ _ _ _ (by simp <;> omega)).trans ((World.cell?_setCell_other _ _ _ _ (by simp <;> omega)).trans r1)), (by rw [World.frozen?_setCell, World.frozen?_setCell, World.frozen?_setCell]; exact x1), (World.cell?_setCell_other _ _ _ _ (by simp <;> omega)).trans ((World.cell?_setCell_other _ _ _ _ (by simp <;> omega)).trans ((World.cell?_setCell_other _ _ _ _ (by simp <;> omega)).trans r2)), (by rw [World.frozen?_setCell, World.frozen?_setCell, World.frozen?_setCell]; exact x2), HF2, hide (((HN.out.set_box c0 _).set_box ((World.cell?_setCell_other _ _ _ _ (by simp)).trans c1) _).set_box ((World.cell?_setCell_other _ _ _ _ (by simp)).trans ((World.cell?_setCell_other _ _ _ _ (by simp)).trans c2)) _), ((k0.setCell (p := ⟨cb, 0, none⟩) (by show _ ≤ cb; omega) _).setCell (p := ⟨cb, 1, none⟩) (by show _ ≤ cb; omega) _).setCell (p := ⟨cb, 2, none⟩) (by show _ ≤ cb; omega) _⟩⟩
                case measure => simp [intOf]; omega
              · have hEb : (E == 0) = false := by simpa using hE
                go_wp2_with fail
                go_roundw
                case rel => exact ⟨k + 1, by omega, by omega, by go_num, KnAt.mk ⟨S, P, A, _, _, _, c0, c1, c2, y0, y1, y2, r0, x0, r1, x1, r2, x2, HF, HC, k0⟩⟩
                case measure => simp [intOf]; omega
          · go_wp2_with fail
            obtain ⟨v0, v1, v2⟩ := set3 r0 r1 r2 (.slice m1 S.length m2) (.slice m3 P.length m4) (.slice m5 A.length m6)
            have HCF := hide (((HC.out.set_box r0 (.slice m1 S.length m2)).set_box ((World.cell?_setCell_other _ _ _ _ (by simp)).trans r1) (.slice m3 P.length m4)).set_box ((World.cell?_setCell_other _ _ _ _ (by simp)).trans ((World.cell?_setCell_other _ _ _ _ (by simp)).trans r2)) (.slice m5 A.length m6))
            have HBE := hide (((k0.setCell (p := ⟨w.heap.size, 0, none⟩) (Nat.le_refl _) (.slice m1 S.length m2)).setCell (p := ⟨w.heap.size, 1, none⟩) (Nat.le_refl _) (.slice m3 P.length m4)).setCell (p := ⟨w.heap.size, 2, none⟩) (Nat.le_refl _) (.slice m5 A.length m6))
            refine bodyPost_ret (v := .agg #[.slice m1 S.length m2, .slice m3 P.length m4, .slice m5 A.length m6]) ?_ rfl ⟨_, _, _, rfl, S, P, A, HCF.out, HF.out, HBE.out⟩
            clear HCF HBE c0 c1 c2 r0 r1 r2 y0 y1 y2 x0 x1 x2
            generalize (((wr.setCell ⟨w.heap.size, 0, none⟩ (.slice m1 S.length m2)).setCell ⟨w.heap.size, 1, none⟩ (.slice m3 P.length m4)).setCell ⟨w.heap.size, 2, none⟩ (.slice m5 A.length m6)) = W at *
            simp [results, Tryz.results8, go_sem, v0, v1, v2]
        · go_wp2_with fail
          obtain ⟨v0, v1, v2⟩ := set3 r0 r1 r2 (.slice m1 S.length m2) (.slice m3 P.length m4) (.slice m5 A.length m6)
          have HCF := hide (((HC.out.set_box r0 (.slice m1 S.length m2)).set_box ((World.cell?_setCell_other _ _ _ _ (by simp)).trans r1) (.slice m3 P.length m4)).set_box ((World.cell?_setCell_other _ _ _ _ (by simp)).trans ((World.cell?_setCell_other _ _ _ _ (by simp)).trans r2)) (.slice m5 A.length m6))
          have HBE := hide (((k0.setCell (p := ⟨w.heap.size, 0, none⟩) (Nat.le_refl _) (.slice m1 S.length m2)).setCell (p := ⟨w.heap.size, 1, none⟩) (Nat.le_refl _) (.slice m3 P.length m4)).setCell (p := ⟨w.heap.size, 2, none⟩) (Nat.le_refl _) (.slice m5 A.length m6))
          refine bodyPost_ret (v := .agg #[.slice m1 S.length m2, .slice m3 P.length m4, .slice m5 A.length m6]) ?_ rfl ⟨_, _, _, rfl, S, P, A, HCF.out, HF.out, HBE.out⟩
          clear HCF HBE c0 c1 c2 r0 r1 r2 y0 y1 y2 x0 x1 x2
          generalize (((wr.setCell ⟨w.heap.size, 0, none⟩ (.slice m1 S.length m2)).setCell ⟨w.heap.size, 1, none⟩ (.slice m3 P.length m4)).setCell ⟨w.heap.size, 2, none⟩ (.slice m5 A.length m6)) = W at *
          simp [results, Tryz.results8, go_sem, v0, v1, v2]

end Go.Proofs.YtjcomoinggiedaaGreat
