/-
  What the document's ConfCopy and portOf answer.
-/
import Derived.Test.YtonhfgdnkkkikadRi
import Derived.Test.YtonhfgdnkkkikadCy
import Derived.Laws.AppendOwnNone
import Derived.Maps.AppendAt
namespace Go.Proofs.Ytonhfgdnkkkikad
open Go.RowKit
set_option linter.unusedVariables false
set_option maxRecDepth 100000

theorem step_app {P : Program} {ops : Array Oper} {o : Oper} {a : Act} {w w' : World} {v' : Value} {K : Act → World → Prop} {Q : Exit → Act → World → Prop} {E : Prop} (hgd : o.guard = none) (s x : Operand) (t : TypeId)
    (ho : o.op = .call { callee := .builtin .append, args := #[s, x], argTypes := #[t, t] }) (hr : (Builtin.append_ #[t, t] o.type #[a.eval s, a.eval x]).run P w = .ok v' w') (h : K (a.put o.dst v') w') :
    if Region.wanted o (yielded ops a.tmps) = true then Oper.wp P o a w K Q else E := by
  have hw : Region.wanted o (yielded ops a.tmps) = true := by simp [Region.wanted, hgd]
  rw [if_pos hw]
  unfold Oper.wp
  simp [execOp, ho, resolve, invoke, builtin, hr, Result.andThen]
  exact h

theorem appSw (W : World) (v : Value) (l : List Sw) (h : SwsAt W v l) (hl : l.length * 24 ≤ 140737488355328) :
    ∃ v' w', (Builtin.append_ #[22, 22] 22 #[.slice none 0 0, v]).run Try.prog W = .ok v' w' ∧ w'.ownsRow W.heap.size 31 3 v' l.length (l.flatMap swC) ∧ Below W.heap.size W w' := by
  obtain ⟨i0, hi, hz0, hz1, hz2⟩ := info_parts infoSw
  obtain ⟨a, cap, rfl, hn, hL⟩ := id h
  cases a with
  | none =>
    obtain rfl := hn rfl
    have h0 : l.length = 0 := by
      rcases hL with h | ⟨_, _, h, _⟩
      · exact h
      · simp at h
    obtain rfl : l = [] := List.eq_nil_of_length_eq_zero h0
    have hrun := run_append_owned_none (P := Try.prog) (w := W) W.heap.size 22 22 31 i0 3 Try.underlying22 hi _ _ _ (World.ownsRow_nil W W.heap.size 31 3)
    exact ⟨_, _, hrun, World.ownsRow_nil _ _ _ _, Below.refl _ _⟩
  | some ad =>
    obtain ⟨v', w', hr, ho, hg, _, _⟩ := run_append_own_at (P := Try.prog) W W.heap.size 22 22 31 i0 _ 3 24 Try.underlying22 hi hz0 hz1 hz2 rfl (by decide) _ _ _ (World.ownsRow_nil W W.heap.size 31 3) ad l.length cap (l.flatMap swC) (flat_len swC_len l) (RowAt.news swC_len h) (swC_one l) (by unfold maxLen; omega) (by omega) (Nat.le_refl _)
    refine ⟨v', w', hr, by simpa using ho, (Below.refl _ W).grown hg (Nat.le_refl _) (own_ge (World.ownsRow_nil W W.heap.size 31 3))⟩

theorem appPr (W : World) (v : Value) (l : List Pr) (h : PrsAt W v l) (hl : l.length * 40 ≤ 140737488355328) :
    ∃ v' w', (Builtin.append_ #[23, 23] 23 #[.slice none 0 0, v]).run Try.prog W = .ok v' w' ∧ w'.ownsRow W.heap.size 33 5 v' l.length (l.flatMap prC) ∧ Below W.heap.size W w' := by
  obtain ⟨i0, hi, hz0, hz1, hz2⟩ := info_parts infoPr
  obtain ⟨a, cap, rfl, hn, hL⟩ := id h
  cases a with
  | none =>
    obtain rfl := hn rfl
    have h0 : l.length = 0 := by
      rcases hL with h | ⟨_, _, h, _⟩
      · exact h
      · simp at h
    obtain rfl : l = [] := List.eq_nil_of_length_eq_zero h0
    have hrun := run_append_owned_none (P := Try.prog) (w := W) W.heap.size 23 23 33 i0 5 Try.underlying23 hi _ _ _ (World.ownsRow_nil W W.heap.size 33 5)
    exact ⟨_, _, hrun, World.ownsRow_nil _ _ _ _, Below.refl _ _⟩
  | some ad =>
    obtain ⟨v', w', hr, ho, hg, _, _⟩ := run_append_own_at (P := Try.prog) W W.heap.size 23 23 33 i0 _ 5 40 Try.underlying23 hi hz0 hz1 hz2 rfl (by decide) _ _ _ (World.ownsRow_nil W W.heap.size 33 5) ad l.length cap (l.flatMap prC) (flat_len prC_len l) (RowAt.news prC_len h) (prC_one l) (by unfold maxLen; omega) (by omega) (Nat.le_refl _)
    refine ⟨v', w', hr, by simpa using ho, (Below.refl _ W).grown hg (Nat.le_refl _) (own_ge (World.ownsRow_nil W W.heap.size 33 5))⟩

theorem appAc (W : World) (v : Value) (l : List Ac) (h : AcsAt W v l) (hl : l.length * 72 ≤ 140737488355328) :
    ∃ v' w', (Builtin.append_ #[24, 24] 24 #[.slice none 0 0, v]).run Try.prog W = .ok v' w' ∧ w'.ownsRow W.heap.size 35 9 v' l.length (l.flatMap acC) ∧ Below W.heap.size W w' := by
  obtain ⟨i0, hi, hz0, hz1, hz2⟩ := info_parts infoAc
  obtain ⟨a, cap, rfl, hn, hL⟩ := id h
  cases a with
  | none =>
    obtain rfl := hn rfl
    have h0 : l.length = 0 := by
      rcases hL with h | ⟨_, _, h, _⟩
      · exact h
      · simp at h
    obtain rfl : l = [] := List.eq_nil_of_length_eq_zero h0
    have hrun := run_append_owned_none (P := Try.prog) (w := W) W.heap.size 24 24 35 i0 9 Try.underlying24 hi _ _ _ (World.ownsRow_nil W W.heap.size 35 9)
    exact ⟨_, _, hrun, World.ownsRow_nil _ _ _ _, Below.refl _ _⟩
  | some ad =>
    obtain ⟨v', w', hr, ho, hg, _, _⟩ := run_append_own_at (P := Try.prog) W W.heap.size 24 24 35 i0 _ 9 72 Try.underlying24 hi hz0 hz1 hz2 rfl (by decide) _ _ _ (World.ownsRow_nil W W.heap.size 35 9) ad l.length cap (l.flatMap acC) (flat_len acC_len l) (RowAt.news acC_len h) (acC_one l) (by unfold maxLen; omega) (by omega) (Nat.le_refl _)
    refine ⟨v', w', hr, by simpa using ho, (Below.refl _ W).grown hg (Nat.le_refl _) (own_ge (World.ownsRow_nil W W.heap.size 35 9))⟩

set_option maxHeartbeats 8000000 in
theorem rCopy_any (sv pv av : Value) (S : List Sw) (P : List Pr) (A : List Ac) (w : World) (hC : CfAt w sv pv av S P A) (h1 : S.length * 24 ≤ 140737488355328) (h2 : P.length * 40 ≤ 140737488355328) (h3 : A.length * 72 ≤ 140737488355328) :
    Calls Try.prog 10 #[.agg #[sv, pv, av]] w fun e w' => ∃ su pu au, e = .returned (.agg #[su, pu, au]) ∧ Own3 w' w.heap.size su pu au S P A ∧ Below w.heap.size w w' := by
  have HC := hide hC
  obtain ⟨s1, s2, rfl⟩ := hC.1.slice
  obtain ⟨p1, p2, rfl⟩ := hC.2.1.slice
  obtain ⟨a1, a2, rfl⟩ := hC.2.2.slice
  clear hC
  go_enter Try.func10, Try.ntmps10
  go_wp2_with fail
  obtain ⟨W0, hW0⟩ : ∃ W0, W0 = (w.alloc (.cells #[.slice s1 S.length s2, .slice p1 P.length p2, .slice a1 A.length a2] 26)).alloc (.cells #[.slice none 0 0, .slice none 0 0, .slice none 0 0] 26) := ⟨_, rfl⟩
  have hb0 : Below w.heap.size w W0 := by rw [hW0]; exact ((Below.refl _ _).alloc (Nat.le_refl _) _).alloc (by simp) _
  have hz0 : w.heap.size + 2 ≤ W0.heap.size := by rw [hW0]; simp
  have c0 : W0.cell? ⟨w.heap.size, 0, none⟩ = some (.slice s1 S.length s2) := by rw [hW0]; exact old_cell (new_cell w _ rfl _ _ _ _ rfl) _
  have c1 : W0.cell? ⟨w.heap.size, 1, none⟩ = some (.slice p1 P.length p2) := by rw [hW0]; exact old_cell (new_cell w _ rfl _ _ _ _ rfl) _
  have c2 : W0.cell? ⟨w.heap.size, 2, none⟩ = some (.slice a1 A.length a2) := by rw [hW0]; exact old_cell (new_cell w _ rfl _ _ _ _ rfl) _
  have r0 : W0.cell? ⟨w.heap.size + 1, 0, none⟩ = some (.slice none 0 0) := by rw [hW0]; exact new_cell _ _ (by simp) _ _ _ _ rfl
  have r1 : W0.cell? ⟨w.heap.size + 1, 1, none⟩ = some (.slice none 0 0) := by rw [hW0]; exact new_cell _ _ (by simp) _ _ _ _ rfl
  have r2 : W0.cell? ⟨w.heap.size + 1, 2, none⟩ = some (.slice none 0 0) := by rw [hW0]; exact new_cell _ _ (by simp) _ _ _ _ rfl
  have f0 : W0.frozen? ⟨w.heap.size + 1, 0, none⟩ = false := by rw [hW0]; simp
  have f1 : W0.frozen? ⟨w.heap.size + 1, 1, none⟩ = false := by rw [hW0]; simp
  have f2 : W0.frozen? ⟨w.heap.size + 1, 2, none⟩ = false := by rw [hW0]; simp
  rw [← hW0]
  clear hW0
  have e0 : Below (w.heap.size + 2) W0 W0.drew := (Below.refl _ _).drew
  obtain ⟨v1, w1, hp1, ho1, hb1⟩ := appSw W0.drew _ S (RowAt.below HC.out.1 hb0.drew (Nat.le_refl _)) h1
  have g1 : Below (w.heap.size + 2) W0 w1 := e0.trans (hb1.mono hz0)
  have k1 : Below w.heap.size w w1 := hb0.trans (g1.mono (by omega))
  obtain ⟨v2, w2, hp2, ho2, hb2⟩ := appPr w1 _ P (RowAt.below HC.out.2.1 k1 (Nat.le_refl _)) h2
  have g2 : Below (w.heap.size + 2) W0 w2 := g1.trans (hb2.mono (Nat.le_trans hz0 g1.size))
  have k2 : Below w.heap.size w w2 := hb0.trans (g2.mono (by omega))
  obtain ⟨v3, w3, hp3, ho3, hb3⟩ := appAc w2 _ A (RowAt.below HC.out.2.2 k2 (Nat.le_refl _)) h3
  have g3 : Below (w.heap.size + 2) W0 w3 := g2.trans (hb3.mono (Nat.le_trans hz0 g2.size))
  have k3 : Below w.heap.size w w3 := hb0.trans (g3.mono (by omega))
  obtain ⟨o1, m1, hv1⟩ := own_slc ho1
  obtain ⟨o2, m2, hv2⟩ := own_slc ho2
  obtain ⟨o3, m3, hv3⟩ := own_slc ho3
  subst hv1 hv2 hv3
  have y10 := (g1.cell (p := ⟨w.heap.size, 0, none⟩) (by simp)).trans c0
  have y11 := (g1.cell (p := ⟨w.heap.size, 1, none⟩) (by simp)).trans c1
  have y12 := (g1.cell (p := ⟨w.heap.size, 2, none⟩) (by simp)).trans c2
  have y20 := (g2.cell (p := ⟨w.heap.size, 0, none⟩) (by simp)).trans c0
  have y21 := (g2.cell (p := ⟨w.heap.size, 1, none⟩) (by simp)).trans c1
  have y22 := (g2.cell (p := ⟨w.heap.size, 2, none⟩) (by simp)).trans c2
  have y30 := (g3.cell (p := ⟨w.heap.size, 0, none⟩) (by simp)).trans c0
  have y31 := (g3.cell (p := ⟨w.heap.size, 1, none⟩) (by simp)).trans c1
  have y32 := (g3.cell (p := ⟨w.heap.size, 2, none⟩) (by simp)).trans c2
  have t0 := (g3.cell (p := ⟨w.heap.size + 1, 0, none⟩) (by simp)).trans r0
  have t1 := (g3.cell (p := ⟨w.heap.size + 1, 1, none⟩) (by simp)).trans r1
  have t2 := (g3.cell (p := ⟨w.heap.size + 1, 2, none⟩) (by simp)).trans r2
  have l0 := (g3.frozen (p := ⟨w.heap.size + 1, 0, none⟩) (by simp)).trans f0
  have l1 := (g3.frozen (p := ⟨w.heap.size + 1, 1, none⟩) (by simp)).trans f1
  have l2 := (g3.frozen (p := ⟨w.heap.size + 1, 2, none⟩) (by simp)).trans f2
  refine wp_region_held_drew (S := (fun w' => w'.cell? ⟨w.heap.size, 0, none⟩ = some (.slice s1 S.length s2) ∧ w'.cell? ⟨w.heap.size, 1, none⟩ = some (.slice p1 P.length p2) ∧ w'.cell? ⟨w.heap.size, 2, none⟩ = some (.slice a1 A.length a2))) (by kernel_rfl) ⟨c0, c1, c2⟩ (fun hHeld => ?_)
  refine wpAnyH_take (i := 0) (oi := ⟨some 3, _, _, _, _, _⟩) (v := ?v1) rfl (by kernel_rfl) (by kernel_rfl) (by kernel_rfl) (fun _ _ _ h => h) (Or.inl ⟨by rfl, ?h1⟩) (by assumption) ?r1
  case h1 => (intro w hSw; (try dsimp only at hSw); go_simp <;> with_reducible rfl)
  (try simp only [Act.put, List.setIfInBounds_toArray, List.set_cons_zero, List.set_cons_succ])
  refine wpAnyH_take (i := 1) (oi := ⟨some 4, _, _, _, _, _⟩) (v := ?v2) rfl (by kernel_rfl) (by kernel_rfl) (by kernel_rfl) (fun _ _ _ h => h) (Or.inl ⟨by rfl, ?h2⟩) (by assumption) ?r2
  case h2 => (intro w hSw; (try dsimp only at hSw); go_simp <;> with_reducible rfl)
  (try simp only [Act.put, List.setIfInBounds_toArray, List.set_cons_zero, List.set_cons_succ])
  refine wpAnyH_take (i := 3) (oi := ⟨some 6, _, _, _, _, _⟩) (v := ?v3) rfl (by kernel_rfl) (by kernel_rfl) (by kernel_rfl) (fun _ _ _ h => h) (Or.inl ⟨by rfl, ?h3⟩) (by assumption) ?r3
  case h3 => (intro w hSw; (try dsimp only at hSw); go_simp <;> with_reducible rfl)
  (try simp only [Act.put, List.setIfInBounds_toArray, List.set_cons_zero, List.set_cons_succ])
  refine wpAnyH_take (i := 4) (oi := ⟨some 7, _, _, _, _, _⟩) (v := ?v4) rfl (by kernel_rfl) (by kernel_rfl) (by kernel_rfl) (fun _ _ _ h => h) (Or.inl ⟨by rfl, ?h4⟩) (by assumption) ?r4
  case h4 => (intro w hSw; (try dsimp only at hSw); go_simp <;> with_reducible rfl)
  (try simp only [Act.put, List.setIfInBounds_toArray, List.set_cons_zero, List.set_cons_succ])
  refine wpAnyH_take (i := 6) (oi := ⟨some 9, _, _, _, _, _⟩) (v := ?v5) rfl (by kernel_rfl) (by kernel_rfl) (by kernel_rfl) (fun _ _ _ h => h) (Or.inl ⟨by rfl, ?h5⟩) (by assumption) ?r5
  case h5 => (intro w hSw; (try dsimp only at hSw); go_simp <;> with_reducible rfl)
  (try simp only [Act.put, List.setIfInBounds_toArray, List.set_cons_zero, List.set_cons_succ])
  refine wpAnyH_take (i := 7) (oi := ⟨some 10, _, _, _, _, _⟩) (v := ?v6) rfl (by kernel_rfl) (by kernel_rfl) (by kernel_rfl) (fun _ _ _ h => h) (Or.inl ⟨by rfl, ?h6⟩) (by assumption) ?r6
  case h6 => (intro w hSw; (try dsimp only at hSw); go_simp <;> with_reducible rfl)
  (try simp only [Act.put, List.setIfInBounds_toArray, List.set_cons_zero, List.set_cons_succ])
  refine wpAnyH_ready (rs := [2]) (by kernel_rfl) (by simp) ?_
  refine AllReadyH.cons (o := ⟨some 5, _, _, _, _, _⟩) rfl (fun K hK => ?_) AllReadyH.nil
  refine step_app rfl _ _ _ rfl hp1 ?_
  refine hK.out _ _ ⟨y10, y11, y12⟩ (fun hHeld => ?_)
  clear hK K
  (try simp only [Act.put, List.setIfInBounds_toArray, List.set_cons_zero, List.set_cons_succ])
  refine wpAnyH_ready (rs := [5]) (by kernel_rfl) (by simp) ?_
  refine AllReadyH.cons (o := ⟨some 8, _, _, _, _, _⟩) rfl (fun K hK => ?_) AllReadyH.nil
  refine step_app rfl _ _ _ rfl hp2 ?_
  refine hK.out _ _ ⟨y20, y21, y22⟩ (fun hHeld => ?_)
  clear hK K
  (try simp only [Act.put, List.setIfInBounds_toArray, List.set_cons_zero, List.set_cons_succ])
  refine wpAnyH_ready (rs := [8]) (by kernel_rfl) (by simp) ?_
  refine AllReadyH.cons (o := ⟨some 11, _, _, _, _, _⟩) rfl (fun K hK => ?_) AllReadyH.nil
  refine step_app rfl _ _ _ rfl hp3 ?_
  refine hK.out _ _ ⟨y30, y31, y32⟩ (fun hHeld => ?_)
  clear hK K
  (try simp only [Act.put, List.setIfInBounds_toArray, List.set_cons_zero, List.set_cons_succ])
  refine wpAnyH_take (i := 9) (oi := ⟨some 12, _, _, _, _, _⟩) (v := ?v7) rfl (by kernel_rfl) (by kernel_rfl) (by kernel_rfl) (fun _ _ _ h => h) (Or.inl ⟨by rfl, ?h7⟩) (by assumption) ?r7
  case h7 => (intro w hSw; (try dsimp only at hSw); go_simp <;> with_reducible rfl)
  (try simp only [Act.put, List.setIfInBounds_toArray, List.set_cons_zero, List.set_cons_succ])
  refine wpAnyH_ready (rs := [10]) (by kernel_rfl) (by simp) ?_
  refine AllReadyH.cons (o := ⟨none, _, _, _, _, _⟩) rfl (fun K hK => ?_) AllReadyH.nil
  go_simp
  refine hK.out _ _ ⟨(World.cell?_setCell_other _ _ _ _ (by simp)).trans ((World.cell?_setCell_other _ _ _ _ (by simp)).trans ((World.cell?_setCell_other _ _ _ _ (by simp)).trans y30)), (World.cell?_setCell_other _ _ _ _ (by simp)).trans ((World.cell?_setCell_other _ _ _ _ (by simp)).trans ((World.cell?_setCell_other _ _ _ _ (by simp)).trans y31)), (World.cell?_setCell_other _ _ _ _ (by simp)).trans ((World.cell?_setCell_other _ _ _ _ (by simp)).trans ((World.cell?_setCell_other _ _ _ _ (by simp)).trans y32))⟩ (fun hHeld => ?_)
  clear hK K
  (try simp only [Act.put, List.setIfInBounds_toArray, List.set_cons_zero, List.set_cons_succ])
  refine wpAnyH_done (by kernel_rfl) ?_ _
  have N1 : w.heap.size + 1 < W0.drew.heap.size := by have := hz0; simp; omega
  have N2 : w.heap.size + 1 < w1.heap.size := Nat.lt_of_lt_of_le N1 hb1.size
  have N3 : w.heap.size + 1 < w2.heap.size := Nat.lt_of_lt_of_le N2 hb2.size
  have O1 := hide (own_below (own_below ho1 hb2) hb3)
  have O2 := hide (own_below ho2 hb3)
  have A12 := hide (own_apart ho1 ho2 (Nat.le_refl _))
  have A13 := hide (own_apart (own_below ho1 hb2) ho3 (Nat.le_refl _))
  have A23 := hide (own_apart ho2 ho3 (Nat.le_refl _))
  clear hHeld y10 y11 y12 y20 y21 y22 y30 y31 y32 g1 g2 g3 k1 k2 l0 l1 l2 hp1 hp2 hp3 c0 c1 c2 r0 r1 r2 f0 f1 f2 e0
  obtain ⟨q0, q1, q2⟩ := set3 t0 t1 t2 (.slice o1 S.length m1) (.slice o2 P.length m2) (.slice o3 A.length m3)
  have HB : Hid (Below w.heap.size w (((w3.setCell ⟨w.heap.size + 1, 0, none⟩ (.slice o1 S.length m1)).setCell ⟨w.heap.size + 1, 1, none⟩ (.slice o2 P.length m2)).setCell ⟨w.heap.size + 1, 2, none⟩ (.slice o3 A.length m3))) := ((k3.setCell (Nat.le_succ _) _).setCell (Nat.le_succ _) _).setCell (Nat.le_succ _) _
  have R1 := hide (own_less (ownsRow_setCell_below (ownsRow_setCell_below (ownsRow_setCell_below O1.out (a := ⟨w.heap.size + 1, 0, none⟩) N1 (.slice o1 S.length m1)) (a := ⟨w.heap.size + 1, 1, none⟩) N1 (.slice o2 P.length m2)) (a := ⟨w.heap.size + 1, 2, none⟩) N1 (.slice o3 A.length m3)) (show w.heap.size ≤ W0.drew.heap.size by omega))
  have R2 := hide (own_less (ownsRow_setCell_below (ownsRow_setCell_below (ownsRow_setCell_below O2.out (a := ⟨w.heap.size + 1, 0, none⟩) N2 (.slice o1 S.length m1)) (a := ⟨w.heap.size + 1, 1, none⟩) N2 (.slice o2 P.length m2)) (a := ⟨w.heap.size + 1, 2, none⟩) N2 (.slice o3 A.length m3)) (show w.heap.size ≤ w1.heap.size by omega))
  have R3 := hide (own_less (ownsRow_setCell_below (ownsRow_setCell_below (ownsRow_setCell_below ho3 (a := ⟨w.heap.size + 1, 0, none⟩) N3 (.slice o1 S.length m1)) (a := ⟨w.heap.size + 1, 1, none⟩) N3 (.slice o2 P.length m2)) (a := ⟨w.heap.size + 1, 2, none⟩) N3 (.slice o3 A.length m3)) (show w.heap.size ≤ w2.heap.size by omega))
  clear O1 O2 ho1 ho2 ho3 hb1 hb2 hb3 k3 t0 t1 t2 N1 N2 N3
  generalize (((w3.setCell ⟨w.heap.size + 1, 0, none⟩ (.slice o1 S.length m1)).setCell ⟨w.heap.size + 1, 1, none⟩ (.slice o2 P.length m2)).setCell ⟨w.heap.size + 1, 2, none⟩ (.slice o3 A.length m3)) = W at *
  go_wp2_with fail
  refine bodyPost_ret (v := .agg #[.slice o1 S.length m1, .slice o2 P.length m2, .slice o3 A.length m3]) ?_ rfl ⟨_, _, _, rfl, ⟨R1.out, R2.out, R3.out, A12.out, A13.out, A23.out⟩, HB.out⟩
  simp [results, Try.results10, go_sem, q0, q1, q2]

theorem set5 {w : World} {b : Nat} {x0 x1 x2 x3 x4 : Value} (t0 : w.cell? ⟨b, 0, none⟩ = some x0) (t1 : w.cell? ⟨b, 1, none⟩ = some x1) (t2 : w.cell? ⟨b, 2, none⟩ = some x2) (t3 : w.cell? ⟨b, 3, none⟩ = some x3) (t4 : w.cell? ⟨b, 4, none⟩ = some x4) (y0 y1 y2 y3 y4 : Value) :
    (((((w.setCell ⟨b, 0, none⟩ y0).setCell ⟨b, 1, none⟩ y1).setCell ⟨b, 2, none⟩ y2).setCell ⟨b, 3, none⟩ y3).setCell ⟨b, 4, none⟩ y4).cell? ⟨b, 0, none⟩ = some y0 ∧ (((((w.setCell ⟨b, 0, none⟩ y0).setCell ⟨b, 1, none⟩ y1).setCell ⟨b, 2, none⟩ y2).setCell ⟨b, 3, none⟩ y3).setCell ⟨b, 4, none⟩ y4).cell? ⟨b, 1, none⟩ = some y1 ∧
    (((((w.setCell ⟨b, 0, none⟩ y0).setCell ⟨b, 1, none⟩ y1).setCell ⟨b, 2, none⟩ y2).setCell ⟨b, 3, none⟩ y3).setCell ⟨b, 4, none⟩ y4).cell? ⟨b, 2, none⟩ = some y2 ∧ (((((w.setCell ⟨b, 0, none⟩ y0).setCell ⟨b, 1, none⟩ y1).setCell ⟨b, 2, none⟩ y2).setCell ⟨b, 3, none⟩ y3).setCell ⟨b, 4, none⟩ y4).cell? ⟨b, 3, none⟩ = some y3 ∧
    (((((w.setCell ⟨b, 0, none⟩ y0).setCell ⟨b, 1, none⟩ y1).setCell ⟨b, 2, none⟩ y2).setCell ⟨b, 3, none⟩ y3).setCell ⟨b, 4, none⟩ y4).cell? ⟨b, 4, none⟩ = some y4 := by
  obtain ⟨u0, u1, u2⟩ := set3 t0 t1 t2 y0 y1 y2
  have o : ∀ {W : World} {i j : Nat} {v : Value}, i ≠ j → (W.setCell ⟨b, j, none⟩ v).cell? ⟨b, i, none⟩ = W.cell? ⟨b, i, none⟩ := fun h => World.cell?_setCell_other _ _ _ _ (by simp <;> omega)
  refine ⟨?_, ?_, ?_, ?_, ?_⟩
  · rw [o (by omega), o (by omega)]; exact u0
  · rw [o (by omega), o (by omega)]; exact u1
  · rw [o (by omega), o (by omega)]; exact u2
  · rw [o (by omega)]
    exact World.cell?_setCell_same _ _ _ ((o (by omega)).trans ((o (by omega)).trans ((o (by omega)).trans t3)))
  · exact World.cell?_setCell_same _ _ _ ((o (by omega)).trans ((o (by omega)).trans ((o (by omega)).trans ((o (by omega)).trans t4))))

set_option maxHeartbeats 4000000 in
theorem portOf_any (sv pv av : Value) (S : List Sw) (P : List Pr) (A : List Ac) (id : Int) (w : World) (hC : CfAt w sv pv av S P A) (h2 : P.length * 40 ≤ 140737488355328) :
    Calls Try.prog 30 #[.agg #[sv, pv, av], .int .i64 id] w fun e w' => (∃ x0 x1 x2 x3 x4 : Int, e = .returned (.tuple #[.agg #[.int .i64 x0, .int .i64 x1, .int .i64 x2, .int .i64 x3, .int .i64 x4], .bool (P.any (fun y => y.i == id))])) ∧ Below w.heap.size w w' := by
  have HC := hide hC
  have HNO : Hid ((∀ j, j < P.length → ((P.getD j pr0).i == id) = false) → P.any (fun s => s.i == id) = false) := fun h => by
    rw [← idx_any, idx_no (p := fun s : Pr => s.i == id) pr0 h]; rfl
  have HYE : Hid (∀ k, k < P.length → (∀ j, j < k → ((P.getD j pr0).i == id) = false) → ((P.getD k pr0).i == id) = true → P.any (fun s => s.i == id) = true) := fun k hk h1 h2 => by
    rw [← idx_any, idx_at (p := fun s : Pr => s.i == id) pr0 hk h1 h2]; simp
  generalize P.any (fun s => s.i == id) = R at *
  obtain ⟨s1, s2, rfl⟩ := hC.1.slice
  obtain ⟨p1, p2, rfl⟩ := hC.2.1.slice
  obtain ⟨a1, a2, rfl⟩ := hC.2.2.slice
  clear hC
  go_enter Try.func30, Try.ntmps30
  go_wp2_with fail
  obtain ⟨W0, hW0⟩ : ∃ W0, W0 = (w.alloc (.cells #[.slice s1 S.length s2, .slice p1 P.length p2, .slice a1 A.length a2] 26)).alloc (.cells #[.int .i64 0, .int .i64 0, .int .i64 0, .int .i64 0, .int .i64 0] 33) := ⟨_, rfl⟩
  have hb0 : Below w.heap.size w W0 := by rw [hW0]; exact ((Below.refl _ _).alloc (Nat.le_refl _) _).alloc (by simp) _
  have d0 : W0.cell? ⟨w.heap.size, 1, none⟩ = some (.slice p1 P.length p2) := by rw [hW0]; exact old_cell (new_cell w _ rfl _ _ _ _ rfl) _
  have t0 : W0.cell? ⟨w.heap.size + 1, 0, none⟩ = some (.int .i64 0) := by rw [hW0]; exact new_cell _ _ (by simp) _ _ _ _ rfl
  have f0 : W0.frozen? ⟨w.heap.size + 1, 0, none⟩ = false := by rw [hW0]; simp
  have t1 : W0.cell? ⟨w.heap.size + 1, 1, none⟩ = some (.int .i64 0) := by rw [hW0]; exact new_cell _ _ (by simp) _ _ _ _ rfl
  have f1 : W0.frozen? ⟨w.heap.size + 1, 1, none⟩ = false := by rw [hW0]; simp
  have t2 : W0.cell? ⟨w.heap.size + 1, 2, none⟩ = some (.int .i64 0) := by rw [hW0]; exact new_cell _ _ (by simp) _ _ _ _ rfl
  have f2 : W0.frozen? ⟨w.heap.size + 1, 2, none⟩ = false := by rw [hW0]; simp
  have t3 : W0.cell? ⟨w.heap.size + 1, 3, none⟩ = some (.int .i64 0) := by rw [hW0]; exact new_cell _ _ (by simp) _ _ _ _ rfl
  have f3 : W0.frozen? ⟨w.heap.size + 1, 3, none⟩ = false := by rw [hW0]; simp
  have t4 : W0.cell? ⟨w.heap.size + 1, 4, none⟩ = some (.int .i64 0) := by rw [hW0]; exact new_cell _ _ (by simp) _ _ _ _ rfl
  have f4 : W0.frozen? ⟨w.heap.size + 1, 4, none⟩ = false := by rw [hW0]; simp
  rw [← hW0]
  clear hW0
  have HBE : Hid (∀ x0 x1 x2 x3 x4 : Int, Below w.heap.size w (((((W0.setCell ⟨w.heap.size + 1, 0, none⟩ (.int .i64 x0)).setCell ⟨w.heap.size + 1, 1, none⟩ (.int .i64 x1)).setCell ⟨w.heap.size + 1, 2, none⟩ (.int .i64 x2)).setCell ⟨w.heap.size + 1, 3, none⟩ (.int .i64 x3)).setCell ⟨w.heap.size + 1, 4, none⟩ (.int .i64 x4))) := fun x0 x1 x2 x3 x4 => ((((hb0.setCell (Nat.le_succ _) _).setCell (Nat.le_succ _) _).setCell (Nat.le_succ _) _).setCell (Nat.le_succ _) _).setCell (Nat.le_succ _) _
  go_loop [6] (fun i => ∃ k : Nat, k ≤ P.length ∧ i = .int .i64 k ∧ Hid (∀ j, j < k → ((P.getD j pr0).i == id) = false)) (fun i => P.length - (intOf i).toNat)
  case atStart => exact ⟨0, by omega, rfl, hide (fun j h => absurd h (by omega))⟩
  case round =>
    obtain ⟨k, hk, rfl, HALL⟩ := hrel
    by_cases hlt : k < P.length
    · obtain ⟨b, off, cap', e1, hcap, hb, g0, g1, g2, g3, g4⟩ := pr_at (RowAt.below HC.out.2.1 hb0 (Nat.le_refl _)) hlt
      simp only [Value.slice.injEq, true_and] at e1
      obtain ⟨rfl, rfl⟩ := e1
      have q3 : (0 : Int) ≤ (k : Int) := by omega
      have q4 : (k : Int) < (P.length : Int) := by omega
      by_cases hx : ((P.getD k pr0).i == id) = true
      · obtain rfl := HYE.out k hlt HALL.out hx
        have hx' : (P.getD k pr0).i = id := by simpa using hx
        clear HALL HNO HYE hx
        generalize (P.getD k pr0).i = x0 at *
        generalize (P.getD k pr0).s = x1 at *
        generalize (P.getD k pr0).m = x2 at *
        generalize (P.getD k pr0).p = x3 at *
        generalize (P.getD k pr0).c = x4 at *
        subst hx'
        obtain ⟨u0, u1, u2, u3, u4⟩ := set5 t0 t1 t2 t3 t4 (.int .i64 x0) (.int .i64 x1) (.int .i64 x2) (.int .i64 x3) (.int .i64 x4)
        have HB := hide (HBE.out x0 x1 x2 x3 x4)
        clear HBE
        go_wp2_with fail
        refine bodyPost_ret (v := .tuple #[.agg #[.int .i64 x0, .int .i64 x1, .int .i64 x2, .int .i64 x3, .int .i64 x4], .bool true]) ?_ rfl ⟨⟨x0, x1, x2, x3, x4, rfl⟩, HB.out⟩
        clear t0 t1 t2 t3 t4 f0 f1 f2 f3 f4 g0 g1 g2 g3 g4 hb0 HB
        generalize (((((W0.setCell ⟨w.heap.size + 1, 0, none⟩ (.int .i64 x0)).setCell ⟨w.heap.size + 1, 1, none⟩ (.int .i64 x1)).setCell ⟨w.heap.size + 1, 2, none⟩ (.int .i64 x2)).setCell ⟨w.heap.size + 1, 3, none⟩ (.int .i64 x3)).setCell ⟨w.heap.size + 1, 4, none⟩ (.int .i64 x4)) = W at *
        simp [results, Try.results30, go_sem, u0, u1, u2, u3, u4]
      · have hx' : ((P.getD k pr0).i == id) = false := by simpa using hx
        have HN : Hid (∀ j, j < k + 1 → ((P.getD j pr0).i == id) = false) := fun j hj => by
          by_cases e : j = k
          · subst e; exact hx'
          · exact HALL.out j (by omega)
        have hx2 : ¬ (P.getD k pr0).i = id := by simpa using hx
        clear hx hx' HALL HYE HNO HBE
        generalize (P.getD k pr0).i = y0 at *
        go_wp2_with fail
        go_round
        case rel => exact ⟨k + 1, by omega, by go_num, HN⟩
        case measure => simp [intOf]; omega
    · obtain rfl := HNO.out fun j hj => HALL.out j (by omega)
      obtain ⟨u0, u1, u2, u3, u4⟩ := set5 t0 t1 t2 t3 t4 (.int .i64 0) (.int .i64 0) (.int .i64 0) (.int .i64 0) (.int .i64 0)
      have HB := hide (HBE.out 0 0 0 0 0)
      clear HALL HYE HNO HBE
      go_wp2_with fail
      refine bodyPost_ret (v := .tuple #[.agg #[.int .i64 0, .int .i64 0, .int .i64 0, .int .i64 0, .int .i64 0], .bool false]) ?_ rfl ⟨⟨0, 0, 0, 0, 0, rfl⟩, HB.out⟩
      clear t0 t1 t2 t3 t4 f0 f1 f2 f3 f4 hb0 HB
      generalize (((((W0.setCell ⟨w.heap.size + 1, 0, none⟩ (.int .i64 0)).setCell ⟨w.heap.size + 1, 1, none⟩ (.int .i64 0)).setCell ⟨w.heap.size + 1, 2, none⟩ (.int .i64 0)).setCell ⟨w.heap.size + 1, 3, none⟩ (.int .i64 0)).setCell ⟨w.heap.size + 1, 4, none⟩ (.int .i64 0)) = W at *
      simp [results, Try.results30, go_sem, u0, u1, u2, u3, u4]

end Go.Proofs.Ytonhfgdnkkkikad
