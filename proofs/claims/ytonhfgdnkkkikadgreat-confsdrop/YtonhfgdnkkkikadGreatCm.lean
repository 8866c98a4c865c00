/-
  What conf.switchesMayBe, portsMayBe, aclsMayBe and Check answer.
-/
import Derived.Test.YtonhfgdnkkkikadGreatCp
import Derived.Test.YtonhfgdnkkkikadGreatCa
namespace Go.Proofs.YtonhfgdnkkkikadGreat
open Go.RowKit
set_option linter.unusedVariables false
set_option maxRecDepth 100000

/-- May what there is come, one by one? -/
def swsMay (S : List Sw) : Bool := (List.range S.length).all fun k => swFault (S.take k) [] (S.getD k sw0) == 0
def prsMay (S : List Sw) (P : List Pr) : Bool := (List.range P.length).all fun k => prFault S (P.take k) (P.getD k pr0) == 0
def acsMay (S : List Sw) (A : List Ac) : Bool := (List.range A.length).all fun k => acFault S (A.take k) (A.getD k ac0) == 0
theorem range_yes {n : Nat} {f : Nat → Bool} (h : ∀ j, j < n → f j = true) : (List.range n).all f = true := by
  rw [List.all_eq_true]
  intro x hx
  exact h x (List.mem_range.1 hx)
theorem range_no {n : Nat} {f : Nat → Bool} {k : Nat} (hk : k < n) (h : f k = false) : (List.range n).all f = false := by
  rw [List.all_eq_false]
  exact ⟨k, List.mem_range.2 hk, by simp [h]⟩
theorem ptake_len {α : Type} {l : List α} (k c : Nat) (h : l.length * c ≤ 140737488355328) : (l.take k).length * c ≤ 140737488355328 := Nat.le_trans (Nat.mul_le_mul_right _ (by rw [List.length_take]; exact Nat.min_le_right _ _)) h

set_option maxHeartbeats 4000000 in
theorem switchesMayBe_any (sv pv av : Value) (S : List Sw) (P : List Pr) (A : List Ac) (w : World) (hC : CfAt w sv pv av S P A) (h1 : S.length * 24 ≤ 140737488355328) :
    Calls Tryz.prog 26 #[.agg #[sv, pv, av]] w fun e w' => e = .returned (.bool (swsMay S)) ∧ Below w.heap.size w w' := by
  have HC := hide hC
  have HY : Hid ((∀ j, j < S.length → (swFault (S.take j) [] (S.getD j sw0) == 0) = true) → swsMay S = true) := fun h => range_yes h
  have HNO : Hid (∀ k, k < S.length → (swFault (S.take k) [] (S.getD k sw0) == 0) = false → swsMay S = false) := fun k hk h => range_no hk h
  generalize swsMay S = R at *
  obtain ⟨s1, s2, rfl⟩ := hC.1.slice
  obtain ⟨p1, p2, rfl⟩ := hC.2.1.slice
  obtain ⟨a1, a2, rfl⟩ := hC.2.2.slice
  clear hC
  go_enter Tryz.func26, Tryz.ntmps26
  go_wp2_with fail
  obtain ⟨W0, hW0⟩ : ∃ W0, W0 = w.alloc (.cells #[.slice s1 S.length s2, .slice p1 P.length p2, .slice a1 A.length a2] 28) := ⟨_, rfl⟩
  have hb0 : Below w.heap.size w W0 := by rw [hW0]; exact (Below.refl _ _).alloc (Nat.le_refl _) _
  have d0 : W0.cell? ⟨w.heap.size, 0, none⟩ = some (.slice s1 S.length s2) := by rw [hW0]; exact new_cell w _ rfl _ _ _ _ rfl
  have d1 : W0.cell? ⟨w.heap.size, 1, none⟩ = some (.slice p1 P.length p2) := by rw [hW0]; exact new_cell w _ rfl _ _ _ _ rfl
  have d2 : W0.cell? ⟨w.heap.size, 2, none⟩ = some (.slice a1 A.length a2) := by rw [hW0]; exact new_cell w _ rfl _ _ _ _ rfl
  have hz0 : w.heap.size < W0.heap.size := cell_in d0
  rw [← hW0]
  clear hW0
  go_loopw [8] (fun i wr => ∃ k : Nat, k ≤ S.length ∧ i = .int .i64 k ∧ Hid (∀ j, j < k → (swFault (S.take j) [] (S.getD j sw0) == 0) = true) ∧ Below W0.heap.size W0 wr) (fun i _ => S.length - (intOf i).toNat)
  case atStart => exact ⟨0, by omega, rfl, hide (fun j h => absurd h (by omega)), Below.refl _ _⟩
  case round =>
    obtain ⟨k, hk, rfl, HALL, hbr⟩ := hrel
    have hbw := hb0.trans (hbr.mono hb0.size)
    have q0 := cell_beh d0 hbr (Nat.le_refl _)
    have q1 := cell_beh d1 hbr (Nat.le_refl _)
    have q2 := cell_beh d2 hbr (Nat.le_refl _)
    by_cases hlt : k < S.length
    · obtain ⟨b, off, cap', e1, hcap, hb, g0, g1, g2⟩ := sw_at (RowAt.below HC.out.1 hbw (Nat.le_refl _)) hlt
      have HK : Hid (∀ W : World, Below w.heap.size w W → Calls Tryz.prog 29 #[.agg #[.slice s1 k s2, .slice none 0 0, .slice none 0 0], .agg #[.int .i64 (S.getD k sw0).i, .int .i64 (S.getD k sw0).t, .int .i64 (S.getD k sw0).g]] W fun e w' => e = .returned (.int .i64 (swFault (S.take k) [] (S.getD k sw0))) ∧ Below W.heap.size W w') := fun W hW => checkSwitch_any _ _ _ (S.take k) [] [] (S.getD k sw0) W ⟨RowAt.take (RowAt.below HC.out.1 hW (Nat.le_refl _)) k hlt, RowAt.nil _ _ _, RowAt.nil _ _ _⟩ (ptake_len k 24 h1) (by simp)
      simp only [Value.slice.injEq, true_and] at e1
      obtain ⟨rfl, rfl⟩ := e1
      have HN1 := hide (HNO.out k hlt)
      have HNX : Hid ((swFault (S.take k) [] (S.getD k sw0) == 0) = true → ∀ j, j < k + 1 → (swFault (S.take j) [] (S.getD j sw0) == 0) = true) := fun h j hj => by
        by_cases e : j = k
        · subst e; exact h
        · exact HALL.out j (by omega)
      have HRS := hide hlt
      clear HALL d0 d1 d2
      generalize swFault (S.take k) [] (S.getD k sw0) = G at HK HN1 HNX
      generalize (S.getD k sw0).i = x0 at *
      generalize (S.getD k sw0).t = x1 at *
      generalize (S.getD k sw0).g = x2 at *
      have q3 : (0 : Int) ≤ (k : Int) := by omega
      have q4 : (k : Int) < (S.length : Int) := by omega
      have q5 : (k : Int) ≤ (s2 : Int) := by omega
      go_wp2_with fail
      obtain ⟨W1, hW1⟩ : ∃ W1, W1 = wr.alloc (.cells #[.int .i64 x0, .int .i64 x1, .int .i64 x2] 37) := ⟨_, rfl⟩
      obtain ⟨B, hB⟩ : ∃ B, B = wr.heap.size := ⟨_, rfl⟩
      have hb1 : Below wr.heap.size wr W1 := by rw [hW1]; exact (Below.refl _ _).alloc (Nat.le_refl _) _
      have y0 : W1.cell? ⟨B, 0, none⟩ = some (.int .i64 x0) := by rw [hW1, hB]; exact new_cell wr _ rfl _ _ _ _ rfl
      have y1 : W1.cell? ⟨B, 1, none⟩ = some (.int .i64 x1) := by rw [hW1, hB]; exact new_cell wr _ rfl _ _ _ _ rfl
      have y2 : W1.cell? ⟨B, 2, none⟩ = some (.int .i64 x2) := by rw [hW1, hB]; exact new_cell wr _ rfl _ _ _ _ rfl
      have r0 := cell_beh q0 hb1 (Nat.le_refl _)
      have r1 := cell_beh q1 hb1 (Nat.le_refl _)
      have r2 := cell_beh q2 hb1 (Nat.le_refl _)
      have hk1 : Below w.heap.size w W1 := hbw.trans (hb1.mono hbw.size)
      have hr1 : Below W0.heap.size W0 W1 := hbr.trans (hb1.mono hbr.size)
      rw [← hW1, ← hB]
      clear hW1 hB hb1 q0 q1 q2 hbw hbr g0 g1 g2
      go_region_held3 (fun w' => w'.cell? ⟨w.heap.size, 0, none⟩ = some (.slice (some ⟨b, off, none⟩) S.length s2) ∧ w'.cell? ⟨w.heap.size, 1, none⟩ = some (.slice p1 P.length p2) ∧ w'.cell? ⟨w.heap.size, 2, none⟩ = some (.slice a1 A.length a2) ∧ w'.cell? ⟨B, 0, none⟩ = some (.int .i64 x0) ∧ w'.cell? ⟨B, 1, none⟩ = some (.int .i64 x1) ∧ w'.cell? ⟨B, 2, none⟩ = some (.int .i64 x2)) (go_keep)
        (first | (go_at_call 29; refine (unhide HK _ hk1.drew).mono ?_; rintro e w2 ⟨rfl, hc2⟩; have g2 : Below W1.heap.size W1 w2 := ((Below.refl _ W1).drew).trans hc2; have v0 := cell_beh r0 g2 (Nat.le_refl _); have v1 := cell_beh r1 g2 (Nat.le_refl _); have v2 := cell_beh r2 g2 (Nat.le_refl _); have u0 := cell_beh y0 g2 (Nat.le_refl _); have u1 := cell_beh y1 g2 (Nat.le_refl _); have u2 := cell_beh y2 g2 (Nat.le_refl _)))
      have HB2 : Hid (Below W0.heap.size W0 w2) := hr1.trans (g2.mono hr1.size)
      clear hr1 hk1 g2 hc2 r0 r1 r2 v0 v1 v2 HK y0 u0 y1 u1 y2 u2
      by_cases hG : G = 0
      · subst hG
        have HN := hide (HNX.out rfl)
        clear HNX HN1
        go_wp2_with fail
        go_roundw
        case rel => exact ⟨k + 1, by omega, by go_num, HN, HB2.out⟩
        case measure => simp [intOf]; omega
      · have HN := hide (HN1.out (by simpa using hG))
        clear HNX HN1
        go_wp2_with fail
        go_ret
        exact ⟨bool_ret HN.out.symm, hb0.trans (HB2.out.mono hb0.size)⟩
    · have HN := hide (HY.out fun j hj => HALL.out j (by omega))
      clear HALL q0 q1 q2 d0 d1 d2
      go_wp2_with fail
      go_ret
      exact ⟨bool_ret HN.out.symm, hbw⟩

set_option maxHeartbeats 4000000 in
theorem portsMayBe_any (sv pv av : Value) (S : List Sw) (P : List Pr) (A : List Ac) (w : World) (hC : CfAt w sv pv av S P A) (h1 : S.length * 24 ≤ 140737488355328) (h2 : P.length * 40 ≤ 140737488355328) :
    Calls Tryz.prog 27 #[.agg #[sv, pv, av]] w fun e w' => e = .returned (.bool (prsMay S P)) ∧ Below w.heap.size w w' := by
  have HC := hide hC
  have HY : Hid ((∀ j, j < P.length → (prFault S (P.take j) (P.getD j pr0) == 0) = true) → prsMay S P = true) := fun h => range_yes h
  have HNO : Hid (∀ k, k < P.length → (prFault S (P.take k) (P.getD k pr0) == 0) = false → prsMay S P = false) := fun k hk h => range_no hk h
  generalize prsMay S P = R at *
  obtain ⟨s1, s2, rfl⟩ := hC.1.slice
  obtain ⟨p1, p2, rfl⟩ := hC.2.1.slice
  obtain ⟨a1, a2, rfl⟩ := hC.2.2.slice
  clear hC
  go_enter Tryz.func27, Tryz.ntmps27
  go_wp2_with fail
  obtain ⟨W0, hW0⟩ : ∃ W0, W0 = w.alloc (.cells #[.slice s1 S.length s2, .slice p1 P.length p2, .slice a1 A.length a2] 28) := ⟨_, rfl⟩
  have hb0 : Below w.heap.size w W0 := by rw [hW0]; exact (Below.refl _ _).alloc (Nat.le_refl _) _
  have d0 : W0.cell? ⟨w.heap.size, 0, none⟩ = some (.slice s1 S.length s2) := by rw [hW0]; exact new_cell w _ rfl _ _ _ _ rfl
  have d1 : W0.cell? ⟨w.heap.size, 1, none⟩ = some (.slice p1 P.length p2) := by rw [hW0]; exact new_cell w _ rfl _ _ _ _ rfl
  have d2 : W0.cell? ⟨w.heap.size, 2, none⟩ = some (.slice a1 A.length a2) := by rw [hW0]; exact new_cell w _ rfl _ _ _ _ rfl
  have hz0 : w.heap.size < W0.heap.size := cell_in d0
  rw [← hW0]
  clear hW0
  go_loopw [8] (fun i wr => ∃ k : Nat, k ≤ P.length ∧ i = .int .i64 k ∧ Hid (∀ j, j < k → (prFault S (P.take j) (P.getD j pr0) == 0) = true) ∧ Below W0.heap.size W0 wr) (fun i _ => P.length - (intOf i).toNat)
  case atStart => exact ⟨0, by omega, rfl, hide (fun j h => absurd h (by omega)), Below.refl _ _⟩
  case round =>
    obtain ⟨k, hk, rfl, HALL, hbr⟩ := hrel
    have hbw := hb0.trans (hbr.mono hb0.size)
    have q0 := cell_beh d0 hbr (Nat.le_refl _)
    have q1 := cell_beh d1 hbr (Nat.le_refl _)
    have q2 := cell_beh d2 hbr (Nat.le_refl _)
    by_cases hlt : k < P.length
    · obtain ⟨b, off, cap', e1, hcap, hb, g0, g1, g2, g3, g4⟩ := pr_at (RowAt.below HC.out.2.1 hbw (Nat.le_refl _)) hlt
      have HK : Hid (∀ W : World, Below w.heap.size w W → Calls Tryz.prog 30 #[.agg #[.slice s1 S.length s2, .slice p1 k p2, .slice none 0 0], .agg #[.int .i64 (P.getD k pr0).i, .int .i64 (P.getD k pr0).s, .int .i64 (P.getD k pr0).m, .int .i64 (P.getD k pr0).p, .int .i64 (P.getD k pr0).c]] W fun e w' => e = .returned (.int .i64 (prFault S (P.take k) (P.getD k pr0))) ∧ Below W.heap.size W w') := fun W hW => checkPort_any _ _ _ S (P.take k) [] (P.getD k pr0) W ⟨RowAt.below HC.out.1 hW (Nat.le_refl _), RowAt.take (RowAt.below HC.out.2.1 hW (Nat.le_refl _)) k hlt, RowAt.nil _ _ _⟩ h1 (ptake_len k 40 h2)
      simp only [Value.slice.injEq, true_and] at e1
      obtain ⟨rfl, rfl⟩ := e1
      have HN1 := hide (HNO.out k hlt)
      have HNX : Hid ((prFault S (P.take k) (P.getD k pr0) == 0) = true → ∀ j, j < k + 1 → (prFault S (P.take j) (P.getD j pr0) == 0) = true) := fun h j hj => by
        by_cases e : j = k
        · subst e; exact h
        · exact HALL.out j (by omega)
      have HRS := hide hlt
      clear HALL d0 d1 d2
      generalize prFault S (P.take k) (P.getD k pr0) = G at HK HN1 HNX
      generalize (P.getD k pr0).i = x0 at *
      generalize (P.getD k pr0).s = x1 at *
      generalize (P.getD k pr0).m = x2 at *
      generalize (P.getD k pr0).p = x3 at *
      generalize (P.getD k pr0).c = x4 at *
      have q3 : (0 : Int) ≤ (k : Int) := by omega
      have q4 : (k : Int) < (P.length : Int) := by omega
      have q5 : (k : Int) ≤ (p2 : Int) := by omega
      go_wp2_with fail
      obtain ⟨W1, hW1⟩ : ∃ W1, W1 = wr.alloc (.cells #[.int .i64 x0, .int .i64 x1, .int .i64 x2, .int .i64 x3, .int .i64 x4] 32) := ⟨_, rfl⟩
      obtain ⟨B, hB⟩ : ∃ B, B = wr.heap.size := ⟨_, rfl⟩
      have hb1 : Below wr.heap.size wr W1 := by rw [hW1]; exact (Below.refl _ _).alloc (Nat.le_refl _) _
      have y0 : W1.cell? ⟨B, 0, none⟩ = some (.int .i64 x0) := by rw [hW1, hB]; exact new_cell wr _ rfl _ _ _ _ rfl
      have y1 : W1.cell? ⟨B, 1, none⟩ = some (.int .i64 x1) := by rw [hW1, hB]; exact new_cell wr _ rfl _ _ _ _ rfl
      have y2 : W1.cell? ⟨B, 2, none⟩ = some (.int .i64 x2) := by rw [hW1, hB]; exact new_cell wr _ rfl _ _ _ _ rfl
      have y3 : W1.cell? ⟨B, 3, none⟩ = some (.int .i64 x3) := by rw [hW1, hB]; exact new_cell wr _ rfl _ _ _ _ rfl
      have y4 : W1.cell? ⟨B, 4, none⟩ = some (.int .i64 x4) := by rw [hW1, hB]; exact new_cell wr _ rfl _ _ _ _ rfl
      have r0 := cell_beh q0 hb1 (Nat.le_refl _)
      have r1 := cell_beh q1 hb1 (Nat.le_refl _)
      have r2 := cell_beh q2 hb1 (Nat.le_refl _)
      have hk1 : Below w.heap.size w W1 := hbw.trans (hb1.mono hbw.size)
      have hr1 : Below W0.heap.size W0 W1 := hbr.trans (hb1.mono hbr.size)
      rw [← hW1, ← hB]
      clear hW1 hB hb1 q0 q1 q2 hbw hbr g0 g1 g2 g3 g4
      go_region_held3 (fun w' => w'.cell? ⟨w.heap.size, 0, none⟩ = some (.slice s1 S.length s2) ∧ w'.cell? ⟨w.heap.size, 1, none⟩ = some (.slice (some ⟨b, off, none⟩) P.length p2) ∧ w'.cell? ⟨w.heap.size, 2, none⟩ = some (.slice a1 A.length a2) ∧ w'.cell? ⟨B, 0, none⟩ = some (.int .i64 x0) ∧ w'.cell? ⟨B, 1, none⟩ = some (.int .i64 x1) ∧ w'.cell? ⟨B, 2, none⟩ = some (.int .i64 x2) ∧ w'.cell? ⟨B, 3, none⟩ = some (.int .i64 x3) ∧ w'.cell? ⟨B, 4, none⟩ = some (.int .i64 x4)) (go_keep)
        (first | (go_at_call 30; refine (unhide HK _ hk1.drew).mono ?_; rintro e w2 ⟨rfl, hc2⟩; have g2 : Below W1.heap.size W1 w2 := ((Below.refl _ W1).drew).trans hc2; have v0 := cell_beh r0 g2 (Nat.le_refl _); have v1 := cell_beh r1 g2 (Nat.le_refl _); have v2 := cell_beh r2 g2 (Nat.le_refl _); have u0 := cell_beh y0 g2 (Nat.le_refl _); have u1 := cell_beh y1 g2 (Nat.le_refl _); have u2 := cell_beh y2 g2 (Nat.le_refl _); have u3 := cell_beh y3 g2 (Nat.le_refl _); have u4 := cell_beh y4 g2 (Nat.le_refl _)))
      have HB2 : Hid (Below W0.heap.size W0 w2) := hr1.trans (g2.mono hr1.size)
      clear hr1 hk1 g2 hc2 r0 r1 r2 v0 v1 v2 HK y0 u0 y1 u1 y2 u2 y3 u3 y4 u4
      by_cases hG : G = 0
      · subst hG
        have HN := hide (HNX.out rfl)
        clear HNX HN1
        go_wp2_with fail
        go_roundw
        case rel => exact ⟨k + 1, by omega, by go_num, HN, HB2.out⟩
        case measure => simp [intOf]; omega
      · have HN := hide (HN1.out (by simpa using hG))
        clear HNX HN1
        go_wp2_with fail
        go_ret
        exact ⟨bool_ret HN.out.symm, hb0.trans (HB2.out.mono hb0.size)⟩
    · have HN := hide (HY.out fun j hj => HALL.out j (by omega))
      clear HALL q0 q1 q2 d0 d1 d2
      go_wp2_with fail
      go_ret
      exact ⟨bool_ret HN.out.symm, hbw⟩

set_option maxHeartbeats 4000000 in
theorem aclsMayBe_any (sv pv av : Value) (S : List Sw) (P : List Pr) (A : List Ac) (w : World) (hC : CfAt w sv pv av S P A) (h1 : S.length * 24 ≤ 140737488355328) (h3 : A.length * 72 ≤ 140737488355328) :
    Calls Tryz.prog 28 #[.agg #[sv, pv, av]] w fun e w' => e = .returned (.bool (acsMay S A)) ∧ Below w.heap.size w w' := by
  have HC := hide hC
  have HY : Hid ((∀ j, j < A.length → (acFault S (A.take j) (A.getD j ac0) == 0) = true) → acsMay S A = true) := fun h => range_yes h
  have HNO : Hid (∀ k, k < A.length → (acFault S (A.take k) (A.getD k ac0) == 0) = false → acsMay S A = false) := fun k hk h => range_no hk h
  generalize acsMay S A = R at *
  obtain ⟨s1, s2, rfl⟩ := hC.1.slice
  obtain ⟨p1, p2, rfl⟩ := hC.2.1.slice
  obtain ⟨a1, a2, rfl⟩ := hC.2.2.slice
  clear hC
  go_enter Tryz.func28, Tryz.ntmps28
  go_wp2_with fail
  obtain ⟨W0, hW0⟩ : ∃ W0, W0 = w.alloc (.cells #[.slice s1 S.length s2, .slice p1 P.length p2, .slice a1 A.length a2] 28) := ⟨_, rfl⟩
  have hb0 : Below w.heap.size w W0 := by rw [hW0]; exact (Below.refl _ _).alloc (Nat.le_refl _) _
  have d0 : W0.cell? ⟨w.heap.size, 0, none⟩ = some (.slice s1 S.length s2) := by rw [hW0]; exact new_cell w _ rfl _ _ _ _ rfl
  have d1 : W0.cell? ⟨w.heap.size, 1, none⟩ = some (.slice p1 P.length p2) := by rw [hW0]; exact new_cell w _ rfl _ _ _ _ rfl
  have d2 : W0.cell? ⟨w.heap.size, 2, none⟩ = some (.slice a1 A.length a2) := by rw [hW0]; exact new_cell w _ rfl _ _ _ _ rfl
  have hz0 : w.heap.size < W0.heap.size := cell_in d0
  rw [← hW0]
  clear hW0
  go_loopw [8] (fun i wr => ∃ k : Nat, k ≤ A.length ∧ i = .int .i64 k ∧ Hid (∀ j, j < k → (acFault S (A.take j) (A.getD j ac0) == 0) = true) ∧ Below W0.heap.size W0 wr) (fun i _ => A.length - (intOf i).toNat)
  case atStart => exact ⟨0, by omega, rfl, hide (fun j h => absurd h (by omega)), Below.refl _ _⟩
  case round =>
    obtain ⟨k, hk, rfl, HALL, hbr⟩ := hrel
    have hbw := hb0.trans (hbr.mono hb0.size)
    have q0 := cell_beh d0 hbr (Nat.le_refl _)
    have q1 := cell_beh d1 hbr (Nat.le_refl _)
    have q2 := cell_beh d2 hbr (Nat.le_refl _)
    by_cases hlt : k < A.length
    · obtain ⟨b, off, cap', e1, hcap, hb, g0, g1, g2, g3, g4, g5, g6, g7, g8⟩ := ac_at (RowAt.below HC.out.2.2 hbw (Nat.le_refl _)) hlt
      have HK : Hid (∀ W : World, Below w.heap.size w W → Calls Tryz.prog 31 #[.agg #[.slice s1 S.length s2, .slice p1 P.length p2, .slice a1 k a2], .agg #[.int .i64 (A.getD k ac0).s, .int .i64 (A.getD k ac0).p, .bool (A.getD k ac0).n, .int .i64 (A.getD k ac0).src, .int .i64 (A.getD k ac0).sb, .int .i64 (A.getD k ac0).dst, .int .i64 (A.getD k ac0).db, .int .i64 (A.getD k ac0).o, .bool (A.getD k ac0).d]] W fun e w' => e = .returned (.int .i64 (acFault S (A.take k) (A.getD k ac0))) ∧ Below W.heap.size W w') := fun W hW => checkAcl_any _ _ _ S P (A.take k) (A.getD k ac0) W ⟨RowAt.below HC.out.1 hW (Nat.le_refl _), RowAt.below HC.out.2.1 hW (Nat.le_refl _), RowAt.take (RowAt.below HC.out.2.2 hW (Nat.le_refl _)) k hlt⟩ h1
      simp only [Value.slice.injEq, true_and] at e1
      obtain ⟨rfl, rfl⟩ := e1
      have HN1 := hide (HNO.out k hlt)
      have HNX : Hid ((acFault S (A.take k) (A.getD k ac0) == 0) = true → ∀ j, j < k + 1 → (acFault S (A.take j) (A.getD j ac0) == 0) = true) := fun h j hj => by
        by_cases e : j = k
        · subst e; exact h
        · exact HALL.out j (by omega)
      have HRS := hide hlt
      clear HALL d0 d1 d2
      generalize acFault S (A.take k) (A.getD k ac0) = G at HK HN1 HNX
      generalize (A.getD k ac0).s = x0 at *
      generalize (A.getD k ac0).p = x1 at *
      generalize (A.getD k ac0).n = x2 at *
      generalize (A.getD k ac0).src = x3 at *
      generalize (A.getD k ac0).sb = x4 at *
      generalize (A.getD k ac0).dst = x5 at *
      generalize (A.getD k ac0).db = x6 at *
      generalize (A.getD k ac0).o = x7 at *
      generalize (A.getD k ac0).d = x8 at *
      have q3 : (0 : Int) ≤ (k : Int) := by omega
      have q4 : (k : Int) < (A.length : Int) := by omega
      have q5 : (k : Int) ≤ (a2 : Int) := by omega
      go_wp2_with fail
      obtain ⟨W1, hW1⟩ : ∃ W1, W1 = wr.alloc (.cells #[.int .i64 x0, .int .i64 x1, .bool x2, .int .i64 x3, .int .i64 x4, .int .i64 x5, .int .i64 x6, .int .i64 x7, .bool x8] 39) := ⟨_, rfl⟩
      obtain ⟨B, hB⟩ : ∃ B, B = wr.heap.size := ⟨_, rfl⟩
      have hb1 : Below wr.heap.size wr W1 := by rw [hW1]; exact (Below.refl _ _).alloc (Nat.le_refl _) _
      have y0 : W1.cell? ⟨B, 0, none⟩ = some (.int .i64 x0) := by rw [hW1, hB]; exact new_cell wr _ rfl _ _ _ _ rfl
      have y1 : W1.cell? ⟨B, 1, none⟩ = some (.int .i64 x1) := by rw [hW1, hB]; exact new_cell wr _ rfl _ _ _ _ rfl
      have y2 : W1.cell? ⟨B, 2, none⟩ = some (.bool x2) := by rw [hW1, hB]; exact new_cell wr _ rfl _ _ _ _ rfl
      have y3 : W1.cell? ⟨B, 3, none⟩ = some (.int .i64 x3) := by rw [hW1, hB]; exact new_cell wr _ rfl _ _ _ _ rfl
      have y4 : W1.cell? ⟨B, 4, none⟩ = some (.int .i64 x4) := by rw [hW1, hB]; exact new_cell wr _ rfl _ _ _ _ rfl
      have y5 : W1.cell? ⟨B, 5, none⟩ = some (.int .i64 x5) := by rw [hW1, hB]; exact new_cell wr _ rfl _ _ _ _ rfl
      have y6 : W1.cell? ⟨B, 6, none⟩ = some (.int .i64 x6) := by rw [hW1, hB]; exact new_cell wr _ rfl _ _ _ _ rfl
      have y7 : W1.cell? ⟨B, 7, none⟩ = some (.int .i64 x7) := by rw [hW1, hB]; exact new_cell wr _ rfl _ _ _ _ rfl
      have y8 : W1.cell? ⟨B, 8, none⟩ = some (.bool x8) := by rw [hW1, hB]; exact new_cell wr _ rfl _ _ _ _ rfl
      have r0 := cell_beh q0 hb1 (Nat.le_refl _)
      have r1 := cell_beh q1 hb1 (Nat.le_refl _)
      have r2 := cell_beh q2 hb1 (Nat.le_refl _)
      have hk1 : Below w.heap.size w W1 := hbw.trans (hb1.mono hbw.size)
      have hr1 : Below W0.heap.size W0 W1 := hbr.trans (hb1.mono hbr.size)
      rw [← hW1, ← hB]
      clear hW1 hB hb1 q0 q1 q2 hbw hbr g0 g1 g2 g3 g4 g5 g6 g7 g8
      go_region_held3 (fun w' => w'.cell? ⟨w.heap.size, 0, none⟩ = some (.slice s1 S.length s2) ∧ w'.cell? ⟨w.heap.size, 1, none⟩ = some (.slice p1 P.length p2) ∧ w'.cell? ⟨w.heap.size, 2, none⟩ = some (.slice (some ⟨b, off, none⟩) A.length a2) ∧ w'.cell? ⟨B, 0, none⟩ = some (.int .i64 x0) ∧ w'.cell? ⟨B, 1, none⟩ = some (.int .i64 x1) ∧ w'.cell? ⟨B, 2, none⟩ = some (.bool x2) ∧ w'.cell? ⟨B, 3, none⟩ = some (.int .i64 x3) ∧ w'.cell? ⟨B, 4, none⟩ = some (.int .i64 x4) ∧ w'.cell? ⟨B, 5, none⟩ = some (.int .i64 x5) ∧ w'.cell? ⟨B, 6, none⟩ = some (.int .i64 x6) ∧ w'.cell? ⟨B, 7, none⟩ = some (.int .i64 x7) ∧ w'.cell? ⟨B, 8, none⟩ = some (.bool x8)) (go_keep)
        (first | (go_at_call 31; refine (unhide HK _ hk1.drew).mono ?_; rintro e w2 ⟨rfl, hc2⟩; have g2 : Below W1.heap.size W1 w2 := ((Below.refl _ W1).drew).trans hc2; have v0 := cell_beh r0 g2 (Nat.le_refl _); have v1 := cell_beh r1 g2 (Nat.le_refl _); have v2 := cell_beh r2 g2 (Nat.le_refl _); have u0 := cell_beh y0 g2 (Nat.le_refl _); have u1 := cell_beh y1 g2 (Nat.le_refl _); have u2 := cell_beh y2 g2 (Nat.le_refl _); have u3 := cell_beh y3 g2 (Nat.le_refl _); have u4 := cell_beh y4 g2 (Nat.le_refl _); have u5 := cell_beh y5 g2 (Nat.le_refl _); have u6 := cell_beh y6 g2 (Nat.le_refl _); have u7 := cell_beh y7 g2 (Nat.le_refl _); have u8 := cell_beh y8 g2 (Nat.le_refl _)))
      have HB2 : Hid (Below W0.heap.size W0 w2) := hr1.trans (g2.mono hr1.size)
      clear hr1 hk1 g2 hc2 r0 r1 r2 v0 v1 v2 HK y0 u0 y1 u1 y2 u2 y3 u3 y4 u4 y5 u5 y6 u6 y7 u7 y8 u8
      by_cases hG : G = 0
      · subst hG
        have HN := hide (HNX.out rfl)
        clear HNX HN1
        go_wp2_with fail
        go_roundw
        case rel => exact ⟨k + 1, by omega, by go_num, HN, HB2.out⟩
        case measure => simp [intOf]; omega
      · have HN := hide (HN1.out (by simpa using hG))
        clear HNX HN1
        go_wp2_with fail
        go_ret
        exact ⟨bool_ret HN.out.symm, hb0.trans (HB2.out.mono hb0.size)⟩
    · have HN := hide (HY.out fun j hj => HALL.out j (by omega))
      clear HALL q0 q1 q2 d0 d1 d2
      go_wp2_with fail
      go_ret
      exact ⟨bool_ret HN.out.symm, hbw⟩

/-- P3.4: may it be wanted? -/
def may (S : List Sw) (P : List Pr) (A : List Ac) : Bool := swsMay S && prsMay S P && acsMay S A

set_option maxHeartbeats 4000000 in
theorem confCheck_any (sv pv av : Value) (S : List Sw) (P : List Pr) (A : List Ac) (w : World) (hC : CfAt w sv pv av S P A) (h1 : S.length * 24 ≤ 140737488355328) (h2 : P.length * 40 ≤ 140737488355328) (h3 : A.length * 72 ≤ 140737488355328) :
    Calls Tryz.prog 17 #[.agg #[sv, pv, av]] w fun e w' => e = .returned (.int .i64 (if may S P A = true then 0 else 8)) ∧ Below w.heap.size w w' := by
  have H1 : Hid (∀ W : World, Below w.heap.size w W → Calls Tryz.prog 26 #[.agg #[sv, pv, av]] W fun e w' => e = .returned (.bool (swsMay S)) ∧ Below W.heap.size W w') := fun W hW => switchesMayBe_any sv pv av S P A W (hC.below hW (Nat.le_refl _)) h1
  have H2 : Hid (∀ W : World, Below w.heap.size w W → Calls Tryz.prog 27 #[.agg #[sv, pv, av]] W fun e w' => e = .returned (.bool (prsMay S P)) ∧ Below W.heap.size W w') := fun W hW => portsMayBe_any sv pv av S P A W (hC.below hW (Nat.le_refl _)) h1 h2
  have H3 : Hid (∀ W : World, Below w.heap.size w W → Calls Tryz.prog 28 #[.agg #[sv, pv, av]] W fun e w' => e = .returned (.bool (acsMay S A)) ∧ Below W.heap.size W w') := fun W hW => aclsMayBe_any sv pv av S P A W (hC.below hW (Nat.le_refl _)) h1 h3
  have HR : Hid ((if may S P A = true then (0 : Int) else 8) = if (swsMay S && prsMay S P && acsMay S A) = true then 0 else 8) := rfl
  generalize (if may S P A = true then (0 : Int) else 8) = R at *
  generalize swsMay S = R1 at *
  generalize prsMay S P = R2 at *
  generalize acsMay S A = R3 at *
  obtain ⟨s1, s2, rfl⟩ := hC.1.slice
  obtain ⟨p1, p2, rfl⟩ := hC.2.1.slice
  obtain ⟨a1, a2, rfl⟩ := hC.2.2.slice
  clear hC
  go_enter Tryz.func17, Tryz.ntmps17
  go_wp2_with fail
  obtain ⟨W0, hW0⟩ : ∃ W0, W0 = w.alloc (.cells #[.slice s1 S.length s2, .slice p1 P.length p2, .slice a1 A.length a2] 28) := ⟨_, rfl⟩
  have hb0 : Below w.heap.size w W0 := by rw [hW0]; exact (Below.refl _ _).alloc (Nat.le_refl _) _
  have d0 : W0.cell? ⟨w.heap.size, 0, none⟩ = some (.slice s1 S.length s2) := by rw [hW0]; exact new_cell w _ rfl _ _ _ _ rfl
  have d1 : W0.cell? ⟨w.heap.size, 1, none⟩ = some (.slice p1 P.length p2) := by rw [hW0]; exact new_cell w _ rfl _ _ _ _ rfl
  have d2 : W0.cell? ⟨w.heap.size, 2, none⟩ = some (.slice a1 A.length a2) := by rw [hW0]; exact new_cell w _ rfl _ _ _ _ rfl
  rw [← hW0]
  clear hW0
  refine (unhide H1 _ hb0).mono ?_
  rintro e w1 ⟨rfl, hc1⟩
  have k1 := hb0.trans (hc1.mono hb0.size)
  have q0 := cell_beh d0 hc1 (Nat.le_refl _)
  have q1 := cell_beh d1 hc1 (Nat.le_refl _)
  have q2 := cell_beh d2 hc1 (Nat.le_refl _)
  clear d0 d1 d2 hb0 hc1 H1
  cases R1
  · clear H2 H3
    go_wp2_with fail
    go_ret
    exact ⟨int_ret (by rw [HR.out]; simp), k1⟩
  · go_wp2_with fail
    refine (unhide H2 _ k1).mono ?_
    rintro e w2 ⟨rfl, hc2⟩
    have k2 := k1.trans (hc2.mono k1.size)
    have d0 := cell_beh q0 hc2 (Nat.le_refl _)
    have d1 := cell_beh q1 hc2 (Nat.le_refl _)
    have d2 := cell_beh q2 hc2 (Nat.le_refl _)
    clear q0 q1 q2 k1 hc2 H2
    cases R2
    · clear H3
      go_wp2_with fail
      go_ret
      exact ⟨int_ret (by rw [HR.out]; simp), k2⟩
    · go_wp2_with fail
      refine (unhide H3 _ k2).mono ?_
      rintro e w3 ⟨rfl, hc3⟩
      have k3 := k2.trans (hc3.mono k2.size)
      clear d0 d1 d2 k2 hc3 H3
      cases R3
      · go_wp2_with fail
        go_ret
        exact ⟨int_ret (by rw [HR.out]; simp), k3⟩
      · go_wp2_with fail
        go_ret
        exact ⟨int_ret (by rw [HR.out]; simp), k3⟩

end Go.Proofs.YtonhfgdnkkkikadGreat
