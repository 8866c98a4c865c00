/-
  What conf.checkPort answers.
-/
import Derived.Test.YtonhfgdnkkkikadGreatCk
namespace Go.Proofs.YtonhfgdnkkkikadGreat
open Go.RowKit
set_option linter.unusedVariables false
set_option maxRecDepth 100000

/-- P3.2: what is wrong with a port that comes. -/
def prFault (S : List Sw) (P : List Pr) (x : Pr) : Int :=
  if prInB x = false then 2 else if idx (fun s => s.i == x.s) S < 0 then 6 else if P.any (fun y => y.i == x.i || y.s == x.s && y.m == x.m) = true then 7 else
  if takenB S P (S.getD (idx (fun s => s.i == x.s) S).toNat sw0).t x.p = true then 7 else if 40 ≤ P.length then 1 else 0

set_option maxHeartbeats 8000000 in
theorem checkPort_any (sv pv av : Value) (S : List Sw) (P : List Pr) (A : List Ac) (x : Pr) (w : World) (hC : CfAt w sv pv av S P A) (h1 : S.length * 24 ≤ 140737488355328) (h2 : P.length * 40 ≤ 140737488355328) :
    Calls Tryz.prog 30 #[.agg #[sv, pv, av], .agg #[.int .i64 x.i, .int .i64 x.s, .int .i64 x.m, .int .i64 x.p, .int .i64 x.c]] w fun e w' => e = .returned (.int .i64 (prFault S P x)) ∧ Below w.heap.size w w' := by
  obtain ⟨xi, xs, xm, xp, xc⟩ := x
  have HC := hide hC
  have HB := hide (fun W => portInBounds_any xi xs xm xp xc W)
  have HI : Hid (∀ (W : World) (b : Nat), Below w.heap.size w W → W.cell? ⟨b, 0, none⟩ = some (.int .i64 xs) → Calls Tryz.prog 58 #[sv, .func (.func 82) #[] #[.pointer (some ⟨b, 0, none⟩)]] W fun e w' => e = .returned (.int .i64 (idx (fun s => s.i == xs) S)) ∧ Below W.heap.size W w') :=
    fun W b hW a => idxId_any S _ sv _ W (RowAt.below hC.1 hW (Nat.le_refl _)) (asksId a) h1
  have HP : Hid (∀ (W : World), Below w.heap.size w W → W.cell? ⟨w.heap.size + 1, 0, none⟩ = some (.int .i64 xi) → W.cell? ⟨w.heap.size + 1, 1, none⟩ = some (.int .i64 xs) → W.cell? ⟨w.heap.size + 1, 2, none⟩ = some (.int .i64 xm) → Calls Tryz.prog 59 #[.agg #[sv, pv, av], .func (.func 60) #[] #[.pointer (some ⟨w.heap.size + 1, 0, none⟩)]] W fun e w' => e = .returned (.bool (P.any (fun y => y.i == xi || y.s == xs && y.m == xm))) ∧ Below W.heap.size W w') :=
    fun W hW a b c => hasPortSame_any sv pv av P _ _ W (anySlice hC.1) (RowAt.below hC.2.1 hW (Nat.le_refl _)) (anySlice hC.2.2) (asksSame a b c) h2
  have HT : Hid (∀ (W : World) (t : Int), Below w.heap.size w W → Calls Tryz.prog 56 #[.agg #[sv, pv, av], .int .i64 t, .int .i64 xp] W fun e w' => e = .returned (.bool (takenB S P t xp)) ∧ Below W.heap.size W w') := fun W t hW => isTaken_any sv pv av S P A t xp W (hC.below hW (Nat.le_refl _)) h1 h2
  have HR : Hid (prFault S P ⟨xi, xs, xm, xp, xc⟩ = if prInB ⟨xi, xs, xm, xp, xc⟩ = false then 2 else if idx (fun s => s.i == xs) S < 0 then 6 else if P.any (fun y => y.i == xi || y.s == xs && y.m == xm) = true then 7 else
    if takenB S P (S.getD (idx (fun s => s.i == xs) S).toNat sw0).t xp = true then 7 else if 40 ≤ P.length then 1 else 0) := rfl
  have hbd := idx_bd (fun s : Sw => s.i == xs) S
  generalize prFault S P ⟨xi, xs, xm, xp, xc⟩ = R at *
  generalize idx (fun s : Sw => s.i == xs) S = I at *
  generalize P.any (fun y => y.i == xi || y.s == xs && y.m == xm) = R1 at *
  generalize prInB ⟨xi, xs, xm, xp, xc⟩ = R0 at *
  obtain ⟨s1, s2, rfl⟩ := hC.1.slice
  obtain ⟨p1, p2, rfl⟩ := hC.2.1.slice
  obtain ⟨a1, a2, rfl⟩ := hC.2.2.slice
  clear hC
  simp only
  go_enter Tryz.func30, Tryz.ntmps30
  go_wp2_with fail
  obtain ⟨W0, hW0⟩ : ∃ W0, W0 = (w.alloc (.cells #[.slice s1 S.length s2, .slice p1 P.length p2, .slice a1 A.length a2] 28)).alloc (.cells #[.int .i64 xi, .int .i64 xs, .int .i64 xm, .int .i64 xp, .int .i64 xc] 32) := ⟨_, rfl⟩
  have hb0 : Below w.heap.size w W0 := by rw [hW0]; exact ((Below.refl _ _).alloc (Nat.le_refl _) _).alloc (by simp) _
  have d0 : W0.cell? ⟨w.heap.size, 0, none⟩ = some (.slice s1 S.length s2) := by rw [hW0]; exact old_cell (new_cell w _ rfl _ _ _ _ rfl) _
  have d1 : W0.cell? ⟨w.heap.size, 1, none⟩ = some (.slice p1 P.length p2) := by rw [hW0]; exact old_cell (new_cell w _ rfl _ _ _ _ rfl) _
  have d2 : W0.cell? ⟨w.heap.size, 2, none⟩ = some (.slice a1 A.length a2) := by rw [hW0]; exact old_cell (new_cell w _ rfl _ _ _ _ rfl) _
  have d3 : W0.cell? ⟨w.heap.size + 1, 0, none⟩ = some (.int .i64 xi) := by rw [hW0]; exact new_cell _ _ (by simp) _ _ _ _ rfl
  have d4 : W0.cell? ⟨w.heap.size + 1, 1, none⟩ = some (.int .i64 xs) := by rw [hW0]; exact new_cell _ _ (by simp) _ _ _ _ rfl
  have d5 : W0.cell? ⟨w.heap.size + 1, 2, none⟩ = some (.int .i64 xm) := by rw [hW0]; exact new_cell _ _ (by simp) _ _ _ _ rfl
  have d6 : W0.cell? ⟨w.heap.size + 1, 3, none⟩ = some (.int .i64 xp) := by rw [hW0]; exact new_cell _ _ (by simp) _ _ _ _ rfl
  have d7 : W0.cell? ⟨w.heap.size + 1, 4, none⟩ = some (.int .i64 xc) := by rw [hW0]; exact new_cell _ _ (by simp) _ _ _ _ rfl
  rw [← hW0]
  clear hW0
  refine (unhide HB _).mono ?_
  rintro e W1 ⟨rfl, hB1⟩
  have q0 := cell_beh d0 hB1 (Nat.le_refl _)
  have q1 := cell_beh d1 hB1 (Nat.le_refl _)
  have q2 := cell_beh d2 hB1 (Nat.le_refl _)
  have q3 := cell_beh d3 hB1 (Nat.le_refl _)
  have q4 := cell_beh d4 hB1 (Nat.le_refl _)
  have q5 := cell_beh d5 hB1 (Nat.le_refl _)
  have q6 := cell_beh d6 hB1 (Nat.le_refl _)
  have q7 := cell_beh d7 hB1 (Nat.le_refl _)
  have hb1 := hb0.trans (hB1.mono hb0.size)
  clear HB hB1 hb0 d0 d1 d2 d3 d4 d5 d6 d7
  cases R0
  · clear HI HP HT
    go_wp2_with fail
    go_ret
    exact ⟨int_ret (by rw [HR.out]; simp), hb1⟩
  · go_wp2_with fail
    go_region_held3 (fun w' => w'.cell? ⟨w.heap.size, 0, none⟩ = some (.slice s1 S.length s2) ∧ w'.cell? ⟨w.heap.size, 1, none⟩ = some (.slice p1 P.length p2) ∧ w'.cell? ⟨w.heap.size, 2, none⟩ = some (.slice a1 A.length a2) ∧ w'.cell? ⟨w.heap.size + 1, 0, none⟩ = some (.int .i64 xi) ∧ w'.cell? ⟨w.heap.size + 1, 1, none⟩ = some (.int .i64 xs) ∧ w'.cell? ⟨w.heap.size + 1, 2, none⟩ = some (.int .i64 xm) ∧ w'.cell? ⟨w.heap.size + 1, 3, none⟩ = some (.int .i64 xp) ∧ w'.cell? ⟨w.heap.size + 1, 4, none⟩ = some (.int .i64 xc)) (go_keep)
      (first | (go_at_call 55; refine (withId_any _ _).mono ?_; rintro e w1 ⟨bi, rfl, hbi, hc1⟩; have g1 : Below W1.heap.size W1 w1 := ((Below.refl _ W1).drew).trans hc1; have k1 : Below w.heap.size w w1 := hb1.trans (g1.mono hb1.size); have y0 := cell_beh q0 g1 (Nat.le_refl _); have y1 := cell_beh q1 g1 (Nat.le_refl _); have y2 := cell_beh q2 g1 (Nat.le_refl _); have y3 := cell_beh q3 g1 (Nat.le_refl _); have y4 := cell_beh q4 g1 (Nat.le_refl _); have y5 := cell_beh q5 g1 (Nat.le_refl _); have y6 := cell_beh q6 g1 (Nat.le_refl _); have y7 := cell_beh q7 g1 (Nat.le_refl _)) | (go_at_call 58; refine (unhide HI _ _ k1 hbi).mono ?_; rintro e w2 ⟨rfl, hc2⟩; have g2 : Below W1.heap.size W1 w2 := g1.trans (hc2.mono g1.size); have k2 : Below w.heap.size w w2 := hb1.trans (g2.mono hb1.size); have z0 := cell_beh q0 g2 (Nat.le_refl _); have z1 := cell_beh q1 g2 (Nat.le_refl _); have z2 := cell_beh q2 g2 (Nat.le_refl _); have z3 := cell_beh q3 g2 (Nat.le_refl _); have z4 := cell_beh q4 g2 (Nat.le_refl _); have z5 := cell_beh q5 g2 (Nat.le_refl _); have z6 := cell_beh q6 g2 (Nat.le_refl _); have z7 := cell_beh q7 g2 (Nat.le_refl _)))
    clear y0 y1 y2 y3 y4 y5 y6 y7 q0 q1 q2 q3 q4 q5 q6 q7 HI hbi hc1 hc2 g1 g2 k1 hb1
    by_cases hI : I < 0
    · clear HP HT
      go_wp2_with fail
      go_ret
      exact ⟨int_ret (by rw [HR.out]; simp [hI]), k2⟩
    · obtain ⟨k, rfl⟩ : ∃ k : Nat, I = (k : Int) := ⟨I.toNat, by omega⟩
      have hk : k < S.length := by omega
      have hi1 : (0 : Int) ≤ (k : Int) := by omega
      have hi2 : (k : Int) < (S.length : Int) := by omega
      go_wp2_with fail
      refine (unhide HP _ k2 z3 z4 z5).mono ?_
      rintro e w3 ⟨rfl, hc3⟩
      have k3 := k2.trans (hc3.mono k2.size)
      have q0 := cell_beh z0 hc3 (Nat.le_refl _)
      have q1 := cell_beh z1 hc3 (Nat.le_refl _)
      have q2 := cell_beh z2 hc3 (Nat.le_refl _)
      have q3 := cell_beh z3 hc3 (Nat.le_refl _)
      have q4 := cell_beh z4 hc3 (Nat.le_refl _)
      have q5 := cell_beh z5 hc3 (Nat.le_refl _)
      have q6 := cell_beh z6 hc3 (Nat.le_refl _)
      have q7 := cell_beh z7 hc3 (Nat.le_refl _)
      clear HP hc3 k2 z0 z1 z2 z3 z4 z5 z6 z7
      cases R1
      · obtain ⟨b, off, cap, e1, hcap, hb, u0, u1, u2⟩ := sw_at (RowAt.below HC.out.1 k3 (Nat.le_refl _)) hk
        simp only [Value.slice.injEq, true_and] at e1
        obtain ⟨rfl, rfl⟩ := e1
        have HTT := hide (fun W hW => HT.out W (S.getD k sw0).t hW)
        have HRR : Hid (R = if takenB S P (S.getD k sw0).t xp = true then 7 else if 40 ≤ P.length then 1 else 0) := by
          show R = _
          rw [HR.out, if_neg (by simp), if_neg (by omega), if_neg (by simp), Int.toNat_natCast]
        clear HR HT HC
        generalize takenB S P (S.getD k sw0).t xp = R2 at *
        generalize (S.getD k sw0).t = xt at *
        generalize (S.getD k sw0).i = xj at *
        generalize (S.getD k sw0).g = xg at *
        go_wp2_with fail
        go_region_held3 (fun w' => w'.cell? ⟨w.heap.size, 0, none⟩ = some (.slice (some ⟨b, off, none⟩) S.length s2) ∧ w'.cell? ⟨w.heap.size, 1, none⟩ = some (.slice p1 P.length p2) ∧ w'.cell? ⟨w.heap.size, 2, none⟩ = some (.slice a1 A.length a2) ∧ w'.cell? ⟨w.heap.size + 1, 3, none⟩ = some (.int .i64 xp) ∧ w'.cell? ⟨b, off + k * 3 + 1, none⟩ = some (.int .i64 xt)) (go_keep)
          (first | (go_at_call 56; refine (unhide HTT _ k3.drew).mono ?_; rintro e w4 ⟨rfl, hc4⟩; have g4 : Below w3.heap.size w3 w4 := ((Below.refl _ w3).drew).trans hc4; have k4 : Below w.heap.size w w4 := k3.trans (g4.mono k3.size); have v0 := cell_beh q0 g4 (Nat.le_refl _); have v1 := cell_beh q1 g4 (Nat.le_refl _); have v2 := cell_beh q2 g4 (Nat.le_refl _); have v3 := cell_beh q6 g4 (Nat.le_refl _); have v4 := cell_beh u1 g4 (Nat.le_refl _)))
        clear HTT q0 q1 q2 q3 q4 q5 q6 q7 u0 u1 u2 k3 g4 hc4
        cases R2
        · by_cases h40 : 40 ≤ P.length
          · have h40i : (40 : Int) ≤ (P.length : Int) := by omega
            go_wp2_with fail
            go_ret
            exact ⟨int_ret (by rw [HRR.out, if_neg (by simp), if_pos h40]), k4⟩
          · have h40i : (P.length : Int) < 40 := by omega
            go_wp2_with fail
            go_ret
            exact ⟨int_ret (by rw [HRR.out, if_neg (by simp), if_neg h40]), k4⟩
        · go_wp2_with fail
          go_ret
          exact ⟨int_ret (by rw [HRR.out]; simp), k4⟩
      · clear HT
        go_wp2_with fail
        go_ret
        exact ⟨int_ret (by rw [HR.out, if_neg (by simp), if_neg (by omega)]; simp), k3⟩

end Go.Proofs.YtonhfgdnkkkikadGreat
