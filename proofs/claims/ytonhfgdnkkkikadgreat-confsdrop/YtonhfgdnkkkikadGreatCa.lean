/-
  What conf.checkAcl answers.
-/
import Derived.Test.YtonhfgdnkkkikadGreatCk
namespace Go.Proofs.YtonhfgdnkkkikadGreat
open Go.RowKit
set_option linter.unusedVariables false
set_option maxRecDepth 100000

/-- Has a word no other bits than so many of the highest ones? -/
def highB (n b : Int) : Bool := n % (65536 / 2 ^ b.toNat) == 0

theorem and_words (a b : Nat) (ha : a ≤ 65535) (hb : b ≤ 65535) : bits .and .i64 (a : Int) (b : Int) = ((a &&& b : Nat) : Int) := by
  have e : ∀ c : Nat, c ≤ 65535 → (BitVec.ofInt 64 (c : Int)).toNat = c := fun c hc => by simp; omega
  show IntKind.i64.wrap ((BitVec.ofInt 64 (a : Int) &&& BitVec.ofInt 64 (b : Int)).toNat : Int) = _
  rw [BitVec.toNat_and, e a ha, e b hb]
  have : a &&& b ≤ a := Nat.and_le_left
  generalize a &&& b = n at *
  simp [IntKind.wrap, IntKind.bits, IntKind.signed]
  split <;> omega

set_option maxHeartbeats 1000000 in
theorem inHighest_any (n b : Int) (w : World) (hn : inB n 0 65535 = true) (hb : inB b 0 16 = true) :
    Calls Tryz.prog 62 #[.int .i64 n, .int .i64 b] w fun e w' => e = .returned (.bool (highB n b)) ∧ w' = w := by
  simp [inB] at hn hb
  obtain ⟨m, rfl⟩ := Int.eq_ofNat_of_zero_le hn.1
  obtain ⟨c, rfl⟩ := Int.eq_ofNat_of_zero_le hb.1
  have hc : c = 0 ∨ c = 1 ∨ c = 2 ∨ c = 3 ∨ c = 4 ∨ c = 5 ∨ c = 6 ∨ c = 7 ∨ c = 8 ∨ c = 9 ∨ c = 10 ∨ c = 11 ∨ c = 12 ∨ c = 13 ∨ c = 14 ∨ c = 15 ∨ c = 16 := by omega
  go_enter Tryz.func62, Tryz.ntmps62
  go_wp2
  go_ret
  refine ⟨bool_ret ?_, rfl⟩
  have key : ∀ n, n ≤ 16 → (bits .and .i64 (m : Int) ((2 ^ n - 1 : Nat) : Int) == 0) = ((m : Int) % ((2 ^ n : Nat) : Int) == 0) := fun n hn16 => by
    have h2 : 2 ^ n ≤ 2 ^ 16 := Nat.pow_le_pow_right (by omega) hn16
    rw [and_words m _ (by omega) (by omega), Nat.and_two_pow_sub_one_eq_mod, ← Int.natCast_emod]
  unfold highB
  rcases hc with rfl | rfl | rfl | rfl | rfl | rfl | rfl | rfl | rfl | rfl | rfl | rfl | rfl | rfl | rfl | rfl | rfl
  · exact key 16 (by omega)
  · exact key 15 (by omega)
  · exact key 14 (by omega)
  · exact key 13 (by omega)
  · exact key 12 (by omega)
  · exact key 11 (by omega)
  · exact key 10 (by omega)
  · exact key 9 (by omega)
  · exact key 8 (by omega)
  · exact key 7 (by omega)
  · exact key 6 (by omega)
  · exact key 5 (by omega)
  · exact key 4 (by omega)
  · exact key 3 (by omega)
  · exact key 2 (by omega)
  · exact key 1 (by omega)
  · exact key 0 (by omega)

/-- P3.3: what is wrong with a rule that comes. -/
def acFault (S : List Sw) (A : List Ac) (x : Ac) : Int :=
  if acInB x = false then 2 else if (highB x.src x.sb && highB x.dst x.db) = false then 4 else if S.any (fun s => s.i == x.s) = false then 6 else if 40 ≤ A.length then 1 else 0

set_option maxHeartbeats 8000000 in
theorem checkAcl_any (sv pv av : Value) (S : List Sw) (P : List Pr) (A : List Ac) (x : Ac) (w : World) (hC : CfAt w sv pv av S P A) (h1 : S.length * 24 ≤ 140737488355328) :
    Calls Tryz.prog 31 #[.agg #[sv, pv, av], .agg #[.int .i64 x.s, .int .i64 x.p, .bool x.n, .int .i64 x.src, .int .i64 x.sb, .int .i64 x.dst, .int .i64 x.db, .int .i64 x.o, .bool x.d]] w fun e w' => e = .returned (.int .i64 (acFault S A x)) ∧ Below w.heap.size w w' := by
  obtain ⟨xs, xp, xn, xf, xb, xd, xe, xo, xy⟩ := x
  have HB := hide (fun W => aclInBounds_any xs xp xn xf xb xd xe xo xy W)
  have HI : Hid (∀ (W : World) (b : Nat), Below w.heap.size w W → W.cell? ⟨b, 0, none⟩ = some (.int .i64 xs) → Calls Tryz.prog 54 #[.agg #[sv, pv, av], .func (.func 82) #[] #[.pointer (some ⟨b, 0, none⟩)]] W fun e w' => e = .returned (.bool (S.any (fun s => s.i == xs))) ∧ Below W.heap.size W w') :=
    fun W b hW a => hasSwitchId_any sv pv av S _ _ W (RowAt.below hC.1 hW (Nat.le_refl _)) (anySlice hC.2.1) (anySlice hC.2.2) (asksId a) h1
  have HR : Hid (acFault S A ⟨xs, xp, xn, xf, xb, xd, xe, xo, xy⟩ = if acInB ⟨xs, xp, xn, xf, xb, xd, xe, xo, xy⟩ = false then 2 else if (highB xf xb && highB xd xe) = false then 4 else if S.any (fun s => s.i == xs) = false then 6 else if 40 ≤ A.length then 1 else 0) := rfl
  have HQ : Hid (acInB ⟨xs, xp, xn, xf, xb, xd, xe, xo, xy⟩ = true → inB xf 0 65535 = true ∧ inB xb 0 16 = true ∧ inB xd 0 65535 = true ∧ inB xe 0 16 = true) := fun h => by
    unfold acInB at h
    simp only [Bool.and_eq_true] at h
    exact ⟨h.1.1.1.1.2, h.1.1.2, h.1.1.1.2, h.1.2⟩
  generalize acFault S A ⟨xs, xp, xn, xf, xb, xd, xe, xo, xy⟩ = R at *
  generalize S.any (fun s => s.i == xs) = R1 at *
  generalize acInB ⟨xs, xp, xn, xf, xb, xd, xe, xo, xy⟩ = R0 at *
  obtain ⟨s1, s2, rfl⟩ := hC.1.slice
  obtain ⟨p1, p2, rfl⟩ := hC.2.1.slice
  obtain ⟨a1, a2, rfl⟩ := hC.2.2.slice
  clear hC
  simp only
  go_enter Tryz.func31, Tryz.ntmps31
  go_wp2_with fail
  obtain ⟨W0, hW0⟩ : ∃ W0, W0 = (w.alloc (.cells #[.slice s1 S.length s2, .slice p1 P.length p2, .slice a1 A.length a2] 28)).alloc (.cells #[.int .i64 xs, .int .i64 xp, .bool xn, .int .i64 xf, .int .i64 xb, .int .i64 xd, .int .i64 xe, .int .i64 xo, .bool xy] 39) := ⟨_, rfl⟩
  have hb0 : Below w.heap.size w W0 := by rw [hW0]; exact ((Below.refl _ _).alloc (Nat.le_refl _) _).alloc (by simp) _
  have d0 : W0.cell? ⟨w.heap.size, 0, none⟩ = some (.slice s1 S.length s2) := by rw [hW0]; exact old_cell (new_cell w _ rfl _ _ _ _ rfl) _
  have d1 : W0.cell? ⟨w.heap.size, 1, none⟩ = some (.slice p1 P.length p2) := by rw [hW0]; exact old_cell (new_cell w _ rfl _ _ _ _ rfl) _
  have d2 : W0.cell? ⟨w.heap.size, 2, none⟩ = some (.slice a1 A.length a2) := by rw [hW0]; exact old_cell (new_cell w _ rfl _ _ _ _ rfl) _
  have d3 : W0.cell? ⟨w.heap.size + 1, 0, none⟩ = some (.int .i64 xs) := by rw [hW0]; exact new_cell _ _ (by simp) _ _ _ _ rfl
  have d4 : W0.cell? ⟨w.heap.size + 1, 1, none⟩ = some (.int .i64 xp) := by rw [hW0]; exact new_cell _ _ (by simp) _ _ _ _ rfl
  have d5 : W0.cell? ⟨w.heap.size + 1, 2, none⟩ = some (.bool xn) := by rw [hW0]; exact new_cell _ _ (by simp) _ _ _ _ rfl
  have d6 : W0.cell? ⟨w.heap.size + 1, 3, none⟩ = some (.int .i64 xf) := by rw [hW0]; exact new_cell _ _ (by simp) _ _ _ _ rfl
  have d7 : W0.cell? ⟨w.heap.size + 1, 4, none⟩ = some (.int .i64 xb) := by rw [hW0]; exact new_cell _ _ (by simp) _ _ _ _ rfl
  have d8 : W0.cell? ⟨w.heap.size + 1, 5, none⟩ = some (.int .i64 xd) := by rw [hW0]; exact new_cell _ _ (by simp) _ _ _ _ rfl
  have d9 : W0.cell? ⟨w.heap.size + 1, 6, none⟩ = some (.int .i64 xe) := by rw [hW0]; exact new_cell _ _ (by simp) _ _ _ _ rfl
  have d10 : W0.cell? ⟨w.heap.size + 1, 7, none⟩ = some (.int .i64 xo) := by rw [hW0]; exact new_cell _ _ (by simp) _ _ _ _ rfl
  have d11 : W0.cell? ⟨w.heap.size + 1, 8, none⟩ = some (.bool xy) := by rw [hW0]; exact new_cell _ _ (by simp) _ _ _ _ rfl
  rw [← hW0]
  clear hW0
  refine (unhide HB _).mono ?_
  rintro e W1 ⟨rfl, hB1⟩
  have q0 := cell_beh d0 hB1 (Nat.le_refl _)
  have q1 := cell_beh d1 hB1 (Nat.le_refl _)
  have q2 := cell_beh d2 hB1 (Nat.le_refl _)
  have q3 := cell_beh d3 hB1 (Nat.le_refl _)
  have q4 := cell_beh d4 hB1 (Nat.le_refl _)
  have q5 := cell_beh d5 hB1 (Nat.le_refl _)
  have q6 := cell_beh d6 hB1 (Nat.le_refl _)
  have q7 := cell_beh d7 hB1 (Nat.le_refl _)
  have q8 := cell_beh d8 hB1 (Nat.le_refl _)
  have q9 := cell_beh d9 hB1 (Nat.le_refl _)
  have q10 := cell_beh d10 hB1 (Nat.le_refl _)
  have q11 := cell_beh d11 hB1 (Nat.le_refl _)
  have hb1 := hb0.trans (hB1.mono hb0.size)
  clear HB hB1 hb0 d0 d1 d2 d3 d4 d5 d6 d7 d8 d9 d10 d11
  cases R0
  · clear HI HQ
    go_wp2_with fail
    go_ret
    exact ⟨int_ret (by rw [HR.out]; simp), hb1⟩
  · obtain ⟨g1, g2, g3, g4⟩ := HQ.out rfl
    have HH := hide (fun W => inHighest_any xf xb W g1 g2)
    have HJ := hide (fun W => inHighest_any xd xe W g3 g4)
    clear HQ g1 g2 g3 g4
    generalize highB xf xb = B1 at *
    generalize highB xd xe = B2 at *
    go_wp2_with fail
    refine (unhide HH _).mono ?_
    rintro e w' ⟨rfl, rfl⟩
    cases B1
    · clear HI HJ HH
      go_wp2_with fail
      go_ret
      exact ⟨int_ret (by rw [HR.out]; simp), hb1⟩
    · go_wp2_with fail
      refine (unhide HJ _).mono ?_
      rintro e w' ⟨rfl, rfl⟩
      cases B2
      · clear HI HJ HH
        go_wp2_with fail
        go_ret
        exact ⟨int_ret (by rw [HR.out]; simp), hb1⟩
      · clear HH HJ q4 q5 q6 q7 q8 q9 q10 q11
        rename World => W1
        go_wp2_with fail
        go_region_held3 (fun w' => w'.cell? ⟨w.heap.size, 0, none⟩ = some (.slice s1 S.length s2) ∧ w'.cell? ⟨w.heap.size, 1, none⟩ = some (.slice p1 P.length p2) ∧ w'.cell? ⟨w.heap.size, 2, none⟩ = some (.slice a1 A.length a2) ∧ w'.cell? ⟨w.heap.size + 1, 0, none⟩ = some (.int .i64 xs)) (go_keep)
          (first | (go_at_call 55; refine (withId_any _ _).mono ?_; rintro e w1 ⟨bi, rfl, hbi, hc1⟩; have g1 : Below W1.heap.size W1 w1 := ((Below.refl _ W1).drew).trans hc1; have k1 : Below w.heap.size w w1 := hb1.trans (g1.mono hb1.size); have y0 := cell_beh q0 g1 (Nat.le_refl _); have y1 := cell_beh q1 g1 (Nat.le_refl _); have y2 := cell_beh q2 g1 (Nat.le_refl _); have y3 := cell_beh q3 g1 (Nat.le_refl _)) | (go_at_call 54; refine (unhide HI _ _ k1 hbi).mono ?_; rintro e w2 ⟨rfl, hc2⟩; have g2 : Below W1.heap.size W1 w2 := g1.trans (hc2.mono g1.size); have k2 : Below w.heap.size w w2 := hb1.trans (g2.mono hb1.size); have z0 := cell_beh q0 g2 (Nat.le_refl _); have z1 := cell_beh q1 g2 (Nat.le_refl _); have z2 := cell_beh q2 g2 (Nat.le_refl _); have z3 := cell_beh q3 g2 (Nat.le_refl _)))
        clear HI q0 q1 q2 q3 y0 y1 y2 y3 hb1 hbi hc1 hc2 g1 g2 k1
        cases R1
        · go_wp2_with fail
          go_ret
          exact ⟨int_ret (by rw [HR.out]; simp), k2⟩
        · by_cases h40 : 40 ≤ A.length
          · have h40i : (40 : Int) ≤ (A.length : Int) := by omega
            go_wp2_with fail
            go_ret
            exact ⟨int_ret (by rw [HR.out]; simp [h40]), k2⟩
          · have h40i : (A.length : Int) < 40 := by omega
            go_wp2_with fail
            go_ret
            exact ⟨int_ret (by rw [HR.out]; simp [h40]), k2⟩

end Go.Proofs.YtonhfgdnkkkikadGreat
