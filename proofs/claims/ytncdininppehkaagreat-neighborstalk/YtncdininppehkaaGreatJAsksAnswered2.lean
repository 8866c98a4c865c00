/- Texts joined: Ca, Cm, Mf, Mb, Qm, Nc, Nd, Qn, Ne, Nf, Ng, Nh, Ni, Pf0, Fp, Fk, Fk2. -/
import Derived.Test.YtncdininppehkaaGreatJAsksAnswered1
namespace Go.Proofs.YtncdininppehkaaGreat
open Go.RowKit
set_option linter.unusedVariables false
set_option maxRecDepth 100000
def highB (n b : Int) : Bool := n % (65536 / 2 ^ b.toNat) == 0
theorem and_words (a b : Nat) (ha : a ≤ 65535) (hb : b ≤ 65535) : bits .and .i64 (a : Int) (b : Int) = ((a &&& b : Nat) : Int) := by
 have e : ∀ c : Nat, c ≤ 65535 → (BitVec.ofInt 64 (c : Int)).toNat = c := fun c hc => by simp; omega
 show IntKind.i64.wrap ((BitVec.ofInt 64 (a : Int) &&& BitVec.ofInt 64 (b : Int)).toNat : Int) = _
 rw [BitVec.toNat_and, e a ha, e b hb]
 have : a &&& b ≤ a := Nat.and_le_left
 generalize a &&& b = n at *
 simp [IntKind.wrap, IntKind.bits, IntKind.signed]
 split <;> omega
set_option maxHeartbeats 1000000 in
theorem inHighest_any (n b : Int) (w : World) (hn : inB n 0 65535 = true) (hb : inB b 0 16 = true) :
  Calls Tryz.prog 153 #[.int .i64 n, .int .i64 b] w fun e w' => e = .returned (.bool (highB n b)) ∧ w' = w := by
 simp [inB] at hn hb
 obtain ⟨m, rfl⟩ := Int.eq_ofNat_of_zero_le hn.1
 obtain ⟨c, rfl⟩ := Int.eq_ofNat_of_zero_le hb.1
 have hc : c = 0 ∨ c = 1 ∨ c = 2 ∨ c = 3 ∨ c = 4 ∨ c = 5 ∨ c = 6 ∨ c = 7 ∨ c = 8 ∨ c = 9 ∨ c = 10 ∨ c = 11 ∨ c = 12 ∨ c = 13 ∨ c = 14 ∨ c = 15 ∨ c = 16 := by omega
 go_enter Tryz.func153, Tryz.ntmps153
 go_wp2
 go_ret
 refine ⟨bool_ret ?_, rfl⟩
 have key : ∀ n, n ≤ 16 → (bits .and .i64 (m : Int) ((2 ^ n - 1 : Nat) : Int) == 0) = ((m : Int) % ((2 ^ n : Nat) : Int) == 0) := fun n hn16 => by
  have h2 : 2 ^ n ≤ 2 ^ 16 := Nat.pow_le_pow_right (by omega) hn16
  rw [and_words m _ (by omega) (by omega), Nat.and_two_pow_sub_one_eq_mod, ← Int.natCast_emod]
 unfold highB
 rcases hc with rfl | rfl | rfl | rfl | rfl | rfl | rfl | rfl | rfl | rfl | rfl | rfl | rfl | rfl | rfl | rfl | rfl
 ·exact key 16 (by omega)
 ·exact key 15 (by omega)
 ·exact key 14 (by omega)
 ·exact key 13 (by omega)
 ·exact key 12 (by omega)
 ·exact key 11 (by omega)
 ·exact key 10 (by omega)
 ·exact key 9 (by omega)
 ·exact key 8 (by omega)
 ·exact key 7 (by omega)
 ·exact key 6 (by omega)
 ·exact key 5 (by omega)
 ·exact key 4 (by omega)
 ·exact key 3 (by omega)
 ·exact key 2 (by omega)
 ·exact key 1 (by omega)
 ·exact key 0 (by omega)
def acFault (S : List Sw) (A : List Ac) (x : Ac) : Int :=
 if acInB x = false then 2 else if (highB x.src x.sb && highB x.dst x.db) = false then 4 else if S.any (fun s => s.i == x.s) = false then 6 else if 40 ≤ A.length then 1 else 0
set_option maxHeartbeats 8000000 in
theorem checkAcl_any (sv pv av : Value) (S : List Sw) (P : List Pr) (A : List Ac) (x : Ac) (w : World) (hC : CfAt w sv pv av S P A) (h1 : S.length * 24 ≤ 140737488355328) :
  Calls Tryz.prog 102 #[.agg #[sv, pv, av], .agg #[.int .i64 x.s, .int .i64 x.p, .bool x.n, .int .i64 x.src, .int .i64 x.sb, .int .i64 x.dst, .int .i64 x.db, .int .i64 x.o, .bool x.d]] w fun e w' => e = .returned (.int .i64 (acFault S A x)) ∧ Below w.heap.size w w' := by
 obtain ⟨xs, xp, xn, xf, xb, xd, xe, xo, xy⟩ := x
 have HB := hide (fun W => aclInBounds_any xs xp xn xf xb xd xe xo xy W)
 have HI : Hid (∀ (W : World) (b : Nat), Below w.heap.size w W → W.cell? ⟨b, 0, none⟩ = some (.int .i64 xs) → Calls Tryz.prog 145 #[.agg #[sv, pv, av], .func (.func 187) #[] #[.pointer (some ⟨b, 0, none⟩)]] W fun e w' => e = .returned (.bool (S.any (fun s => s.i == xs))) ∧ Below W.heap.size W w') :=
  fun W b hW a => hasSwitchId_any sv pv av S _ _ W (RowAt.below hC.1 hW (Nat.le_refl _)) (anySlice hC.2.1) (anySlice hC.2.2) (asksId a) h1
 have HR : Hid (acFault S A ⟨xs, xp, xn, xf, xb, xd, xe, xo, xy⟩ = if acInB ⟨xs, xp, xn, xf, xb, xd, xe, xo, xy⟩ = false then 2 else if (highB xf xb && highB xd xe) = false then 4 else if S.any (fun s => s.i == xs) = false then 6 else if 40 ≤ A.length then 1 else 0) := rfl
 have HQ : Hid (acInB ⟨xs, xp, xn, xf, xb, xd, xe, xo, xy⟩ = true → inB xf 0 65535 = true ∧ inB xb 0 16 = true ∧ inB xd 0 65535 = true ∧ inB xe 0 16 = true) := fun h => by
  unfold acInB at h
  simp only [Bool.and_eq_true] at h
  exact ⟨h.1.1.1.1.2, h.1.1.2, h.1.1.1.2, h.1.2⟩
 generalize acFault S A ⟨xs, xp, xn, xf, xb, xd, xe, xo, xy⟩ = R at *
 generalize S.any (fun s => s.i == xs) = R1 at *
 generalize acInB ⟨xs, xp, xn, xf, xb, xd, xe, xo, xy⟩ = R0 at *
 obtain ⟨s1, s2, rfl⟩ := hC.1.slice
 obtain ⟨p1, p2, rfl⟩ := hC.2.1.slice
 obtain ⟨a1, a2, rfl⟩ := hC.2.2.slice
 clear hC
 simp only
 go_enter Tryz.func102, Tryz.ntmps102
 go_wp2_with fail
 obtain ⟨W0, hW0⟩ : ∃ W0, W0 = (w.alloc (.cells #[.slice s1 S.length s2, .slice p1 P.length p2, .slice a1 A.length a2] 29)).alloc (.cells #[.int .i64 xs, .int .i64 xp, .bool xn, .int .i64 xf, .int .i64 xb, .int .i64 xd, .int .i64 xe, .int .i64 xo, .bool xy] 65) := ⟨_, rfl⟩
 have hb0 : Below w.heap.size w W0 := by rw [hW0]; exact ((Below.refl _ _).alloc (Nat.le_refl _) _).alloc (by simp) _
 have d0 : W0.cell? ⟨w.heap.size, 0, none⟩ = some (.slice s1 S.length s2) := by rw [hW0]; exact old_cell (new_cell w _ rfl _ _ _ _ rfl) _
 have d1 : W0.cell? ⟨w.heap.size, 1, none⟩ = some (.slice p1 P.length p2) := by rw [hW0]; exact old_cell (new_cell w _ rfl _ _ _ _ rfl) _
 have d2 : W0.cell? ⟨w.heap.size, 2, none⟩ = some (.slice a1 A.length a2) := by rw [hW0]; exact old_cell (new_cell w _ rfl _ _ _ _ rfl) _
 have d3 : W0.cell? ⟨w.heap.size + 1, 0, none⟩ = some (.int .i64 xs) := by rw [hW0]; exact new_cell _ _ (by simp) _ _ _ _ rfl
 have d4 : W0.cell? ⟨w.heap.size + 1, 1, none⟩ = some (.int .i64 xp) := by rw [hW0]; exact new_cell _ _ (by simp) _ _ _ _ rfl
 have d5 : W0.cell? ⟨w.heap.size + 1, 2, none⟩ = some (.bool xn) := by rw [hW0]; exact new_cell _ _ (by simp) _ _ _ _ rfl
 have d6 : W0.cell? ⟨w.heap.size + 1, 3, none⟩ = some (.int .i64 xf) := by rw [hW0]; exact new_cell _ _ (by simp) _ _ _ _ rfl
 have d7 : W0.cell? ⟨w.heap.size + 1, 4, none⟩ = some (.int .i64 xb) := by rw [hW0]; exact new_cell _ _ (by simp) _ _ _ _ rfl
 have d8 : W0.cell? ⟨w.heap.size + 1, 5, none⟩ = some (.int .i64 xd) := by rw [hW0]; exact new_cell _ _ (by simp) _ _ _ _ rfl
 have d9 : W0.cell? ⟨w.heap.size + 1, 6, none⟩ = some (.int .i64 xe) := by rw [hW0]; exact new_cell _ _ (by simp) _ _ _ _ rfl
 have d10 : W0.cell? ⟨w.heap.size + 1, 7, none⟩ = some (.int .i64 xo) := by rw [hW0]; exact new_cell _ _ (by simp) _ _ _ _ rfl
 have d11 : W0.cell? ⟨w.heap.size + 1, 8, none⟩ = some (.bool xy) := by rw [hW0]; exact new_cell _ _ (by simp) _ _ _ _ rfl
 rw [← hW0]
 clear hW0
 refine (unhide HB _).mono ?_
 rintro e W1 ⟨rfl, hB1⟩
 have q0 := cell_beh d0 hB1 (Nat.le_refl _)
 have q1 := cell_beh d1 hB1 (Nat.le_refl _)
 have q2 := cell_beh d2 hB1 (Nat.le_refl _)
 have q3 := cell_beh d3 hB1 (Nat.le_refl _)
 have q4 := cell_beh d4 hB1 (Nat.le_refl _)
 have q5 := cell_beh d5 hB1 (Nat.le_refl _)
 have q6 := cell_beh d6 hB1 (Nat.le_refl _)
 have q7 := cell_beh d7 hB1 (Nat.le_refl _)
 have q8 := cell_beh d8 hB1 (Nat.le_refl _)
 have q9 := cell_beh d9 hB1 (Nat.le_refl _)
 have q10 := cell_beh d10 hB1 (Nat.le_refl _)
 have q11 := cell_beh d11 hB1 (Nat.le_refl _)
 have hb1 := hb0.trans (hB1.mono hb0.size)
 clear HB hB1 hb0 d0 d1 d2 d3 d4 d5 d6 d7 d8 d9 d10 d11
 cases R0
 ·clear HI HQ
  go_wp2_with fail
  go_ret
  exact ⟨int_ret (by rw [HR.out]; simp), hb1⟩
 ·obtain ⟨g1, g2, g3, g4⟩ := HQ.out rfl
  have HH := hide (fun W => inHighest_any xf xb W g1 g2)
  have HJ := hide (fun W => inHighest_any xd xe W g3 g4)
  clear HQ g1 g2 g3 g4
  generalize highB xf xb = B1 at *
  generalize highB xd xe = B2 at *
  go_wp2_with fail
  refine (unhide HH _).mono ?_
  rintro e w' ⟨rfl, rfl⟩
  cases B1
  ·clear HI HJ HH
   go_wp2_with fail
   go_ret
   exact ⟨int_ret (by rw [HR.out]; simp), hb1⟩
  ·go_wp2_with fail
   refine (unhide HJ _).mono ?_
   rintro e w' ⟨rfl, rfl⟩
   cases B2
   ·clear HI HJ HH
    go_wp2_with fail
    go_ret
    exact ⟨int_ret (by rw [HR.out]; simp), hb1⟩
   ·clear HH HJ q4 q5 q6 q7 q8 q9 q10 q11
    rename World => W1
    go_wp2_with fail
    go_region_held3 (fun w' => w'.cell? ⟨w.heap.size, 0, none⟩ = some (.slice s1 S.length s2) ∧ w'.cell? ⟨w.heap.size, 1, none⟩ = some (.slice p1 P.length p2) ∧ w'.cell? ⟨w.heap.size, 2, none⟩ = some (.slice a1 A.length a2) ∧ w'.cell? ⟨w.heap.size + 1, 0, none⟩ = some (.int .i64 xs)) (go_keep)
     (first | (go_at_call 146; refine (withId_any _ _).mono ?_; rintro e w1 ⟨bi, rfl, hbi, hc1⟩; have g1 : Below W1.heap.size W1 w1 := ((Below.refl _ W1).drew).trans hc1; have k1 : Below w.heap.size w w1 := hb1.trans (g1.mono hb1.size); have y0 := cell_beh q0 g1 (Nat.le_refl _); have y1 := cell_beh q1 g1 (Nat.le_refl _); have y2 := cell_beh q2 g1 (Nat.le_refl _); have y3 := cell_beh q3 g1 (Nat.le_refl _)) | (go_at_call 145; refine (unhide HI _ _ k1 hbi).mono ?_; rintro e w2 ⟨rfl, hc2⟩; have g2 : Below W1.heap.size W1 w2 := g1.trans (hc2.mono g1.size); have k2 : Below w.heap.size w w2 := hb1.trans (g2.mono hb1.size); have z0 := cell_beh q0 g2 (Nat.le_refl _); have z1 := cell_beh q1 g2 (Nat.le_refl _); have z2 := cell_beh q2 g2 (Nat.le_refl _); have z3 := cell_beh q3 g2 (Nat.le_refl _)))
    clear HI q0 q1 q2 q3 y0 y1 y2 y3 hb1 hbi hc1 hc2 g1 g2 k1
    cases R1
    ·go_wp2_with fail
     go_ret
     exact ⟨int_ret (by rw [HR.out]; simp), k2⟩
    ·by_cases h40 : 40 ≤ A.length
     ·have h40i : (40 : Int) ≤ (A.length : Int) := by omega
      go_wp2_with fail
      go_ret
      exact ⟨int_ret (by rw [HR.out]; simp [h40]), k2⟩
     ·have h40i : (A.length : Int) < 40 := by omega
      go_wp2_with fail
      go_ret
      exact ⟨int_ret (by rw [HR.out]; simp [h40]), k2⟩
end Go.Proofs.YtncdininppehkaaGreat

namespace Go.Proofs.YtncdininppehkaaGreat
open Go.RowKit
set_option linter.unusedVariables false
set_option maxRecDepth 100000
def swsMay (S : List Sw) : Bool := (List.range S.length).all fun k => swFault (S.take k) [] (S.getD k sw0) == 0
def prsMay (S : List Sw) (P : List Pr) : Bool := (List.range P.length).all fun k => prFault S (P.take k) (P.getD k pr0) == 0
def acsMay (S : List Sw) (A : List Ac) : Bool := (List.range A.length).all fun k => acFault S (A.take k) (A.getD k ac0) == 0
theorem range_yes {n : Nat} {f : Nat → Bool} (h : ∀ j, j < n → f j = true) : (List.range n).all f = true := by
 rw [List.all_eq_true]
 intro x hx
 exact h x (List.mem_range.1 hx)
theorem range_no {n : Nat} {f : Nat → Bool} {k : Nat} (hk : k < n) (h : f k = false) : (List.range n).all f = false := by
 rw [List.all_eq_false]
 exact ⟨k, List.mem_range.2 hk, by simp [h]⟩
theorem ptake_len {α : Type} {l : List α} (k c : Nat) (h : l.length * c ≤ 140737488355328) : (l.take k).length * c ≤ 140737488355328 := Nat.le_trans (Nat.mul_le_mul_right _ (by rw [List.length_take]; exact Nat.min_le_right _ _)) h
set_option maxHeartbeats 4000000 in
theorem switchesMayBe_any (sv pv av : Value) (S : List Sw) (P : List Pr) (A : List Ac) (w : World) (hC : CfAt w sv pv av S P A) (h1 : S.length * 24 ≤ 140737488355328) :
  Calls Tryz.prog 52 #[.agg #[sv, pv, av]] w fun e w' => e = .returned (.bool (swsMay S)) ∧ Below w.heap.size w w' := by
 have HC := hide hC
 have HY : Hid ((∀ j, j < S.length → (swFault (S.take j) [] (S.getD j sw0) == 0) = true) → swsMay S = true) := fun h => range_yes h
 have HNO : Hid (∀ k, k < S.length → (swFault (S.take k) [] (S.getD k sw0) == 0) = false → swsMay S = false) := fun k hk h => range_no hk h
 generalize swsMay S = R at *
 obtain ⟨s1, s2, rfl⟩ := hC.1.slice
 obtain ⟨p1, p2, rfl⟩ := hC.2.1.slice
 obtain ⟨a1, a2, rfl⟩ := hC.2.2.slice
 clear hC
 go_enter Tryz.func52, Tryz.ntmps52
 go_wp2_with fail
 obtain ⟨W0, hW0⟩ : ∃ W0, W0 = w.alloc (.cells #[.slice s1 S.length s2, .slice p1 P.length p2, .slice a1 A.length a2] 29) := ⟨_, rfl⟩
 have hb0 : Below w.heap.size w W0 := by rw [hW0]; exact (Below.refl _ _).alloc (Nat.le_refl _) _
 have d0 : W0.cell? ⟨w.heap.size, 0, none⟩ = some (.slice s1 S.length s2) := by rw [hW0]; exact new_cell w _ rfl _ _ _ _ rfl
 have d1 : W0.cell? ⟨w.heap.size, 1, none⟩ = some (.slice p1 P.length p2) := by rw [hW0]; exact new_cell w _ rfl _ _ _ _ rfl
 have d2 : W0.cell? ⟨w.heap.size, 2, none⟩ = some (.slice a1 A.length a2) := by rw [hW0]; exact new_cell w _ rfl _ _ _ _ rfl
 have hz0 : w.heap.size < W0.heap.size := cell_in d0
 rw [← hW0]
 clear hW0
 go_loopw [8] (fun i wr => ∃ k : Nat, k ≤ S.length ∧ i = .int .i64 k ∧ Hid (∀ j, j < k → (swFault (S.take j) [] (S.getD j sw0) == 0) = true) ∧ Below W0.heap.size W0 wr) (fun i _ => S.length - (intOf i).toNat)
 case atStart => exact ⟨0, by omega, rfl, hide (fun j h => absurd h (by omega)), Below.refl _ _⟩
 case round =>
  obtain ⟨k, hk, rfl, HALL, hbr⟩ := hrel
  have hbw := hb0.trans (hbr.mono hb0.size)
  have q0 := cell_beh d0 hbr (Nat.le_refl _)
  have q1 := cell_beh d1 hbr (Nat.le_refl _)
  have q2 := cell_beh d2 hbr (Nat.le_refl _)
  by_cases hlt : k < S.length
  ·obtain ⟨b, off, cap', e1, hcap, hb, g0, g1, g2⟩ := sw_at (RowAt.below HC.out.1 hbw (Nat.le_refl _)) hlt
   have HK : Hid (∀ W : World, Below w.heap.size w W → Calls Tryz.prog 100 #[.agg #[.slice s1 k s2, .slice none 0 0, .slice none 0 0], .agg #[.int .i64 (S.getD k sw0).i, .int .i64 (S.getD k sw0).t, .int .i64 (S.getD k sw0).g]] W fun e w' => e = .returned (.int .i64 (swFault (S.take k) [] (S.getD k sw0))) ∧ Below W.heap.size W w') := fun W hW => checkSwitch_any _ _ _ (S.take k) [] [] (S.getD k sw0) W ⟨RowAt.take (RowAt.below HC.out.1 hW (Nat.le_refl _)) k hlt, RowAt.nil _ _ _, RowAt.nil _ _ _⟩ (ptake_len k 24 h1) (by simp)
   simp only [Value.slice.injEq, true_and] at e1
   obtain ⟨rfl, rfl⟩ := e1
   have HN1 := hide (HNO.out k hlt)
   have HNX : Hid ((swFault (S.take k) [] (S.getD k sw0) == 0) = true → ∀ j, j < k + 1 → (swFault (S.take j) [] (S.getD j sw0) == 0) = true) := fun h j hj => by
    by_cases e : j = k
    ·subst e; exact h
    ·exact HALL.out j (by omega)
   have HRS := hide hlt
   clear HALL d0 d1 d2
   generalize swFault (S.take k) [] (S.getD k sw0) = G at HK HN1 HNX
   generalize (S.getD k sw0).i = x0 at *
   generalize (S.getD k sw0).t = x1 at *
   generalize (S.getD k sw0).g = x2 at *
   have q3 : (0 : Int) ≤ (k : Int) := by omega
   have q4 : (k : Int) < (S.length : Int) := by omega
   have q5 : (k : Int) ≤ (s2 : Int) := by omega
   go_wp2_with fail
   obtain ⟨W1, hW1⟩ : ∃ W1, W1 = wr.alloc (.cells #[.int .i64 x0, .int .i64 x1, .int .i64 x2] 59) := ⟨_, rfl⟩
   obtain ⟨B, hB⟩ : ∃ B, B = wr.heap.size := ⟨_, rfl⟩
   have hb1 : Below wr.heap.size wr W1 := by rw [hW1]; exact (Below.refl _ _).alloc (Nat.le_refl _) _
   have y0 : W1.cell? ⟨B, 0, none⟩ = some (.int .i64 x0) := by rw [hW1, hB]; exact new_cell wr _ rfl _ _ _ _ rfl
   have y1 : W1.cell? ⟨B, 1, none⟩ = some (.int .i64 x1) := by rw [hW1, hB]; exact new_cell wr _ rfl _ _ _ _ rfl
   have y2 : W1.cell? ⟨B, 2, none⟩ = some (.int .i64 x2) := by rw [hW1, hB]; exact new_cell wr _ rfl _ _ _ _ rfl
   have r0 := cell_beh q0 hb1 (Nat.le_refl _)
   have r1 := cell_beh q1 hb1 (Nat.le_refl _)
   have r2 := cell_beh q2 hb1 (Nat.le_refl _)
   have hk1 : Below w.heap.size w W1 := hbw.trans (hb1.mono hbw.size)
   have hr1 : Below W0.heap.size W0 W1 := hbr.trans (hb1.mono hbr.size)
   rw [← hW1, ← hB]
   clear hW1 hB hb1 q0 q1 q2 hbw hbr g0 g1 g2
   go_region_held3 (fun w' => w'.cell? ⟨w.heap.size, 0, none⟩ = some (.slice (some ⟨b, off, none⟩) S.length s2) ∧ w'.cell? ⟨w.heap.size, 1, none⟩ = some (.slice p1 P.length p2) ∧ w'.cell? ⟨w.heap.size, 2, none⟩ = some (.slice a1 A.length a2) ∧ w'.cell? ⟨B, 0, none⟩ = some (.int .i64 x0) ∧ w'.cell? ⟨B, 1, none⟩ = some (.int .i64 x1) ∧ w'.cell? ⟨B, 2, none⟩ = some (.int .i64 x2)) (go_keep)
    (first | (go_at_call 100; refine (unhide HK _ hk1.drew).mono ?_; rintro e w2 ⟨rfl, hc2⟩; have g2 : Below W1.heap.size W1 w2 := ((Below.refl _ W1).drew).trans hc2; have v0 := cell_beh r0 g2 (Nat.le_refl _); have v1 := cell_beh r1 g2 (Nat.le_refl _); have v2 := cell_beh r2 g2 (Nat.le_refl _); have u0 := cell_beh y0 g2 (Nat.le_refl _); have u1 := cell_beh y1 g2 (Nat.le_refl _); have u2 := cell_beh y2 g2 (Nat.le_refl _)))
   have HB2 : Hid (Below W0.heap.size W0 w2) := hr1.trans (g2.mono hr1.size)
   clear hr1 hk1 g2 hc2 r0 r1 r2 v0 v1 v2 HK y0 u0 y1 u1 y2 u2
   by_cases hG : G = 0
   ·subst hG
    have HN := hide (HNX.out rfl)
    clear HNX HN1
    go_wp2_with fail
    go_roundw
    case rel => exact ⟨k + 1, by omega, by go_num, HN, HB2.out⟩
    case measure => simp [intOf]; omega
   ·have HN := hide (HN1.out (by simpa using hG))
    clear HNX HN1
    go_wp2_with fail
    go_ret
    exact ⟨bool_ret HN.out.symm, hb0.trans (HB2.out.mono hb0.size)⟩
  ·have HN := hide (HY.out fun j hj => HALL.out j (by omega))
   clear HALL q0 q1 q2 d0 d1 d2
   go_wp2_with fail
   go_ret
   exact ⟨bool_ret HN.out.symm, hbw⟩
set_option maxHeartbeats 4000000 in
theorem portsMayBe_any (sv pv av : Value) (S : List Sw) (P : List Pr) (A : List Ac) (w : World) (hC : CfAt w sv pv av S P A) (h1 : S.length * 24 ≤ 140737488355328) (h2 : P.length * 40 ≤ 140737488355328) :
  Calls Tryz.prog 53 #[.agg #[sv, pv, av]] w fun e w' => e = .returned (.bool (prsMay S P)) ∧ Below w.heap.size w w' := by
 have HC := hide hC
 have HY : Hid ((∀ j, j < P.length → (prFault S (P.take j) (P.getD j pr0) == 0) = true) → prsMay S P = true) := fun h => range_yes h
 have HNO : Hid (∀ k, k < P.length → (prFault S (P.take k) (P.getD k pr0) == 0) = false → prsMay S P = false) := fun k hk h => range_no hk h
 generalize prsMay S P = R at *
 obtain ⟨s1, s2, rfl⟩ := hC.1.slice
 obtain ⟨p1, p2, rfl⟩ := hC.2.1.slice
 obtain ⟨a1, a2, rfl⟩ := hC.2.2.slice
 clear hC
 go_enter Tryz.func53, Tryz.ntmps53
 go_wp2_with fail
 obtain ⟨W0, hW0⟩ : ∃ W0, W0 = w.alloc (.cells #[.slice s1 S.length s2, .slice p1 P.length p2, .slice a1 A.length a2] 29) := ⟨_, rfl⟩
 have hb0 : Below w.heap.size w W0 := by rw [hW0]; exact (Below.refl _ _).alloc (Nat.le_refl _) _
 have d0 : W0.cell? ⟨w.heap.size, 0, none⟩ = some (.slice s1 S.length s2) := by rw [hW0]; exact new_cell w _ rfl _ _ _ _ rfl
 have d1 : W0.cell? ⟨w.heap.size, 1, none⟩ = some (.slice p1 P.length p2) := by rw [hW0]; exact new_cell w _ rfl _ _ _ _ rfl
 have d2 : W0.cell? ⟨w.heap.size, 2, none⟩ = some (.slice a1 A.length a2) := by rw [hW0]; exact new_cell w _ rfl _ _ _ _ rfl
 have hz0 : w.heap.size < W0.heap.size := cell_in d0
 rw [← hW0]
 clear hW0
 go_loopw [8] (fun i wr => ∃ k : Nat, k ≤ P.length ∧ i = .int .i64 k ∧ Hid (∀ j, j < k → (prFault S (P.take j) (P.getD j pr0) == 0) = true) ∧ Below W0.heap.size W0 wr) (fun i _ => P.length - (intOf i).toNat)
 case atStart => exact ⟨0, by omega, rfl, hide (fun j h => absurd h (by omega)), Below.refl _ _⟩
 case round =>
  obtain ⟨k, hk, rfl, HALL, hbr⟩ := hrel
  have hbw := hb0.trans (hbr.mono hb0.size)
  have q0 := cell_beh d0 hbr (Nat.le_refl _)
  have q1 := cell_beh d1 hbr (Nat.le_refl _)
  have q2 := cell_beh d2 hbr (Nat.le_refl _)
  by_cases hlt : k < P.length
  ·obtain ⟨b, off, cap', e1, hcap, hb, g0, g1, g2, g3, g4⟩ := pr_at (RowAt.below HC.out.2.1 hbw (Nat.le_refl _)) hlt
   have HK : Hid (∀ W : World, Below w.heap.size w W → Calls Tryz.prog 101 #[.agg #[.slice s1 S.length s2, .slice p1 k p2, .slice none 0 0], .agg #[.int .i64 (P.getD k pr0).i, .int .i64 (P.getD k pr0).s, .int .i64 (P.getD k pr0).m, .int .i64 (P.getD k pr0).p, .int .i64 (P.getD k pr0).c]] W fun e w' => e = .returned (.int .i64 (prFault S (P.take k) (P.getD k pr0))) ∧ Below W.heap.size W w') := fun W hW => checkPort_any _ _ _ S (P.take k) [] (P.getD k pr0) W ⟨RowAt.below HC.out.1 hW (Nat.le_refl _), RowAt.take (RowAt.below HC.out.2.1 hW (Nat.le_refl _)) k hlt, RowAt.nil _ _ _⟩ h1 (ptake_len k 40 h2)
   simp only [Value.slice.injEq, true_and] at e1
   obtain ⟨rfl, rfl⟩ := e1
   have HN1 := hide (HNO.out k hlt)
   have HNX : Hid ((prFault S (P.take k) (P.getD k pr0) == 0) = true → ∀ j, j < k + 1 → (prFault S (P.take j) (P.getD j pr0) == 0) = true) := fun h j hj => by
    by_cases e : j = k
    ·subst e; exact h
    ·exact HALL.out j (by omega)
   have HRS := hide hlt
   clear HALL d0 d1 d2
   generalize prFault S (P.take k) (P.getD k pr0) = G at HK HN1 HNX
   generalize (P.getD k pr0).i = x0 at *
   generalize (P.getD k pr0).s = x1 at *
   generalize (P.getD k pr0).m = x2 at *
   generalize (P.getD k pr0).p = x3 at *
   generalize (P.getD k pr0).c = x4 at *
   have q3 : (0 : Int) ≤ (k : Int) := by omega
   have q4 : (k : Int) < (P.length : Int) := by omega
   have q5 : (k : Int) ≤ (p2 : Int) := by omega
   go_wp2_with fail
   obtain ⟨W1, hW1⟩ : ∃ W1, W1 = wr.alloc (.cells #[.int .i64 x0, .int .i64 x1, .int .i64 x2, .int .i64 x3, .int .i64 x4] 71) := ⟨_, rfl⟩
   obtain ⟨B, hB⟩ : ∃ B, B = wr.heap.size := ⟨_, rfl⟩
   have hb1 : Below wr.heap.size wr W1 := by rw [hW1]; exact (Below.refl _ _).alloc (Nat.le_refl _) _
   have y0 : W1.cell? ⟨B, 0, none⟩ = some (.int .i64 x0) := by rw [hW1, hB]; exact new_cell wr _ rfl _ _ _ _ rfl
   have y1 : W1.cell? ⟨B, 1, none⟩ = some (.int .i64 x1) := by rw [hW1, hB]; exact new_cell wr _ rfl _ _ _ _ rfl
   have y2 : W1.cell? ⟨B, 2, none⟩ = some (.int .i64 x2) := by rw [hW1, hB]; exact new_cell wr _ rfl _ _ _ _ rfl
   have y3 : W1.cell? ⟨B, 3, none⟩ = some (.int .i64 x3) := by rw [hW1, hB]; exact new_cell wr _ rfl _ _ _ _ rfl
   have y4 : W1.cell? ⟨B, 4, none⟩ = some (.int .i64 x4) := by rw [hW1, hB]; exact new_cell wr _ rfl _ _ _ _ rfl
   have r0 := cell_beh q0 hb1 (Nat.le_refl _)
   have r1 := cell_beh q1 hb1 (Nat.le_refl _)
   have r2 := cell_beh q2 hb1 (Nat.le_refl _)
   have hk1 : Below w.heap.size w W1 := hbw.trans (hb1.mono hbw.size)
   have hr1 : Below W0.heap.size W0 W1 := hbr.trans (hb1.mono hbr.size)
   rw [← hW1, ← hB]
   clear hW1 hB hb1 q0 q1 q2 hbw hbr g0 g1 g2 g3 g4
   go_region_held3 (fun w' => w'.cell? ⟨w.heap.size, 0, none⟩ = some (.slice s1 S.length s2) ∧ w'.cell? ⟨w.heap.size, 1, none⟩ = some (.slice (some ⟨b, off, none⟩) P.length p2) ∧ w'.cell? ⟨w.heap.size, 2, none⟩ = some (.slice a1 A.length a2) ∧ w'.cell? ⟨B, 0, none⟩ = some (.int .i64 x0) ∧ w'.cell? ⟨B, 1, none⟩ = some (.int .i64 x1) ∧ w'.cell? ⟨B, 2, none⟩ = some (.int .i64 x2) ∧ w'.cell? ⟨B, 3, none⟩ = some (.int .i64 x3) ∧ w'.cell? ⟨B, 4, none⟩ = some (.int .i64 x4)) (go_keep)
    (first | (go_at_call 101; refine (unhide HK _ hk1.drew).mono ?_; rintro e w2 ⟨rfl, hc2⟩; have g2 : Below W1.heap.size W1 w2 := ((Below.refl _ W1).drew).trans hc2; have v0 := cell_beh r0 g2 (Nat.le_refl _); have v1 := cell_beh r1 g2 (Nat.le_refl _); have v2 := cell_beh r2 g2 (Nat.le_refl _); have u0 := cell_beh y0 g2 (Nat.le_refl _); have u1 := cell_beh y1 g2 (Nat.le_refl _); have u2 := cell_beh y2 g2 (Nat.le_refl _); have u3 := cell_beh y3 g2 (Nat.le_refl _); have u4 := cell_beh y4 g2 (Nat.le_refl _)))
   have HB2 : Hid (Below W0.heap.size W0 w2) := hr1.trans (g2.mono hr1.size)
   clear hr1 hk1 g2 hc2 r0 r1 r2 v0 v1 v2 HK y0 u0 y1 u1 y2 u2 y3 u3 y4 u4
   by_cases hG : G = 0
   ·subst hG
    have HN := hide (HNX.out rfl)
    clear HNX HN1
    go_wp2_with fail
    go_roundw
    case rel => exact ⟨k + 1, by omega, by go_num, HN, HB2.out⟩
    case measure => simp [intOf]; omega
   ·have HN := hide (HN1.out (by simpa using hG))
    clear HNX HN1
    go_wp2_with fail
    go_ret
    exact ⟨bool_ret HN.out.symm, hb0.trans (HB2.out.mono hb0.size)⟩
  ·have HN := hide (HY.out fun j hj => HALL.out j (by omega))
   clear HALL q0 q1 q2 d0 d1 d2
   go_wp2_with fail
   go_ret
   exact ⟨bool_ret HN.out.symm, hbw⟩
set_option maxHeartbeats 4000000 in
theorem aclsMayBe_any (sv pv av : Value) (S : List Sw) (P : List Pr) (A : List Ac) (w : World) (hC : CfAt w sv pv av S P A) (h1 : S.length * 24 ≤ 140737488355328) (h3 : A.length * 72 ≤ 140737488355328) :
  Calls Tryz.prog 54 #[.agg #[sv, pv, av]] w fun e w' => e = .returned (.bool (acsMay S A)) ∧ Below w.heap.size w w' := by
 have HC := hide hC
 have HY : Hid ((∀ j, j < A.length → (acFault S (A.take j) (A.getD j ac0) == 0) = true) → acsMay S A = true) := fun h => range_yes h
 have HNO : Hid (∀ k, k < A.length → (acFault S (A.take k) (A.getD k ac0) == 0) = false → acsMay S A = false) := fun k hk h => range_no hk h
 generalize acsMay S A = R at *
 obtain ⟨s1, s2, rfl⟩ := hC.1.slice
 obtain ⟨p1, p2, rfl⟩ := hC.2.1.slice
 obtain ⟨a1, a2, rfl⟩ := hC.2.2.slice
 clear hC
 go_enter Tryz.func54, Tryz.ntmps54
 go_wp2_with fail
 obtain ⟨W0, hW0⟩ : ∃ W0, W0 = w.alloc (.cells #[.slice s1 S.length s2, .slice p1 P.length p2, .slice a1 A.length a2] 29) := ⟨_, rfl⟩
 have hb0 : Below w.heap.size w W0 := by rw [hW0]; exact (Below.refl _ _).alloc (Nat.le_refl _) _
 have d0 : W0.cell? ⟨w.heap.size, 0, none⟩ = some (.slice s1 S.length s2) := by rw [hW0]; exact new_cell w _ rfl _ _ _ _ rfl
 have d1 : W0.cell? ⟨w.heap.size, 1, none⟩ = some (.slice p1 P.length p2) := by rw [hW0]; exact new_cell w _ rfl _ _ _ _ rfl
 have d2 : W0.cell? ⟨w.heap.size, 2, none⟩ = some (.slice a1 A.length a2) := by rw [hW0]; exact new_cell w _ rfl _ _ _ _ rfl
 have hz0 : w.heap.size < W0.heap.size := cell_in d0
 rw [← hW0]
 clear hW0
 go_loopw [8] (fun i wr => ∃ k : Nat, k ≤ A.length ∧ i = .int .i64 k ∧ Hid (∀ j, j < k → (acFault S (A.take j) (A.getD j ac0) == 0) = true) ∧ Below W0.heap.size W0 wr) (fun i _ => A.length - (intOf i).toNat)
 case atStart => exact ⟨0, by omega, rfl, hide (fun j h => absurd h (by omega)), Below.refl _ _⟩
 case round =>
  obtain ⟨k, hk, rfl, HALL, hbr⟩ := hrel
  have hbw := hb0.trans (hbr.mono hb0.size)
  have q0 := cell_beh d0 hbr (Nat.le_refl _)
  have q1 := cell_beh d1 hbr (Nat.le_refl _)
  have q2 := cell_beh d2 hbr (Nat.le_refl _)
  by_cases hlt : k < A.length
  ·obtain ⟨b, off, cap', e1, hcap, hb, g0, g1, g2, g3, g4, g5, g6, g7, g8⟩ := ac_at (RowAt.below HC.out.2.2 hbw (Nat.le_refl _)) hlt
   have HK : Hid (∀ W : World, Below w.heap.size w W → Calls Tryz.prog 102 #[.agg #[.slice s1 S.length s2, .slice p1 P.length p2, .slice a1 k a2], .agg #[.int .i64 (A.getD k ac0).s, .int .i64 (A.getD k ac0).p, .bool (A.getD k ac0).n, .int .i64 (A.getD k ac0).src, .int .i64 (A.getD k ac0).sb, .int .i64 (A.getD k ac0).dst, .int .i64 (A.getD k ac0).db, .int .i64 (A.getD k ac0).o, .bool (A.getD k ac0).d]] W fun e w' => e = .returned (.int .i64 (acFault S (A.take k) (A.getD k ac0))) ∧ Below W.heap.size W w') := fun W hW => checkAcl_any _ _ _ S P (A.take k) (A.getD k ac0) W ⟨RowAt.below HC.out.1 hW (Nat.le_refl _), RowAt.below HC.out.2.1 hW (Nat.le_refl _), RowAt.take (RowAt.below HC.out.2.2 hW (Nat.le_refl _)) k hlt⟩ h1
   simp only [Value.slice.injEq, true_and] at e1
   obtain ⟨rfl, rfl⟩ := e1
   have HN1 := hide (HNO.out k hlt)
   have HNX : Hid ((acFault S (A.take k) (A.getD k ac0) == 0) = true → ∀ j, j < k + 1 → (acFault S (A.take j) (A.getD j ac0) == 0) = true) := fun h j hj => by
    by_cases e : j = k
    ·subst e; exact h
    ·exact HALL.out j (by omega)
   have HRS := hide hlt
   clear HALL d0 d1 d2
   generalize acFault S (A.take k) (A.getD k ac0) = G at HK HN1 HNX
   generalize (A.getD k ac0).s = x0 at *
   generalize (A.getD k ac0).p = x1 at *
   generalize (A.getD k ac0).n = x2 at *
   generalize (A.getD k ac0).src = x3 at *
   generalize (A.getD k ac0).sb = x4 at *
   generalize (A.getD k ac0).dst = x5 at *
   generalize (A.getD k ac0).db = x6 at *
   generalize (A.getD k ac0).o = x7 at *
   generalize (A.getD k ac0).d = x8 at *
   have q3 : (0 : Int) ≤ (k : Int) := by omega
   have q4 : (k : Int) < (A.length : Int) := by omega
   have q5 : (k : Int) ≤ (a2 : Int) := by omega
   go_wp2_with fail
   obtain ⟨W1, hW1⟩ : ∃ W1, W1 = wr.alloc (.cells #[.int .i64 x0, .int .i64 x1, .bool x2, .int .i64 x3, .int .i64 x4, .int .i64 x5, .int .i64 x6, .int .i64 x7, .bool x8] 65) := ⟨_, rfl⟩
   obtain ⟨B, hB⟩ : ∃ B, B = wr.heap.size := ⟨_, rfl⟩
   have hb1 : Below wr.heap.size wr W1 := by rw [hW1]; exact (Below.refl _ _).alloc (Nat.le_refl _) _
   have y0 : W1.cell? ⟨B, 0, none⟩ = some (.int .i64 x0) := by rw [hW1, hB]; exact new_cell wr _ rfl _ _ _ _ rfl
   have y1 : W1.cell? ⟨B, 1, none⟩ = some (.int .i64 x1) := by rw [hW1, hB]; exact new_cell wr _ rfl _ _ _ _ rfl
   have y2 : W1.cell? ⟨B, 2, none⟩ = some (.bool x2) := by rw [hW1, hB]; exact new_cell wr _ rfl _ _ _ _ rfl
   have y3 : W1.cell? ⟨B, 3, none⟩ = some (.int .i64 x3) := by rw [hW1, hB]; exact new_cell wr _ rfl _ _ _ _ rfl
   have y4 : W1.cell? ⟨B, 4, none⟩ = some (.int .i64 x4) := by rw [hW1, hB]; exact new_cell wr _ rfl _ _ _ _ rfl
   have y5 : W1.cell? ⟨B, 5, none⟩ = some (.int .i64 x5) := by rw [hW1, hB]; exact new_cell wr _ rfl _ _ _ _ rfl
   have y6 : W1.cell? ⟨B, 6, none⟩ = some (.int .i64 x6) := by rw [hW1, hB]; exact new_cell wr _ rfl _ _ _ _ rfl
   have y7 : W1.cell? ⟨B, 7, none⟩ = some (.int .i64 x7) := by rw [hW1, hB]; exact new_cell wr _ rfl _ _ _ _ rfl
   have y8 : W1.cell? ⟨B, 8, none⟩ = some (.bool x8) := by rw [hW1, hB]; exact new_cell wr _ rfl _ _ _ _ rfl
   have r0 := cell_beh q0 hb1 (Nat.le_refl _)
   have r1 := cell_beh q1 hb1 (Nat.le_refl _)
   have r2 := cell_beh q2 hb1 (Nat.le_refl _)
   have hk1 : Below w.heap.size w W1 := hbw.trans (hb1.mono hbw.size)
   have hr1 : Below W0.heap.size W0 W1 := hbr.trans (hb1.mono hbr.size)
   rw [← hW1, ← hB]
   clear hW1 hB hb1 q0 q1 q2 hbw hbr g0 g1 g2 g3 g4 g5 g6 g7 g8
   go_region_held3 (fun w' => w'.cell? ⟨w.heap.size, 0, none⟩ = some (.slice s1 S.length s2) ∧ w'.cell? ⟨w.heap.size, 1, none⟩ = some (.slice p1 P.length p2) ∧ w'.cell? ⟨w.heap.size, 2, none⟩ = some (.slice (some ⟨b, off, none⟩) A.length a2) ∧ w'.cell? ⟨B, 0, none⟩ = some (.int .i64 x0) ∧ w'.cell? ⟨B, 1, none⟩ = some (.int .i64 x1) ∧ w'.cell? ⟨B, 2, none⟩ = some (.bool x2) ∧ w'.cell? ⟨B, 3, none⟩ = some (.int .i64 x3) ∧ w'.cell? ⟨B, 4, none⟩ = some (.int .i64 x4) ∧ w'.cell? ⟨B, 5, none⟩ = some (.int .i64 x5) ∧ w'.cell? ⟨B, 6, none⟩ = some (.int .i64 x6) ∧ w'.cell? ⟨B, 7, none⟩ = some (.int .i64 x7) ∧ w'.cell? ⟨B, 8, none⟩ = some (.bool x8)) (go_keep)
    (first | (go_at_call 102; refine (unhide HK _ hk1.drew).mono ?_; rintro e w2 ⟨rfl, hc2⟩; have g2 : Below W1.heap.size W1 w2 := ((Below.refl _ W1).drew).trans hc2; have v0 := cell_beh r0 g2 (Nat.le_refl _); have v1 := cell_beh r1 g2 (Nat.le_refl _); have v2 := cell_beh r2 g2 (Nat.le_refl _); have u0 := cell_beh y0 g2 (Nat.le_refl _); have u1 := cell_beh y1 g2 (Nat.le_refl _); have u2 := cell_beh y2 g2 (Nat.le_refl _); have u3 := cell_beh y3 g2 (Nat.le_refl _); have u4 := cell_beh y4 g2 (Nat.le_refl _); have u5 := cell_beh y5 g2 (Nat.le_refl _); have u6 := cell_beh y6 g2 (Nat.le_refl _); have u7 := cell_beh y7 g2 (Nat.le_refl _); have u8 := cell_beh y8 g2 (Nat.le_refl _)))
   have HB2 : Hid (Below W0.heap.size W0 w2) := hr1.trans (g2.mono hr1.size)
   clear hr1 hk1 g2 hc2 r0 r1 r2 v0 v1 v2 HK y0 u0 y1 u1 y2 u2 y3 u3 y4 u4 y5 u5 y6 u6 y7 u7 y8 u8
   by_cases hG : G = 0
   ·subst hG
    have HN := hide (HNX.out rfl)
    clear HNX HN1
    go_wp2_with fail
    go_roundw
    case rel => exact ⟨k + 1, by omega, by go_num, HN, HB2.out⟩
    case measure => simp [intOf]; omega
   ·have HN := hide (HN1.out (by simpa using hG))
    clear HNX HN1
    go_wp2_with fail
    go_ret
    exact ⟨bool_ret HN.out.symm, hb0.trans (HB2.out.mono hb0.size)⟩
  ·have HN := hide (HY.out fun j hj => HALL.out j (by omega))
   clear HALL q0 q1 q2 d0 d1 d2
   go_wp2_with fail
   go_ret
   exact ⟨bool_ret HN.out.symm, hbw⟩
def may (S : List Sw) (P : List Pr) (A : List Ac) : Bool := swsMay S && prsMay S P && acsMay S A
set_option maxHeartbeats 4000000 in
theorem confCheck_any (sv pv av : Value) (S : List Sw) (P : List Pr) (A : List Ac) (w : World) (hC : CfAt w sv pv av S P A) (h1 : S.length * 24 ≤ 140737488355328) (h2 : P.length * 40 ≤ 140737488355328) (h3 : A.length * 72 ≤ 140737488355328) :
  Calls Tryz.prog 24 #[.agg #[sv, pv, av]] w fun e w' => e = .returned (.int .i64 (if may S P A = true then 0 else 8)) ∧ Below w.heap.size w w' := by
 have H1 : Hid (∀ W : World, Below w.heap.size w W → Calls Tryz.prog 52 #[.agg #[sv, pv, av]] W fun e w' => e = .returned (.bool (swsMay S)) ∧ Below W.heap.size W w') := fun W hW => switchesMayBe_any sv pv av S P A W (hC.below hW (Nat.le_refl _)) h1
 have H2 : Hid (∀ W : World, Below w.heap.size w W → Calls Tryz.prog 53 #[.agg #[sv, pv, av]] W fun e w' => e = .returned (.bool (prsMay S P)) ∧ Below W.heap.size W w') := fun W hW => portsMayBe_any sv pv av S P A W (hC.below hW (Nat.le_refl _)) h1 h2
 have H3 : Hid (∀ W : World, Below w.heap.size w W → Calls Tryz.prog 54 #[.agg #[sv, pv, av]] W fun e w' => e = .returned (.bool (acsMay S A)) ∧ Below W.heap.size W w') := fun W hW => aclsMayBe_any sv pv av S P A W (hC.below hW (Nat.le_refl _)) h1 h3
 have HR : Hid ((if may S P A = true then (0 : Int) else 8) = if (swsMay S && prsMay S P && acsMay S A) = true then 0 else 8) := rfl
 generalize (if may S P A = true then (0 : Int) else 8) = R at *
 generalize swsMay S = R1 at *
 generalize prsMay S P = R2 at *
 generalize acsMay S A = R3 at *
 obtain ⟨s1, s2, rfl⟩ := hC.1.slice
 obtain ⟨p1, p2, rfl⟩ := hC.2.1.slice
 obtain ⟨a1, a2, rfl⟩ := hC.2.2.slice
 clear hC
 go_enter Tryz.func24, Tryz.ntmps24
 go_wp2_with fail
 obtain ⟨W0, hW0⟩ : ∃ W0, W0 = w.alloc (.cells #[.slice s1 S.length s2, .slice p1 P.length p2, .slice a1 A.length a2] 29) := ⟨_, rfl⟩
 have hb0 : Below w.heap.size w W0 := by rw [hW0]; exact (Below.refl _ _).alloc (Nat.le_refl _) _
 have d0 : W0.cell? ⟨w.heap.size, 0, none⟩ = some (.slice s1 S.length s2) := by rw [hW0]; exact new_cell w _ rfl _ _ _ _ rfl
 have d1 : W0.cell? ⟨w.heap.size, 1, none⟩ = some (.slice p1 P.length p2) := by rw [hW0]; exact new_cell w _ rfl _ _ _ _ rfl
 have d2 : W0.cell? ⟨w.heap.size, 2, none⟩ = some (.slice a1 A.length a2) := by rw [hW0]; exact new_cell w _ rfl _ _ _ _ rfl
 rw [← hW0]
 clear hW0
 refine (unhide H1 _ hb0).mono ?_
 rintro e w1 ⟨rfl, hc1⟩
 have k1 := hb0.trans (hc1.mono hb0.size)
 have q0 := cell_beh d0 hc1 (Nat.le_refl _)
 have q1 := cell_beh d1 hc1 (Nat.le_refl _)
 have q2 := cell_beh d2 hc1 (Nat.le_refl _)
 clear d0 d1 d2 hb0 hc1 H1
 cases R1
 ·clear H2 H3
  go_wp2_with fail
  go_ret
  exact ⟨int_ret (by rw [HR.out]; simp), k1⟩
 ·go_wp2_with fail
  refine (unhide H2 _ k1).mono ?_
  rintro e w2 ⟨rfl, hc2⟩
  have k2 := k1.trans (hc2.mono k1.size)
  have d0 := cell_beh q0 hc2 (Nat.le_refl _)
  have d1 := cell_beh q1 hc2 (Nat.le_refl _)
  have d2 := cell_beh q2 hc2 (Nat.le_refl _)
  clear q0 q1 q2 k1 hc2 H2
  cases R2
  ·clear H3
   go_wp2_with fail
   go_ret
   exact ⟨int_ret (by rw [HR.out]; simp), k2⟩
  ·go_wp2_with fail
   refine (unhide H3 _ k2).mono ?_
   rintro e w3 ⟨rfl, hc3⟩
   have k3 := k2.trans (hc3.mono k2.size)
   clear d0 d1 d2 k2 hc3 H3
   cases R3
   ·go_wp2_with fail
    go_ret
    exact ⟨int_ret (by rw [HR.out]; simp), k3⟩
   ·go_wp2_with fail
    go_ret
    exact ⟨int_ret (by rw [HR.out]; simp), k3⟩
end Go.Proofs.YtncdininppehkaaGreat

namespace Go.Proofs.YtncdininppehkaaGreat
open Go.RowKit
set_option linter.unusedVariables false
set_option maxRecDepth 100000
theorem pr_small {S : List Sw} {P : List Pr} {x : Pr} (h : prFault S P x = 0) : P.length < 40 := by
 unfold prFault at h
 split at h
 ·omega
 ·split at h
  ·omega
  ·split at h
   ·omega
   ·split at h
    ·omega
    ·split at h
     ·omega
     ·omega
theorem ac_small {S : List Sw} {A : List Ac} {x : Ac} (h : acFault S A x = 0) : A.length < 40 := by
 unfold acFault at h
 split at h
 ·omega
 ·split at h
  ·omega
  ·split at h
   ·omega
   ·split at h
    ·omega
    ·omega
theorem sw_small {S : List Sw} {P : List Pr} {x : Sw} (h : swFault S P x = 0) : S.length < 12 := by
 unfold swFault at h
 split at h
 ·omega
 ·split at h
  ·omega
  ·split at h
   ·omega
   ·omega
theorem may_parts {S : List Sw} {P : List Pr} {A : List Ac} (h : may S P A = true) : swsMay S = true ∧ prsMay S P = true ∧ acsMay S A = true := by
 unfold may at h
 simp only [Bool.and_eq_true] at h
 exact ⟨h.1.1, h.1.2, h.2⟩
theorem may_len {S : List Sw} {P : List Pr} {A : List Ac} (h : may S P A = true) : S.length ≤ 12 ∧ P.length ≤ 40 ∧ A.length ≤ 40 := by
 obtain ⟨h1, h2, h3⟩ := may_parts h
 refine ⟨?_, ?_, ?_⟩
 ·rcases Nat.lt_or_ge 12 S.length with h' | h'
  ·unfold swsMay at h1
   rw [List.all_eq_true] at h1
   have := h1 12 (List.mem_range.2 h')
   have := sw_small (by simpa using this)
   rw [List.length_take] at this
   omega
  ·exact h'
 ·rcases Nat.lt_or_ge 40 P.length with h' | h'
  ·unfold prsMay at h2
   rw [List.all_eq_true] at h2
   have := h2 40 (List.mem_range.2 h')
   have := pr_small (by simpa using this)
   rw [List.length_take] at this
   omega
  ·exact h'
 ·rcases Nat.lt_or_ge 40 A.length with h' | h'
  ·unfold acsMay at h3
   rw [List.all_eq_true] at h3
   have := h3 40 (List.mem_range.2 h')
   have := ac_small (by simpa using this)
   rw [List.length_take] at this
   omega
  ·exact h'
theorem prFault_zero {S : List Sw} {P : List Pr} {x : Pr} (h : prFault S P x = 0) : P.any (fun y => y.i == x.i || y.s == x.s && y.m == x.m) = false := by
 unfold prFault at h
 by_cases h1 : P.any (fun y => y.i == x.i || y.s == x.s && y.m == x.m) = true
 ·rw [if_pos h1] at h
  split at h
  ·omega
  ·split at h <;> omega
 ·exact Bool.not_eq_true _ |>.mp h1
theorem prs_at {S : List Sw} {P : List Pr} (h : prsMay S P = true) {k : Nat} (hk : k < P.length) : prFault S (P.take k) (P.getD k pr0) = 0 := by
 unfold prsMay at h
 rw [List.all_eq_true] at h
 simpa using h k (List.mem_range.2 hk)
theorem prs_lt {S : List Sw} {P : List Pr} (h : prsMay S P = true) {j k : Nat} (hk : k < P.length) (hj : j < k) : (P[j]'(by omega)).i ≠ P[k].i := by
 have h1 := prFault_zero (prs_at h hk)
 rw [List.any_eq_false] at h1
 have hm : P[j]'(by omega) ∈ P.take k := by
  rw [List.mem_take_iff_getElem]
  exact ⟨j, by omega, rfl⟩
 have := h1 _ hm
 simp only [List.getD, List.getElem?_eq_getElem hk, Option.getD_some, Bool.or_eq_true, not_or] at this
 simpa using this.1
theorem prs_pair {S : List Sw} {P : List Pr} (h : prsMay S P = true) : P.Pairwise (fun a b => a.i ≠ b.i) := by
 rw [List.pairwise_iff_getElem]
 exact fun j k _ hk hj => prs_lt h hk hj
theorem swFault_nil {S : List Sw} {P : List Pr} {x : Sw} (h : swFault S P x = 0) :
  (inB x.i 1 500 = true ∧ inB x.t 1 9 = true ∧ inB x.g 0 65535 = true) ∧ (S.any (fun s => s.i == x.i) = false ∧ (x.g != 0 && takenB S P x.t x.g) = false) ∧ S.length < 12 := by
 unfold swFault at h
 by_cases h0 : (inB x.i 1 500 && inB x.t 1 9 && inB x.g 0 65535) = false
 ·rw [if_pos h0] at h; omega
 ·rw [if_neg h0] at h
  by_cases h1 : (S.any (fun s => s.i == x.i) || (x.g != 0 && takenB S P x.t x.g)) = true
  ·rw [if_pos h1] at h; omega
  ·rw [if_neg h1] at h
   by_cases h2 : 12 ≤ S.length
   ·rw [if_pos h2] at h; omega
   ·have h0' := Bool.not_eq_false _ |>.mp h0
    have h1' := Bool.not_eq_true _ |>.mp h1
    simp only [Bool.and_eq_true] at h0'
    rw [Bool.or_eq_false_iff] at h1'
    exact ⟨⟨h0'.1.1, h0'.1.2, h0'.2⟩, h1', by omega⟩
theorem range_form {α : Type} (f : List α → α → Int) (d : α) (l : List α) : (List.range l.length).all (fun k => f (l.take k) (l.getD k d) == 0) = true ↔ ∀ L x R, l = L ++ x :: R → f L x = 0 := by
 rw [List.all_eq_true]
 constructor
 ·rintro h L x R rfl
  have := h L.length (List.mem_range.2 (by simp))
  simpa using this
 ·intro h k hk
  rw [List.mem_range] at hk
  have e : l = l.take k ++ l[k] :: l.drop (k + 1) := by
   conv => lhs; rw [← List.take_append_drop k l]
   rw [List.drop_eq_getElem_cons hk]
  have h1 := h _ _ _ e
  have hg : l.getD k d = l[k] := by simp [List.getD, List.getElem?_eq_getElem hk]
  rw [hg, h1]
  rfl
theorem sws_form (S : List Sw) : swsMay S = true ↔ ∀ L x R, S = L ++ x :: R → swFault L [] x = 0 := range_form (fun L x => swFault L [] x) sw0 S
theorem prs_form (S : List Sw) (P : List Pr) : prsMay S P = true ↔ ∀ L x R, P = L ++ x :: R → prFault S L x = 0 := range_form (fun L x => prFault S L x) pr0 P
theorem acs_form (S : List Sw) (A : List Ac) : acsMay S A = true ↔ ∀ L x R, A = L ++ x :: R → acFault S L x = 0 := range_form (fun L x => acFault S L x) ac0 A
theorem prefix_snoc {α : Type} {l L R : List α} {y x : α} (h : l ++ [y] = L ++ x :: R) : (L = l ∧ x = y) ∨ ∃ R', l = L ++ x :: R' := by
 rw [List.append_eq_append_iff] at h
 rcases h with ⟨a, h1, h2⟩ | ⟨a, h1, h2⟩
 ·cases a with
  | nil =>
   simp at h1 h2
   exact .inl ⟨h1, h2.1.symm⟩
  | cons b c =>
   simp at h2
 ·cases a with
  | nil =>
   simp at h1 h2
   exact .inl ⟨h1.symm, h2.1⟩
  | cons b c =>
   simp at h2
   obtain ⟨rfl, rfl⟩ := h2
   exact .inr ⟨c, h1⟩
def tn (S : List Sw) (id : Int) : Int := (S.getD (idx (fun s => s.i == id) S).toNat sw0).t
theorem pr_iff (S : List Sw) (P : List Pr) (x : Pr) : prFault S P x = 0 ↔ prInB x = true ∧ 0 ≤ idx (fun s => s.i == x.s) S ∧ P.any (fun y => y.i == x.i || y.s == x.s && y.m == x.m) = false ∧ takenB S P (tn S x.s) x.p = false ∧ P.length < 40 := by
 unfold prFault
 show (if prInB x = false then (2 : Int) else if idx (fun s => s.i == x.s) S < 0 then 6 else if P.any (fun y => y.i == x.i || y.s == x.s && y.m == x.m) = true then 7 else if takenB S P (tn S x.s) x.p = true then 7 else if 40 ≤ P.length then 1 else 0) = 0 ↔ _
 generalize idx (fun s : Sw => s.i == x.s) S = I
 generalize takenB S P (tn S x.s) x.p = B
 generalize P.any (fun y => y.i == x.i || y.s == x.s && y.m == x.m) = C
 generalize prInB x = D
 cases D <;> cases C <;> cases B <;> simp <;> (repeat' split) <;> omega
theorem prs_mem {S : List Sw} {P : List Pr} (h : prsMay S P = true) {x : Pr} (hx : x ∈ P) : prInB x = true ∧ 0 ≤ idx (fun s => s.i == x.s) S := by
 obtain ⟨L, R, rfl⟩ := List.append_of_mem hx
 have := (pr_iff _ _ _).1 ((prs_form S _).1 h L x R rfl)
 exact ⟨this.1, this.2.1⟩
theorem ac_iff (S : List Sw) (A : List Ac) (x : Ac) : acFault S A x = 0 ↔ acInB x = true ∧ (highB x.src x.sb && highB x.dst x.db) = true ∧ S.any (fun s => s.i == x.s) = true ∧ A.length < 40 := by
 unfold acFault
 generalize acInB x = B
 generalize (highB x.src x.sb && highB x.dst x.db) = C
 generalize S.any (fun s => s.i == x.s) = D
 cases B <;> cases C <;> cases D <;> simp <;> omega
end Go.Proofs.YtncdininppehkaaGreat

namespace Go.Proofs.YtncdininppehkaaGreat
open Go.RowKit
set_option linter.unusedVariables false
set_option maxRecDepth 100000
theorem last_form {α : Type} {l : List α} (h : l ≠ []) : l = l.dropLast ++ l.getLast h :: [] := (List.dropLast_concat_getLast h).symm
theorem sw_zero {S : List Sw} {P : List Pr} {x : Sw} (h : swFault S P x = 0) : (1 ≤ x.i ∧ x.i ≤ 500) ∧ (1 ≤ x.t ∧ x.t ≤ 9) ∧ (0 ≤ x.g ∧ x.g ≤ 65535) ∧ S.any (fun y => y.i == x.i) = false ∧ S.length < 12 := by
 unfold swFault at h
 split at h
 ·omega
 ·rename_i h1
  split at h
  ·omega
  ·rename_i h2
   split at h
   ·omega
   ·rename_i h3
    simp [inB] at h1 h2
    refine ⟨by omega, by omega, by omega, ?_, by omega⟩
    rw [List.any_eq_false]
    intro y hy
    simpa using h2.1 y hy
theorem sw_all {S : List Sw} (h : swsMay S = true) : S.length ≤ 12 ∧ ∀ x ∈ S, (1 ≤ x.i ∧ x.i ≤ 500) ∧ (1 ≤ x.t ∧ x.t ≤ 9) ∧ (0 ≤ x.g ∧ x.g ≤ 65535) := by
 have hf := (sws_form S).1 h
 refine ⟨?_, fun x hx => ?_⟩
 ·by_cases he : S = []
  ·simp [he]
  ·have := (sw_zero (hf _ _ _ (last_form he))).2.2.2.2
   rw [List.length_dropLast] at this; omega
 ·obtain ⟨L, R, e⟩ := List.append_of_mem hx
  have := sw_zero (hf L x R e)
  exact ⟨this.1, this.2.1, this.2.2.1⟩
theorem pr_all {S : List Sw} {P : List Pr} (hs : swsMay S = true) (h : prsMay S P = true) : P.length ≤ 40 ∧ ∀ p ∈ P, (1 ≤ p.i ∧ p.i ≤ 999) ∧ (1 ≤ p.s ∧ p.s ≤ 500) ∧ (1 ≤ p.m ∧ p.m ≤ 59999) ∧ (1 ≤ p.p ∧ p.p ≤ 65535) ∧ -1 ≤ p.c ∧ p.c ≤ 5 := by
 have hf := (prs_form S P).1 h
 refine ⟨?_, fun x hx => ?_⟩
 ·by_cases he : P = []
  ·simp [he]
  ·have := ((pr_iff _ _ _).1 (hf _ _ _ (last_form he))).2.2.2.2
   rw [List.length_dropLast] at this; omega
 ·obtain ⟨L, R, e⟩ := List.append_of_mem hx
  have := (pr_iff _ _ _).1 (hf L x R e)
  have h1 := this.1
  have h2 : S.any (fun s => s.i == x.s) = true := by rw [← idx_any]; simpa using this.2.1
  rw [List.any_eq_true] at h2
  obtain ⟨s, hsS, hse⟩ := h2
  have h3 := (sw_all hs).2 s hsS
  simp at hse
  simp [prInB, inB] at h1
  refine ⟨by omega, by omega, by omega, by omega, by omega⟩
theorem ac_all {S : List Sw} {A : List Ac} (h : acsMay S A = true) : A.length ≤ 40 ∧ ∀ r ∈ A, acInB r = true ∧ (highB r.src r.sb && highB r.dst r.db) = true ∧ S.any (fun s => s.i == r.s) = true := by
 have hf := (acs_form S A).1 h
 refine ⟨?_, fun x hx => ?_⟩
 ·by_cases he : A = []
  ·simp [he]
  ·have := ((ac_iff _ _ _).1 (hf _ _ _ (last_form he))).2.2.2
   rw [List.length_dropLast] at this; omega
 ·obtain ⟨L, R, e⟩ := List.append_of_mem hx
  have := (ac_iff _ _ _).1 (hf L x R e)
  exact ⟨this.1, this.2.1, this.2.2.1⟩
theorem ac_bits {S : List Sw} {A : List Ac} (h : acsMay S A = true) : ∀ r ∈ A, (0 ≤ r.sb ∧ r.sb ≤ 16) ∧ 0 ≤ r.db ∧ r.db ≤ 16 := fun r hr => by
 have := ((ac_all h).2 r hr).1
 simp [acInB, inB] at this
 omega
end Go.Proofs.YtncdininppehkaaGreat

namespace Go.Proofs.YtncdininppehkaaGreat
open Go.RowKit
set_option linter.unusedVariables false
set_option maxRecDepth 100000
theorem mk_whole {n : Int} (h0 : 0 ≤ n) (h1 : n ≤ 65535) : mk n 65535 = n := by
 obtain ⟨a, rfl⟩ := Int.eq_ofNat_of_zero_le h0
 unfold mk
 have e : ((65535 : Int).toNat) = 2 ^ 16 - 1 := rfl
 rw [e, Int.toNat_natCast, Nat.and_two_pow_sub_one_eq_mod, Nat.mod_eq_of_lt (by omega)]
theorem and_high {v k : Nat} (hk : k ≤ 16) (hv : v < 2 ^ 16) (hd : v % 2 ^ k = 0) : v &&& (2 ^ 16 - 2 ^ k) = v := by
 have hp : 0 < 2 ^ k := Nat.two_pow_pos k
 have e : 2 ^ 16 - 2 ^ k = 2 ^ 16 - ((2 ^ k - 1) + 1) := by omega
 rw [e]
 refine Nat.eq_of_testBit_eq fun j => ?_
 have hlt : 2 ^ k - 1 < 2 ^ 16 := by
  have := Nat.pow_le_pow_right (show 0 < 2 by decide) hk
  omega
 rw [Nat.testBit_and, Nat.testBit_two_pow_sub_succ hlt, Nat.testBit_two_pow_sub_one]
 by_cases hj : j < 16
 ·by_cases hjk : j < k
  ·have : v.testBit j = false := by
    obtain ⟨q, rfl⟩ := Nat.dvd_of_mod_eq_zero hd
    rw [Nat.testBit_two_pow_mul]
    simp; omega
   simp [this]
  ·simp [hj, hjk]
 ·have : v.testBit j = false := Nat.testBit_lt_two_pow (Nat.lt_of_lt_of_le hv (Nat.pow_le_pow_right (by decide) (by omega)))
  simp [this]
theorem isM_ok {f v : Int} (h0 : 0 ≤ f) (h1 : f ≤ 9) (h2 : 0 ≤ v) (h3 : v ≤ 65535) : matchB (isM f v) = true := by
 unfold matchB isM fieldB wordB
 simp only
 rw [mk_whole h2 h3, Bool.and_eq_true, Bool.and_eq_true, Bool.and_eq_true]
 exact ⟨⟨⟨decide_eq_true (by omega), decide_eq_true (by omega)⟩, decide_eq_true (by omega)⟩, by simp⟩
theorem hiM_ok {f v b : Int} (h0 : 0 ≤ f) (h1 : f ≤ 9) (h2 : 0 ≤ v) (h3 : v ≤ 65535) (h4 : 0 ≤ b) (h5 : b ≤ 16) (h6 : highB v b = true) : matchB (hiM f v b) = true := by
 obtain ⟨n, rfl⟩ := Int.eq_ofNat_of_zero_le h4
 obtain ⟨a, rfl⟩ := Int.eq_ofNat_of_zero_le h2
 have hk : ((16 : Int) - (n : Int)).toNat = 16 - n := by omega
 have hn : n ≤ 16 := by omega
 have hpow : 2 ^ 16 = 2 ^ (16 - n) * 2 ^ n := by rw [← Nat.pow_add]; congr 1; omega
 have hd : a % 2 ^ (16 - n) = 0 := by
  have h := h6
  simp only [highB, Int.toNat_natCast, beq_iff_eq] at h
  have e : (65536 : Int) / 2 ^ n = ((2 ^ (16 - n) : Nat) : Int) := by
   have : (65536 : Int) = ((2 ^ (16 - n) * 2 ^ n : Nat) : Int) := by rw [← hpow]; rfl
   rw [this, Int.natCast_mul]
   rw [show ((2 ^ n : Nat) : Int) = (2 : Int) ^ n by simp]
   exact Int.mul_ediv_cancel _ (by have : (0 : Int) < 2 ^ n := Int.pow_pos (by decide); omega)
  rw [e] at h
  exact_mod_cast h
 have hm := and_high (v := a) (k := 16 - n) (by omega) (by omega) hd
 have hle : 2 ^ (16 - n) ≤ 2 ^ 16 := Nat.pow_le_pow_right (by decide) (by omega)
 have hpos : 0 < 2 ^ (16 - n) := Nat.two_pow_pos _
 have hmask : (65536 : Int) - 2 ^ (16 - n) = ((2 ^ 16 - 2 ^ (16 - n) : Nat) : Int) := by
  rw [Int.ofNat_sub hle]
  simp
 simp only [matchB, hiM, hk, hmask, mk, Int.toNat_natCast, hm]
 have : ((2 ^ 16 - 2 ^ (16 - n) : Nat) : Int) ≤ 65535 := by omega
 simp [fieldB, wordB]
 omega
def DoAny (d : Do) : Prop := ∀ t last, doesB d.k d.a d.n t last = true
theorem put_any {a n : Int} (h0 : 0 ≤ a) (h1 : a ≤ 9) (h2 : 0 ≤ n) (h3 : n ≤ 65535) : DoAny ⟨1, a, n⟩ := fun t last => by simp [doesB]; omega
theorem copy_any' {a n : Int} (h0 : 0 ≤ a) (h1 : a ≤ 9) (h2 : 0 ≤ n) (h3 : n ≤ 9) : DoAny ⟨2, a, n⟩ := fun t last => by simp [doesB]; omega
theorem less_any {a : Int} (h0 : 0 ≤ a) (h1 : a ≤ 9) : DoAny ⟨3, a, 0⟩ := fun t last => by simp [doesB]; omega
theorem out_any {n : Int} (h2 : 0 ≤ n) (h3 : n ≤ 65535) : DoAny ⟨5, 0, n⟩ := fun t last => by simp [doesB]; omega
theorem tun_any {n : Int} (h2 : 0 ≤ n) (h3 : n ≤ 5) : DoAny ⟨6, 0, n⟩ := fun t last => by simp [doesB]; omega
theorem does_all {t : Int} {ds : List Do} (h : ∀ d ∈ ds, DoAny d) : ∀ j, j < ds.length → doB t ds j = true := fun j hj => by
 unfold doB
 refine h _ ?_ _ _
 rw [List.getD_eq_getElem?_getD, List.getElem?_eq_getElem hj]
 exact List.getElem_mem _
theorem does_goto {t n : Int} {ds : List Do} (h : ∀ d ∈ ds, DoAny d) (h0 : t < n) (h1 : n ≤ 7) : ∀ j, j < (ds ++ [gotoD n]).length → doB t (ds ++ [gotoD n]) j = true := fun j hj => by
 rw [List.length_append, List.length_singleton] at hj
 by_cases hl : j = ds.length
 ·subst hl
  unfold doB
  rw [show (ds ++ [gotoD n]).getD ds.length do0 = gotoD n by simp [List.getD]]
  simp [doesB, gotoD]
  exact decide_eq_true (by omega)
 ·have hj' : j < ds.length := by omega
  unfold doB
  rw [show (ds ++ [gotoD n]).getD j do0 = ds.getD j do0 by simp [List.getD, List.getElem?_append_left hj']]
  refine h _ ?_ _ _
  rw [List.getD_eq_getElem?_getD, List.getElem?_eq_getElem hj']
  exact List.getElem_mem _
theorem fl_ok {t p : Int} {ms : List Mt} {ds : List Do} (ht0 : 0 ≤ t) (ht1 : t ≤ 7) (hp0 : 0 ≤ p) (hp1 : p ≤ 2000) (hm : ms.length ≤ 12) (hd : ds.length ≤ 100) (hms : ∀ m ∈ ms, matchB m = true) (hds : ∀ j, j < ds.length → doB t ds j = true) : flFault ⟨t, p, ms, ds⟩ = 0 := by
 refine flFault_ok ?_ ?_ ?_ hds
 ·simp only; omega
 ·simp [tableB, prioB]; omega
 ·simp only [List.all_eq_true]; exact hms
end Go.Proofs.YtncdininppehkaaGreat

namespace Go.Proofs.YtncdininppehkaaGreat
open Go.RowKit
set_option linter.unusedVariables false
set_option maxRecDepth 100000
theorem and_mask {v k : Nat} (hk : k ≤ 16) (hv : v < 2 ^ 16) : v &&& (2 ^ 16 - 2 ^ k) = v / 2 ^ k * 2 ^ k := by
 have hp : 0 < 2 ^ k := Nat.two_pow_pos k
 have e : 2 ^ 16 - 2 ^ k = 2 ^ 16 - ((2 ^ k - 1) + 1) := by omega
 rw [e]
 refine Nat.eq_of_testBit_eq fun j => ?_
 have hlt : 2 ^ k - 1 < 2 ^ 16 := by
  have := Nat.pow_le_pow_right (show 0 < 2 by decide) hk
  omega
 rw [Nat.testBit_and, Nat.testBit_two_pow_sub_succ hlt, Nat.testBit_two_pow_sub_one, Nat.mul_comm, Nat.testBit_two_pow_mul, Nat.testBit_div_two_pow]
 by_cases hj : j < 16
 ·by_cases hjk : j < k
  ·simp [hj, hjk]; omega
  ·have : j - k + k = j := by omega
   simp [hj, hjk, this]; omega
 ·have : v.testBit j = false := Nat.testBit_lt_two_pow (Nat.lt_of_lt_of_le hv (Nat.pow_le_pow_right (by decide) (by omega)))
  have hjk : k ≤ j := by omega
  have h2 : j - k + k = j := by omega
  simp [this, h2]
theorem mk_mask {x : Int} {k : Nat} (hk : k ≤ 16) (h0 : 0 ≤ x) (h1 : x ≤ 65535) : mk x (65536 - 2 ^ k) = x / 2 ^ k * 2 ^ k := by
 obtain ⟨n, rfl⟩ := Int.eq_ofNat_of_zero_le h0
 have hle : 2 ^ k ≤ 2 ^ 16 := Nat.pow_le_pow_right (by decide) hk
 have hm : (65536 : Int) - 2 ^ k = ((2 ^ 16 - 2 ^ k : Nat) : Int) := by rw [Int.ofNat_sub hle]; simp
 unfold mk
 rw [hm, Int.toNat_natCast, Int.toNat_natCast, and_mask hk (by omega)]
 simp
def un (b : Int) : Int := 2 ^ (16 - b).toNat
theorem un_pos (b : Int) : 0 < un b := Int.pow_pos (by decide)
theorem high_un {v b : Int} (h4 : 0 ≤ b) (h5 : b ≤ 16) (h : highB v b = true) : v / un b * un b = v := by
 obtain ⟨n, rfl⟩ := Int.eq_ofNat_of_zero_le h4
 have hn : n ≤ 16 := by omega
 have hk : ((16 : Int) - (n : Int)).toNat = 16 - n := by omega
 have hpow : 2 ^ 16 = 2 ^ (16 - n) * 2 ^ n := by rw [← Nat.pow_add]; congr 1; omega
 have e : (65536 : Int) / 2 ^ n = un n := by
  unfold un
  rw [hk]
  have : (65536 : Int) = ((2 ^ (16 - n) * 2 ^ n : Nat) : Int) := by rw [← hpow]; rfl
  rw [this, Int.natCast_mul]
  rw [show ((2 ^ n : Nat) : Int) = (2 : Int) ^ n by simp, show ((2 ^ (16 - n) : Nat) : Int) = (2 : Int) ^ (16 - n) by simp]
  exact Int.mul_ediv_cancel _ (by have : (0 : Int) < 2 ^ n := Int.pow_pos (by decide); omega)
 simp only [highB, Int.toNat_natCast, beq_iff_eq, e] at h
 have := Int.mul_ediv_add_emod v (un n)
 rw [Int.mul_comm]; omega
theorem fits_nil (F : List Int) : fitsB F [] = true := rfl
theorem fits_app (F : List Int) (a b : List Mt) : fitsB F (a ++ b) = (fitsB F a && fitsB F b) := by simp [fitsB]
theorem fits_cons (F : List Int) (m : Mt) (l : List Mt) : fitsB F (m :: l) = ((mk (F.getD m.f.toNat 0) m.m == m.v) && fitsB F l) := by simp [fitsB]
theorem fits_is {F : List Int} (hF : WF F) (f v : Int) (l : List Mt) : fitsB F (isM f v :: l) = ((F.getD f.toNat 0 == v) && fitsB F l) := by
 rw [fits_cons]
 simp only [isM]
 rw [mk_whole (hF.bd _).1 (hF.bd _).2]
theorem fits_ttl {F : List Int} (hF : WF F) (l : List Mt) : fitsB F (⟨6, 65280, 0⟩ :: l) = (decide (F.getD 6 0 ≤ 255) && fitsB F l) := by
 rw [fits_cons]
 have := hF.bd 6
 have e := mk_mask (x := F.getD 6 0) (k := 8) (by decide) this.1 this.2
 simp only [show (6 : Int).toNat = 6 from rfl]
 rw [show (65280 : Int) = 65536 - 2 ^ 8 from rfl, e]
 congr 1
 generalize F.getD 6 0 = x at *
 rw [Bool.eq_iff_iff]
 simp
 omega
theorem fits_spent {F : List Int} (hF : WF F) (l : List Mt) : fitsB F (⟨6, 65534, 0⟩ :: l) = (decide (F.getD 6 0 ≤ 1) && fitsB F l) := by
 rw [fits_cons]
 have := hF.bd 6
 have e := mk_mask (x := F.getD 6 0) (k := 1) (by decide) this.1 this.2
 simp only [show (6 : Int).toNat = 6 from rfl]
 rw [show (65534 : Int) = 65536 - 2 ^ 1 from rfl, e]
 congr 1
 generalize F.getD 6 0 = x at *
 rw [Bool.eq_iff_iff]
 simp
 omega
theorem fits_hi {F : List Int} (hF : WF F) (f : Int) {v b : Int} (h4 : 0 ≤ b) (h5 : b ≤ 16) (h : highB v b = true) (l : List Mt) : fitsB F (hiM f v b :: l) = ((F.getD f.toNat 0 / un b == v / un b) && fitsB F l) := by
 rw [fits_cons]
 have hb := hF.bd f.toNat
 simp only [hiM]
 rw [mk_mask (by omega) hb.1 hb.2]
 have hv := high_un h4 h5 h
 have hp := un_pos b
 congr 1
 rw [Bool.eq_iff_iff, beq_iff_eq, beq_iff_eq]
 show F.getD f.toNat 0 / un b * un b = v ↔ _
 constructor
 ·intro e; rw [← hv] at e
  exact Int.eq_of_mul_eq_mul_right (by omega) e
 ·intro e; rw [e]; exact hv
abbrev pkF (i d s k a b t o n u : Int) : List Int := [i, d, s, k, a, b, t, o, n, u]
def fitR (a b o : Int) (r : Ac) : Bool := (a / un r.sb == r.src / un r.sb) && (b / un r.db == r.dst / un r.db) && (r.o == -1 || o == r.o)
theorem fits_rule {i d s k a b t o n u : Int} (hF : WF (pkF i d s k a b t o n u)) {r : Ac} (h1 : 0 ≤ r.sb) (h2 : r.sb ≤ 16) (h3 : 0 ≤ r.db) (h4 : r.db ≤ 16) (hs : highB r.src r.sb = true) (hd : highB r.dst r.db = true) (l : List Mt) : fitsB (pkF i d s k a b t o n u) (ruleMs r ++ l) = (fitR a b o r && fitsB (pkF i d s k a b t o n u) l) := by
 rw [fits_app]
 congr 1
 unfold ruleMs fitR
 by_cases ho : r.o = -1
 ·rw [if_pos ho, List.append_nil, fits_hi hF 4 h1 h2 hs, fits_hi hF 5 h3 h4 hd]
  simp [ho, fits_nil]
 ·rw [if_neg ho, List.cons_append, List.cons_append, List.nil_append, fits_hi hF 4 h1 h2 hs, fits_hi hF 5 h3 h4 hd, fits_is hF]
  have hb : (r.o == -1) = false := by simpa using ho
  simp [hb, fits_nil, Bool.and_assoc]
end Go.Proofs.YtncdininppehkaaGreat

namespace Go.Proofs.YtncdininppehkaaGreat
open Go.RowKit
set_option linter.unusedVariables false
set_option maxRecDepth 100000
theorem two_in {α : Type} {l : List α} {x y : α} (hx : x ∈ l) (hy : y ∈ l) : x = y ∨ (∃ L M R, l = L ++ x :: M ++ y :: R) ∨ (∃ L M R, l = L ++ y :: M ++ x :: R) := by
 induction l with
 | nil => cases hx
 | cons a r ih =>
  rcases List.mem_cons.1 hx with rfl | hx'
  ·rcases List.mem_cons.1 hy with rfl | hy'
   ·exact .inl rfl
   ·obtain ⟨M, R, e⟩ := List.append_of_mem hy'
    exact .inr (.inl ⟨[], M, R, by rw [e]; rfl⟩)
  ·rcases List.mem_cons.1 hy with rfl | hy'
   ·obtain ⟨M, R, e⟩ := List.append_of_mem hx'
    exact .inr (.inr ⟨[], M, R, by rw [e]; rfl⟩)
   ·rcases ih hx' hy' with h | ⟨L, M, R, e⟩ | ⟨L, M, R, e⟩
    ·exact .inl h
    ·exact .inr (.inl ⟨a :: L, M, R, by rw [e]; rfl⟩)
    ·exact .inr (.inr ⟨a :: L, M, R, by rw [e]; rfl⟩)
theorem once {α : Type} {l : List α} {f : List α → α → Int} (h : ∀ L x R, l = L ++ x :: R → f L x = 0) {r : α → α → Prop} (hr : ∀ x y, r x y → r y x) (hf : ∀ L x y, x ∈ L → r x y → f L y ≠ 0) {x y : α} (hx : x ∈ l) (hy : y ∈ l) (hxy : r x y) : x = y := by
 rcases two_in hx hy with e | ⟨L, M, R, e⟩ | ⟨L, M, R, e⟩
 ·exact e
 ·exact absurd (h _ _ _ e) (hf _ x y (by simp) hxy)
 ·exact absurd (h _ _ _ e) (hf _ y x (by simp) (hr _ _ hxy))
theorem sw_once {S : List Sw} (h : swsMay S = true) {x y : Sw} (hx : x ∈ S) (hy : y ∈ S) (e : x.i = y.i) : x = y := by
 refine once (r := fun x y => x.i = y.i) ((sws_form S).1 h) (fun _ _ h => h.symm) (fun L x y hx hxy hz => ?_) hx hy e
 have := (sw_zero hz).2.2.2.1
 rw [List.any_eq_false] at this
 exact this x hx (by simpa using hxy)
theorem port_once {S : List Sw} {P : List Pr} (h : prsMay S P = true) {x y : Pr} (hx : x ∈ P) (hy : y ∈ P) (e : x.i = y.i) : x = y := by
 refine once (r := fun x y => x.i = y.i) ((prs_form S P).1 h) (fun _ _ h => h.symm) (fun L x y hx hxy hz => ?_) hx hy e
 have := ((pr_iff _ _ _).1 hz).2.2.1
 rw [List.any_eq_false] at this
 exact this x hx (by simp [hxy])
theorem mac_once {S : List Sw} {P : List Pr} (h : prsMay S P = true) {x y : Pr} (hx : x ∈ P) (hy : y ∈ P) (e : x.s = y.s) (e' : x.m = y.m) : x = y := by
 refine once (r := fun x y => x.s = y.s ∧ x.m = y.m) ((prs_form S P).1 h) (fun _ _ h => ⟨h.1.symm, h.2.symm⟩) (fun L x y hx hxy hz => ?_) hx hy ⟨e, e'⟩
 have := ((pr_iff _ _ _).1 hz).2.2.1
 rw [List.any_eq_false] at this
 exact this x hx (by simp [hxy])
theorem sw_tn {S : List Sw} (h : swsMay S = true) {s : Sw} (hs : s ∈ S) : tn S s.i = s.t := by
 unfold tn
 have h1 : S.any (fun x => x.i == s.i) = true := by rw [List.any_eq_true]; exact ⟨s, hs, by simp⟩
 have h0 : 0 ≤ idx (fun x => x.i == s.i) S := by
  have := idx_any (fun x : Sw => x.i == s.i) S
  rw [h1] at this
  simpa using this
 unfold idx at h0 ⊢
 cases hf : S.findIdx? (fun x => x.i == s.i) with
 | none => rw [hf] at h0; simp at h0
 | some k =>
  simp only [Int.toNat_natCast]
  obtain ⟨hk, hp, _⟩ := List.findIdx?_eq_some_iff_getElem.1 hf
  have e : S.getD k sw0 = S[k] := by rw [List.getD_eq_getElem?_getD, List.getElem?_eq_getElem hk]; rfl
  rw [e, sw_once h (List.getElem_mem hk) hs (by simpa using hp)]
theorem port_sw {S : List Sw} {P : List Pr} (h : prsMay S P = true) {p : Pr} (hp : p ∈ P) : ∃ s ∈ S, s.i = p.s := by
 obtain ⟨L, R, e⟩ := List.append_of_mem hp
 have h2 := ((pr_iff _ _ _).1 ((prs_form S P).1 h L p R e)).2.1
 have : S.any (fun s => s.i == p.s) = true := by rw [← idx_any]; simpa using h2
 rw [List.any_eq_true] at this
 obtain ⟨s, hs, e⟩ := this
 exact ⟨s, hs, by simpa using e⟩
theorem port_tn {S : List Sw} {P : List Pr} (hS : swsMay S = true) (h : prsMay S P = true) {p : Pr} (hp : p ∈ P) : ∃ s ∈ S, s.i = p.s ∧ tn S p.s = s.t := by
 obtain ⟨s, hs, e⟩ := port_sw h hp
 exact ⟨s, hs, e, by rw [← e]; exact sw_tn hS hs⟩
theorem ip_once {S : List Sw} {P : List Pr} (hS : swsMay S = true) (h : prsMay S P = true) {x y : Pr} (hx : x ∈ P) (hy : y ∈ P) (e : tn S x.s = tn S y.s) (e' : x.p = y.p) : x = y := by
 refine once (r := fun x y => (x ∈ P ∧ y ∈ P) ∧ tn S x.s = tn S y.s ∧ x.p = y.p) ((prs_form S P).1 h) (fun _ _ h => ⟨⟨h.1.2, h.1.1⟩, h.2.1.symm, h.2.2.symm⟩) (fun L x y hx hxy hz => ?_) hx hy ⟨⟨hx, hy⟩, e, e'⟩
 have h4 := ((pr_iff _ _ _).1 hz).2.2.2.1
 unfold takenB at h4
 rw [Bool.or_eq_false_iff] at h4
 have h5 := h4.2
 rw [List.any_eq_false] at h5
 refine h5 x hx ?_
 obtain ⟨s, hs, e1, e2⟩ := port_tn hS h hxy.1.1
 rw [Bool.and_eq_true]
 refine ⟨by simp [hxy.2.2], ?_⟩
 rw [List.any_eq_true]
 exact ⟨s, hs, by simp [e1, ← e2, hxy.2.1]⟩
theorem gate_ip {S : List Sw} {P : List Pr} (hS : swsMay S = true) (h : prsMay S P = true) {s : Sw} {p : Pr} (hs : s ∈ S) (hp : p ∈ P) (e : tn S p.s = s.t) : s.g ≠ p.p := by
 intro e'
 obtain ⟨L, R, eL⟩ := List.append_of_mem hp
 have h4 := ((pr_iff _ _ _).1 ((prs_form S P).1 h L p R eL)).2.2.2.1
 unfold takenB at h4
 rw [Bool.or_eq_false_iff] at h4
 have h5 := h4.1
 rw [List.any_eq_false] at h5
 exact h5 s hs (by simp [e, e'])
end Go.Proofs.YtncdininppehkaaGreat

namespace Go.Proofs.YtncdininppehkaaGreat
open Go.RowKit
set_option linter.unusedVariables false
set_option maxRecDepth 100000
def PrIn (p : Pr) : Prop := (1 ≤ p.i ∧ p.i ≤ 999) ∧ (1 ≤ p.s ∧ p.s ≤ 500) ∧ (1 ≤ p.m ∧ p.m ≤ 59999) ∧ (1 ≤ p.p ∧ p.p ≤ 65535) ∧ -1 ≤ p.c ∧ p.c ≤ 5
theorem m_in {l : List Mt} {x : Mt} {P : Mt → Prop} (h : P x) (hl : ∀ m ∈ l, P m) : ∀ m ∈ x :: l, P m := fun m hm => by
 rcases List.mem_cons.1 hm with rfl | hm
 ·exact h
 ·exact hl m hm
theorem m_app {a b : List Mt} {P : Mt → Prop} (ha : ∀ m ∈ a, P m) (hb : ∀ m ∈ b, P m) : ∀ m ∈ a ++ b, P m := fun m hm => by
 rcases List.mem_append.1 hm with h | h
 ·exact ha m h
 ·exact hb m h
theorem m_nil {P : Mt → Prop} : ∀ m ∈ ([] : List Mt), P m := fun m hm => by cases hm
theorem d_in {l : List Do} {x : Do} {P : Do → Prop} (h : P x) (hl : ∀ m ∈ l, P m) : ∀ m ∈ x :: l, P m := fun m hm => by
 rcases List.mem_cons.1 hm with rfl | hm
 ·exact h
 ·exact hl m hm
theorem d_nil {P : Do → Prop} : ∀ m ∈ ([] : List Do), P m := fun m hm => by cases hm
theorem d_app {a b : List Do} {P : Do → Prop} (ha : ∀ m ∈ a, P m) (hb : ∀ m ∈ b, P m) : ∀ m ∈ a ++ b, P m := fun m hm => by
 rcases List.mem_append.1 hm with h | h
 ·exact ha m h
 ·exact hb m h
theorem ttl_ok {v : Int} (hv : v = 65280 ∨ v = 65534) : matchB ⟨6, v, 0⟩ = true := by
 rcases hv with rfl | rfl <;> decide
theorem dataMs_ok : ∀ m ∈ dataMs, matchB m = true := m_in (isM_ok (by decide) (by decide) (by decide) (by decide)) (m_in (ttl_ok (.inl rfl)) m_nil)
theorem bareMs_ok {k : Int} (h0 : 0 ≤ k) (h1 : k ≤ 65535) : ∀ m ∈ bareMs k, matchB m = true := m_in (isM_ok (by decide) (by decide) h0 h1) (m_in (isM_ok (by decide) (by decide) (by decide) (by decide)) (m_in (isM_ok (by decide) (by decide) (by decide) (by decide)) m_nil))
theorem sentMs_ok {p : Pr} (h : PrIn p) : ∀ m ∈ sentMs p, matchB m = true := by
 obtain ⟨⟨a0, a1⟩, ⟨b0, b1⟩, ⟨c0, c1⟩, ⟨d0, d1⟩, e0, e1⟩ := h
 exact m_in (isM_ok (by decide) (by decide) (by omega) (by omega)) (m_in (isM_ok (by decide) (by decide) (by decide) (by decide)) (m_in (isM_ok (by decide) (by decide) (by decide) (by decide)) (m_in (isM_ok (by decide) (by decide) (by omega) (by omega)) (m_in (isM_ok (by decide) (by decide) (by omega) (by omega)) m_nil))))
theorem toPort_ok {p : Pr} (h : PrIn p) (hs : somewhereB p = true) : ∀ d ∈ toPortD p, DoAny d := by
 obtain ⟨⟨a0, a1⟩, ⟨b0, b1⟩, ⟨c0, c1⟩, ⟨d0, d1⟩, e0, e1⟩ := h
 have hs' : p.c ≠ -1 := by simpa [somewhereB] using hs
 exact d_in (put_any (by decide) (by decide) (by omega) (by omega)) (d_in (tun_any (by omega) (by omega)) d_nil)
theorem tunnel_may : ∀ f ∈ tunnelFl, flFault f = 0 := by
 intro f hf
 simp only [tunnelFl, List.mem_cons, List.not_mem_nil, or_false] at hf
 rcases hf with rfl | rfl
 ·exact fl_ok (by decide) (by decide) (by decide) (by decide) (by decide) (by decide) (m_app dataMs_ok (m_in (isM_ok (by decide) (by decide) (by decide) (by decide)) m_nil)) (does_goto (ds := []) d_nil (by decide) (by decide))
 ·exact fl_ok (by decide) (by decide) (by decide) (by decide) (by decide) (by decide) (m_app (bareMs_ok (by decide) (by decide)) (m_in (isM_ok (by decide) (by decide) (by decide) (by decide)) m_nil)) (does_goto (ds := []) d_nil (by decide) (by decide))
theorem toPorts_len (l : List Pr) : (l.flatMap toPortD).length = 2 * l.length := by
 induction l with
 | nil => rfl
 | cons x r ih => simp [toPortD] at ih ⊢; omega
theorem port_may {P : List Pr} (hP : ∀ p ∈ P, PrIn p) (hl : P.length ≤ 40) {p : Pr} (hp : PrIn p) : ∀ f ∈ portFl P p, flFault f = 0 := by
 obtain ⟨⟨a0, a1⟩, ⟨b0, b1⟩, ⟨c0, c1⟩, ⟨d0, d1⟩, e0, e1⟩ := hp
 have hp : PrIn p := ⟨⟨a0, a1⟩, ⟨b0, b1⟩, ⟨c0, c1⟩, ⟨d0, d1⟩, e0, e1⟩
 intro f hf
 simp only [portFl, List.mem_cons, List.not_mem_nil, or_false] at hf
 rcases hf with rfl | rfl | rfl | rfl | rfl | rfl
 ·exact fl_ok (by decide) (by decide) (by decide) (by decide) (by simp [sentMs, dataMs]) (by simp) (m_app (sentMs_ok hp) dataMs_ok) (does_goto (ds := [_]) (d_in (put_any (by decide) (by decide) (by omega) (by omega)) d_nil) (by decide) (by decide))
 ·exact fl_ok (by decide) (by decide) (by decide) (by decide) (by simp [sentMs, bareMs]) (by simp) (m_app (sentMs_ok hp) (bareMs_ok (by decide) (by decide))) (does_goto (ds := [_]) (d_in (put_any (by decide) (by decide) (by omega) (by omega)) d_nil) (by decide) (by decide))
 ·exact fl_ok (by decide) (by decide) (by decide) (by decide) (by simp) (by simp) (m_in (isM_ok (by decide) (by decide) (by omega) (by omega)) (m_in (isM_ok (by decide) (by decide) (by omega) (by omega)) m_nil)) (does_all d_nil)
 ·exact fl_ok (by decide) (by decide) (by decide) (by decide) (by simp) (by simp) (m_in (isM_ok (by decide) (by decide) (by omega) (by omega)) (m_in (isM_ok (by decide) (by decide) (by omega) (by omega)) m_nil)) (does_all d_nil)
 ·refine fl_ok (by decide) (by decide) (by decide) (by decide) (by simp) ?_ (m_in (isM_ok (by decide) (by decide) (by omega) (by omega)) (m_in (isM_ok (by decide) (by decide) (by decide) (by decide)) m_nil)) (does_all fun d hd => ?_)
  ·rw [toPorts_len]
   have := List.length_filter_le (othersB p) P
   omega
  ·obtain ⟨q, hq, hd⟩ := List.mem_flatMap.1 hd
   obtain ⟨hq1, hq2⟩ := List.mem_filter.1 hq
   exact toPort_ok (hP q hq1) (by simp only [othersB, Bool.and_eq_true] at hq2; exact hq2.2) d hd
 ·exact fl_ok (by decide) (by decide) (by decide) (by decide) (by simp) (by simp) (m_in (isM_ok (by decide) (by decide) (by omega) (by omega)) (m_in (isM_ok (by decide) (by decide) (by omega) (by omega)) m_nil)) (does_all (d_in (out_any (by omega) (by omega)) d_nil))
theorem ans_may {s ip mac ch : Int} (s0 : 0 ≤ s) (s1 : s ≤ 65535) (i0 : 0 ≤ ip) (i1 : ip ≤ 65535) (m0 : 0 ≤ mac) (m1 : mac ≤ 65535) (c0 : 0 ≤ ch) (c1 : ch ≤ 5) : flFault (ansFl s ip mac ch) = 0 :=
 fl_ok (by decide) (by decide) (by decide) (by decide) (by simp) (by simp [answerD]) (m_in (isM_ok (by decide) (by decide) s0 s1) (m_in (isM_ok (by decide) (by decide) i0 i1) m_nil))
  (does_all (d_in (put_any (by decide) (by decide) (by decide) (by decide)) (d_in (copy_any' (by decide) (by decide) (by decide) (by decide)) (d_in (put_any (by decide) (by decide) m0 m1) (d_in (copy_any' (by decide) (by decide) (by decide) (by decide)) (d_in (put_any (by decide) (by decide) i0 i1) (d_in (copy_any' (by decide) (by decide) (by decide) (by decide)) (d_in (tun_any c0 c1) d_nil))))))))
theorem ruleMs_ok {r : Ac} (h1 : acInB r = true) (h2 : (highB r.src r.sb && highB r.dst r.db) = true) : ∀ m ∈ ruleMs r, matchB m = true := by
 simp only [acInB, inB, Bool.and_eq_true, decide_eq_true_eq] at h1 h2
 obtain ⟨⟨⟨⟨⟨a, b⟩, c⟩, d⟩, e⟩, f⟩ := h1
 unfold ruleMs
 refine m_app (m_in (hiM_ok (by decide) (by decide) b.1 b.2 d.1 d.2 h2.1) (m_in (hiM_ok (by decide) (by decide) c.1 c.2 e.1 e.2 h2.2) m_nil)) ?_
 split
 ·exact m_nil
 ·exact m_in (isM_ok (by decide) (by decide) (by omega) (by omega)) m_nil
theorem rules_may {R : List Ac} (hR : ∀ r ∈ R, acInB r = true ∧ (highB r.src r.sb && highB r.dst r.db) = true) (hl : R.length ≤ 40) {s t n : Int} (s0 : 0 ≤ s) (s1 : s ≤ 65535) (t0 : 0 ≤ t) (t1 : t < n) (n1 : n ≤ 7) : ∀ f ∈ ruleFl R s t n, flFault f = 0 := by
 intro f hf
 unfold ruleFl at hf
 have hg := does_goto (ds := []) d_nil t1 n1
 rcases List.mem_cons.1 hf with rfl | hf
 ·exact fl_ok t0 (by omega) (by decide) (by decide) (by simp) (by simp) (m_in (isM_ok (by decide) (by decide) s0 s1) m_nil) hg
 ·obtain ⟨i, hi, rfl⟩ := List.mem_map.1 hf
  rw [List.mem_range] at hi
  have hr := hR (R.getD i ac0) (by rw [List.getD_eq_getElem?_getD, List.getElem?_eq_getElem hi]; exact List.getElem_mem _)
  unfold ruleAt
  refine fl_ok t0 (by omega) (by omega) (by omega) ?_ ?_ (m_app (ruleMs_ok hr.1 hr.2) (m_in (isM_ok (by decide) (by decide) s0 s1) m_nil)) ?_
  ·rw [List.length_append]
   unfold ruleMs
   split <;> simp
  ·split <;> simp
  ·split
   ·exact does_all d_nil
   ·exact hg
theorem bridge_may {P : List Pr} (hP : ∀ p ∈ P, PrIn p) {s : Sw} (s0 : 0 ≤ s.i) (s1 : s.i ≤ 500) : ∀ f ∈ bridgeFl P s, flFault f = 0 := by
 intro f hf
 obtain ⟨p, hp, rfl⟩ := List.mem_map.1 hf
 obtain ⟨hp1, hp2⟩ := List.mem_filter.1 hp
 have h := hP p hp1
 obtain ⟨⟨a0, a1⟩, ⟨b0, b1⟩, ⟨c0, c1⟩, ⟨d0, d1⟩, e0, e1⟩ := h
 simp only [Bool.and_eq_true] at hp2
 exact fl_ok (by decide) (by decide) (by decide) (by decide) (by simp) (by simp [toPortD]) (m_in (isM_ok (by decide) (by decide) s0 (by omega)) (m_in (isM_ok (by decide) (by decide) (by omega) (by omega)) m_nil)) (does_all (toPort_ok (hP p hp1) hp2.2))
theorem route_may {S : List Sw} {P : List Pr} (hP : ∀ p ∈ P, PrIn p) {s : Sw} (s0 : 0 ≤ s.i) (s1 : s.i ≤ 500) : ∀ f ∈ routeFl S P s, flFault f = 0 := by
 intro f hf
 unfold routeFl at hf
 have hm : ∀ m ∈ routerMs s, matchB m = true := m_in (isM_ok (by decide) (by decide) s0 (by omega)) (m_in (isM_ok (by decide) (by decide) (by omega) (by omega)) m_nil)
 split at hf
 ·cases hf
 ·rcases List.mem_cons.1 hf with rfl | hf
  ·exact fl_ok (by decide) (by decide) (by decide) (by decide) (by simp [routerMs]) (by simp) (m_app hm (m_in (ttl_ok (.inr rfl)) m_nil)) (does_all d_nil)
  ·obtain ⟨p, hp, rfl⟩ := List.mem_map.1 hf
   obtain ⟨hp1, hp2⟩ := List.mem_filter.1 hp
   have h := hP p hp1
   obtain ⟨⟨a0, a1⟩, ⟨b0, b1⟩, ⟨c0, c1⟩, ⟨d0, d1⟩, e0, e1⟩ := h
   simp only [Bool.and_eq_true] at hp2
   exact fl_ok (by decide) (by decide) (by decide) (by decide) (by simp [routerMs]) (by simp [routeD, toPortD]) (m_app hm (m_in (isM_ok (by decide) (by decide) (by omega) (by omega)) m_nil)) (does_all (d_app (d_in (put_any (by decide) (by decide) (by omega) (by omega)) (d_in (put_any (by decide) (by decide) (by omega) (by omega)) (d_in (less_any (by decide) (by decide)) (d_in (put_any (by decide) (by decide) (by omega) (by omega)) d_nil)))) (toPort_ok (hP p hp1) hp2.2)))
theorem comp_may {S : List Sw} {P : List Pr} {A : List Ac} {ch : Int} (h : may S P A = true) (c0 : 0 ≤ ch) (c1 : ch ≤ 5) : ∀ f ∈ comp S P A ch, flFault f = 0 := by
 obtain ⟨hs, hp, ha⟩ := may_parts h
 have hP : ∀ p ∈ P, PrIn p := (pr_all hs hp).2
 have hl := (pr_all hs hp).1
 have hR : ∀ b s, ∀ r ∈ acSort (rulesB A s b), acInB r = true ∧ (highB r.src r.sb && highB r.dst r.db) = true := fun b s r hr => by
  have : r ∈ rulesB A s b := by
   unfold acSort at hr
   rw [mrg_mem, isort_mem, isort_mem, ← List.mem_append, List.take_append_drop] at hr
   exact hr
  have := (ac_all ha).2 r (List.mem_filter.1 this).1
  exact ⟨this.1, this.2.1⟩
 have hRl : ∀ b s, (acSort (rulesB A s b)).length ≤ 40 := fun b s => by
  have h1 : (rulesB A s b).length ≤ A.length := List.length_filter_le _ _
  have h2 := (ac_all ha).1
  unfold acSort
  rw [mrg_len, isort_len, isort_len, List.length_take, List.length_drop]
  omega
 intro f hf
 unfold comp at hf
 rcases List.mem_append.1 hf with hf | hf
 ·rcases List.mem_append.1 hf with hf | hf
  ·exact tunnel_may f hf
  ·obtain ⟨p, hp1, hf⟩ := List.mem_flatMap.1 hf
   exact port_may hP hl (hP p (List.mem_filter.1 hp1).1) f hf
 ·obtain ⟨s, hs1, hf⟩ := List.mem_flatMap.1 hf
  have hsi := (sw_all hs).2 s (List.mem_filter.1 hs1).1
  obtain ⟨⟨i0, i1⟩, _, g0, g1⟩ := hsi
  unfold switchFl at hf
  rcases List.mem_append.1 hf with hf | hf
  ·rcases List.mem_append.1 hf with hf | hf
   ·rcases List.mem_append.1 hf with hf | hf
    ·rcases List.mem_append.1 hf with hf | hf
     ·unfold askFl at hf
      rcases List.mem_append.1 hf with hf | hf
      ·split at hf
       ·cases hf
       ·rw [List.mem_singleton.1 hf]
        exact ans_may (by omega) (by omega) g0 g1 (by omega) (by omega) c0 c1
      ·obtain ⟨p, hp1, rfl⟩ := List.mem_map.1 hf
       obtain ⟨⟨a0, a1⟩, ⟨b0, b1⟩, ⟨x0, x1⟩, ⟨d0, d1⟩, e0, e1⟩ := hP p (List.mem_filter.1 hp1).1
       exact ans_may (by omega) (by omega) (by omega) (by omega) (by omega) (by omega) c0 c1
     ·exact rules_may (hR _ _) (hRl _ _) (by omega) (by omega) (by decide) (by decide) (by decide) f hf
    ·exact bridge_may hP (by omega) i1 f hf
   ·exact route_may hP (by omega) i1 f hf
  ·exact rules_may (hR _ _) (hRl _ _) (by omega) (by omega) (by decide) (by decide) (by decide) f hf
end Go.Proofs.YtncdininppehkaaGreat

namespace Go.Proofs.YtncdininppehkaaGreat
open Go.RowKit
set_option linter.unusedVariables false
set_option maxRecDepth 100000
theorem comp_in {S : List Sw} {P : List Pr} {A : List Ac} {ch : Int} {g : Fl} : g ∈ comp S P A ch ↔ g ∈ tunnelFl ∨ (∃ p, (p ∈ P ∧ p.c = ch) ∧ g ∈ portFl P p) ∨ (∃ s, (s ∈ S ∧ ∃ p, (p ∈ P ∧ p.c = ch) ∧ p.s = s.i) ∧ g ∈ switchFl S P A s ch) := by
 unfold comp
 rw [List.mem_append, List.mem_append, List.mem_flatMap, List.mem_flatMap, or_assoc]
 have e1 : (∃ a, a ∈ P.filter (hereB ch) ∧ g ∈ portFl P a) ↔ ∃ p, (p ∈ P ∧ p.c = ch) ∧ g ∈ portFl P p := by simp [hereB]
 have e2 : (∃ a, a ∈ S.filter (fun s => (P.filter (hereB ch)).any (isOfB s.i)) ∧ g ∈ switchFl S P A a ch) ↔ ∃ s, (s ∈ S ∧ ∃ p, (p ∈ P ∧ p.c = ch) ∧ p.s = s.i) ∧ g ∈ switchFl S P A s ch := by simp [hereB, isOfB, and_assoc]
 rw [e1, e2]
theorem rule_in {R : List Ac} {s t n : Int} {g : Fl} (h : g ∈ ruleFl R s t n) : g = ⟨t, 0, [isM 8 s], [gotoD n]⟩ ∨ ∃ i, i < R.length ∧ g = ruleAt R s t n i := by
 unfold ruleFl at h
 rcases List.mem_cons.1 h with h | h
 ·exact .inl h
 ·obtain ⟨i, hi, e⟩ := List.mem_map.1 h
  exact .inr ⟨i, List.mem_range.1 hi, e.symm⟩
theorem rule_t {R : List Ac} {s t n : Int} {g : Fl} (h : g ∈ ruleFl R s t n) : g.t = t := by
 rcases rule_in h with rfl | ⟨i, _, rfl⟩ <;> rfl
theorem ask_in {P : List Pr} {s : Sw} {ch : Int} {g : Fl} (h : g ∈ askFl P s ch) : (s.g ≠ 0 ∧ g = ansFl s.i s.g (60000 + s.i) ch) ∨ ∃ q, q ∈ P ∧ q.s = s.i ∧ g = ansFl s.i q.p q.m ch := by
 unfold askFl at h
 rcases List.mem_append.1 h with h | h
 ·by_cases hg : s.g = 0
  ·rw [if_pos hg] at h; cases h
  ·rw [if_neg hg] at h; exact .inl ⟨hg, by simpa using h⟩
 ·obtain ⟨q, hq, e⟩ := List.mem_map.1 h
  have := List.mem_filter.1 hq
  exact .inr ⟨q, this.1, by simpa [isOfB] using this.2, e.symm⟩
theorem bridge_in {P : List Pr} {s : Sw} {g : Fl} (h : g ∈ bridgeFl P s) : ∃ q, q ∈ P ∧ q.s = s.i ∧ q.c ≠ -1 ∧ g = ⟨3, 0, [isM 8 s.i, isM 1 q.m], toPortD q⟩ := by
 unfold bridgeFl at h
 obtain ⟨q, hq, e⟩ := List.mem_map.1 h
 have := List.mem_filter.1 hq
 simp [isOfB, somewhereB] at this
 exact ⟨q, this.1, this.2.1, this.2.2, e.symm⟩
theorem route_in {S : List Sw} {P : List Pr} {s : Sw} {g : Fl} (h : g ∈ routeFl S P s) : s.g ≠ 0 ∧ (g = ⟨3, 1, routerMs s ++ [⟨6, 65534, 0⟩], []⟩ ∨ ∃ q, q ∈ P ∧ routedB S s.t q = true ∧ q.c ≠ -1 ∧ g = ⟨3, 0, routerMs s ++ [isM 5 q.p], routeD q ++ toPortD q⟩) := by
 unfold routeFl at h
 by_cases hg : s.g = 0
 ·rw [if_pos hg] at h; cases h
 ·rw [if_neg hg] at h
  refine ⟨hg, ?_⟩
  rcases List.mem_cons.1 h with h | h
  ·exact .inl h
  ·obtain ⟨q, hq, e⟩ := List.mem_map.1 h
   have := List.mem_filter.1 hq
   simp [somewhereB] at this
   exact .inr ⟨q, this.1, this.2.1, this.2.2, e.symm⟩
theorem port_in {P : List Pr} {p : Pr} {g : Fl} (h : g ∈ portFl P p) : g = ⟨0, 0, sentMs p ++ dataMs, [⟨1, 8, p.s⟩, gotoD 2]⟩ ∨ g = ⟨0, 0, sentMs p ++ bareMs 1, [⟨1, 8, p.s⟩, gotoD 1]⟩ ∨ g = ⟨1, 1, [isM 0 p.i, isM 5 p.p], []⟩ ∨ g = ⟨3, 1, [isM 0 p.i, isM 1 p.m], []⟩ ∨
  g = ⟨3, 0, [isM 0 p.i, isM 1 65535], (P.filter (othersB p)).flatMap toPortD⟩ ∨ g = ⟨5, 0, [isM 8 p.s, isM 9 p.i], [⟨5, 0, p.i⟩]⟩ := by
 simpa [portFl] using h
theorem switch_in {S : List Sw} {P : List Pr} {A : List Ac} {s : Sw} {ch : Int} {g : Fl} (h : g ∈ switchFl S P A s ch) : g ∈ askFl P s ch ∨ g ∈ ruleFl (acSort (rulesB A s.i true)) s.i 2 3 ∨ g ∈ bridgeFl P s ∨ g ∈ routeFl S P s ∨ g ∈ ruleFl (acSort (rulesB A s.i false)) s.i 4 5 := by
 unfold switchFl at h
 simp only [List.mem_append] at h
 rcases h with (((h | h) | h) | h) | h
 ·exact .inl h
 ·exact .inr (.inl h)
 ·exact .inr (.inr (.inl h))
 ·exact .inr (.inr (.inr (.inl h)))
 ·exact .inr (.inr (.inr (.inr h)))
theorem fit_t {F : List Int} {t : Int} {g : Fl} (h : fitB F t g = true) : g.t = t ∧ fitsB F g.ms = true := by
 unfold fitB at h
 rw [Bool.and_eq_true] at h
 exact ⟨by simpa using h.1, h.2⟩
section
variable {S : List Sw} {P : List Pr} {A : List Ac} {ch : Int} {g : Fl}
theorem in_0 (h : g ∈ comp S P A ch) (ht : g.t = 0) : g = ⟨0, 0, dataMs ++ [isM 0 0], [gotoD 4]⟩ ∨ g = ⟨0, 0, bareMs 2 ++ [isM 0 0], [gotoD 5]⟩ ∨ ∃ p, (p ∈ P ∧ p.c = ch) ∧ (g = ⟨0, 0, sentMs p ++ dataMs, [⟨1, 8, p.s⟩, gotoD 2]⟩ ∨ g = ⟨0, 0, sentMs p ++ bareMs 1, [⟨1, 8, p.s⟩, gotoD 1]⟩) := by
 rcases comp_in.1 h with h | ⟨p, hp, h⟩ | ⟨s, hs, h⟩
 ·simp [tunnelFl] at h
  rcases h with h | h
  ·exact .inl h
  ·exact .inr (.inl h)
 ·rcases port_in h with rfl | rfl | rfl | rfl | rfl | rfl
  ·exact .inr (.inr ⟨p, hp, .inl rfl⟩)
  ·exact .inr (.inr ⟨p, hp, .inr rfl⟩)
  all_goals exact absurd ht (by simp)
 ·exfalso
  rcases switch_in h with h | h | h | h | h
  ·rcases ask_in h with ⟨_, rfl⟩ | ⟨q, _, _, rfl⟩ <;> exact absurd ht (by simp [ansFl])
  ·rw [rule_t h] at ht; exact absurd ht (by decide)
  ·obtain ⟨q, _, _, _, rfl⟩ := bridge_in h; exact absurd ht (by simp)
  ·rcases (route_in h).2 with rfl | ⟨q, _, _, _, rfl⟩ <;> exact absurd ht (by simp)
  ·rw [rule_t h] at ht; exact absurd ht (by decide)
theorem in_1 (h : g ∈ comp S P A ch) (ht : g.t = 1) : (∃ p, (p ∈ P ∧ p.c = ch) ∧ g = ⟨1, 1, [isM 0 p.i, isM 5 p.p], []⟩) ∨ ∃ s, s ∈ S ∧ ((s.g ≠ 0 ∧ g = ansFl s.i s.g (60000 + s.i) ch) ∨ ∃ q, q ∈ P ∧ q.s = s.i ∧ g = ansFl s.i q.p q.m ch) := by
 rcases comp_in.1 h with h | ⟨p, hp, h⟩ | ⟨s, hs, h⟩
 ·simp [tunnelFl] at h
  rcases h with rfl | rfl <;> exact absurd ht (by simp)
 ·rcases port_in h with rfl | rfl | rfl | rfl | rfl | rfl
  ·exact absurd ht (by simp)
  ·exact absurd ht (by simp)
  ·exact .inl ⟨p, hp, rfl⟩
  all_goals exact absurd ht (by simp)
 ·rcases switch_in h with h | h | h | h | h
  ·exact .inr ⟨s, hs.1, ask_in h⟩
  ·rw [rule_t h] at ht; exact absurd ht (by decide)
  ·obtain ⟨q, _, _, _, rfl⟩ := bridge_in h; exact absurd ht (by simp)
  ·rcases (route_in h).2 with rfl | ⟨q, _, _, _, rfl⟩ <;> exact absurd ht (by simp)
  ·rw [rule_t h] at ht; exact absurd ht (by decide)
theorem in_2 (h : g ∈ comp S P A ch) (ht : g.t = 2) : ∃ s, s ∈ S ∧ g ∈ ruleFl (acSort (rulesB A s.i true)) s.i 2 3 := by
 rcases comp_in.1 h with h | ⟨p, hp, h⟩ | ⟨s, hs, h⟩
 ·simp [tunnelFl] at h
  rcases h with rfl | rfl <;> exact absurd ht (by simp)
 ·rcases port_in h with rfl | rfl | rfl | rfl | rfl | rfl <;> exact absurd ht (by simp)
 ·rcases switch_in h with h | h | h | h | h
  ·rcases ask_in h with ⟨_, rfl⟩ | ⟨q, _, _, rfl⟩ <;> exact absurd ht (by simp [ansFl])
  ·exact ⟨s, hs.1, h⟩
  ·obtain ⟨q, _, _, _, rfl⟩ := bridge_in h; exact absurd ht (by simp)
  ·rcases (route_in h).2 with rfl | ⟨q, _, _, _, rfl⟩ <;> exact absurd ht (by simp)
  ·rw [rule_t h] at ht; exact absurd ht (by decide)
theorem in_3 (h : g ∈ comp S P A ch) (ht : g.t = 3) : (∃ p, (p ∈ P ∧ p.c = ch) ∧ (g = ⟨3, 1, [isM 0 p.i, isM 1 p.m], []⟩ ∨ g = ⟨3, 0, [isM 0 p.i, isM 1 65535], (P.filter (othersB p)).flatMap toPortD⟩)) ∨ ∃ s, s ∈ S ∧ (g ∈ bridgeFl P s ∨ g ∈ routeFl S P s) := by
 rcases comp_in.1 h with h | ⟨p, hp, h⟩ | ⟨s, hs, h⟩
 ·simp [tunnelFl] at h
  rcases h with rfl | rfl <;> exact absurd ht (by simp)
 ·rcases port_in h with rfl | rfl | rfl | rfl | rfl | rfl
  ·exact absurd ht (by simp)
  ·exact absurd ht (by simp)
  ·exact absurd ht (by simp)
  ·exact .inl ⟨p, hp, .inl rfl⟩
  ·exact .inl ⟨p, hp, .inr rfl⟩
  ·exact absurd ht (by simp)
 ·rcases switch_in h with h | h | h | h | h
  ·rcases ask_in h with ⟨_, rfl⟩ | ⟨q, _, _, rfl⟩ <;> exact absurd ht (by simp [ansFl])
  ·rw [rule_t h] at ht; exact absurd ht (by decide)
  ·exact .inr ⟨s, hs.1, .inl h⟩
  ·exact .inr ⟨s, hs.1, .inr h⟩
  ·rw [rule_t h] at ht; exact absurd ht (by decide)
theorem in_4 (h : g ∈ comp S P A ch) (ht : g.t = 4) : ∃ s, (s ∈ S ∧ ∃ p, (p ∈ P ∧ p.c = ch) ∧ p.s = s.i) ∧ g ∈ ruleFl (acSort (rulesB A s.i false)) s.i 4 5 := by
 rcases comp_in.1 h with h | ⟨p, hp, h⟩ | ⟨s, hs, h⟩
 ·simp [tunnelFl] at h
  rcases h with rfl | rfl <;> exact absurd ht (by simp)
 ·rcases port_in h with rfl | rfl | rfl | rfl | rfl | rfl <;> exact absurd ht (by simp)
 ·rcases switch_in h with h | h | h | h | h
  ·rcases ask_in h with ⟨_, rfl⟩ | ⟨q, _, _, rfl⟩ <;> exact absurd ht (by simp [ansFl])
  ·rw [rule_t h] at ht; exact absurd ht (by decide)
  ·obtain ⟨q, _, _, _, rfl⟩ := bridge_in h; exact absurd ht (by simp)
  ·rcases (route_in h).2 with rfl | ⟨q, _, _, _, rfl⟩ <;> exact absurd ht (by simp)
  ·exact ⟨s, hs, h⟩
theorem in_5 (h : g ∈ comp S P A ch) (ht : g.t = 5) : ∃ p, (p ∈ P ∧ p.c = ch) ∧ g = ⟨5, 0, [isM 8 p.s, isM 9 p.i], [⟨5, 0, p.i⟩]⟩ := by
 rcases comp_in.1 h with h | ⟨p, hp, h⟩ | ⟨s, hs, h⟩
 ·simp [tunnelFl] at h
  rcases h with rfl | rfl <;> exact absurd ht (by simp)
 ·rcases port_in h with rfl | rfl | rfl | rfl | rfl | rfl
  ·exact absurd ht (by simp)
  ·exact absurd ht (by simp)
  ·exact absurd ht (by simp)
  ·exact absurd ht (by simp)
  ·exact absurd ht (by simp)
  ·exact ⟨p, hp, rfl⟩
 ·exfalso
  rcases switch_in h with h | h | h | h | h
  ·rcases ask_in h with ⟨_, rfl⟩ | ⟨q, _, _, rfl⟩ <;> exact absurd ht (by simp [ansFl])
  ·rw [rule_t h] at ht; exact absurd ht (by decide)
  ·obtain ⟨q, _, _, _, rfl⟩ := bridge_in h; exact absurd ht (by simp)
  ·rcases (route_in h).2 with rfl | ⟨q, _, _, _, rfl⟩ <;> exact absurd ht (by simp)
  ·rw [rule_t h] at ht; exact absurd ht (by decide)
end
end Go.Proofs.YtncdininppehkaaGreat

namespace Go.Proofs.YtncdininppehkaaGreat
open Go.RowKit
set_option linter.unusedVariables false
set_option maxRecDepth 100000
def allowB (A : List Ac) (net : Int) (inn : Bool) (a b o : Int) : Bool :=
 match bestR ((rulesB A net inn).filter (fitR a b o)) with
 | none => true
 | some r => !r.d
theorem run_rules {S : List Sw} {A : List Ac} {fs : List Fl} {T n : Int} {inn : Bool} (hA : acsMay S A = true) (hT : T ≤ 7) {i d sc k a b t o u : Int} {out : List Sn} {net : Int}
  (hF : WF (pkF i d sc k a b t o net u)) (hin : ∀ g ∈ ruleFl (acSort (rulesB A net inn)) net T n, g ∈ fs) (hout : ∀ g ∈ fs, g.t = T → ∃ s : Int, g ∈ ruleFl (acSort (rulesB A s inn)) s T n) (m : Nat) :
  runN fs (m + 1) ⟨pkF i d sc k a b t o net u, T, out⟩ = runN fs m ⟨pkF i d sc k a b t o net u, if allowB A net inn a b o = true then n else 8, out⟩ := by
 have hR : ∀ r ∈ acSort (rulesB A net inn), ((0 ≤ r.sb ∧ r.sb ≤ 16) ∧ 0 ≤ r.db ∧ r.db ≤ 16) ∧ highB r.src r.sb = true ∧ highB r.dst r.db = true := fun r hr => by
  have hr' : r ∈ A := (List.mem_filter.1 ((acSortN_mem _ _).1 hr)).1
  have h2 := ((ac_all hA).2 r hr').2.1
  rw [Bool.and_eq_true] at h2
  exact ⟨ac_bits hA r hr', h2.1, h2.2⟩
 have hfit : ∀ j, j < (acSort (rulesB A net inn)).length → fitsB (pkF i d sc k a b t o net u) (ruleAt (acSort (rulesB A net inn)) net T n j).ms = fitR a b o ((acSort (rulesB A net inn)).getD j ac0) := fun j hj => by
  have h := hR _ (getD_mm (d := ac0) hj)
  simp only [ruleAt]
  rw [fits_rule hF h.1.1.1 h.1.1.2 h.1.2.1 h.1.2.2 h.2.1 h.2.2, fits_is hF, fits_nil]
  simp
 have hnet : ∀ g ∈ fs, fitB (pkF i d sc k a b t o net u) T g = true → g = ⟨T, 0, [isM 8 net], [gotoD n]⟩ ∨ ∃ j, j < (acSort (rulesB A net inn)).length ∧ g = ruleAt (acSort (rulesB A net inn)) net T n j ∧ fitR a b o ((acSort (rulesB A net inn)).getD j ac0) = true := fun g hg hf => by
  obtain ⟨s, hs⟩ := hout g hg (fit_t hf).1
  have hz := (fit_t hf).2
  have e : s = net := by
   rcases rule_in hs with rfl | ⟨j, hj, rfl⟩
   ·rw [fits_is hF] at hz
    simp at hz
    exact hz.1.symm
   ·simp only [ruleAt] at hz
    rw [fits_app, fits_is hF] at hz
    simp at hz
    exact hz.2.1.symm
  subst e
  rcases rule_in hs with h | ⟨j, hj, rfl⟩
  ·exact .inl h
  ·rw [hfit j hj] at hz
   exact .inr ⟨j, hj, rfl, hz⟩
 unfold allowB
 rw [← find_acSort]
 generalize hRR : acSort (rulesB A net inn) = R at *
 cases hfd : R.find? (fitR a b o) with
 | none =>
  simp only [if_true]
  have hno := List.find?_eq_none.1 hfd
  refine runN_is (f := ⟨T, 0, [isM 8 net], [gotoD n]⟩) hT (hin _ (by simp [ruleFl])) ?_ ?_
  ·unfold fitB
   rw [fits_is hF, fits_nil]
   simp
  ·intro g hg hf
   rcases hnet g hg hf with rfl | ⟨j, hj, rfl, hj2⟩
   ·exact .inr rfl
   ·exact absurd hj2 (by simpa using hno _ (getD_mm hj))
 | some r =>
  obtain ⟨hr, L, R', e, hL⟩ := List.find?_eq_some_iff_append.1 hfd
  have hlen : L.length < R.length := by rw [e]; simp
  have hget : R.getD L.length ac0 = r := by rw [e]; simp
  have hstep : (ruleAt R net T n L.length).ds.foldl step ⟨pkF i d sc k a b t o net u, 8, out⟩ = ⟨pkF i d sc k a b t o net u, if (!r.d) = true then n else 8, out⟩ := by
   simp only [ruleAt, hget]
   cases r.d <;> simp [step, gotoD]
  rw [← hstep]
  refine runN_is (f := ruleAt R net T n L.length) hT (hin _ ?_) ?_ ?_
  ·unfold ruleFl
   exact List.mem_cons_of_mem _ (List.mem_map.2 ⟨_, List.mem_range.2 hlen, rfl⟩)
  ·unfold fitB
   rw [hfit _ hlen, hget, hr]
   simp [ruleAt]
  ·intro g hg hf
   rcases hnet g hg hf with rfl | ⟨j, hj, rfl, hj2⟩
   ·refine .inl ?_
    simp only [ruleAt]; omega
   ·rcases Nat.lt_trichotomy j L.length with h | h | h
    ·exfalso
     have hm : R.getD j ac0 ∈ L := by
      rw [e, List.getD_eq_getElem?_getD, List.getElem?_append_left h, List.getElem?_eq_getElem h]
      exact List.getElem_mem h
     have := hL _ hm
     rw [hj2] at this
     exact absurd this (by decide)
    ·subst h; exact .inr rfl
    ·refine .inl ?_
     simp only [ruleAt]; omega
end Go.Proofs.YtncdininppehkaaGreat

namespace Go.Proofs.YtncdininppehkaaGreat
open Go.RowKit
set_option linter.unusedVariables false
set_option maxRecDepth 100000
theorem fit_sent {i d s k a b t o n u : Int} (hF : WF (pkF i d s k a b t o n u)) (p : Pr) (l : List Mt) : fitsB (pkF i d s k a b t o n u) (sentMs p ++ l) = ((i == p.i && (n == 0 && (u == 0 && (s == p.m && a == p.p)))) && fitsB (pkF i d s k a b t o n u) l) := by
 rw [fits_app]
 congr 1
 unfold sentMs
 rw [fits_is hF, fits_is hF, fits_is hF, fits_is hF, fits_is hF, fits_nil]
 simp
theorem fit_data {i d s k a b t o n u : Int} (hF : WF (pkF i d s k a b t o n u)) (l : List Mt) : fitsB (pkF i d s k a b t o n u) (dataMs ++ l) = ((k == 3 && decide (t ≤ 255)) && fitsB (pkF i d s k a b t o n u) l) := by
 rw [fits_app]
 congr 1
 unfold dataMs
 rw [fits_is hF, fits_ttl hF, fits_nil]
 simp
theorem fit_bare {i d s k a b t o n u : Int} (hF : WF (pkF i d s k a b t o n u)) (x : Int) (l : List Mt) : fitsB (pkF i d s k a b t o n u) (bareMs x ++ l) = ((k == x && (t == 0 && o == 0)) && fitsB (pkF i d s k a b t o n u) l) := by
 rw [fits_app]
 congr 1
 unfold bareMs
 rw [fits_is hF, fits_is hF, fits_is hF, fits_nil]
 simp
def comesB (P : List Pr) (A : List Ac) (ch k a b o n u : Int) : Bool := P.any (fun p => p.c == ch && (p.s == n && p.i == u)) && (k == 2 || k == 3 && allowB A n false a b o)
section
variable {S : List Sw} {P : List Pr} {A : List Ac} {ch : Int} {fs : List Fl}
theorem run_out (hfs : ∀ g, g ∈ fs ↔ g ∈ comp S P A ch) {i d sc k a b t o n u : Int} (hF : WF (pkF i d sc k a b t o n u)) (m : Nat) :
  (runN fs (m + 2) ⟨pkF i d sc k a b t o n u, 5, []⟩).out = if P.any (fun p => p.c == ch && (p.s == n && p.i == u)) = true then [⟨5, u, pkF i d sc k a b t o n u⟩] else [] := by
 have hfit : ∀ p : Pr, fitsB (pkF i d sc k a b t o n u) [isM 8 p.s, isM 9 p.i] = (n == p.s && u == p.i) := fun p => by
  rw [fits_is hF, fits_is hF, fits_nil]; simp
 by_cases h : P.any (fun p => p.c == ch && (p.s == n && p.i == u)) = true
 ·rw [if_pos h]
  rw [List.any_eq_true] at h
  obtain ⟨p, hp, h⟩ := h
  simp at h
  obtain ⟨h1, h2, h3⟩ := h
  rw [runN_is (f := ⟨5, 0, [isM 8 p.s, isM 9 p.i], [⟨5, 0, p.i⟩]⟩) (by simp) ((hfs _).2 (comp_in.2 (.inr (.inl ⟨p, ⟨hp, h1⟩, by simp [portFl]⟩)))) (by unfold fitB; rw [hfit]; simp [h2, h3]) ?_]
  ·simp [step, runN, h3]
  ·intro g hg hf
   obtain ⟨q, hq, rfl⟩ := in_5 ((hfs g).1 hg) (fit_t hf).1
   have := (fit_t hf).2
   rw [hfit] at this
   simp at this
   refine .inr ?_
   rw [← this.2, h3]
 ·rw [if_neg h]
  refine runN_no (by omega) (by simp) fun g hg => ?_
  cases hf : fitB (pkF i d sc k a b t o n u) 5 g with
  | false => rfl
  | true =>
   exfalso
   obtain ⟨q, hq, rfl⟩ := in_5 ((hfs g).1 hg) (fit_t hf).1
   have := (fit_t hf).2
   rw [hfit] at this
   simp at this
   exact h (List.any_eq_true.2 ⟨q, hq.1, by simp [hq.2, this.1, this.2]⟩)
theorem ran_tunnel (hm : may S P A = true) (hfs : ∀ g, g ∈ fs ↔ g ∈ comp S P A ch) {d sc k a b t o n u : Int} (hF : WF (pkF 0 d sc k a b t o n u)) (hk : k = 1 ∨ k = 2 ∨ k = 3) (ht : t ≤ 255) (hb : k ≠ 3 → t = 0 ∧ o = 0) :
  ran fs (pkF 0 d sc k a b t o n u) = if comesB P A ch k a b o n u = true then [⟨5, u, pkF 0 d sc k a b t o n u⟩] else [] := by
 have hm' := hm
 unfold may at hm'
 rw [Bool.and_eq_true, Bool.and_eq_true] at hm'
 obtain ⟨⟨hS, hP⟩, hA⟩ := hm'
 have hpr := (pr_all hS hP).2
 have h0 : ∀ g ∈ fs, fitB (pkF 0 d sc k a b t o n u) 0 g = true → (g = ⟨0, 0, dataMs ++ [isM 0 0], [gotoD 4]⟩ ∧ k = 3) ∨ (g = ⟨0, 0, bareMs 2 ++ [isM 0 0], [gotoD 5]⟩ ∧ k = 2) := fun g hg hf => by
  have hz := (fit_t hf).2
  rcases in_0 ((hfs g).1 hg) (fit_t hf).1 with rfl | rfl | ⟨p, hp, rfl | rfl⟩
  ·rw [fit_data hF] at hz; simp at hz; exact .inl ⟨rfl, hz.1.1⟩
  ·rw [fit_bare hF] at hz; simp at hz; exact .inr ⟨rfl, hz.1.1⟩
  ·rw [fit_sent hF] at hz; simp at hz
   have := (hpr p hp.1).1; omega
  ·rw [fit_sent hF] at hz; simp at hz
   have := (hpr p hp.1).1; omega
 unfold ran comesB
 rcases hk with rfl | rfl | rfl
 ·rw [runN_no (by decide) (by simp)]
  ·simp
  ·intro g hg
   cases hf : fitB (pkF 0 d sc 1 a b t o n u) 0 g with
   | false => rfl
   | true => rcases h0 g hg hf with ⟨_, h⟩ | ⟨_, h⟩ <;> exact absurd h (by decide)
 ·obtain ⟨rfl, rfl⟩ := hb (by decide)
  rw [runN_is (n := 7) (f := ⟨0, 0, bareMs 2 ++ [isM 0 0], [gotoD 5]⟩) (by simp) ((hfs _).2 (comp_in.2 (.inl (by simp [tunnelFl])))) (by unfold fitB; rw [fit_bare hF, fits_is hF, fits_nil]; simp) (fun g hg hf => ?_)]
  ·rw [show ([gotoD 5] : List Do).foldl step ⟨pkF 0 d sc 2 a b 0 0 n u, 8, []⟩ = ⟨pkF 0 d sc 2 a b 0 0 n u, 5, []⟩ by simp [step, gotoD]]
   rw [run_out hfs hF 5]
   simp
  ·rcases h0 g hg hf with ⟨_, h⟩ | ⟨rfl, h⟩
   ·exact absurd h (by decide)
   ·exact .inr rfl
 ·rw [runN_is (n := 7) (f := ⟨0, 0, dataMs ++ [isM 0 0], [gotoD 4]⟩) (by simp) ((hfs _).2 (comp_in.2 (.inl (by simp [tunnelFl])))) (by unfold fitB; rw [fit_data hF, fits_is hF, fits_nil]; simp [ht]) (fun g hg hf => ?_)]
  ·rw [show ([gotoD 4] : List Do).foldl step ⟨pkF 0 d sc 3 a b t o n u, 8, []⟩ = ⟨pkF 0 d sc 3 a b t o n u, 4, []⟩ by simp [step, gotoD]]
   by_cases hl : ∃ s, (s ∈ S ∧ ∃ p, (p ∈ P ∧ p.c = ch) ∧ p.s = s.i) ∧ s.i = n
   ·obtain ⟨s, hs, rfl⟩ := hl
    rw [run_rules (n := 5) (inn := false) hA (by decide) hF (fun g hg => (hfs g).2 (comp_in.2 (.inr (.inr ⟨s, hs, by simp [switchFl, hg]⟩)))) (fun g hg ht => by obtain ⟨s', _, h⟩ := in_4 ((hfs g).1 hg) ht; exact ⟨s'.i, h⟩) 6]
    by_cases ha : allowB A s.i false a b o = true
    ·rw [if_pos ha, run_out hfs hF 4]
     simp [ha]
    ·rw [if_neg ha, runN_end _ _ (by simp)]
     simp [ha]
   ·rw [runN_no (by decide) (by simp)]
    ·rw [if_neg]
     intro h
     rw [Bool.and_eq_true] at h
     obtain ⟨p, hp, hq⟩ := List.any_eq_true.1 h.1
     simp at hq
     obtain ⟨s, hs, e⟩ := port_sw hP hp
     exact hl ⟨s, ⟨hs, p, ⟨hp, hq.1⟩, e.symm⟩, by rw [e]; exact hq.2.1⟩
    ·intro g hg
     cases hf : fitB (pkF 0 d sc 3 a b t o n u) 4 g with
     | false => rfl
     | true =>
      exfalso
      obtain ⟨s, hs, h⟩ := in_4 ((hfs g).1 hg) (fit_t hf).1
      have hz := (fit_t hf).2
      refine hl ⟨s, hs, ?_⟩
      rcases rule_in h with rfl | ⟨j, hj, rfl⟩
      ·rw [fits_is hF] at hz
       simp at hz
       exact hz.1.symm
      ·simp only [ruleAt] at hz
       rw [fits_app, fits_is hF] at hz
       simp at hz
       exact hz.2.1.symm
  ·rcases h0 g hg hf with ⟨rfl, h⟩ | ⟨_, h⟩
   ·exact .inr rfl
   ·exact absurd h (by decide)
end
end Go.Proofs.YtncdininppehkaaGreat

namespace Go.Proofs.YtncdininppehkaaGreat
open Go.RowKit
set_option linter.unusedVariables false
set_option maxRecDepth 100000
structure Gl where
 n : Int
 u : Int
 c : Int
 f : List Int
def snOf (i : Int) (g : Gl) : Sn := ⟨6, g.c, i :: (g.f ++ [g.n, g.u])⟩
def swOf (S : List Sw) (id : Int) : Sw := (S.find? (fun s => s.i == id)).getD sw0
def ledA (P : List Pr) (s : Sw) (id ch m ip b : Int) : List Gl :=
 ((if s.g ≠ 0 ∧ b = s.g then [60000 + s.i] else []) ++ (P.filter (fun q => q.s == s.i && (!(q.i == id) && q.p == b))).map (fun q => q.m)).map fun mac => ⟨s.i, id, ch, [m, mac, 2, b, ip, 0, 0]⟩
def brG (s : Sw) (f : List Int) (q : Pr) : Gl := ⟨s.i, q.i, q.c, f⟩
def rtG (a b t o : Int) (q : Pr) : Gl := ⟨q.s, q.i, q.c, [q.m, 60000 + q.s, 3, a, b, t - 1, o]⟩
def brB (s : Sw) (id d : Int) (q : Pr) : Bool := somewhereB q && ((q.s == s.i && !(q.i == id)) && (d == 65535 || d == q.m))
def rtB (S : List Sw) (s : Sw) (d b t : Int) (q : Pr) : Bool := somewhereB q && (decide (s.g ≠ 0 ∧ d = 60000 + s.i ∧ 1 < t) && (routedB S s.t q && q.p == b))
def ledD (S : List Sw) (P : List Pr) (s : Sw) (id d sc a b t o : Int) : List Gl :=
 (P.filter (brB s id d)).map (brG s [d, sc, 3, a, b, t, o]) ++ (P.filter (rtB S s d b t)).map (rtG a b t o)
def led (S : List Sw) (P : List Pr) (A : List Ac) (ch id d sc k a b t o : Int) : List Gl :=
 match P.find? (fun p => p.i == id) with
 | none => []
 | some p => if p.c = ch ∧ sc = p.m ∧ a = p.p then
   (if k = 1 then ledA P (swOf S p.s) id ch p.m p.p b else if k = 3 ∧ allowB A (swOf S p.s).i true a b o = true then ledD S P (swOf S p.s) id d sc a b t o else [])
  else []
theorem swOf_in {S : List Sw} {P : List Pr} (hP : prsMay S P = true) {p : Pr} (hp : p ∈ P) : swOf S p.s ∈ S ∧ (swOf S p.s).i = p.s := by
 obtain ⟨s, hs, e⟩ := port_sw hP hp
 unfold swOf
 cases h : S.find? (fun s => s.i == p.s) with
 | none => exact absurd (List.find?_eq_none.1 h s hs) (by simp [e])
 | some x => exact ⟨List.mem_of_find?_eq_some h, by simpa using List.find?_some h⟩
theorem filter_one {P : List Pr} (hp : P.Pairwise (fun a b => a.i ≠ b.i)) {f : Pr → Bool} {q : Pr} (hq : q ∈ P) (hf : f q = true) (hu : ∀ x ∈ P, f x = true → x = q) : P.filter f = [q] := by
 induction P with
 | nil => cases hq
 | cons x r ih =>
  have hp' := List.pairwise_cons.1 hp
  rcases List.mem_cons.1 hq with rfl | hq'
  ·rw [List.filter_cons_of_pos hf]
   congr 1
   rw [List.filter_eq_nil_iff]
   intro y hy hfy
   have := hu y (List.mem_cons_of_mem _ hy) hfy
   exact hp'.1 y hy (by rw [this])
  ·cases hx : f x with
   | true =>
    have := hu x (by simp) hx
    exact absurd (by rw [this]) (hp'.1 q hq')
   | false =>
    rw [List.filter_cons_of_neg (by simp [hx])]
    exact ih hp'.2 hq' (fun y hy => hu y (List.mem_cons_of_mem _ hy))
theorem filter_none {P : List Pr} {f : Pr → Bool} (h : ∀ x ∈ P, f x = false) : P.filter f = [] := by
 rw [List.filter_eq_nil_iff]; intro x hx; simp [h x hx]
theorem fold_ports (i d sc k a b t o n : Int) (l : List Pr) : ∀ (u : Int) (out : List Sn), ∃ u', (l.flatMap toPortD).foldl step ⟨pkF i d sc k a b t o n u, 8, out⟩ = ⟨pkF i d sc k a b t o n u', 8, out ++ l.map fun q => ⟨6, q.c, pkF i d sc k a b t o n q.i⟩⟩ := by
 induction l with
 | nil => intro u out; exact ⟨u, by simp⟩
 | cons q r ih =>
  intro u out
  obtain ⟨u', e⟩ := ih q.i (out ++ [⟨6, q.c, pkF i d sc k a b t o n q.i⟩])
  refine ⟨u', ?_⟩
  rw [List.flatMap_cons, List.foldl_append]
  rw [show (toPortD q).foldl step ⟨pkF i d sc k a b t o n u, 8, out⟩ = ⟨pkF i d sc k a b t o n q.i, 8, out ++ [⟨6, q.c, pkF i d sc k a b t o n q.i⟩]⟩ by simp [toPortD, step, doF]]
  rw [e]
  simp
theorem fold_route (i d sc k a b t o n u : Int) (ht : 0 < t) (q : Pr) (out : List Sn) : (routeD q ++ toPortD q).foldl step ⟨pkF i d sc k a b t o n u, 8, out⟩ = ⟨pkF i q.m (60000 + q.s) k a b (t - 1) o q.s q.i, 8, out ++ [⟨6, q.c, pkF i q.m (60000 + q.s) k a b (t - 1) o q.s q.i⟩]⟩ := by
 simp [routeD, toPortD, step, doF, ht]
theorem fold_answer (i d sc k a b t o n u ip mac ch : Int) (out : List Sn) : (answerD ip mac ch).foldl step ⟨pkF i d sc k a b t o n u, 8, out⟩ = ⟨pkF i sc mac 2 ip a t o n i, 8, out ++ [⟨6, ch, pkF i sc mac 2 ip a t o n i⟩]⟩ := by
 simp [answerD, step, doF]
section
variable {S : List Sw} {P : List Pr} {A : List Ac} {ch : Int} {fs : List Fl}
theorem in_0p (hP : ∀ p ∈ P, PrIn p) (hfs : ∀ g, g ∈ fs ↔ g ∈ comp S P A ch) {i d sc k a b t o n u : Int} (hi : 1 ≤ i) (hF : WF (pkF i d sc k a b t o n u)) {g : Fl} (hg : g ∈ fs) (hf : fitB (pkF i d sc k a b t o n u) 0 g = true) :
  ∃ p, (p ∈ P ∧ p.c = ch) ∧ (i = p.i ∧ sc = p.m ∧ a = p.p) ∧ ((k = 3 ∧ g = ⟨0, 0, sentMs p ++ dataMs, [⟨1, 8, p.s⟩, gotoD 2]⟩) ∨ (k = 1 ∧ g = ⟨0, 0, sentMs p ++ bareMs 1, [⟨1, 8, p.s⟩, gotoD 1]⟩)) := by
 have hz := (fit_t hf).2
 rcases in_0 ((hfs g).1 hg) (fit_t hf).1 with rfl | rfl | ⟨p, hp, rfl | rfl⟩
 ·exfalso; rw [fit_data hF, fits_is hF] at hz; simp at hz; omega
 ·exfalso; rw [fit_bare hF, fits_is hF] at hz; simp at hz; omega
 ·have h2 := fit_data hF []
  rw [List.append_nil, fits_nil] at h2
  rw [fit_sent hF, h2] at hz; simp at hz
  exact ⟨p, hp, ⟨hz.1.1, hz.1.2.2.2.1, hz.1.2.2.2.2⟩, .inl ⟨hz.2.1, rfl⟩⟩
 ·have h2 := fit_bare hF 1 []
  rw [List.append_nil, fits_nil] at h2
  rw [fit_sent hF, h2] at hz; simp at hz
  exact ⟨p, hp, ⟨hz.1.1, hz.1.2.2.2.1, hz.1.2.2.2.2⟩, .inr ⟨hz.2.1, rfl⟩⟩
theorem ran_none (hP : ∀ p ∈ P, PrIn p) (hfs : ∀ g, g ∈ fs ↔ g ∈ comp S P A ch) {i d sc k a b t o n u : Int} (hi : 1 ≤ i) (hF : WF (pkF i d sc k a b t o n u)) (h : ∀ p ∈ P, p.c = ch → i = p.i → sc = p.m → a = p.p → k ≠ 3 ∧ k ≠ 1) : ran fs (pkF i d sc k a b t o n u) = [] := by
 unfold ran
 refine runN_no (by decide) (by simp) fun g hg => ?_
 cases hf : fitB (pkF i d sc k a b t o n u) 0 g with
 | false => rfl
 | true =>
  exfalso
  obtain ⟨p, hp, he, hk⟩ := in_0p hP hfs hi hF hg hf
  have := h p hp.1 hp.2 he.1 he.2.1 he.2.2
  rcases hk with ⟨hk, _⟩ | ⟨hk, _⟩
  ·exact this.1 hk
  ·exact this.2 hk
theorem ran_ask (hS : swsMay S = true) (hP : prsMay S P = true) (hfs : ∀ g, g ∈ fs ↔ g ∈ comp S P A ch) {p : Pr} (hp : p ∈ P) (hc : p.c = ch) {s : Sw} (hs : s ∈ S) (hsi : s.i = p.s) {d b : Int} (hF : WF (pkF p.i d p.m 1 p.p b 0 0 0 0)) (hF2 : WF (pkF p.i d p.m 1 p.p b 0 0 s.i 0)) :
  ran fs (pkF p.i d p.m 1 p.p b 0 0 0 0) = (ledA P s p.i ch p.m p.p b).map (snOf p.i) := by
 have hin : ∀ q ∈ P, PrIn q := (pr_all hS hP).2
 have hp1 := (hin p hp).1
 unfold ran
 rw [runN_is (n := 7) (f := ⟨0, 0, sentMs p ++ bareMs 1, [⟨1, 8, p.s⟩, gotoD 1]⟩) (by simp) ((hfs _).2 (comp_in.2 (.inr (.inl ⟨p, ⟨hp, hc⟩, by simp [portFl]⟩)))) ?_ ?_]
 rotate_left
 ·have h2 := fit_bare hF 1 []
  rw [List.append_nil, fits_nil] at h2
  unfold fitB
  rw [fit_sent hF, h2]; simp
 ·intro g hg hf
  obtain ⟨q, hq, he, hk⟩ := in_0p hin hfs (by omega) hF hg hf
  obtain rfl := port_once hP hp hq.1 he.1
  rcases hk with ⟨hk, _⟩ | ⟨_, rfl⟩
  ·exact absurd hk (by decide)
  ·exact .inr rfl
 rw [show ([⟨1, 8, p.s⟩, gotoD 1] : List Do).foldl step ⟨pkF p.i d p.m 1 p.p b 0 0 0 0, 8, []⟩ = ⟨pkF p.i d p.m 1 p.p b 0 0 s.i 0, 1, []⟩ by simp [step, gotoD, doF, hsi]]
 have hfa : ∀ x ip mac : Int, fitsB (pkF p.i d p.m 1 p.p b 0 0 s.i 0) (ansFl x ip mac ch).ms = (s.i == x && b == ip) := fun x ip mac => by
  simp only [ansFl]
  rw [fits_is hF2, fits_is hF2, fits_nil]; simp
 have hfi : ∀ q : Pr, fitsB (pkF p.i d p.m 1 p.p b 0 0 s.i 0) [isM 0 q.i, isM 5 q.p] = (p.i == q.i && b == q.p) := fun q => by
  rw [fits_is hF2, fits_is hF2, fits_nil]; simp
 have hall : ∀ g ∈ fs, fitB (pkF p.i d p.m 1 p.p b 0 0 s.i 0) 1 g = true → (b = p.p ∧ g = ⟨1, 1, [isM 0 p.i, isM 5 p.p], []⟩) ∨ ((s.g ≠ 0 ∧ b = s.g) ∧ g = ansFl s.i s.g (60000 + s.i) ch) ∨ ∃ q, (q ∈ P ∧ q.s = s.i ∧ b = q.p) ∧ g = ansFl s.i q.p q.m ch := fun g hg hf => by
  have hz := (fit_t hf).2
  rcases in_1 ((hfs g).1 hg) (fit_t hf).1 with ⟨q, hq, rfl⟩ | ⟨x, hx, ⟨hx0, rfl⟩ | ⟨q, hq, hqs, rfl⟩⟩
  ·rw [hfi] at hz; simp at hz
   obtain rfl := port_once hP hp hq.1 hz.1
   exact .inl ⟨hz.2, rfl⟩
  ·rw [hfa] at hz; simp at hz
   obtain rfl := sw_once hS hs hx hz.1
   exact .inr (.inl ⟨⟨hx0, hz.2⟩, rfl⟩)
  ·rw [hfa] at hz; simp at hz
   exact .inr (.inr ⟨q, ⟨hq, by rw [hqs, hz.1], hz.2⟩, by rw [hz.1]⟩)
 have hsw : ∀ g, g ∈ askFl P s ch → g ∈ fs := fun g hg => (hfs g).2 (comp_in.2 (.inr (.inr ⟨s, ⟨hs, p, ⟨hp, hc⟩, hsi.symm⟩, by simp [switchFl, hg]⟩)))
 have htn : tn S p.s = s.t := by rw [← hsi]; exact sw_tn hS hs
 by_cases hbp : b = p.p
 ·rw [runN_is (n := 6) (f := ⟨1, 1, [isM 0 p.i, isM 5 p.p], []⟩) (by simp) ((hfs _).2 (comp_in.2 (.inr (.inl ⟨p, ⟨hp, hc⟩, by simp [portFl]⟩)))) (by unfold fitB; rw [hfi]; simp [hbp]) ?_]
  ·rw [List.foldl_nil, runN_end _ _ (by simp)]
   unfold ledA
   rw [if_neg (fun h => gate_ip hS hP hs hp htn (by rw [← h.2]; exact hbp)), filter_none]
   ·rfl
   ·intro q hq
    cases hx : (q.s == s.i && (!(q.i == p.i) && q.p == b)) with
    | false => rfl
    | true =>
     simp at hx
     obtain rfl := ip_once hS hP hq hp (by rw [hx.1, hsi]) (by rw [hx.2.2, hbp])
     exact absurd rfl hx.2.1
  ·intro g hg hf
   rcases hall g hg hf with ⟨_, rfl⟩ | ⟨_, rfl⟩ | ⟨q, _, rfl⟩
   ·exact .inr rfl
   ·exact .inl (by simp [ansFl])
   ·exact .inl (by simp [ansFl])
 ·by_cases hg : s.g ≠ 0 ∧ b = s.g
  ·rw [runN_is (n := 6) (f := ansFl s.i s.g (60000 + s.i) ch) (by simp) (hsw _ (by simp [askFl, hg.1])) (by unfold fitB; rw [hfa]; simp [ansFl, hg.2]) ?_]
   ·rw [show (ansFl s.i s.g (60000 + s.i) ch).ds = answerD s.g (60000 + s.i) ch from rfl, fold_answer, runN_end _ _ (by simp)]
    unfold ledA
    rw [if_pos hg, filter_none]
    ·simp [snOf, hg.2]
    ·intro q hq
     cases hx : (q.s == s.i && (!(q.i == p.i) && q.p == b)) with
     | false => rfl
     | true =>
      simp at hx
      exact absurd (by rw [hx.2.2, hg.2]) (gate_ip hS hP hs hq (by rw [hx.1, hsi]; exact htn))
   ·intro x hx hf
    rcases hall x hx hf with ⟨h, _⟩ | ⟨_, rfl⟩ | ⟨q, hq, rfl⟩
    ·exact absurd h hbp
    ·exact .inr rfl
    ·exact absurd (by rw [← hg.2, hq.2.2]) (gate_ip hS hP hs hq.1 (by rw [hq.2.1, hsi]; exact htn))
  ·unfold ledA
   rw [if_neg hg, List.nil_append]
   by_cases hq : ∃ q ∈ P, q.s = s.i ∧ b = q.p
   ·obtain ⟨q, hq, hqs, hqb⟩ := hq
    have hne : q.i ≠ p.i := fun e => by
     obtain rfl := port_once hP hq hp e
     exact hbp hqb
    rw [filter_one (prs_pair hP) hq (by simp [hqs, hqb, hne]) (fun x hx hx2 => by simp at hx2; exact ip_once hS hP hx hq (by rw [hx2.1, hqs]) (by rw [hx2.2.2, hqb]))]
    rw [runN_is (n := 6) (f := ansFl s.i q.p q.m ch) (by simp) (hsw _ ?_) (by unfold fitB; rw [hfa]; simp [ansFl, hqb]) ?_]
    ·rw [show (ansFl s.i q.p q.m ch).ds = answerD q.p q.m ch from rfl, fold_answer, runN_end _ _ (by simp)]
     simp [snOf, hqb]
    ·unfold askFl
     refine List.mem_append_right _ (List.mem_map.2 ⟨q, List.mem_filter.2 ⟨hq, by simp [isOfB, hqs]⟩, rfl⟩)
    ·intro x hx hf
     rcases hall x hx hf with ⟨h, _⟩ | ⟨h, rfl⟩ | ⟨y, hy, rfl⟩
     ·exact absurd h hbp
     ·exact absurd h hg
     ·obtain rfl := ip_once hS hP hy.1 hq (by rw [hy.2.1, hqs]) (by rw [← hy.2.2, hqb])
      exact .inr rfl
   ·rw [filter_none, runN_no (by decide) (by simp)]
    ·rfl
    ·intro g hg' 
     cases hf : fitB (pkF p.i d p.m 1 p.p b 0 0 s.i 0) 1 g with
     | false => rfl
     | true =>
      exfalso
      rcases hall g hg' hf with ⟨h, _⟩ | ⟨h, rfl⟩ | ⟨y, hy, rfl⟩
      ·exact hbp h
      ·exact hg h
      ·exact hq ⟨y, hy.1, hy.2.1, hy.2.2⟩
    ·intro q hq'
     cases hx : (q.s == s.i && (!(q.i == p.i) && q.p == b)) with
     | false => rfl
     | true =>
      simp at hx
      exact absurd ⟨q, hq', hx.1, hx.2.2.symm⟩ hq
end
end Go.Proofs.YtncdininppehkaaGreat

namespace Go.Proofs.YtncdininppehkaaGreat
open Go.RowKit
set_option linter.unusedVariables false
set_option maxRecDepth 100000
section
variable {S : List Sw} {P : List Pr} {A : List Ac} {ch : Int} {fs : List Fl}
theorem routed_tn (hS : swsMay S = true) {q : Pr} {t : Int} (h : routedB S t q = true) : tn S q.s = t := by
 unfold routedB at h
 obtain ⟨s, hs, e⟩ := List.any_eq_true.1 h
 simp at e
 rw [← e.1.1, sw_tn hS hs]; exact e.1.2
theorem in_3f (hS : swsMay S = true) (hP : prsMay S P = true) (hfs : ∀ g, g ∈ fs ↔ g ∈ comp S P A ch) {p : Pr} (hp : p ∈ P) {s : Sw} (hs : s ∈ S) {d sc a b t o : Int} (hF : WF (pkF p.i d sc 3 a b t o s.i 0)) {g : Fl} (hg : g ∈ fs) (hf : fitB (pkF p.i d sc 3 a b t o s.i 0) 3 g = true) :
  (d = p.m ∧ g = ⟨3, 1, [isM 0 p.i, isM 1 p.m], []⟩) ∨ (d = 65535 ∧ g = ⟨3, 0, [isM 0 p.i, isM 1 65535], (P.filter (othersB p)).flatMap toPortD⟩) ∨
  (∃ q, (q ∈ P ∧ q.s = s.i ∧ q.c ≠ -1) ∧ d = q.m ∧ g = ⟨3, 0, [isM 8 s.i, isM 1 q.m], toPortD q⟩) ∨ ((s.g ≠ 0 ∧ d = 60000 + s.i ∧ t ≤ 1) ∧ g = ⟨3, 1, routerMs s ++ [⟨6, 65534, 0⟩], []⟩) ∨
  (∃ q, (q ∈ P ∧ routedB S s.t q = true ∧ q.c ≠ -1) ∧ (s.g ≠ 0 ∧ d = 60000 + s.i ∧ b = q.p) ∧ g = ⟨3, 0, routerMs s ++ [isM 5 q.p], routeD q ++ toPortD q⟩) := by
 have hz := (fit_t hf).2
 rcases in_3 ((hfs g).1 hg) (fit_t hf).1 with ⟨q, hq, rfl | rfl⟩ | ⟨x, hx, h | h⟩
 ·simp only at hz
  rw [fits_is hF, fits_is hF, fits_nil] at hz; simp at hz
  obtain rfl := port_once hP hp hq.1 hz.1
  exact .inl ⟨hz.2, rfl⟩
 ·simp only at hz
  rw [fits_is hF, fits_is hF, fits_nil] at hz; simp at hz
  obtain rfl := port_once hP hp hq.1 hz.1
  exact .inr (.inl ⟨hz.2, rfl⟩)
 ·obtain ⟨q, hq, hqs, hqc, rfl⟩ := bridge_in h
  simp only at hz
  rw [fits_is hF, fits_is hF, fits_nil] at hz; simp at hz
  exact .inr (.inr (.inl ⟨q, ⟨hq, by rw [hqs, hz.1], hqc⟩, hz.2, by rw [hz.1]⟩))
 ·obtain ⟨hx0, rfl | ⟨q, hq, hqr, hqc, rfl⟩⟩ := route_in h
  ·simp only [routerMs, List.cons_append, List.nil_append] at hz
   rw [fits_is hF, fits_is hF, fits_spent hF, fits_nil] at hz; simp at hz
   obtain rfl := sw_once hS hs hx hz.1
   exact .inr (.inr (.inr (.inl ⟨⟨hx0, hz.2.1, hz.2.2⟩, rfl⟩)))
  ·simp only [routerMs, List.cons_append, List.nil_append] at hz
   rw [fits_is hF, fits_is hF, fits_is hF, fits_nil] at hz; simp at hz
   obtain rfl := sw_once hS hs hx hz.1
   exact .inr (.inr (.inr (.inr ⟨q, ⟨hq, hqr, hqc⟩, ⟨hx0, hz.2.1, hz.2.2⟩, rfl⟩)))
theorem run_lead (hS : swsMay S = true) (hP : prsMay S P = true) (hfs : ∀ g, g ∈ fs ↔ g ∈ comp S P A ch) {p : Pr} (hp : p ∈ P) (hc : p.c = ch) {s : Sw} (hs : s ∈ S) (hsi : s.i = p.s) {d sc a b t o : Int} (hF : WF (pkF p.i d sc 3 a b t o s.i 0)) (m : Nat) :
  (runN fs (m + 2) ⟨pkF p.i d sc 3 a b t o s.i 0, 3, []⟩).out = (ledD S P s p.i d sc a b t o).map (snOf p.i) := by
 have hin : ∀ q ∈ P, PrIn q := (pr_all hS hP).2
 have hpi := hin p hp
 have hsin := (sw_all hS).2 s hs
 have hall := fun g hg hf => in_3f (g := g) hS hP hfs hp hs hF hg hf
 have hport : ∀ g, g ∈ portFl P p → g ∈ fs := fun g hg => (hfs g).2 (comp_in.2 (.inr (.inl ⟨p, ⟨hp, hc⟩, hg⟩)))
 have hsw : ∀ g, g ∈ bridgeFl P s ∨ g ∈ routeFl S P s → g ∈ fs := fun g hg => (hfs g).2 (comp_in.2 (.inr (.inr ⟨s, ⟨hs, p, ⟨hp, hc⟩, hsi.symm⟩, by rcases hg with hg | hg <;> simp [switchFl, hg]⟩)))
 have htt := hF.bd 6
 simp at htt
 unfold ledD
 by_cases hd : d = 65535
 ·subst hd
  have h2 : P.filter (rtB S s 65535 b t) = [] := filter_none fun q hq => by
   have : ¬ (s.g ≠ 0 ∧ (65535 : Int) = 60000 + s.i ∧ 1 < t) := fun h => by omega
   simp only [rtB, decide_eq_false this]; simp
  have h1 : P.filter (brB s p.i 65535) = P.filter (othersB p) := by
   refine List.filter_congr fun q hq => ?_
   unfold brB othersB
   rw [hsi]; simp [Bool.and_comm]
  rw [h1, h2, List.map_nil, List.append_nil]
  rw [runN_is (n := m + 1) (f := ⟨3, 0, [isM 0 p.i, isM 1 65535], (P.filter (othersB p)).flatMap toPortD⟩) (by simp) (hport _ (by simp [portFl])) (by unfold fitB; rw [fits_is hF, fits_is hF, fits_nil]; simp) ?_]
  ·obtain ⟨u', e⟩ := fold_ports p.i 65535 sc 3 a b t o s.i (P.filter (othersB p)) 0 []
   rw [e, runN_end _ _ (by simp)]
   simp [snOf, brG, List.map_map, Function.comp_def]
  ·intro g hg hf
   rcases hall g hg hf with ⟨h, _⟩ | ⟨_, rfl⟩ | ⟨q, hq, h, _⟩ | ⟨h, _⟩ | ⟨q, _, h, _⟩
   ·have := hpi.2.2.1; omega
   ·exact .inr rfl
   ·have := (hin q hq.1).2.2.1; omega
   ·omega
   ·omega
 ·by_cases hm : d = p.m
  ·subst hm
   have h1 : P.filter (brB s p.i p.m) = [] := filter_none fun q hq => by
    cases hx : brB s p.i p.m q with
    | false => rfl
    | true =>
     unfold brB at hx
     simp at hx
     rcases hx.2.2 with h | h
     ·exact absurd h hd
     ·obtain rfl := mac_once hP hp hq (by rw [hx.2.1.1, hsi]) h
      exact absurd rfl hx.2.1.2
   have h2 : P.filter (rtB S s p.m b t) = [] := filter_none fun q hq => by
    have : ¬ (s.g ≠ 0 ∧ p.m = 60000 + s.i ∧ 1 < t) := fun h => by have := hpi.2.2.1; omega
    simp only [rtB, decide_eq_false this]; simp
   rw [h1, h2]
   rw [runN_is (n := m + 1) (f := ⟨3, 1, [isM 0 p.i, isM 1 p.m], []⟩) (by simp) (hport _ (by simp [portFl])) (by unfold fitB; rw [fits_is hF, fits_is hF, fits_nil]; simp) ?_]
   ·rw [List.foldl_nil, runN_end _ _ (by simp)]
    rfl
   ·intro g hg hf
    rcases hall g hg hf with ⟨h, rfl⟩ | ⟨h, _⟩ | ⟨q, hq, h, rfl⟩ | ⟨h, rfl⟩ | ⟨q, _, h, rfl⟩
    ·exact .inr rfl
    ·exact absurd h hd
    ·exact .inl (by simp)
    ·exact .inr rfl
    ·exact .inl (by simp)
  ·by_cases hr : s.g ≠ 0 ∧ d = 60000 + s.i
   ·obtain ⟨hr0, hr1⟩ := hr
    have h1 : P.filter (brB s p.i d) = [] := filter_none fun q hq => by
     cases hx : brB s p.i d q with
     | false => rfl
     | true =>
      unfold brB at hx
      simp at hx
      rcases hx.2.2 with h | h
      ·exact absurd h hd
      ·have := (hin q hq).2.2.1; omega
    rw [h1, List.map_nil, List.nil_append]
    by_cases ht : t ≤ 1
    ·have h2 : P.filter (rtB S s d b t) = [] := filter_none fun q hq => by
      have : ¬ (s.g ≠ 0 ∧ d = 60000 + s.i ∧ 1 < t) := fun h => by omega
      simp only [rtB, decide_eq_false this]; simp
     rw [h2]
     rw [runN_is (n := m + 1) (f := ⟨3, 1, routerMs s ++ [⟨6, 65534, 0⟩], []⟩) (by simp) (hsw _ (.inr (by simp [routeFl, hr0]))) (by unfold fitB; simp only [routerMs, List.cons_append, List.nil_append]; rw [fits_is hF, fits_is hF, fits_spent hF, fits_nil]; simp [hr1, ht]) ?_]
     ·rw [List.foldl_nil, runN_end _ _ (by simp)]
      rfl
     ·intro g hg hf
      rcases hall g hg hf with ⟨h, rfl⟩ | ⟨h, _⟩ | ⟨q, hq, h, rfl⟩ | ⟨h, rfl⟩ | ⟨q, _, h, rfl⟩
      ·exact .inr rfl
      ·exact absurd h hd
      ·exact .inl (by simp)
      ·exact .inr rfl
      ·exact .inl (by simp)
    ·have hdec : (s.g ≠ 0 ∧ d = 60000 + s.i ∧ 1 < t) := ⟨hr0, hr1, by omega⟩
     by_cases hq : ∃ q ∈ P, routedB S s.t q = true ∧ q.c ≠ -1 ∧ b = q.p
     ·obtain ⟨q, hq, hqr, hqc, hqb⟩ := hq
      have hone : P.filter (rtB S s d b t) = [q] := filter_one (prs_pair hP) hq (by simp only [rtB, decide_eq_true hdec]; simp [somewhereB, hqc, hqr, hqb]) (fun x hx hx2 => by
       unfold rtB at hx2
       simp at hx2
       exact ip_once hS hP hx hq (by rw [routed_tn hS hx2.2.2.1, routed_tn hS hqr]) (by rw [hx2.2.2.2, hqb]))
      rw [hone]
      rw [runN_is (n := m + 1) (f := ⟨3, 0, routerMs s ++ [isM 5 q.p], routeD q ++ toPortD q⟩) (by simp) (hsw _ (.inr ?_)) (by unfold fitB; simp only [routerMs, List.cons_append, List.nil_append]; rw [fits_is hF, fits_is hF, fits_is hF, fits_nil]; simp [hr1, hqb]) ?_]
      ·rw [fold_route _ _ _ _ _ _ _ _ _ _ (by omega), runN_end _ _ (by simp)]
       simp [snOf, rtG]
      ·unfold routeFl
       rw [if_neg hr0]
       exact List.mem_cons_of_mem _ (List.mem_map.2 ⟨q, List.mem_filter.2 ⟨hq, by simp [hqr, somewhereB, hqc]⟩, rfl⟩)
      ·intro g hg hf
       rcases hall g hg hf with ⟨h, rfl⟩ | ⟨h, _⟩ | ⟨x, hx, h, rfl⟩ | ⟨h, rfl⟩ | ⟨x, hx, h, rfl⟩
       ·exact absurd h hm
       ·exact absurd h hd
       ·have := (hin x hx.1).2.2.1; omega
       ·omega
       ·obtain rfl := ip_once hS hP hx.1 hq (by rw [routed_tn hS hx.2.1, routed_tn hS hqr]) (by rw [← h.2.2, hqb])
        exact .inr rfl
     ·have h2 : P.filter (rtB S s d b t) = [] := filter_none fun q hq' => by
       cases hx : rtB S s d b t q with
       | false => rfl
       | true =>
        unfold rtB at hx
        simp [somewhereB] at hx
        exact absurd ⟨q, hq', hx.2.2.1, hx.1, hx.2.2.2.symm⟩ hq
      rw [h2, runN_no (by omega) (by simp)]
      ·rfl
      ·intro g hg
       cases hf : fitB (pkF p.i d sc 3 a b t o s.i 0) 3 g with
       | false => rfl
       | true =>
        exfalso
        rcases hall g hg hf with ⟨h, rfl⟩ | ⟨h, _⟩ | ⟨x, hx, h, rfl⟩ | ⟨h, rfl⟩ | ⟨x, hx, h, rfl⟩
        ·exact hm h
        ·exact hd h
        ·have := (hin x hx.1).2.2.1; omega
        ·omega
        ·exact hq ⟨x, hx.1, hx.2.1, hx.2.2, h.2.2⟩
   ·have h2 : P.filter (rtB S s d b t) = [] := filter_none fun q hq => by
     have : ¬ (s.g ≠ 0 ∧ d = 60000 + s.i ∧ 1 < t) := fun h => hr ⟨h.1, h.2.1⟩
     simp only [rtB, decide_eq_false this]; simp
    rw [h2, List.map_nil, List.append_nil]
    by_cases hq : ∃ q ∈ P, q.s = s.i ∧ q.c ≠ -1 ∧ d = q.m
    ·obtain ⟨q, hq, hqs, hqc, hqm⟩ := hq
     have hne : q.i ≠ p.i := fun e => by
      obtain rfl := port_once hP hq hp e
      exact hm hqm
     have hone : P.filter (brB s p.i d) = [q] := filter_one (prs_pair hP) hq (by unfold brB; simp [somewhereB, hqc, hqs, hne, hqm]) (fun x hx hx2 => by
      unfold brB at hx2
      simp at hx2
      rcases hx2.2.2 with h | h
      ·exact absurd h hd
      ·exact mac_once hP hx hq (by rw [hx2.2.1.1, hqs]) (by rw [← h, hqm]))
     rw [hone]
     rw [runN_is (n := m + 1) (f := ⟨3, 0, [isM 8 s.i, isM 1 q.m], toPortD q⟩) (by simp) (hsw _ (.inl ?_)) (by unfold fitB; rw [fits_is hF, fits_is hF, fits_nil]; simp [hqm]) ?_]
     ·obtain ⟨u', e⟩ := fold_ports p.i d sc 3 a b t o s.i [q] 0 []
      simp only [List.flatMap_cons, List.flatMap_nil, List.append_nil] at e
      rw [e, runN_end _ _ (by simp)]
      simp [snOf, brG]
     ·unfold bridgeFl
      exact List.mem_map.2 ⟨q, List.mem_filter.2 ⟨hq, by simp [isOfB, hqs, somewhereB, hqc]⟩, rfl⟩
     ·intro g hg hf
      rcases hall g hg hf with ⟨h, rfl⟩ | ⟨h, _⟩ | ⟨x, hx, h, rfl⟩ | ⟨h, rfl⟩ | ⟨x, hx, h, rfl⟩
      ·exact absurd h hm
      ·exact absurd h hd
      ·obtain rfl := mac_once hP hx.1 hq (by rw [hx.2.1, hqs]) (by rw [← h, hqm])
       exact .inr rfl
      ·exact absurd ⟨h.1, h.2.1⟩ hr
      ·exact absurd ⟨h.1, h.2.1⟩ hr
    ·have h1 : P.filter (brB s p.i d) = [] := filter_none fun q hq' => by
      cases hx : brB s p.i d q with
      | false => rfl
      | true =>
       unfold brB at hx
       simp [somewhereB] at hx
       rcases hx.2.2 with h | h
       ·exact absurd h hd
       ·exact absurd ⟨q, hq', hx.2.1.1, hx.1, h⟩ hq
     rw [h1, runN_no (by omega) (by simp)]
     ·rfl
     ·intro g hg
      cases hf : fitB (pkF p.i d sc 3 a b t o s.i 0) 3 g with
      | false => rfl
      | true =>
       exfalso
       rcases hall g hg hf with ⟨h, rfl⟩ | ⟨h, _⟩ | ⟨x, hx, h, rfl⟩ | ⟨h, rfl⟩ | ⟨x, hx, h, rfl⟩
       ·exact hm h
       ·exact hd h
       ·exact hq ⟨x, hx.1, hx.2.1, hx.2.2, h⟩
       ·exact hr ⟨h.1, h.2.1⟩
       ·exact hr ⟨h.1, h.2.1⟩
theorem ran_data (hS : swsMay S = true) (hP : prsMay S P = true) (hA : acsMay S A = true) (hfs : ∀ g, g ∈ fs ↔ g ∈ comp S P A ch) {p : Pr} (hp : p ∈ P) (hc : p.c = ch) {s : Sw} (hs : s ∈ S) (hsi : s.i = p.s) {d b t o : Int} (ht : t ≤ 255) (hF : WF (pkF p.i d p.m 3 p.p b t o 0 0)) (hF2 : WF (pkF p.i d p.m 3 p.p b t o s.i 0)) :
  ran fs (pkF p.i d p.m 3 p.p b t o 0 0) = if allowB A s.i true p.p b o = true then (ledD S P s p.i d p.m p.p b t o).map (snOf p.i) else [] := by
 have hin : ∀ q ∈ P, PrIn q := (pr_all hS hP).2
 have hp1 := (hin p hp).1
 unfold ran
 rw [runN_is (n := 7) (f := ⟨0, 0, sentMs p ++ dataMs, [⟨1, 8, p.s⟩, gotoD 2]⟩) (by simp) ((hfs _).2 (comp_in.2 (.inr (.inl ⟨p, ⟨hp, hc⟩, by simp [portFl]⟩)))) ?_ ?_]
 rotate_left
 ·have h2 := fit_data hF []
  rw [List.append_nil, fits_nil] at h2
  unfold fitB
  rw [fit_sent hF, h2]; simp [ht]
 ·intro g hg hf
  obtain ⟨q, hq, he, hk⟩ := in_0p hin hfs (by omega) hF hg hf
  obtain rfl := port_once hP hp hq.1 he.1
  rcases hk with ⟨_, rfl⟩ | ⟨hk, _⟩
  ·exact .inr rfl
  ·exact absurd hk (by decide)
 rw [show ([⟨1, 8, p.s⟩, gotoD 2] : List Do).foldl step ⟨pkF p.i d p.m 3 p.p b t o 0 0, 8, []⟩ = ⟨pkF p.i d p.m 3 p.p b t o s.i 0, 2, []⟩ by simp [step, gotoD, doF, hsi]]
 rw [run_rules (n := 3) (inn := true) hA (by decide) hF2 (fun g hg => (hfs g).2 (comp_in.2 (.inr (.inr ⟨s, ⟨hs, p, ⟨hp, hc⟩, hsi.symm⟩, by simp [switchFl, hg]⟩)))) (fun g hg ht => by obtain ⟨s', _, h⟩ := in_2 ((hfs g).1 hg) ht; exact ⟨s'.i, h⟩) 6]
 by_cases ha : allowB A s.i true p.p b o = true
 ·rw [if_pos ha, if_pos ha]
  exact run_lead hS hP hfs hp hc hs hsi hF2 4
 ·rw [if_neg ha, if_neg ha, runN_end _ _ (by simp)]
theorem ran_port (hm : may S P A = true) (hfs : ∀ g, g ∈ fs ↔ g ∈ comp S P A ch) {i d sc k a b t o : Int} (hi : 1 ≤ i) (hF : WF (pkF i d sc k a b t o 0 0)) (hk : k = 1 ∨ k = 2 ∨ k = 3) (ht : t ≤ 255) (hb : k ≠ 3 → t = 0 ∧ o = 0) :
  ran fs (pkF i d sc k a b t o 0 0) = (led S P A ch i d sc k a b t o).map (snOf i) := by
 have hm' := hm
 unfold may at hm'
 rw [Bool.and_eq_true, Bool.and_eq_true] at hm'
 obtain ⟨⟨hS, hP⟩, hA⟩ := hm'
 have hin : ∀ q ∈ P, PrIn q := (pr_all hS hP).2
 unfold led
 cases hfd : P.find? (fun p => p.i == i) with
 | none =>
  refine ran_none hin hfs hi hF fun p hp _ e => ?_
  exact absurd (List.find?_eq_none.1 hfd p hp) (by simp [e])
 | some p =>
  have hp := List.mem_of_find?_eq_some hfd
  obtain rfl : p.i = i := by simpa using List.find?_some hfd
  simp only
  obtain ⟨hs, hsi⟩ := swOf_in hP hp
  generalize swOf S p.s = s at hs hsi
  by_cases hc : p.c = ch ∧ sc = p.m ∧ a = p.p
  ·rw [if_pos hc]
   obtain ⟨hc, rfl, rfl⟩ := hc
   have hsw := (sw_all hS).2 s hs
   have hF2 : WF (pkF p.i d p.m k p.p b t o s.i 0) := hF.set 8 s.i (by simp [wordB]; omega)
   rcases hk with rfl | rfl | rfl
   ·obtain ⟨rfl, rfl⟩ := hb (by decide)
    rw [if_pos rfl]
    exact ran_ask hS hP hfs hp hc hs hsi hF hF2
   ·rw [if_neg (by decide), if_neg (by simp)]
    exact ran_none hin hfs hi hF fun p hp _ e _ _ => by decide
   ·rw [if_neg (by decide), ran_data hS hP hA hfs hp hc hs hsi ht hF hF2]
    by_cases ha : allowB A s.i true p.p b o = true
    ·rw [if_pos ha, if_pos ⟨rfl, ha⟩]
    ·rw [if_neg ha, if_neg (fun h => ha h.2)]; rfl
  ·rw [if_neg hc]
   refine ran_none hin hfs hi hF fun q hq h1 e h2 h3 => ?_
   obtain rfl := port_once hP hp hq e
   exact absurd ⟨h1, h2, h3⟩ hc
end
end Go.Proofs.YtncdininppehkaaGreat

namespace Go.Proofs.YtncdininppehkaaGreat
open Go.RowKit
set_option linter.unusedVariables false
set_option maxRecDepth 100000
set_option maxHeartbeats 4000000 in
theorem pFrame_any (g0 g1 g2 g3 g4 g5 g6 g7 g8 g9 : Int) (body : ByteArray) (w : World) (hb : body.size ≤ maxLen) :
  Calls Tryz.prog 13 #[pkt g0 g1 g2 g3 g4 g5 g6 g7 g8 g9 body] w fun e w' => e = .returned (.tuple #[if fault g1 g2 g3 g4 g5 g6 g7 body.size = 0 then fr g1 g2 g3 g4 g5 g6 g7 body else fr 0 0 0 0 0 0 0 ⟨#[]⟩, .int .i64 (fault g1 g2 g3 g4 g5 g6 g7 body.size)]) ∧ Below w.heap.size w w' := by
 have H1 := hide (fun W => check_any g1 g2 g3 g4 g5 g6 g7 body W hb)
 generalize fault g1 g2 g3 g4 g5 g6 g7 body.size = E at *
 go_enter Tryz.func13, Tryz.ntmps13
 go_wp2_with fail
 obtain ⟨W0, hW0⟩ : ∃ W0, W0 = ((w.alloc (.cells #[.int .i64 g0, .int .i64 g1, .int .i64 g2, .int .i64 g3, .int .i64 g4, .int .i64 g5, .int .i64 g6, .int .i64 g7, .int .i64 g8, .int .i64 g9, .string body] 41)).alloc (.cells #[.int .i64 0, .int .i64 0, .int .i64 0, .int .i64 0, .int .i64 0, .int .i64 0, .int .i64 0, .string ⟨#[]⟩] 37)).alloc (.cells #[.int .i64 g1, .int .i64 g2, .int .i64 g3, .int .i64 g4, .int .i64 g5, .int .i64 g6, .int .i64 g7, .string body] 37) := ⟨_, rfl⟩
 have k0 : Below w.heap.size w W0 := by rw [hW0]; exact (((Below.refl _ w).alloc (Nat.le_refl _) _).alloc (by simp) _).alloc (by simp; omega) _
 have hz0 : W0.heap.size = w.heap.size + 1 + 1 + 1 := by rw [hW0]; simp
 have r0 : W0.cell? ⟨w.heap.size + 1, 0, none⟩ = some (.int .i64 0) := by rw [hW0]; exact old_cell (new_cell _ _ (by simp) _ _ _ _ rfl) _
 have r1 : W0.cell? ⟨w.heap.size + 1, 1, none⟩ = some (.int .i64 0) := by rw [hW0]; exact old_cell (new_cell _ _ (by simp) _ _ _ _ rfl) _
 have r2 : W0.cell? ⟨w.heap.size + 1, 2, none⟩ = some (.int .i64 0) := by rw [hW0]; exact old_cell (new_cell _ _ (by simp) _ _ _ _ rfl) _
 have r3 : W0.cell? ⟨w.heap.size + 1, 3, none⟩ = some (.int .i64 0) := by rw [hW0]; exact old_cell (new_cell _ _ (by simp) _ _ _ _ rfl) _
 have r4 : W0.cell? ⟨w.heap.size + 1, 4, none⟩ = some (.int .i64 0) := by rw [hW0]; exact old_cell (new_cell _ _ (by simp) _ _ _ _ rfl) _
 have r5 : W0.cell? ⟨w.heap.size + 1, 5, none⟩ = some (.int .i64 0) := by rw [hW0]; exact old_cell (new_cell _ _ (by simp) _ _ _ _ rfl) _
 have r6 : W0.cell? ⟨w.heap.size + 1, 6, none⟩ = some (.int .i64 0) := by rw [hW0]; exact old_cell (new_cell _ _ (by simp) _ _ _ _ rfl) _
 have r7 : W0.cell? ⟨w.heap.size + 1, 7, none⟩ = some (.string ⟨#[]⟩) := by rw [hW0]; exact old_cell (new_cell _ _ (by simp) _ _ _ _ rfl) _
 have f0 : W0.cell? ⟨w.heap.size + 1 + 1, 0, none⟩ = some (.int .i64 g1) := by rw [hW0]; exact new_cell _ _ (by simp) _ _ _ _ rfl
 have f1 : W0.cell? ⟨w.heap.size + 1 + 1, 1, none⟩ = some (.int .i64 g2) := by rw [hW0]; exact new_cell _ _ (by simp) _ _ _ _ rfl
 have f2 : W0.cell? ⟨w.heap.size + 1 + 1, 2, none⟩ = some (.int .i64 g3) := by rw [hW0]; exact new_cell _ _ (by simp) _ _ _ _ rfl
 have f3 : W0.cell? ⟨w.heap.size + 1 + 1, 3, none⟩ = some (.int .i64 g4) := by rw [hW0]; exact new_cell _ _ (by simp) _ _ _ _ rfl
 have f4 : W0.cell? ⟨w.heap.size + 1 + 1, 4, none⟩ = some (.int .i64 g5) := by rw [hW0]; exact new_cell _ _ (by simp) _ _ _ _ rfl
 have f5 : W0.cell? ⟨w.heap.size + 1 + 1, 5, none⟩ = some (.int .i64 g6) := by rw [hW0]; exact new_cell _ _ (by simp) _ _ _ _ rfl
 have f6 : W0.cell? ⟨w.heap.size + 1 + 1, 6, none⟩ = some (.int .i64 g7) := by rw [hW0]; exact new_cell _ _ (by simp) _ _ _ _ rfl
 have f7 : W0.cell? ⟨w.heap.size + 1 + 1, 7, none⟩ = some (.string body) := by rw [hW0]; exact new_cell _ _ (by simp) _ _ _ _ rfl
 have z : ∀ j, W0.frozen? ⟨w.heap.size + 1, j, none⟩ = false := fun j => by rw [hW0]; exact old_frozen (by simp) (new_frozen _ _ (by simp) _ _ _) _
 rw [← hW0]
 clear hW0
 refine (unhide H1 _).mono ?_
 rintro e w1 ⟨rfl, hb1⟩
 have k1 := k0.trans (hb1.mono k0.size)
 replace r0 := cb r0 hb1
 replace r1 := cb r1 hb1
 replace r2 := cb r2 hb1
 replace r3 := cb r3 hb1
 replace r4 := cb r4 hb1
 replace r5 := cb r5 hb1
 replace r6 := cb r6 hb1
 replace r7 := cb r7 hb1
 replace f0 := cb f0 hb1
 replace f1 := cb f1 hb1
 replace f2 := cb f2 hb1
 replace f3 := cb f3 hb1
 replace f4 := cb f4 hb1
 replace f5 := cb f5 hb1
 replace f6 := cb f6 hb1
 replace f7 := cb f7 hb1
 replace z : ∀ j, w1.frozen? ⟨w.heap.size + 1, j, none⟩ = false := fun j => (hb1.frozen (p := ⟨w.heap.size + 1, j, none⟩) (by show w.heap.size + 1 < W0.heap.size; omega)).trans (z j)
 clear hb1 k0 H1 hz0
 by_cases hE : ¬ E = 0
 ·clear f0 f1 f2 f3 f4 f5 f6 f7
  go_wp2_with fail
  have hS : ((((((((w1.setCell ⟨w.heap.size + 1, 0, none⟩ (.int .i64 0)).setCell ⟨w.heap.size + 1, 1, none⟩ (.int .i64 0)).setCell ⟨w.heap.size + 1, 2, none⟩ (.int .i64 0)).setCell ⟨w.heap.size + 1, 3, none⟩ (.int .i64 0)).setCell ⟨w.heap.size + 1, 4, none⟩ (.int .i64 0)).setCell ⟨w.heap.size + 1, 5, none⟩ (.int .i64 0)).setCell ⟨w.heap.size + 1, 6, none⟩ (.int .i64 0)).setCell ⟨w.heap.size + 1, 7, none⟩ (.string ⟨#[]⟩)) = w1.setCells (w.heap.size + 1) 0 [Value.int .i64 0, .int .i64 0, .int .i64 0, .int .i64 0, .int .i64 0, .int .i64 0, .int .i64 0, .string ⟨#[]⟩] := rfl
  have HB : Hid (Below w.heap.size w ((((((((w1.setCell ⟨w.heap.size + 1, 0, none⟩ (.int .i64 0)).setCell ⟨w.heap.size + 1, 1, none⟩ (.int .i64 0)).setCell ⟨w.heap.size + 1, 2, none⟩ (.int .i64 0)).setCell ⟨w.heap.size + 1, 3, none⟩ (.int .i64 0)).setCell ⟨w.heap.size + 1, 4, none⟩ (.int .i64 0)).setCell ⟨w.heap.size + 1, 5, none⟩ (.int .i64 0)).setCell ⟨w.heap.size + 1, 6, none⟩ (.int .i64 0)).setCell ⟨w.heap.size + 1, 7, none⟩ (.string ⟨#[]⟩))) := by rw [hS]; exact fill_below (Nat.le_succ _) _ _ _ (k1)
  have HI : Hid (∀ j, j < 8 → (w1.cell? ⟨w.heap.size + 1, j, none⟩).isSome = true) := fun j hj => by
   have hc : j = 0 ∨ j = 1 ∨ j = 2 ∨ j = 3 ∨ j = 4 ∨ j = 5 ∨ j = 6 ∨ j = 7 := by omega
   rcases hc with rfl | rfl | rfl | rfl | rfl | rfl | rfl | rfl
   ·rw [r0]; rfl
   ·rw [r1]; rfl
   ·rw [r2]; rfl
   ·rw [r3]; rfl
   ·rw [r4]; rfl
   ·rw [r5]; rfl
   ·rw [r6]; rfl
   ·rw [r7]; rfl
  have u0 : ((((((((w1.setCell ⟨w.heap.size + 1, 0, none⟩ (.int .i64 0)).setCell ⟨w.heap.size + 1, 1, none⟩ (.int .i64 0)).setCell ⟨w.heap.size + 1, 2, none⟩ (.int .i64 0)).setCell ⟨w.heap.size + 1, 3, none⟩ (.int .i64 0)).setCell ⟨w.heap.size + 1, 4, none⟩ (.int .i64 0)).setCell ⟨w.heap.size + 1, 5, none⟩ (.int .i64 0)).setCell ⟨w.heap.size + 1, 6, none⟩ (.int .i64 0)).setCell ⟨w.heap.size + 1, 7, none⟩ (.string ⟨#[]⟩)).cell? ⟨w.heap.size + 1, 0, none⟩ = some (.int .i64 0) := by rw [hS]; exact fill_at (vs := [Value.int .i64 0, .int .i64 0, .int .i64 0, .int .i64 0, .int .i64 0, .int .i64 0, .int .i64 0, .string ⟨#[]⟩]) HI.out rfl
  have u1 : ((((((((w1.setCell ⟨w.heap.size + 1, 0, none⟩ (.int .i64 0)).setCell ⟨w.heap.size + 1, 1, none⟩ (.int .i64 0)).setCell ⟨w.heap.size + 1, 2, none⟩ (.int .i64 0)).setCell ⟨w.heap.size + 1, 3, none⟩ (.int .i64 0)).setCell ⟨w.heap.size + 1, 4, none⟩ (.int .i64 0)).setCell ⟨w.heap.size + 1, 5, none⟩ (.int .i64 0)).setCell ⟨w.heap.size + 1, 6, none⟩ (.int .i64 0)).setCell ⟨w.heap.size + 1, 7, none⟩ (.string ⟨#[]⟩)).cell? ⟨w.heap.size + 1, 1, none⟩ = some (.int .i64 0) := by rw [hS]; exact fill_at (vs := [Value.int .i64 0, .int .i64 0, .int .i64 0, .int .i64 0, .int .i64 0, .int .i64 0, .int .i64 0, .string ⟨#[]⟩]) HI.out rfl
  have u2 : ((((((((w1.setCell ⟨w.heap.size + 1, 0, none⟩ (.int .i64 0)).setCell ⟨w.heap.size + 1, 1, none⟩ (.int .i64 0)).setCell ⟨w.heap.size + 1, 2, none⟩ (.int .i64 0)).setCell ⟨w.heap.size + 1, 3, none⟩ (.int .i64 0)).setCell ⟨w.heap.size + 1, 4, none⟩ (.int .i64 0)).setCell ⟨w.heap.size + 1, 5, none⟩ (.int .i64 0)).setCell ⟨w.heap.size + 1, 6, none⟩ (.int .i64 0)).setCell ⟨w.heap.size + 1, 7, none⟩ (.string ⟨#[]⟩)).cell? ⟨w.heap.size + 1, 2, none⟩ = some (.int .i64 0) := by rw [hS]; exact fill_at (vs := [Value.int .i64 0, .int .i64 0, .int .i64 0, .int .i64 0, .int .i64 0, .int .i64 0, .int .i64 0, .string ⟨#[]⟩]) HI.out rfl
  have u3 : ((((((((w1.setCell ⟨w.heap.size + 1, 0, none⟩ (.int .i64 0)).setCell ⟨w.heap.size + 1, 1, none⟩ (.int .i64 0)).setCell ⟨w.heap.size + 1, 2, none⟩ (.int .i64 0)).setCell ⟨w.heap.size + 1, 3, none⟩ (.int .i64 0)).setCell ⟨w.heap.size + 1, 4, none⟩ (.int .i64 0)).setCell ⟨w.heap.size + 1, 5, none⟩ (.int .i64 0)).setCell ⟨w.heap.size + 1, 6, none⟩ (.int .i64 0)).setCell ⟨w.heap.size + 1, 7, none⟩ (.string ⟨#[]⟩)).cell? ⟨w.heap.size + 1, 3, none⟩ = some (.int .i64 0) := by rw [hS]; exact fill_at (vs := [Value.int .i64 0, .int .i64 0, .int .i64 0, .int .i64 0, .int .i64 0, .int .i64 0, .int .i64 0, .string ⟨#[]⟩]) HI.out rfl
  have u4 : ((((((((w1.setCell ⟨w.heap.size + 1, 0, none⟩ (.int .i64 0)).setCell ⟨w.heap.size + 1, 1, none⟩ (.int .i64 0)).setCell ⟨w.heap.size + 1, 2, none⟩ (.int .i64 0)).setCell ⟨w.heap.size + 1, 3, none⟩ (.int .i64 0)).setCell ⟨w.heap.size + 1, 4, none⟩ (.int .i64 0)).setCell ⟨w.heap.size + 1, 5, none⟩ (.int .i64 0)).setCell ⟨w.heap.size + 1, 6, none⟩ (.int .i64 0)).setCell ⟨w.heap.size + 1, 7, none⟩ (.string ⟨#[]⟩)).cell? ⟨w.heap.size + 1, 4, none⟩ = some (.int .i64 0) := by rw [hS]; exact fill_at (vs := [Value.int .i64 0, .int .i64 0, .int .i64 0, .int .i64 0, .int .i64 0, .int .i64 0, .int .i64 0, .string ⟨#[]⟩]) HI.out rfl
  have u5 : ((((((((w1.setCell ⟨w.heap.size + 1, 0, none⟩ (.int .i64 0)).setCell ⟨w.heap.size + 1, 1, none⟩ (.int .i64 0)).setCell ⟨w.heap.size + 1, 2, none⟩ (.int .i64 0)).setCell ⟨w.heap.size + 1, 3, none⟩ (.int .i64 0)).setCell ⟨w.heap.size + 1, 4, none⟩ (.int .i64 0)).setCell ⟨w.heap.size + 1, 5, none⟩ (.int .i64 0)).setCell ⟨w.heap.size + 1, 6, none⟩ (.int .i64 0)).setCell ⟨w.heap.size + 1, 7, none⟩ (.string ⟨#[]⟩)).cell? ⟨w.heap.size + 1, 5, none⟩ = some (.int .i64 0) := by rw [hS]; exact fill_at (vs := [Value.int .i64 0, .int .i64 0, .int .i64 0, .int .i64 0, .int .i64 0, .int .i64 0, .int .i64 0, .string ⟨#[]⟩]) HI.out rfl
  have u6 : ((((((((w1.setCell ⟨w.heap.size + 1, 0, none⟩ (.int .i64 0)).setCell ⟨w.heap.size + 1, 1, none⟩ (.int .i64 0)).setCell ⟨w.heap.size + 1, 2, none⟩ (.int .i64 0)).setCell ⟨w.heap.size + 1, 3, none⟩ (.int .i64 0)).setCell ⟨w.heap.size + 1, 4, none⟩ (.int .i64 0)).setCell ⟨w.heap.size + 1, 5, none⟩ (.int .i64 0)).setCell ⟨w.heap.size + 1, 6, none⟩ (.int .i64 0)).setCell ⟨w.heap.size + 1, 7, none⟩ (.string ⟨#[]⟩)).cell? ⟨w.heap.size + 1, 6, none⟩ = some (.int .i64 0) := by rw [hS]; exact fill_at (vs := [Value.int .i64 0, .int .i64 0, .int .i64 0, .int .i64 0, .int .i64 0, .int .i64 0, .int .i64 0, .string ⟨#[]⟩]) HI.out rfl
  have u7 : ((((((((w1.setCell ⟨w.heap.size + 1, 0, none⟩ (.int .i64 0)).setCell ⟨w.heap.size + 1, 1, none⟩ (.int .i64 0)).setCell ⟨w.heap.size + 1, 2, none⟩ (.int .i64 0)).setCell ⟨w.heap.size + 1, 3, none⟩ (.int .i64 0)).setCell ⟨w.heap.size + 1, 4, none⟩ (.int .i64 0)).setCell ⟨w.heap.size + 1, 5, none⟩ (.int .i64 0)).setCell ⟨w.heap.size + 1, 6, none⟩ (.int .i64 0)).setCell ⟨w.heap.size + 1, 7, none⟩ (.string ⟨#[]⟩)).cell? ⟨w.heap.size + 1, 7, none⟩ = some (.string ⟨#[]⟩) := by rw [hS]; exact fill_at (vs := [Value.int .i64 0, .int .i64 0, .int .i64 0, .int .i64 0, .int .i64 0, .int .i64 0, .int .i64 0, .string ⟨#[]⟩]) HI.out rfl
  refine bodyPost_ret (v := .tuple #[.agg #[.int .i64 0, .int .i64 0, .int .i64 0, .int .i64 0, .int .i64 0, .int .i64 0, .int .i64 0, .string ⟨#[]⟩], .int .i64 E]) ?_ rfl ⟨by first | rfl | rw [if_neg hE], HB.out⟩
  clear HB HI hS r0 r1 r2 r3 r4 r5 r6 r7
  generalize ((((((((w1.setCell ⟨w.heap.size + 1, 0, none⟩ (.int .i64 0)).setCell ⟨w.heap.size + 1, 1, none⟩ (.int .i64 0)).setCell ⟨w.heap.size + 1, 2, none⟩ (.int .i64 0)).setCell ⟨w.heap.size + 1, 3, none⟩ (.int .i64 0)).setCell ⟨w.heap.size + 1, 4, none⟩ (.int .i64 0)).setCell ⟨w.heap.size + 1, 5, none⟩ (.int .i64 0)).setCell ⟨w.heap.size + 1, 6, none⟩ (.int .i64 0)).setCell ⟨w.heap.size + 1, 7, none⟩ (.string ⟨#[]⟩)) = W at *
  simp [results, Tryz.results13, go_sem, u0, u1, u2, u3, u4, u5, u6, u7]
 ·have hE0 : E = 0 := by omega
  subst hE0
  clear hE
  go_wp2_with fail
  have hS : ((((((((w1.setCell ⟨w.heap.size + 1, 0, none⟩ (.int .i64 g1)).setCell ⟨w.heap.size + 1, 1, none⟩ (.int .i64 g2)).setCell ⟨w.heap.size + 1, 2, none⟩ (.int .i64 g3)).setCell ⟨w.heap.size + 1, 3, none⟩ (.int .i64 g4)).setCell ⟨w.heap.size + 1, 4, none⟩ (.int .i64 g5)).setCell ⟨w.heap.size + 1, 5, none⟩ (.int .i64 g6)).setCell ⟨w.heap.size + 1, 6, none⟩ (.int .i64 g7)).setCell ⟨w.heap.size + 1, 7, none⟩ (.string body)) = w1.setCells (w.heap.size + 1) 0 [Value.int .i64 g1, .int .i64 g2, .int .i64 g3, .int .i64 g4, .int .i64 g5, .int .i64 g6, .int .i64 g7, .string body] := rfl
  have HB : Hid (Below w.heap.size w ((((((((w1.setCell ⟨w.heap.size + 1, 0, none⟩ (.int .i64 g1)).setCell ⟨w.heap.size + 1, 1, none⟩ (.int .i64 g2)).setCell ⟨w.heap.size + 1, 2, none⟩ (.int .i64 g3)).setCell ⟨w.heap.size + 1, 3, none⟩ (.int .i64 g4)).setCell ⟨w.heap.size + 1, 4, none⟩ (.int .i64 g5)).setCell ⟨w.heap.size + 1, 5, none⟩ (.int .i64 g6)).setCell ⟨w.heap.size + 1, 6, none⟩ (.int .i64 g7)).setCell ⟨w.heap.size + 1, 7, none⟩ (.string body))) := by rw [hS]; exact fill_below (Nat.le_succ _) _ _ _ (k1)
  have HI : Hid (∀ j, j < 8 → (w1.cell? ⟨w.heap.size + 1, j, none⟩).isSome = true) := fun j hj => by
   have hc : j = 0 ∨ j = 1 ∨ j = 2 ∨ j = 3 ∨ j = 4 ∨ j = 5 ∨ j = 6 ∨ j = 7 := by omega
   rcases hc with rfl | rfl | rfl | rfl | rfl | rfl | rfl | rfl
   ·rw [r0]; rfl
   ·rw [r1]; rfl
   ·rw [r2]; rfl
   ·rw [r3]; rfl
   ·rw [r4]; rfl
   ·rw [r5]; rfl
   ·rw [r6]; rfl
   ·rw [r7]; rfl
  have u0 : ((((((((w1.setCell ⟨w.heap.size + 1, 0, none⟩ (.int .i64 g1)).setCell ⟨w.heap.size + 1, 1, none⟩ (.int .i64 g2)).setCell ⟨w.heap.size + 1, 2, none⟩ (.int .i64 g3)).setCell ⟨w.heap.size + 1, 3, none⟩ (.int .i64 g4)).setCell ⟨w.heap.size + 1, 4, none⟩ (.int .i64 g5)).setCell ⟨w.heap.size + 1, 5, none⟩ (.int .i64 g6)).setCell ⟨w.heap.size + 1, 6, none⟩ (.int .i64 g7)).setCell ⟨w.heap.size + 1, 7, none⟩ (.string body)).cell? ⟨w.heap.size + 1, 0, none⟩ = some (.int .i64 g1) := by rw [hS]; exact fill_at (vs := [Value.int .i64 g1, .int .i64 g2, .int .i64 g3, .int .i64 g4, .int .i64 g5, .int .i64 g6, .int .i64 g7, .string body]) HI.out rfl
  have u1 : ((((((((w1.setCell ⟨w.heap.size + 1, 0, none⟩ (.int .i64 g1)).setCell ⟨w.heap.size + 1, 1, none⟩ (.int .i64 g2)).setCell ⟨w.heap.size + 1, 2, none⟩ (.int .i64 g3)).setCell ⟨w.heap.size + 1, 3, none⟩ (.int .i64 g4)).setCell ⟨w.heap.size + 1, 4, none⟩ (.int .i64 g5)).setCell ⟨w.heap.size + 1, 5, none⟩ (.int .i64 g6)).setCell ⟨w.heap.size + 1, 6, none⟩ (.int .i64 g7)).setCell ⟨w.heap.size + 1, 7, none⟩ (.string body)).cell? ⟨w.heap.size + 1, 1, none⟩ = some (.int .i64 g2) := by rw [hS]; exact fill_at (vs := [Value.int .i64 g1, .int .i64 g2, .int .i64 g3, .int .i64 g4, .int .i64 g5, .int .i64 g6, .int .i64 g7, .string body]) HI.out rfl
  have u2 : ((((((((w1.setCell ⟨w.heap.size + 1, 0, none⟩ (.int .i64 g1)).setCell ⟨w.heap.size + 1, 1, none⟩ (.int .i64 g2)).setCell ⟨w.heap.size + 1, 2, none⟩ (.int .i64 g3)).setCell ⟨w.heap.size + 1, 3, none⟩ (.int .i64 g4)).setCell ⟨w.heap.size + 1, 4, none⟩ (.int .i64 g5)).setCell ⟨w.heap.size + 1, 5, none⟩ (.int .i64 g6)).setCell ⟨w.heap.size + 1, 6, none⟩ (.int .i64 g7)).setCell ⟨w.heap.size + 1, 7, none⟩ (.string body)).cell? ⟨w.heap.size + 1, 2, none⟩ = some (.int .i64 g3) := by rw [hS]; exact fill_at (vs := [Value.int .i64 g1, .int .i64 g2, .int .i64 g3, .int .i64 g4, .int .i64 g5, .int .i64 g6, .int .i64 g7, .string body]) HI.out rfl
  have u3 : ((((((((w1.setCell ⟨w.heap.size + 1, 0, none⟩ (.int .i64 g1)).setCell ⟨w.heap.size + 1, 1, none⟩ (.int .i64 g2)).setCell ⟨w.heap.size + 1, 2, none⟩ (.int .i64 g3)).setCell ⟨w.heap.size + 1, 3, none⟩ (.int .i64 g4)).setCell ⟨w.heap.size + 1, 4, none⟩ (.int .i64 g5)).setCell ⟨w.heap.size + 1, 5, none⟩ (.int .i64 g6)).setCell ⟨w.heap.size + 1, 6, none⟩ (.int .i64 g7)).setCell ⟨w.heap.size + 1, 7, none⟩ (.string body)).cell? ⟨w.heap.size + 1, 3, none⟩ = some (.int .i64 g4) := by rw [hS]; exact fill_at (vs := [Value.int .i64 g1, .int .i64 g2, .int .i64 g3, .int .i64 g4, .int .i64 g5, .int .i64 g6, .int .i64 g7, .string body]) HI.out rfl
  have u4 : ((((((((w1.setCell ⟨w.heap.size + 1, 0, none⟩ (.int .i64 g1)).setCell ⟨w.heap.size + 1, 1, none⟩ (.int .i64 g2)).setCell ⟨w.heap.size + 1, 2, none⟩ (.int .i64 g3)).setCell ⟨w.heap.size + 1, 3, none⟩ (.int .i64 g4)).setCell ⟨w.heap.size + 1, 4, none⟩ (.int .i64 g5)).setCell ⟨w.heap.size + 1, 5, none⟩ (.int .i64 g6)).setCell ⟨w.heap.size + 1, 6, none⟩ (.int .i64 g7)).setCell ⟨w.heap.size + 1, 7, none⟩ (.string body)).cell? ⟨w.heap.size + 1, 4, none⟩ = some (.int .i64 g5) := by rw [hS]; exact fill_at (vs := [Value.int .i64 g1, .int .i64 g2, .int .i64 g3, .int .i64 g4, .int .i64 g5, .int .i64 g6, .int .i64 g7, .string body]) HI.out rfl
  have u5 : ((((((((w1.setCell ⟨w.heap.size + 1, 0, none⟩ (.int .i64 g1)).setCell ⟨w.heap.size + 1, 1, none⟩ (.int .i64 g2)).setCell ⟨w.heap.size + 1, 2, none⟩ (.int .i64 g3)).setCell ⟨w.heap.size + 1, 3, none⟩ (.int .i64 g4)).setCell ⟨w.heap.size + 1, 4, none⟩ (.int .i64 g5)).setCell ⟨w.heap.size + 1, 5, none⟩ (.int .i64 g6)).setCell ⟨w.heap.size + 1, 6, none⟩ (.int .i64 g7)).setCell ⟨w.heap.size + 1, 7, none⟩ (.string body)).cell? ⟨w.heap.size + 1, 5, none⟩ = some (.int .i64 g6) := by rw [hS]; exact fill_at (vs := [Value.int .i64 g1, .int .i64 g2, .int .i64 g3, .int .i64 g4, .int .i64 g5, .int .i64 g6, .int .i64 g7, .string body]) HI.out rfl
  have u6 : ((((((((w1.setCell ⟨w.heap.size + 1, 0, none⟩ (.int .i64 g1)).setCell ⟨w.heap.size + 1, 1, none⟩ (.int .i64 g2)).setCell ⟨w.heap.size + 1, 2, none⟩ (.int .i64 g3)).setCell ⟨w.heap.size + 1, 3, none⟩ (.int .i64 g4)).setCell ⟨w.heap.size + 1, 4, none⟩ (.int .i64 g5)).setCell ⟨w.heap.size + 1, 5, none⟩ (.int .i64 g6)).setCell ⟨w.heap.size + 1, 6, none⟩ (.int .i64 g7)).setCell ⟨w.heap.size + 1, 7, none⟩ (.string body)).cell? ⟨w.heap.size + 1, 6, none⟩ = some (.int .i64 g7) := by rw [hS]; exact fill_at (vs := [Value.int .i64 g1, .int .i64 g2, .int .i64 g3, .int .i64 g4, .int .i64 g5, .int .i64 g6, .int .i64 g7, .string body]) HI.out rfl
  have u7 : ((((((((w1.setCell ⟨w.heap.size + 1, 0, none⟩ (.int .i64 g1)).setCell ⟨w.heap.size + 1, 1, none⟩ (.int .i64 g2)).setCell ⟨w.heap.size + 1, 2, none⟩ (.int .i64 g3)).setCell ⟨w.heap.size + 1, 3, none⟩ (.int .i64 g4)).setCell ⟨w.heap.size + 1, 4, none⟩ (.int .i64 g5)).setCell ⟨w.heap.size + 1, 5, none⟩ (.int .i64 g6)).setCell ⟨w.heap.size + 1, 6, none⟩ (.int .i64 g7)).setCell ⟨w.heap.size + 1, 7, none⟩ (.string body)).cell? ⟨w.heap.size + 1, 7, none⟩ = some (.string body) := by rw [hS]; exact fill_at (vs := [Value.int .i64 g1, .int .i64 g2, .int .i64 g3, .int .i64 g4, .int .i64 g5, .int .i64 g6, .int .i64 g7, .string body]) HI.out rfl
  refine bodyPost_ret (v := .tuple #[.agg #[.int .i64 g1, .int .i64 g2, .int .i64 g3, .int .i64 g4, .int .i64 g5, .int .i64 g6, .int .i64 g7, .string body], .int .i64 0]) ?_ rfl ⟨rfl, HB.out⟩
  clear HB HI hS r0 r1 r2 r3 r4 r5 r6 r7
  generalize ((((((((w1.setCell ⟨w.heap.size + 1, 0, none⟩ (.int .i64 g1)).setCell ⟨w.heap.size + 1, 1, none⟩ (.int .i64 g2)).setCell ⟨w.heap.size + 1, 2, none⟩ (.int .i64 g3)).setCell ⟨w.heap.size + 1, 3, none⟩ (.int .i64 g4)).setCell ⟨w.heap.size + 1, 4, none⟩ (.int .i64 g5)).setCell ⟨w.heap.size + 1, 5, none⟩ (.int .i64 g6)).setCell ⟨w.heap.size + 1, 6, none⟩ (.int .i64 g7)).setCell ⟨w.heap.size + 1, 7, none⟩ (.string body)) = W at *
  simp [results, Tryz.results13, go_sem, u0, u1, u2, u3, u4, u5, u6, u7]
end Go.Proofs.YtncdininppehkaaGreat

namespace Go.Proofs.YtncdininppehkaaGreat
open Go.RowKit
set_option linter.unusedVariables false
set_option maxHeartbeats 400000 in
theorem fIsWord_any (n : Int) (w : World) :
  Calls Tryz.prog 74 #[.int .i64 n] w fun e w' => e = .returned (.bool (wordB n)) ∧ w' = w := by
 go_enter Tryz.func74, Tryz.ntmps74
 go_wp2
 all_goals go_ret
 all_goals refine ⟨bool_ret ?_, rfl⟩
 all_goals (unfold wordB; rw [Bool.eq_iff_iff]; simp_all; try omega)
set_option maxRecDepth 100000 in
set_option maxHeartbeats 2000000 in
theorem checkPacket_any (f0 f1 f2 f3 f4 f5 f6 f7 f8 f9 : Int) (body : ByteArray) (w : World) (hb : body.size ≤ maxLen) :
  Calls Tryz.prog 35 #[pkt f0 f1 f2 f3 f4 f5 f6 f7 f8 f9 body] w fun e w' => e = .returned (.int .i64 (pktFault [f0, f1, f2, f3, f4, f5, f6, f7, f8, f9] body.size)) ∧ Below w.heap.size w w' := by
 unfold maxLen at hb
 have i0 : ∀ w : World, (Instr.index 39 (.agg #[.int .i64 f0, .int .i64 f1, .int .i64 f2, .int .i64 f3, .int .i64 f4, .int .i64 f5, .int .i64 f6, .int .i64 f7, .int .i64 f8, .int .i64 f9]) (.int .i64 0)).run Tryz.prog w = .ok (.int .i64 f0) w := fun _ => by kernel_rfl
 have i1 : ∀ w : World, (Instr.index 39 (.agg #[.int .i64 f0, .int .i64 f1, .int .i64 f2, .int .i64 f3, .int .i64 f4, .int .i64 f5, .int .i64 f6, .int .i64 f7, .int .i64 f8, .int .i64 f9]) (.int .i64 1)).run Tryz.prog w = .ok (.int .i64 f1) w := fun _ => by kernel_rfl
 have i2 : ∀ w : World, (Instr.index 39 (.agg #[.int .i64 f0, .int .i64 f1, .int .i64 f2, .int .i64 f3, .int .i64 f4, .int .i64 f5, .int .i64 f6, .int .i64 f7, .int .i64 f8, .int .i64 f9]) (.int .i64 2)).run Tryz.prog w = .ok (.int .i64 f2) w := fun _ => by kernel_rfl
 have i3 : ∀ w : World, (Instr.index 39 (.agg #[.int .i64 f0, .int .i64 f1, .int .i64 f2, .int .i64 f3, .int .i64 f4, .int .i64 f5, .int .i64 f6, .int .i64 f7, .int .i64 f8, .int .i64 f9]) (.int .i64 3)).run Tryz.prog w = .ok (.int .i64 f3) w := fun _ => by kernel_rfl
 have i4 : ∀ w : World, (Instr.index 39 (.agg #[.int .i64 f0, .int .i64 f1, .int .i64 f2, .int .i64 f3, .int .i64 f4, .int .i64 f5, .int .i64 f6, .int .i64 f7, .int .i64 f8, .int .i64 f9]) (.int .i64 4)).run Tryz.prog w = .ok (.int .i64 f4) w := fun _ => by kernel_rfl
 have i5 : ∀ w : World, (Instr.index 39 (.agg #[.int .i64 f0, .int .i64 f1, .int .i64 f2, .int .i64 f3, .int .i64 f4, .int .i64 f5, .int .i64 f6, .int .i64 f7, .int .i64 f8, .int .i64 f9]) (.int .i64 5)).run Tryz.prog w = .ok (.int .i64 f5) w := fun _ => by kernel_rfl
 have i6 : ∀ w : World, (Instr.index 39 (.agg #[.int .i64 f0, .int .i64 f1, .int .i64 f2, .int .i64 f3, .int .i64 f4, .int .i64 f5, .int .i64 f6, .int .i64 f7, .int .i64 f8, .int .i64 f9]) (.int .i64 6)).run Tryz.prog w = .ok (.int .i64 f6) w := fun _ => by kernel_rfl
 have i7 : ∀ w : World, (Instr.index 39 (.agg #[.int .i64 f0, .int .i64 f1, .int .i64 f2, .int .i64 f3, .int .i64 f4, .int .i64 f5, .int .i64 f6, .int .i64 f7, .int .i64 f8, .int .i64 f9]) (.int .i64 7)).run Tryz.prog w = .ok (.int .i64 f7) w := fun _ => by kernel_rfl
 have i8 : ∀ w : World, (Instr.index 39 (.agg #[.int .i64 f0, .int .i64 f1, .int .i64 f2, .int .i64 f3, .int .i64 f4, .int .i64 f5, .int .i64 f6, .int .i64 f7, .int .i64 f8, .int .i64 f9]) (.int .i64 8)).run Tryz.prog w = .ok (.int .i64 f8) w := fun _ => by kernel_rfl
 have i9 : ∀ w : World, (Instr.index 39 (.agg #[.int .i64 f0, .int .i64 f1, .int .i64 f2, .int .i64 f3, .int .i64 f4, .int .i64 f5, .int .i64 f6, .int .i64 f7, .int .i64 f8, .int .i64 f9]) (.int .i64 9)).run Tryz.prog w = .ok (.int .i64 f9) w := fun _ => by kernel_rfl
 have HF : Hid (pktFault [f0, f1, f2, f3, f4, f5, f6, f7, f8, f9] body.size = if ([f0, f1, f2, f3, f4, f5, f6, f7, f8, f9] : List Int).all wordB then (if 40 < body.size then 1 else 0) else 2) := rfl
 generalize pktFault [f0, f1, f2, f3, f4, f5, f6, f7, f8, f9] body.size = R at HF ⊢
 go_enter Tryz.func35, Tryz.ntmps35
 go_wp2_with fail
 obtain ⟨w1, hw1⟩ : ∃ w1, w1 = w.alloc (.cells #[.int .i64 f0, .int .i64 f1, .int .i64 f2, .int .i64 f3, .int .i64 f4, .int .i64 f5, .int .i64 f6, .int .i64 f7, .int .i64 f8, .int .i64 f9, .string body] 41) := ⟨_, rfl⟩
 have hbel : Below w.heap.size w w1 := by rw [hw1]; exact (Below.refl _ _).alloc (Nat.le_refl _) _
 have hc10 : w1.cell? ⟨w.heap.size, 10, none⟩ = some (.string body) := by rw [hw1]; simp
 rw [← hw1]
 clear hw1
 go_loop [7] (fun i => ∃ k : Nat, k ≤ 10 ∧ i = .int .i64 k ∧ Hid ((([f0, f1, f2, f3, f4, f5, f6, f7, f8, f9] : List Int).take k).all wordB = true)) (fun i => 10 - (intOf i).toNat)
 case atStart => exact ⟨0, by omega, rfl, rfl⟩
 case round =>
  obtain ⟨k, hk, rfl, HA⟩ := hrel
  have hk5 : k = 0 ∨ k = 1 ∨ k = 2 ∨ k = 3 ∨ k = 4 ∨ k = 5 ∨ k = 6 ∨ k = 7 ∨ k = 8 ∨ k = 9 ∨ k = 10 := by omega
  rcases hk5 with rfl | rfl | rfl | rfl | rfl | rfl | rfl | rfl | rfl | rfl | rfl
  ·by_cases hx : wordB f0 = true
   ·go_wp2_with (go_at_call 74; refine (fIsWord_any _ _).mono ?_; rintro e w' ⟨rfl, rfl⟩)
    go_round
    case rel => exact ⟨1, by omega, rfl, hide (by simp [hx])⟩
    case measure => simp [intOf]
   ·have hx' : wordB f0 = false := by simpa using hx
    clear hx
    go_wp2_with (go_at_call 74; refine (fIsWord_any _ _).mono ?_; rintro e w' ⟨rfl, rfl⟩)
    go_ret
    exact ⟨int_ret (by rw [HF.out]; simp [hx']), hbel⟩
  ·by_cases hx : wordB f1 = true
   ·go_wp2_with (go_at_call 74; refine (fIsWord_any _ _).mono ?_; rintro e w' ⟨rfl, rfl⟩)
    go_round
    case rel => exact ⟨2, by omega, rfl, hide (by have := HA.out; simp at this ⊢; simp [this, hx])⟩
    case measure => simp [intOf]
   ·have hx' : wordB f1 = false := by simpa using hx
    clear hx
    go_wp2_with (go_at_call 74; refine (fIsWord_any _ _).mono ?_; rintro e w' ⟨rfl, rfl⟩)
    go_ret
    exact ⟨int_ret (by rw [HF.out]; simp [hx']), hbel⟩
  ·by_cases hx : wordB f2 = true
   ·go_wp2_with (go_at_call 74; refine (fIsWord_any _ _).mono ?_; rintro e w' ⟨rfl, rfl⟩)
    go_round
    case rel => exact ⟨3, by omega, rfl, hide (by have := HA.out; simp at this ⊢; simp [this, hx])⟩
    case measure => simp [intOf]
   ·have hx' : wordB f2 = false := by simpa using hx
    clear hx
    go_wp2_with (go_at_call 74; refine (fIsWord_any _ _).mono ?_; rintro e w' ⟨rfl, rfl⟩)
    go_ret
    exact ⟨int_ret (by rw [HF.out]; simp [hx']), hbel⟩
  ·by_cases hx : wordB f3 = true
   ·go_wp2_with (go_at_call 74; refine (fIsWord_any _ _).mono ?_; rintro e w' ⟨rfl, rfl⟩)
    go_round
    case rel => exact ⟨4, by omega, rfl, hide (by have := HA.out; simp at this ⊢; simp [this, hx])⟩
    case measure => simp [intOf]
   ·have hx' : wordB f3 = false := by simpa using hx
    clear hx
    go_wp2_with (go_at_call 74; refine (fIsWord_any _ _).mono ?_; rintro e w' ⟨rfl, rfl⟩)
    go_ret
    exact ⟨int_ret (by rw [HF.out]; simp [hx']), hbel⟩
  ·by_cases hx : wordB f4 = true
   ·go_wp2_with (go_at_call 74; refine (fIsWord_any _ _).mono ?_; rintro e w' ⟨rfl, rfl⟩)
    go_round
    case rel => exact ⟨5, by omega, rfl, hide (by have := HA.out; simp at this ⊢; simp [this, hx])⟩
    case measure => simp [intOf]
   ·have hx' : wordB f4 = false := by simpa using hx
    clear hx
    go_wp2_with (go_at_call 74; refine (fIsWord_any _ _).mono ?_; rintro e w' ⟨rfl, rfl⟩)
    go_ret
    exact ⟨int_ret (by rw [HF.out]; simp [hx']), hbel⟩
  ·by_cases hx : wordB f5 = true
   ·go_wp2_with (go_at_call 74; refine (fIsWord_any _ _).mono ?_; rintro e w' ⟨rfl, rfl⟩)
    go_round
    case rel => exact ⟨6, by omega, rfl, hide (by have := HA.out; simp at this ⊢; simp [this, hx])⟩
    case measure => simp [intOf]
   ·have hx' : wordB f5 = false := by simpa using hx
    clear hx
    go_wp2_with (go_at_call 74; refine (fIsWord_any _ _).mono ?_; rintro e w' ⟨rfl, rfl⟩)
    go_ret
    exact ⟨int_ret (by rw [HF.out]; simp [hx']), hbel⟩
  ·by_cases hx : wordB f6 = true
   ·go_wp2_with (go_at_call 74; refine (fIsWord_any _ _).mono ?_; rintro e w' ⟨rfl, rfl⟩)
    go_round
    case rel => exact ⟨7, by omega, rfl, hide (by have := HA.out; simp at this ⊢; simp [this, hx])⟩
    case measure => simp [intOf]
   ·have hx' : wordB f6 = false := by simpa using hx
    clear hx
    go_wp2_with (go_at_call 74; refine (fIsWord_any _ _).mono ?_; rintro e w' ⟨rfl, rfl⟩)
    go_ret
    exact ⟨int_ret (by rw [HF.out]; simp [hx']), hbel⟩
  ·by_cases hx : wordB f7 = true
   ·go_wp2_with (go_at_call 74; refine (fIsWord_any _ _).mono ?_; rintro e w' ⟨rfl, rfl⟩)
    go_round
    case rel => exact ⟨8, by omega, rfl, hide (by have := HA.out; simp at this ⊢; simp [this, hx])⟩
    case measure => simp [intOf]
   ·have hx' : wordB f7 = false := by simpa using hx
    clear hx
    go_wp2_with (go_at_call 74; refine (fIsWord_any _ _).mono ?_; rintro e w' ⟨rfl, rfl⟩)
    go_ret
    exact ⟨int_ret (by rw [HF.out]; simp [hx']), hbel⟩
  ·by_cases hx : wordB f8 = true
   ·go_wp2_with (go_at_call 74; refine (fIsWord_any _ _).mono ?_; rintro e w' ⟨rfl, rfl⟩)
    go_round
    case rel => exact ⟨9, by omega, rfl, hide (by have := HA.out; simp at this ⊢; simp [this, hx])⟩
    case measure => simp [intOf]
   ·have hx' : wordB f8 = false := by simpa using hx
    clear hx
    go_wp2_with (go_at_call 74; refine (fIsWord_any _ _).mono ?_; rintro e w' ⟨rfl, rfl⟩)
    go_ret
    exact ⟨int_ret (by rw [HF.out]; simp [hx']), hbel⟩
  ·by_cases hx : wordB f9 = true
   ·go_wp2_with (go_at_call 74; refine (fIsWord_any _ _).mono ?_; rintro e w' ⟨rfl, rfl⟩)
    go_round
    case rel => exact ⟨10, by omega, rfl, hide (by have := HA.out; simp at this ⊢; simp [this, hx])⟩
    case measure => simp [intOf]
   ·have hx' : wordB f9 = false := by simpa using hx
    clear hx
    go_wp2_with (go_at_call 74; refine (fIsWord_any _ _).mono ?_; rintro e w' ⟨rfl, rfl⟩)
    go_ret
    exact ⟨int_ret (by rw [HF.out]; simp [hx']), hbel⟩
  ·have HL := hide (show ([f0, f1, f2, f3, f4, f5, f6, f7, f8, f9] : List Int).all wordB = true from by simpa using HA.out)
   by_cases h40 : 40 < body.size
   ·go_wp2_with fail
    go_ret
    exact ⟨int_ret (by rw [HF.out, HL.out, if_pos rfl, if_pos h40]), hbel⟩
   ·go_wp2_with fail
    go_ret
    exact ⟨int_ret (by rw [HF.out, HL.out, if_pos rfl, if_neg h40]), hbel⟩
end Go.Proofs.YtncdininppehkaaGreat

namespace Go.Proofs.YtncdininppehkaaGreat
open Go.RowKit
set_option linter.unusedVariables false
set_option maxRecDepth 100000
set_option maxHeartbeats 400000 in
theorem fIsField_any (n : Int) (w : World) :
  Calls Tryz.prog 130 #[.int .i64 n] w fun e w' => e = .returned (.bool (fieldB n)) ∧ w' = w := by
 go_enter Tryz.func130, Tryz.ntmps130
 go_wp2
 all_goals go_ret
 all_goals refine ⟨bool_ret ?_, rfl⟩
 all_goals (unfold fieldB; rw [Bool.eq_iff_iff]; simp_all; try omega)
set_option maxHeartbeats 2000000 in
theorem isDoes_any (kind a n table : Int) (w : World) :
  Calls Tryz.prog 131 #[.agg #[.int .i64 kind, .int .i64 a, .int .i64 n], .int .i64 table] w fun e w' => e = .returned (.bool (doesB kind a n table true)) ∧ Below w.heap.size w w' := by
 have HI := hide fIsField_any
 have HJ := hide fIsWord_any
 have hcase : kind = 1 ∨ kind = 2 ∨ kind = 3 ∨ kind = 4 ∨ kind = 5 ∨ kind = 6 ∨ (¬ kind = 1 ∧ ¬ kind = 2 ∧ ¬ kind = 3 ∧ ¬ kind = 4 ∧ ¬ kind = 5 ∧ ¬ kind = 6) := by omega
 rcases hcase with rfl | rfl | rfl | rfl | rfl | rfl | ⟨h1, h2, h3, h4, h5, h6⟩
 all_goals
  go_enter Tryz.func131, Tryz.ntmps131
  go_wp2_with (first | (go_at_call 130; refine (unhide HI _ _).mono ?_; rintro e w' ⟨rfl, rfl⟩) | (go_at_call 74; refine (unhide HJ _ _).mono ?_; rintro e w' ⟨rfl, rfl⟩))
  all_goals go_ret
  all_goals refine ⟨bool_ret ?_, (Below.refl _ _).alloc (Nat.le_refl _) _⟩
  all_goals (unfold doesB; simp_all [fieldB, wordB]; try (first | (intros; omega) | (rw [Bool.eq_iff_iff]; simp; omega)))
theorem and_not_iff (x y : BitVec 64) : x &&& ~~~y = 0#64 ↔ x &&& y = x := by
 constructor
 ·intro h
  apply BitVec.eq_of_getLsbD_eq
  intro i hi
  have := congrArg (fun z => BitVec.getLsbD z i) h
  simp [hi] at this
  simp [hi]
  exact this
 ·intro h
  apply BitVec.eq_of_getLsbD_eq
  intro i hi
  have := congrArg (fun z => BitVec.getLsbD z i) h
  simp [hi] at this
  simp [hi]
  exact this
theorem ofInt_word (a : Nat) (h : a ≤ 65535) : (BitVec.ofInt 64 (a : Int)).toNat = a := by
 simp
 omega
theorem andNot_word (v m : Int) (hv : wordB v = true) (hm : wordB m = true) : (bits .andNot .i64 v m == 0) = (mk v m == v) := by
 unfold wordB at hv hm
 simp at hv hm
 obtain ⟨a, rfl⟩ := Int.eq_ofNat_of_zero_le hv.1
 obtain ⟨b, rfl⟩ := Int.eq_ofNat_of_zero_le hm.1
 have ha := ofInt_word a (by omega)
 have hb := ofInt_word b (by omega)
 show (IntKind.i64.wrap ((BitVec.ofInt 64 (a : Int) &&& ~~~BitVec.ofInt 64 (b : Int)).toNat : Int) == 0) = _
 generalize BitVec.ofInt 64 (a : Int) = X at ha ⊢
 generalize BitVec.ofInt 64 (b : Int) = Y at hb ⊢
 have hle : (X &&& ~~~Y).toNat ≤ a := by rw [BitVec.toNat_and, ha]; exact Nat.and_le_left
 rw [wrapI _ (by omega) (by omega)]
 have e1 : (X &&& ~~~Y).toNat = 0 ↔ (X &&& Y).toNat = X.toNat := by
  have h := and_not_iff X Y
  rw [← BitVec.toNat_inj, ← BitVec.toNat_inj] at h
  simpa using h
 rw [BitVec.toNat_and (x := X) (y := Y), ha, hb] at e1
 unfold mk
 rw [Bool.eq_iff_iff, beq_iff_eq, beq_iff_eq, Int.toNat_natCast, Int.toNat_natCast]
 constructor
 ·intro h
  rw [e1.1 (by exact_mod_cast h)]
 ·intro h
  rw [e1.2 (by exact_mod_cast h)]
  rfl
set_option maxHeartbeats 2000000 in
theorem isMatch_any (f m v : Int) (w : World) :
  Calls Tryz.prog 77 #[.agg #[.int .i64 f, .int .i64 m, .int .i64 v]] w fun e w' => e = .returned (.bool (matchB ⟨f, m, v⟩)) ∧ Below w.heap.size w w' := by
 have HI := hide fIsField_any
 have HJ := hide fIsWord_any
 have HR : Hid (matchB ⟨f, m, v⟩ = (fieldB f && wordB m && wordB v && (mk v m == v))) := rfl
 generalize matchB ⟨f, m, v⟩ = R at HR ⊢
 go_enter Tryz.func77, Tryz.ntmps77
 go_wp2_with (first | (go_at_call 130; refine (unhide HI _ _).mono ?_; rintro e w' ⟨rfl, rfl⟩) | (go_at_call 74; refine (unhide HJ _ _).mono ?_; rintro e w' ⟨rfl, rfl⟩))
 all_goals go_ret
 all_goals refine ⟨bool_ret ?_, (Below.refl _ _).alloc (Nat.le_refl _) _⟩
 all_goals (rw [HR.out]; try simp_all)
 all_goals (apply andNot_word <;> assumption)
end Go.Proofs.YtncdininppehkaaGreat

namespace Go.Proofs.YtncdininppehkaaGreat
open Go.RowKit
set_option linter.unusedVariables false
set_option maxRecDepth 100000
set_option maxHeartbeats 1000000 in
theorem noMatch_any (f m v : Int) (w : World) :
  Calls Tryz.prog 76 #[.agg #[.int .i64 f, .int .i64 m, .int .i64 v]] w fun e w' => e = .returned (.bool (!matchB ⟨f, m, v⟩)) ∧ Below w.heap.size w w' := by
 have HI := hide (isMatch_any f m v)
 generalize matchB ⟨f, m, v⟩ = R at HI ⊢
 go_enter Tryz.func76, Tryz.ntmps76
 go_wp2_with fail
 refine (unhide HI _).mono ?_
 rintro e w1 ⟨rfl, hb1⟩
 go_wp2_with fail
 go_ret
 exact ⟨rfl, by simpa using (by first | exact hb1 | exact ((Below.refl _ _).alloc (Nat.le_refl _) _).trans (hb1.mono (by simp)))⟩
set_option maxHeartbeats 2000000 in
theorem indexMs_any (v : Value) (ms : List Mt) (w : World) (hM : MsAt w v ms) (hl : ms.length ≤ 12) :
  Calls Tryz.prog 129 #[v, .func (.func 76) #[] #[]] w fun e w' => ∃ r : Int, e = .returned (.int .i64 r) ∧ decide (0 ≤ r) = !ms.all matchB ∧ Below w.heap.size w w' := by
 obtain ⟨a, cap, rfl, hn, hL⟩ := hM
 go_enter Tryz.func129, Tryz.ntmps129
 go_wp2_with fail
 go_loopw [8] (fun i wr => ∃ k : Nat, k ≤ ms.length ∧ i = .int .i64 k ∧ (∀ j, j < k → matchB (ms.getD j mt0) = true) ∧ Below w.heap.size w wr) (fun i _ => ms.length - (intOf i).toNat)
 case atStart => exact ⟨0, by omega, rfl, fun j h => absurd h (by omega), Below.refl _ _⟩
 case round =>
  obtain ⟨k, hk, rfl, hall, hbel⟩ := hrel
  have HALL := hide hall
  clear hall
  by_cases hlt : k < ms.length
  ·obtain ⟨b, off, rfl, hcap, hcell⟩ : ∃ b off, a = some ⟨b, off, none⟩ ∧ ms.length ≤ cap ∧ ∀ i, i < ms.length → w.cell? ⟨b, off + i * 3, none⟩ = some (.int .i64 (ms.getD i mt0).f) ∧ w.cell? ⟨b, off + i * 3 + 1, none⟩ = some (.int .i64 (ms.getD i mt0).m) ∧ w.cell? ⟨b, off + i * 3 + 2, none⟩ = some (.int .i64 (ms.getD i mt0).v) := by
    rcases hL with h0 | h
    ·omega
    ·exact h
   obtain ⟨g0, g1, g2⟩ := hcell k hlt
   have m0' := cell_below g0 hbel (Nat.le_refl _)
   have m1' := cell_below g1 hbel (Nat.le_refl _)
   have m2' := cell_below g2 hbel (Nat.le_refl _)
   have hsz := hbel.size
   have HX : Hid (matchB (ms.getD k mt0) = true → ∀ x, x < k + 1 → matchB (ms.getD x mt0) = true) := fun h x hx => by
    by_cases e : x = k
    ·subst e; exact h
    ·exact HALL.out x (by omega)
   have HF : Hid (matchB (ms.getD k mt0) = false → ms.all matchB = false) := fun h => by
    rw [List.all_eq_false]
    exact ⟨ms[k], List.getElem_mem hlt, by simpa [List.getD, List.getElem?_eq_getElem hlt] using h⟩
   have HC : Hid (∀ W : World, Calls Tryz.prog 76 #[.agg #[.int .i64 (ms.getD k mt0).f, .int .i64 (ms.getD k mt0).m, .int .i64 (ms.getD k mt0).v]] W fun e w' => e = .returned (.bool (!matchB (ms.getD k mt0))) ∧ Below W.heap.size W w') := fun W => noMatch_any _ _ _ W
   clear g0 g1 g2 hcell hL HALL
   generalize (ms.getD k mt0) = M at *
   by_cases hx : matchB M = true
   ·have HR := hide (HX.out hx)
    rw [hx] at HC
    clear HX HF hx
    go_wp2_with fail
    refine (unhide HC _).mono ?_
    rintro e w1 ⟨rfl, hb1⟩
    have hb2 := hbel.trans (hb1.mono hsz)
    go_wp2_with fail
    go_roundw
    case rel => exact ⟨k + 1, by omega, by go_num, HR.out, hb2⟩
    case measure => simp [intOf]; omega
   ·have hx' : matchB M = false := by simpa using hx
    have HR := hide (HF.out hx')
    rw [hx'] at HC
    clear HX HF hx hx'
    go_wp2_with fail
    refine (unhide HC _).mono ?_
    rintro e w1 ⟨rfl, hb1⟩
    have hb2 := hbel.trans (hb1.mono hsz)
    go_wp2_with fail
    go_ret
    exact ⟨_, rfl, by rw [HR.out]; simp, hb2⟩
  ·have HR : Hid (ms.all matchB = true) := by
    refine hide ?_
    rw [List.all_eq_true]
    intro x hx
    obtain ⟨i, hi, rfl⟩ := List.getElem_of_mem hx
    have := HALL.out i (by omega)
    simpa [List.getD, List.getElem?_eq_getElem hi] using this
   clear hL HALL
   go_wp2_with fail
   go_ret
   exact ⟨_, rfl, by rw [HR.out]; simp, hbel⟩
set_option maxHeartbeats 1000000 in
theorem containsMs_any (v : Value) (ms : List Mt) (w : World) (hM : MsAt w v ms) (hl : ms.length ≤ 12) :
  Calls Tryz.prog 75 #[v, .func (.func 76) #[] #[]] w fun e w' => e = .returned (.bool (!ms.all matchB)) ∧ Below w.heap.size w w' := by
 have HM := hide hM
 obtain ⟨a, cap, rfl, hn, hL⟩ := hM
 clear hL
 go_enter Tryz.func75, Tryz.ntmps75
 go_wp2_with fail
 refine (indexMs_any _ ms _ HM.out hl).mono ?_
 rintro e w1 ⟨r, rfl, hr, hb1⟩
 have HRR := hide hr
 clear hr
 go_wp2_with fail
 go_ret
 exact ⟨bool_ret HRR.out, hb1⟩
set_option maxHeartbeats 4000000 in
theorem mayDo_any (f : Fl) (mv v : Value) (w : World) (hD : DsAt w v f.ds) (hl : f.ds.length ≤ 100) :
  Calls Tryz.prog 78 #[.agg #[.int .i64 f.t, .int .i64 f.p, mv, v]] w fun e w' => e = .returned (.bool ((List.range f.ds.length).all (doB f.t f.ds))) ∧ Below w.heap.size w w' := by
 have HDS := hide hD
 obtain ⟨a, cap, rfl, hn, hL⟩ := hD
 clear hL
 go_enter Tryz.func78, Tryz.ntmps78
 go_wp2_with fail
 obtain ⟨W1, hW1⟩ : ∃ W1, W1 = w.alloc (.cells #[.int .i64 f.t, .int .i64 f.p, mv, .slice a f.ds.length cap] 90) := ⟨_, rfl⟩
 have q0 : W1.cell? ⟨w.heap.size, 0, none⟩ = some (.int .i64 f.t) := by rw [hW1]; simp
 have q3 : W1.cell? ⟨w.heap.size, 3, none⟩ = some (.slice a f.ds.length cap) := by rw [hW1]; simp
 have hbW : Below w.heap.size w W1 := by rw [hW1]; exact (Below.refl _ _).alloc (Nat.le_refl _) _
 have HD1 := hide (HDS.out.below hbW (Nat.le_refl _))
 have hz1 : w.heap.size < W1.heap.size := by rw [hW1]; simp
 rw [← hW1]
 clear hW1 HDS
 go_loopw [8] (fun i wr => ∃ k : Nat, k ≤ f.ds.length ∧ i = .int .i64 k ∧ (∀ j, j < k → doB f.t f.ds j = true) ∧ Below W1.heap.size W1 wr) (fun i _ => f.ds.length - (intOf i).toNat)
 case atStart => exact ⟨0, by omega, rfl, fun j h => absurd h (by omega), Below.refl _ _⟩
 case round =>
  obtain ⟨k, hk, rfl, hall, hbel⟩ := hrel
  have HALL := hide hall
  clear hall
  have hbel1 : Below w.heap.size w wr := hbW.trans (hbel.mono hbW.size)
  have c0 := cell_below q0 hbel (Nat.le_refl _)
  have c3 := cell_below q3 hbel (Nat.le_refl _)
  have hszr := hbel.size
  have hszw : w.heap.size < wr.heap.size := by omega
  by_cases hlt : k < f.ds.length
  ·obtain ⟨a', cap', hv, hn', hL⟩ := HD1.out
   simp only [Value.slice.injEq] at hv
   obtain ⟨rfl, _, rfl⟩ := hv
   obtain ⟨b, off, rfl, hcap, hcell⟩ : ∃ b off, a = some ⟨b, off, none⟩ ∧ f.ds.length ≤ cap ∧ ∀ i, i < f.ds.length → W1.cell? ⟨b, off + i * 3, none⟩ = some (.int .i64 (f.ds.getD i do0).k) ∧ W1.cell? ⟨b, off + i * 3 + 1, none⟩ = some (.int .i64 (f.ds.getD i do0).a) ∧ W1.cell? ⟨b, off + i * 3 + 2, none⟩ = some (.int .i64 (f.ds.getD i do0).n) := by
    rcases hL with h0 | h
    ·omega
    ·exact h
   obtain ⟨g0, g1, g2⟩ := hcell k hlt
   have m0' := cell_below g0 hbel (Nat.le_refl _)
   have m1' := cell_below g1 hbel (Nat.le_refl _)
   have m2' := cell_below g2 hbel (Nat.le_refl _)
   have hbb := cell_lt m0'
   have HX : Hid (doB f.t f.ds k = true → ∀ x, x < k + 1 → doB f.t f.ds x = true) := fun h x hx => by
    by_cases e : x = k
    ·subst e; exact h
    ·exact HALL.out x (by omega)
   have HF : Hid (doB f.t f.ds k = false → (List.range f.ds.length).all (doB f.t f.ds) = false) := fun h => by
    rw [List.all_eq_false]
    exact ⟨k, List.mem_range.2 hlt, by simpa using h⟩
   have HD : Hid (doB f.t f.ds k = doesB (f.ds.getD k do0).k (f.ds.getD k do0).a (f.ds.getD k do0).n f.t ((k : Int) + 1 == (f.ds.length : Int))) := rfl
   clear g0 g1 g2 hcell hL HALL HD1 hn'
   generalize (f.ds.getD k do0).k = dk at *
   generalize (f.ds.getD k do0).a = da at *
   generalize (f.ds.getD k do0).n = dn at *
   have HT : Hid (∀ last, doesB dk da dn f.t last = (doesB dk da dn f.t true && (!(dk == 4) || last))) := fun last => by
    unfold doesB
    by_cases e : dk = 4
    ·subst e; simp
    ·simp [e]
   have HC := hide (isDoes_any dk da dn f.t)
   generalize doesB dk da dn f.t true = R at HC HT
   have hbA : Below wr.heap.size wr (wr.alloc (.cells #[.int .i64 dk, .int .i64 da, .int .i64 dn] 98)) := (Below.refl _ _).alloc (Nat.le_refl _) _
   have k0 : (wr.alloc (.cells #[.int .i64 dk, .int .i64 da, .int .i64 dn] 98)).cell? ⟨wr.heap.size, 0, none⟩ = some (.int .i64 dk) := by simp
   have k3 := cell_below c3 hbA (Nat.le_refl _)
   have HK0 := hide k0
   have HK3 := hide k3
   clear k0 k3
   have hwl : IntKind.i64.wrap ((f.ds.length : Int) - 1) = (f.ds.length : Int) - 1 := wrapI _ (by omega) (by omega)
   go_wp2_with fail
   refine (unhide HC _).mono ?_
   rintro e w1 ⟨rfl, hb1⟩
   have n0 := cell_below HK0.out hb1 (Nat.le_refl _)
   have n3 := cell_below HK3.out hb1 (Nat.le_refl _)
   have hbA2 := hbA.trans (hb1.mono hbA.size)
   have hbN : Below W1.heap.size W1 w1 := hbel.trans (hbA2.mono hszr)
   have hbN1 : Below w.heap.size w w1 := hbel1.trans (hbA2.mono (by omega))
   clear HK0 HK3 hb1 hbA hbA2 HC c0 c3 m0' m1' m2' q0 q3
   by_cases hR : R = true
   ·subst hR
    by_cases e4 : dk = 4
    ·by_cases el : k + 1 = f.ds.length
     ·have HRR := hide (HX.out (by rw [HD.out, HT.out]; simp; omega))
      have hne : ((k : Int) != (f.ds.length : Int) - 1) = false := by simp; omega
      clear HX HF HD HT
      go_wp2_with fail
      go_roundw
      case rel => exact ⟨k + 1, by omega, by go_num, HRR.out, hbN⟩
      case measure => simp [intOf]; omega
     ·have HRR := hide (HF.out (by rw [HD.out, HT.out]; simp [e4]; omega))
      have hne : ((k : Int) != (f.ds.length : Int) - 1) = true := by simp; omega
      clear HX HF HD HT
      go_wp2_with fail
      go_ret
      exact ⟨bool_ret HRR.out.symm, hbN1⟩
    ·have HRR := hide (HX.out (by rw [HD.out, HT.out]; simp [e4]))
     clear HX HF HD HT
     go_wp2_with fail
     go_roundw
     case rel => exact ⟨k + 1, by omega, by go_num, HRR.out, hbN⟩
     case measure => simp [intOf]; omega
   ·have hR' : R = false := by simpa using hR
    subst hR'
    have HRR := hide (HF.out (by rw [HD.out, HT.out]; simp))
    clear HX HF HD HT hR
    go_wp2_with fail
    go_ret
    exact ⟨bool_ret HRR.out.symm, hbN1⟩
  ·have HR : Hid ((List.range f.ds.length).all (doB f.t f.ds) = true) := by
    refine hide ?_
    rw [List.all_eq_true]
    intro j hj
    exact HALL.out j (by have := List.mem_range.1 hj; omega)
   clear HALL
   go_wp2_with fail
   go_ret
   exact ⟨bool_ret HR.out.symm, hbel1⟩
set_option maxHeartbeats 4000000 in
theorem checkFlow_any (f : Fl) (mv dv : Value) (w : World) (hM : MsAt w mv f.ms) (hD : DsAt w dv f.ds) :
  Calls Tryz.prog 36 #[.agg #[.int .i64 f.t, .int .i64 f.p, mv, dv]] w fun e w' => e = .returned (.int .i64 (flFault f)) ∧ Below w.heap.size w w' := by
 have HMS := hide hM
 have HDS := hide hD
 obtain ⟨ma, mcap, rfl, hmn, hmL⟩ := hM
 obtain ⟨da, dcap, rfl, hdn, hdL⟩ := hD
 clear hmL hdL
 have hA : ∀ o : Obj, Below w.heap.size w (w.alloc o) := fun o => (Below.refl _ _).alloc (Nat.le_refl _) o
 by_cases s1 : 12 < f.ms.length
 ·have HV : Hid (flFault f = 1) := flFault_size (.inl s1)
  go_enter Tryz.func36, Tryz.ntmps36
  go_wp2_with fail
  go_ret
  exact ⟨int_ret HV.out.symm, hA _⟩
 ·by_cases s2 : 100 < f.ds.length
  ·have HV : Hid (flFault f = 1) := flFault_size (.inr s2)
   go_enter Tryz.func36, Tryz.ntmps36
   go_wp2_with fail
   go_ret
   exact ⟨int_ret HV.out.symm, hA _⟩
  ·have hns : ¬ (12 < f.ms.length ∨ 100 < f.ds.length) := by omega
   by_cases s3 : (tableB f.t && prioB f.p) = true
   ·obtain ⟨s4, s5⟩ : tableB f.t = true ∧ prioB f.p = true := by simpa using s3
    have t0 : 0 ≤ f.t ∧ f.t ≤ 7 := by simpa [tableB] using s4
    have t1 : 0 ≤ f.p ∧ f.p ≤ 2000 := by simpa [prioB] using s5
    have a1 : decide (f.t < 0) = false := by simp; omega
    have a2 : decide (8 ≤ f.t) = false := by simp; omega
    have a3 : decide (f.p < 0) = false := by simp; omega
    have a4 : decide (2000 < f.p) = false := by simp; omega
    clear s4 s5
    have HW : Hid (∀ o : Obj, MsAt (w.alloc o) (.slice ma f.ms.length mcap) f.ms) := fun o => HMS.out.below (hA o) (Nat.le_refl _)
    go_enter Tryz.func36, Tryz.ntmps36
    go_wp2_with fail
    obtain ⟨W1, hW1⟩ : ∃ W1, W1 = w.alloc (.cells #[.int .i64 f.t, .int .i64 f.p, .slice ma f.ms.length mcap, .slice da f.ds.length dcap] 90) := ⟨_, rfl⟩
    have q0 : W1.cell? ⟨w.heap.size, 0, none⟩ = some (.int .i64 f.t) := by rw [hW1]; simp
    have q1 : W1.cell? ⟨w.heap.size, 1, none⟩ = some (.int .i64 f.p) := by rw [hW1]; simp
    have q2 : W1.cell? ⟨w.heap.size, 2, none⟩ = some (.slice ma f.ms.length mcap) := by rw [hW1]; simp
    have q3 : W1.cell? ⟨w.heap.size, 3, none⟩ = some (.slice da f.ds.length dcap) := by rw [hW1]; simp
    have hbW : Below w.heap.size w W1 := by rw [hW1]; exact hA _
    rw [← hW1]
    clear hW1 HW
    have HM1 := hide (HMS.out.below hbW (Nat.le_refl _))
    have HD1 := hide (HDS.out.below hbW (Nat.le_refl _))
    clear HMS HDS hA
    refine (containsMs_any _ f.ms _ HM1.out (by omega)).mono ?_
    rintro e w1 ⟨rfl, hb1⟩
    have HD2 := hide (HD1.out.below hb1 (Nat.le_refl _))
    have r0 := cell_below q0 hb1 (Nat.le_refl _)
    have r1 := cell_below q1 hb1 (Nat.le_refl _)
    have r2 := cell_below q2 hb1 (Nat.le_refl _)
    have r3 := cell_below q3 hb1 (Nat.le_refl _)
    have hbel := hbW.trans (hb1.mono hbW.size)
    clear q0 q1 q2 q3 HM1 HD1 hb1 hbW
    have hs1 := hbel.size
    by_cases sm : f.ms.all matchB = true
    ·rw [sm]
     have HC := hide (mayDo_any f (.slice ma f.ms.length mcap) _ w1 HD2.out (by omega))
     have HV : Hid (flFault f = if (List.range f.ds.length).all (doB f.t f.ds) = false then 4 else 0) := by
      show _ = _
      unfold flFault; rw [if_neg hns, if_neg (by simp [s3]), if_neg (by simp [sm])]
     clear HD2 s3 sm
     generalize (List.range f.ds.length).all (doB f.t f.ds) = R at HC HV
     go_wp2_with fail
     refine (unhide HC).mono ?_
     rintro e w2 ⟨rfl, hb2⟩
     have hbel2 := hbel.trans (hb2.mono hs1)
     clear r0 r1 r2 r3
     cases R
     ·go_wp2_with fail
      go_ret
      exact ⟨int_ret (by rw [HV.out]; rfl), hbel2⟩
     ·go_wp2_with fail
      go_ret
      exact ⟨int_ret (by rw [HV.out]; rfl), hbel2⟩
    ·have sm' : f.ms.all matchB = false := by simpa using sm
     rw [sm']
     have HV : Hid (flFault f = 4) := by
      show _ = _
      unfold flFault; rw [if_neg hns, if_neg (by simp [s3]), if_pos sm']
     clear HD2 s3 sm sm'
     go_wp2_with fail
     go_ret
     exact ⟨int_ret HV.out.symm, hbel⟩
   ·have s3' : (tableB f.t && prioB f.p) = false := by simpa using s3
    have HV : Hid (flFault f = 2) := flFault_range hns s3'
    have hcase : f.t < 0 ∨ 8 ≤ f.t ∨ f.p < 0 ∨ 2000 < f.p := by simp [tableB, prioB] at s3'; omega
    go_enter Tryz.func36, Tryz.ntmps36
    go_wp2_with fail
    all_goals first | (exfalso; omega) | (go_ret; exact ⟨int_ret HV.out.symm, hA _⟩)
set_option maxHeartbeats 4000000 in
theorem fCheck_any (v : Value) (fs : List Fl) (w : World) (hF : FsAt w v fs) (hm : fs.length ≤ 140737488355328) :
  Calls Tryz.prog 14 #[v] w fun e w' => e = .returned (.int .i64 (fsFault fs)) ∧ Below w.heap.size w w' := by
 obtain ⟨a, cap, rfl, hn, hL⟩ := hF
 by_cases h5 : 5000 < fs.length
 ·have HR : Hid (fsFault fs = 1) := by show _ = _; unfold fsFault; rw [if_pos h5]
  clear hL
  go_enter Tryz.func14, Tryz.ntmps14
  go_wp2_with fail
  go_ret
  exact ⟨int_ret HR.out.symm, Below.refl _ _⟩
 ·have HR : Hid (fsFault fs = fsFault1 fs) := by show _ = _; unfold fsFault; rw [if_neg h5]
  go_enter Tryz.func14, Tryz.ntmps14
  go_wp2_with fail
  go_loopw [11] (fun i wr => ∃ k : Nat, k ≤ fs.length ∧ i = .int .i64 k ∧ (∀ j, j < k → flFault (fs.getD j fl0) = 0) ∧ Below w.heap.size w wr) (fun i _ => fs.length - (intOf i).toNat)
  case atStart => exact ⟨0, by omega, rfl, fun j h => absurd h (by omega), Below.refl _ _⟩
  case round =>
   obtain ⟨k, hk, rfl, hall, hbel⟩ := hrel
   have HALL := hide hall
   clear hall
   by_cases hlt : k < fs.length
   ·obtain ⟨b, off, rfl, hcap, hcell⟩ : ∃ b off, a = some ⟨b, off, none⟩ ∧ fs.length ≤ cap ∧ ∀ i, i < fs.length → FlAt w b (off + i * 4) (fs.getD i fl0) := by
     rcases hL with h0 | h
     ·omega
     ·exact h
    have hf := (hcell k hlt).below hbel (Nat.le_refl _)
    have HA : Hid (flFault (fs.getD k fl0) = 0 → ∀ j, j < k + 1 → flFault (fs.getD j fl0) = 0) := fun h j hj => by
     by_cases e : j = k
     ·subst e; exact h
     ·exact HALL.out j (by omega)
    have HB : Hid (flFault (fs.getD k fl0) ≠ 0 → fsFault fs = flFault (fs.getD k fl0)) := fun h => by rw [HR.out]; exact fs_at fs k hlt HALL.out h
    clear hL hcell HALL HR
    generalize fs.getD k fl0 = f at *
    obtain ⟨f0, f1, mv, dv, f2, f3, hms, hds⟩ := hf
    have HMS := hide hms
    have HDS := hide hds
    obtain ⟨ma, mcap, rfl, hmn, hmL⟩ := hms
    obtain ⟨da, dcap, rfl, hdn, hdL⟩ := hds
    clear hmL hdL
    have hsz := hbel.size
    have hA : ∀ o : Obj, Below wr.heap.size wr (wr.alloc o) := fun o => (Below.refl _ _).alloc (Nat.le_refl _) o
    have HC : Hid (∀ o : Obj, Calls Tryz.prog 36 #[.agg #[.int .i64 f.t, .int .i64 f.p, .slice ma f.ms.length mcap, .slice da f.ds.length dcap]] (wr.alloc o) fun e w' => e = .returned (.int .i64 (flFault f)) ∧ Below wr.heap.size wr w') := fun o =>
     (checkFlow_any f _ _ (wr.alloc o) (HMS.out.below (hA o) (Nat.le_refl _)) (HDS.out.below (hA o) (Nat.le_refl _))).mono fun e w' ⟨he, hb⟩ => ⟨he, (hA o).trans (hb.mono (hA o).size)⟩
    clear HMS HDS hA
    generalize flFault f = R at *
    go_wp2_with fail
    refine (unhide HC _).mono ?_
    rintro e w1 ⟨rfl, hb1⟩
    have hbel2 := hbel.trans (hb1.mono hsz)
    clear HC f0 f1 f2 f3 hb1
    by_cases hz : R = 0
    ·have HV := hide (HA.out hz)
     clear HA HB
     go_wp2_with fail
     go_roundw
     case rel => exact ⟨k + 1, by omega, by go_num, HV.out, hbel2⟩
     case measure => simp [intOf]; omega
    ·have HV := hide (HB.out hz)
     clear HA HB
     go_wp2_with fail
     go_ret
     exact ⟨int_ret HV.out.symm, hbel2⟩
   ·have HV : Hid (fsFault fs = 0) := by show _ = _; rw [HR.out]; exact fs_all fs (fun j hj => HALL.out j (by omega))
    clear HALL hL HR
    go_wp2_with fail
    go_ret
    exact ⟨int_ret HV.out.symm, hbel⟩
end Go.Proofs.YtncdininppehkaaGreat
