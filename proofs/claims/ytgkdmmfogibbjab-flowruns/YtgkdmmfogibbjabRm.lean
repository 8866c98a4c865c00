/-
  What the document's masked answers: the bits that the mask has.
-/
import Derived.Test.YtgkdmmfogibbjabWa
import Derived.Test.YtgkdmmfogibbjabMk
namespace Go.Proofs.Ytgkdmmfogibbjab
open Go.RowKit
set_option linter.unusedVariables false
set_option maxRecDepth 100000

set_option maxHeartbeats 4000000 in
theorem masked_any (n m : Int) (w : World) (hn0 : 0 ≤ n) (hn1 : n ≤ 65535) (hm0 : 0 ≤ m) (hm1 : m ≤ 65535) :
    Calls Try.prog 32 #[.int .i64 n, .int .i64 m] w fun e w' => e = .returned (.int .i64 (mk n m)) ∧ w' = w := by
  have H16 := hide (mkTo_16 n m hn0 hn1 hm0 hm1)
  have HB := hide (mkTo_bd n m hn0 hm0)
  go_enter Try.func32, Try.ntmps32
  go_wp2
  go_loop [5, 6] (fun o b => ∃ j : Nat, j ≤ 16 ∧ b = .int .i64 (2 ^ j) ∧ o = .int .i64 (mkTo n m j)) (fun _ b => 65537 - (intOf b).toNat)
  case atStart => exact ⟨0, by omega, rfl, rfl⟩
  case round =>
    obtain ⟨j, hj, rfl, rfl⟩ := hrel
    have hb := HB.out j
    have HS : Hid (mkTo n m (j + 1) = mkTo n m j + (if n / 2 ^ j % 2 = 1 ∧ m / 2 ^ j % 2 = 1 then 2 ^ j else 0)) := rfl
    have hc : j = 16 ∨ j < 16 := by omega
    rcases hc with rfl | hlt
    · have HE : Hid (mkTo n m 16 = mk n m) := H16
      have hp : ((2 : Int) ^ 16) = 65536 := by decide
      rw [hp]
      clear hb HS hp HB H16
      go_wp2
      go_ret
      exact ⟨int_ret HE.out, rfl⟩
    · have hp : ∃ B : Int, (2 : Int) ^ j = B ∧ 1 ≤ B ∧ B ≤ 32768 ∧ (2 : Int) ^ (j + 1) = 2 * B := by
        have e : ((2 : Int) ^ j) = ((2 ^ j : Nat) : Int) := by rw [Int.natCast_pow]; rfl
        have h1 : 1 ≤ (2 : Nat) ^ j := Nat.one_le_two_pow
        have h2 : (2 : Nat) ^ j ≤ 32768 := Nat.pow_le_pow_right (n := 2) (by omega) (show j ≤ 15 by omega)
        refine ⟨2 ^ j, rfl, by rw [e]; omega, by rw [e]; omega, by rw [Int.pow_succ]; omega⟩
      obtain ⟨B, hB, hB1, hB2, hB3⟩ := hp
      rw [hB] at hb HS ⊢
      have HB3 := hide hB3
      clear hB hB3
      have hBz : (B == 0) = false := by simp; omega
      generalize mkTo n m j = o at hb HS
      obtain ⟨ho0, ho1⟩ := hb
      have e1 : (n / B).tmod 2 = n / B % 2 := Int.tmod_eq_emod_of_nonneg (Int.ediv_nonneg hn0 (by omega))
      have e2 : (m / B).tmod 2 = m / B % 2 := Int.tmod_eq_emod_of_nonneg (Int.ediv_nonneg hm0 (by omega))
      by_cases q1 : n / B % 2 = 1
      · by_cases q2 : m / B % 2 = 1
        · have HS' : Hid (mkTo n m (j + 1) = o + B) := by show _ = _; rw [HS.out, if_pos ⟨q1, q2⟩]
          have t1 : ((n / B).tmod 2 == 1) = true := by rw [e1]; simp [q1]
          have t2 : ((m / B).tmod 2 == 1) = true := by rw [e2]; simp [q2]
          clear HS q1 q2 e1 e2
          go_wp2
          go_round
          case rel => exact ⟨j + 1, by omega, by rw [HB3.out], by rw [HS'.out]⟩
          case measure => simp [intOf]; omega
        · have HS' : Hid (mkTo n m (j + 1) = o) := by show _ = _; rw [HS.out, if_neg (fun h => q2 h.2)]; omega
          have t1 : ((n / B).tmod 2 == 1) = true := by rw [e1]; simp [q1]
          have t2 : ((m / B).tmod 2 == 1) = false := by rw [e2]; simp [q2]
          clear HS q1 q2 e1 e2
          go_wp2
          go_round
          case rel => exact ⟨j + 1, by omega, by rw [HB3.out], by rw [HS'.out]⟩
          case measure => simp [intOf]; omega
      · have HS' : Hid (mkTo n m (j + 1) = o) := by show _ = _; rw [HS.out, if_neg (fun h => q1 h.1)]; omega
        have t1 : ((n / B).tmod 2 == 1) = false := by rw [e1]; simp [q1]
        clear HS q1 e1 e2
        go_wp2
        go_round
        case rel => exact ⟨j + 1, by omega, by rw [HB3.out], by rw [HS'.out]⟩
        case measure => simp [intOf]; omega

end Go.Proofs.Ytgkdmmfogibbjab
