/-
  Quotients and sums that stay within 64 bits.
-/
import Derived.Test.YtonhfgdnkkkikacBa
namespace Go.Proofs.Ytonhfgdnkkkikac
open Go.RowKit
set_option linter.unusedVariables false
set_option maxRecDepth 100000

theorem tdiv_in (a k : Int) (hk : 1 ≤ k) (h0 : -9223372036854775808 ≤ a) (h1 : a ≤ 9223372036854775807) : -9223372036854775808 ≤ a.tdiv k ∧ a.tdiv k ≤ 9223372036854775807 := by
  rcases Int.le_total 0 a with h | h
  · rw [Int.tdiv_eq_ediv_of_nonneg h]
    have := Int.ediv_le_self k h
    have := Int.ediv_nonneg h (by omega : (0 : Int) ≤ k)
    omega
  · have e : a.tdiv k = -((-a).tdiv k) := by rw [Int.neg_tdiv]; omega
    rw [e, Int.tdiv_eq_ediv_of_nonneg (by omega)]
    have := Int.ediv_le_self k (by omega : (0 : Int) ≤ -a)
    have := Int.ediv_nonneg (by omega : (0 : Int) ≤ -a) (by omega : (0 : Int) ≤ k)
    omega

theorem wrap_i64_in (n : Int) (h0 : -9223372036854775808 ≤ n) (h1 : n ≤ 9223372036854775807) : IntKind.i64.wrap n = n := by
  simp [IntKind.wrap, IntKind.bits, IntKind.signed]
  split <;> omega

end Go.Proofs.Ytonhfgdnkkkikac
