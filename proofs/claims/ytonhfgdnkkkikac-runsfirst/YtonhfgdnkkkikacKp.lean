/-
  What the keepers' picked answers.
-/
import Derived.Test.YtonhfgdnkkkikacBa
namespace Go.Proofs.Ytonhfgdnkkkikac
open Go.RowKit
set_option linter.unusedVariables false
set_option maxRecDepth 100000

/-- A number from 0 to below many. -/
def pk (n many : Int) : Int := (if n < 0 then -(n + 1) else n) % many
theorem pk_in (n many : Int) (hm : 0 < many) : 0 ≤ pk n many ∧ pk n many < many := by
  unfold pk
  exact ⟨Int.emod_nonneg _ (by omega), Int.emod_lt_of_pos _ hm⟩

set_option maxHeartbeats 1000000 in
theorem picked_any (n many : Int) (w : World) (h0 : -9223372036854775808 ≤ n) (h1 : n ≤ 9223372036854775807) (hm : 0 < many) (hm1 : many ≤ 9223372036854775807) :
    Calls Try.prog 14 #[.int .i64 n, .int .i64 many] w fun e w' => e = .returned (.int .i64 (pk n many)) ∧ w' = w := by
  have HP : Hid (pk n many = (if n < 0 then -(n + 1) else n) % many) := rfl
  have hne : (many == 0) = false := by simp; omega
  by_cases hn : n < 0
  · have hz : (0 : Int) ≤ -(n + 1) := by omega
    go_enter Try.func14, Try.ntmps14
    go_wp2
    go_ret
    exact ⟨int_ret (by rw [HP.out, if_pos (by omega)]; first | rw [Int.tmod_eq_emod_of_nonneg hz] | rw [← Int.neg_tmod, Int.tmod_eq_emod_of_nonneg hz]), rfl⟩
  · have hz : (0 : Int) ≤ n := by omega
    go_enter Try.func14, Try.ntmps14
    go_wp2
    go_ret
    exact ⟨int_ret (by rw [HP.out, if_neg (by omega)]), rfl⟩

end Go.Proofs.Ytonhfgdnkkkikac
