/-
  What the document's In answers.
-/
import Derived.Test.YtonhfgdnkkkikaeWa
namespace Go.Proofs.Ytonhfgdnkkkikae
set_option linter.unusedVariables false
set_option maxRecDepth 100000
open Go.RowKit

set_option maxHeartbeats 400000 in
theorem in_any (n lo hi : Int) (w : World) :
    Calls Try.prog 8 #[.int .i64 n, .int .i64 lo, .int .i64 hi] w fun e w' => e = .returned (.bool (decide (lo ≤ n ∧ n ≤ hi))) ∧ w' = w := by
  go_enter Try.func8, Try.ntmps8
  go_wp2
  all_goals go_ret
  all_goals refine ⟨bool_ret ?_, rfl⟩
  all_goals (rw [Bool.eq_iff_iff]; simp_all; try omega)


theorem word_in (n : Int) : decide (0 ≤ n ∧ n ≤ 65535) = wordB n := rfl
theorem kind_in (n : Int) : decide (1 ≤ n ∧ n ≤ 3) = kindB n := rfl
theorem life_in (n : Int) : decide (0 ≤ n ∧ n ≤ 255) = lifeB n := rfl
theorem inWord_any (n : Int) (w : World) :
    Calls Try.prog 8 #[.int .i64 n, .int .i64 0, .int .i64 65535] w fun e w' => e = .returned (.bool (wordB n)) ∧ w' = w := in_any n 0 65535 w
theorem inKind_any (n : Int) (w : World) :
    Calls Try.prog 8 #[.int .i64 n, .int .i64 1, .int .i64 3] w fun e w' => e = .returned (.bool (kindB n)) ∧ w' = w := in_any n 1 3 w
theorem inLife_any (n : Int) (w : World) :
    Calls Try.prog 8 #[.int .i64 n, .int .i64 0, .int .i64 255] w fun e w' => e = .returned (.bool (lifeB n)) ∧ w' = w := in_any n 0 255 w

end Go.Proofs.Ytonhfgdnkkkikae
