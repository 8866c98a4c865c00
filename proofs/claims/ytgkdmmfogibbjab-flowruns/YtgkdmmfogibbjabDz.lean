/-
  What the document's doesMay answers.
-/
import Derived.Test.YtgkdmmfogibbjabRin
namespace Go.Proofs.Ytgkdmmfogibbjab
open Go.RowKit
set_option linter.unusedVariables false
set_option maxRecDepth 100000

/-- May a flow of a table do this? P2.1. -/
def doesB (kind a n table : Int) (last : Bool) : Bool :=
  if kind = 1 then decide (0 ≤ a ∧ a ≤ 9) && decide (0 ≤ n ∧ n ≤ 65535)
  else if kind = 2 then decide (0 ≤ a ∧ a ≤ 9) && decide (0 ≤ n ∧ n ≤ 9)
  else if kind = 3 then decide (0 ≤ a ∧ a ≤ 9) && (n == 0)
  else if kind = 4 then (a == 0) && decide (table + 1 ≤ n ∧ n ≤ 7) && last
  else if kind = 5 then (a == 0) && decide (0 ≤ n ∧ n ≤ 65535)
  else if kind = 6 then (a == 0) && decide (0 ≤ n ∧ n ≤ 5)
  else false

set_option maxHeartbeats 2000000 in
theorem doesMay_any (kind a n table : Int) (last : Bool) (w : World) (ht0 : 0 ≤ table) (ht1 : table ≤ 7) :
    Calls Try.prog 33 #[.agg #[.int .i64 kind, .int .i64 a, .int .i64 n], .int .i64 table, .bool last] w fun e w' => e = .returned (.bool (doesB kind a n table last)) ∧ Below w.heap.size w w' := by
  have HI := hide in_any
  have hcase : kind = 1 ∨ kind = 2 ∨ kind = 3 ∨ kind = 4 ∨ kind = 5 ∨ kind = 6 ∨ (¬ kind = 1 ∧ ¬ kind = 2 ∧ ¬ kind = 3 ∧ ¬ kind = 4 ∧ ¬ kind = 5 ∧ ¬ kind = 6) := by omega
  rcases hcase with rfl | rfl | rfl | rfl | rfl | rfl | ⟨h1, h2, h3, h4, h5, h6⟩
  all_goals
    go_enter Try.func33, Try.ntmps33
    go_wp2_with (go_at_call 31; refine (unhide HI _ _ _ _).mono ?_; rintro e w' ⟨rfl, rfl⟩)
    all_goals go_ret
    all_goals refine ⟨bool_ret ?_, (Below.refl _ _).alloc (Nat.le_refl _) _⟩
    all_goals (unfold doesB; simp_all; try (intros; exfalso; omega))

end Go.Proofs.Ytgkdmmfogibbjab
