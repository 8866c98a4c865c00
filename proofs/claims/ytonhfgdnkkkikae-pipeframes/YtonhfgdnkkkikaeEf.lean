/-
  '==' of a frame with itself.
-/
import Derived.Test.YtonhfgdnkkkikaeWa
import Derived.Laws.StructEq
namespace Go.Proofs.Ytonhfgdnkkkikae
open Go.RowKit
set_option linter.unusedVariables false
set_option maxRecDepth 100000

theorem eqFrame (a b c d e f g : Int) (s : ByteArray) (w : World) : (Op.equalIn 10000 26 (.agg #[.int .i64 a, .int .i64 b, .int .i64 c, .int .i64 d, .int .i64 e, .int .i64 f, .int .i64 g, .string s]) (.agg #[.int .i64 a, .int .i64 b, .int .i64 c, .int .i64 d, .int .i64 e, .int .i64 f, .int .i64 g, .string s])).run Try.prog w = .ok true w := by
  have hS : Try.prog.underlying 26 = some (.struct (Try.prog.fieldsOf 26)) := by kernel_rfl
  have hp : Try.prog.stoodInHeld 26 = false := by kernel_rfl
  rw [show (10000 : Nat) = 9999 + 1 from rfl, run_equalIn_agg w 9999 26 _ _ hS hp]
  simp only [Program.fieldsOf, Try.underlying26]
  go_simp

theorem guardFrame : Try.prog.eqGuardType Try.prog.depth 26 = false := by kernel_rfl

end Go.Proofs.Ytonhfgdnkkkikae
