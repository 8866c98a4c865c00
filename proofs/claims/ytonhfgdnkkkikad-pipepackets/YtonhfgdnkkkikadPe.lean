/-
  '==' of a packet with itself.
-/
import Derived.Test.YtonhfgdnkkkikadPk
import Derived.Laws.StructEq
import Derived.ChangeKeysEq
namespace Go.Proofs.Ytonhfgdnkkkikad
open Go.RowKit
set_option linter.unusedVariables false
set_option maxRecDepth 100000

theorem infoInt : (Try.prog.info? 3).map (fun i => (i.zero, i.size, i.bytes)) = some (some (.int .i64 0), 1, 8) := by kernel_rfl

theorem eqArr9 (f0 f1 f2 f3 f4 f5 f6 f7 f8 f9 : Int) (w : World) : (Op.equalIn 9999 53 (.agg #[.int .i64 f0, .int .i64 f1, .int .i64 f2, .int .i64 f3, .int .i64 f4, .int .i64 f5, .int .i64 f6, .int .i64 f7, .int .i64 f8, .int .i64 f9]) (.agg #[.int .i64 f0, .int .i64 f1, .int .i64 f2, .int .i64 f3, .int .i64 f4, .int .i64 f5, .int .i64 f6, .int .i64 f7, .int .i64 f8, .int .i64 f9])).run Try.prog w = .ok true w := by
  obtain ⟨i0, hi, hz0, hz1, hz2⟩ := info_parts infoInt
  have hc : Try.prog.cellsOf 3 = 1 := by kernel_rfl
  rw [show (9999 : Nat) = 9998 + 1 from rfl, run_equalIn_array w 9998 _ _ Try.underlying53 hi, hc]
  simp only [show List.range 10 = [0, 1, 2, 3, 4, 5, 6, 7, 8, 9] from rfl, Op.eqItems]
  go_simp
theorem eqPacket (f0 f1 f2 f3 f4 f5 f6 f7 f8 f9 : Int) (body : ByteArray) (w : World) : (Op.equalIn 10000 55 (pkt f0 f1 f2 f3 f4 f5 f6 f7 f8 f9 body) (pkt f0 f1 f2 f3 f4 f5 f6 f7 f8 f9 body)).run Try.prog w = .ok true w := by
  have hS : Try.prog.underlying 55 = some (.struct (Try.prog.fieldsOf 55)) := by kernel_rfl
  have hp : Try.prog.stoodInHeld 55 = false := by kernel_rfl
  have ha := eqArr9 f0 f1 f2 f3 f4 f5 f6 f7 f8 f9
  rw [show (10000 : Nat) = 9999 + 1 from rfl, run_equalIn_agg w 9999 55 _ _ hS hp]
  simp only [Program.fieldsOf, Try.underlying55]
  go_simp
theorem guardPacket : Try.prog.eqGuardType Try.prog.depth 55 = false := by kernel_rfl

end Go.Proofs.Ytonhfgdnkkkikad
