/-
  slices.Equal at what was sent, one each.
-/
import Derived.Test.YtonhfgdnkkkikacFn2
import Derived.Laws.StructEq
import Derived.ChangeKeysEq
namespace Go.Proofs.Ytonhfgdnkkkikac
open Go.RowKit
set_option linter.unusedVariables false
set_option maxRecDepth 100000

theorem infoI : (Try.prog.info? 3).map (fun i => (i.zero, i.size, i.bytes)) = some (some (.int .i64 0), 1, 8) := by kernel_rfl

theorem eqArr (f0 f1 f2 f3 f4 f5 f6 f7 f8 f9 : Int) (w : World) : (Op.equalIn 9998 30 (.agg #[.int .i64 f0, .int .i64 f1, .int .i64 f2, .int .i64 f3, .int .i64 f4, .int .i64 f5, .int .i64 f6, .int .i64 f7, .int .i64 f8, .int .i64 f9]) (.agg #[.int .i64 f0, .int .i64 f1, .int .i64 f2, .int .i64 f3, .int .i64 f4, .int .i64 f5, .int .i64 f6, .int .i64 f7, .int .i64 f8, .int .i64 f9])).run Try.prog w = .ok true w := by
  obtain ⟨i0, hi, hz0, hz1, hz2⟩ := info_parts infoI
  have hc : Try.prog.cellsOf 3 = 1 := by kernel_rfl
  rw [show (9998 : Nat) = 9997 + 1 from rfl, run_equalIn_array w 9997 _ _ Try.underlying30 hi, hc]
  simp only [show List.range 10 = [0, 1, 2, 3, 4, 5, 6, 7, 8, 9] from rfl, Op.eqItems]
  go_simp
theorem eqPkt (f0 f1 f2 f3 f4 f5 f6 f7 f8 f9 : Int) (body : ByteArray) (w : World) : (Op.equalIn 9999 32 (pkt f0 f1 f2 f3 f4 f5 f6 f7 f8 f9 body) (pkt f0 f1 f2 f3 f4 f5 f6 f7 f8 f9 body)).run Try.prog w = .ok true w := by
  have hS : Try.prog.underlying 32 = some (.struct (Try.prog.fieldsOf 32)) := by kernel_rfl
  have hp : Try.prog.stoodInHeld 32 = false := by kernel_rfl
  have ha := eqArr f0 f1 f2 f3 f4 f5 f6 f7 f8 f9
  rw [show (9999 : Nat) = 9998 + 1 from rfl, run_equalIn_agg w 9998 32 _ _ hS hp]
  simp only [Program.fieldsOf, Try.underlying32]
  go_simp
theorem eqSent (k n f0 f1 f2 f3 f4 f5 f6 f7 f8 f9 : Int) (body : ByteArray) (w : World) : (Op.equalIn 10000 49 (.agg #[.int .i64 k, .int .i64 n, .int .i64 f0, .int .i64 f1, .int .i64 f2, .int .i64 f3, .int .i64 f4, .int .i64 f5, .int .i64 f6, .int .i64 f7, .int .i64 f8, .int .i64 f9, .string body]) (.agg #[.int .i64 k, .int .i64 n, .int .i64 f0, .int .i64 f1, .int .i64 f2, .int .i64 f3, .int .i64 f4, .int .i64 f5, .int .i64 f6, .int .i64 f7, .int .i64 f8, .int .i64 f9, .string body])).run Try.prog w = .ok true w := by
  have hS : Try.prog.underlying 49 = some (.struct (Try.prog.fieldsOf 49)) := by kernel_rfl
  have hp : Try.prog.stoodInHeld 49 = false := by kernel_rfl
  have ha := eqPkt f0 f1 f2 f3 f4 f5 f6 f7 f8 f9 body
  rw [show (10000 : Nat) = 9999 + 1 from rfl, run_equalIn_agg w 9999 49 _ _ hS hp]
  simp only [Program.fieldsOf, Try.underlying49]
  go_simp
theorem guardSent : Try.prog.eqGuardType Try.prog.depth 49 = false := by kernel_rfl


set_option maxHeartbeats 4000000 in
theorem equalSn_any (k n f0 f1 f2 f3 f4 f5 f6 f7 f8 f9 : Int) (body : ByteArray) (b o c b' o' c' : Nat) (w : World) (g0 : w.cell? ⟨b, o + 0, none⟩ = some (.int .i64 k)) (g1 : w.cell? ⟨b, o + 1, none⟩ = some (.int .i64 n)) (g2 : w.cell? ⟨b, o + 2, none⟩ = some (.int .i64 f0)) (g3 : w.cell? ⟨b, o + 3, none⟩ = some (.int .i64 f1)) (g4 : w.cell? ⟨b, o + 4, none⟩ = some (.int .i64 f2)) (g5 : w.cell? ⟨b, o + 5, none⟩ = some (.int .i64 f3)) (g6 : w.cell? ⟨b, o + 6, none⟩ = some (.int .i64 f4)) (g7 : w.cell? ⟨b, o + 7, none⟩ = some (.int .i64 f5)) (g8 : w.cell? ⟨b, o + 8, none⟩ = some (.int .i64 f6)) (g9 : w.cell? ⟨b, o + 9, none⟩ = some (.int .i64 f7)) (g10 : w.cell? ⟨b, o + 10, none⟩ = some (.int .i64 f8)) (g11 : w.cell? ⟨b, o + 11, none⟩ = some (.int .i64 f9)) (g12 : w.cell? ⟨b, o + 12, none⟩ = some (.string body)) (h0 : w.cell? ⟨b', o' + 0, none⟩ = some (.int .i64 k)) (h1 : w.cell? ⟨b', o' + 1, none⟩ = some (.int .i64 n)) (h2 : w.cell? ⟨b', o' + 2, none⟩ = some (.int .i64 f0)) (h3 : w.cell? ⟨b', o' + 3, none⟩ = some (.int .i64 f1)) (h4 : w.cell? ⟨b', o' + 4, none⟩ = some (.int .i64 f2)) (h5 : w.cell? ⟨b', o' + 5, none⟩ = some (.int .i64 f3)) (h6 : w.cell? ⟨b', o' + 6, none⟩ = some (.int .i64 f4)) (h7 : w.cell? ⟨b', o' + 7, none⟩ = some (.int .i64 f5)) (h8 : w.cell? ⟨b', o' + 8, none⟩ = some (.int .i64 f6)) (h9 : w.cell? ⟨b', o' + 9, none⟩ = some (.int .i64 f7)) (h10 : w.cell? ⟨b', o' + 10, none⟩ = some (.int .i64 f8)) (h11 : w.cell? ⟨b', o' + 11, none⟩ = some (.int .i64 f9)) (h12 : w.cell? ⟨b', o' + 12, none⟩ = some (.string body)) (hc : 1 ≤ c) (hc' : 1 ≤ c') :
    Calls Try.prog 17 #[.slice (some ⟨b, o, none⟩) 1 c, .slice (some ⟨b', o', none⟩) 1 c'] w fun e w' => e = .returned (.bool true) ∧ Below w.heap.size w w' := by
  simp only [Nat.add_zero] at g0 h0
  go_enter Try.func17, Try.ntmps17
  go_wp2_with fail
  go_loopw [13] (fun i wr => ∃ k : Nat, k ≤ 1 ∧ i = .int .i64 k ∧ Below w.heap.size w wr) (fun i _ => 1 - (intOf i).toNat)
  case atStart => exact ⟨0, by omega, rfl, Below.refl _ _⟩
  case round =>
    obtain ⟨j, hj, rfl, k0⟩ := hrel
    by_cases hlt : j < 1
    · obtain rfl : j = 0 := by omega
      have y0 := cell_below g0 k0 (Nat.le_refl _)
      have z0 := cell_below h0 k0 (Nat.le_refl _)
      have y1 := cell_below g1 k0 (Nat.le_refl _)
      have z1 := cell_below h1 k0 (Nat.le_refl _)
      have y2 := cell_below g2 k0 (Nat.le_refl _)
      have z2 := cell_below h2 k0 (Nat.le_refl _)
      have y3 := cell_below g3 k0 (Nat.le_refl _)
      have z3 := cell_below h3 k0 (Nat.le_refl _)
      have y4 := cell_below g4 k0 (Nat.le_refl _)
      have z4 := cell_below h4 k0 (Nat.le_refl _)
      have y5 := cell_below g5 k0 (Nat.le_refl _)
      have z5 := cell_below h5 k0 (Nat.le_refl _)
      have y6 := cell_below g6 k0 (Nat.le_refl _)
      have z6 := cell_below h6 k0 (Nat.le_refl _)
      have y7 := cell_below g7 k0 (Nat.le_refl _)
      have z7 := cell_below h7 k0 (Nat.le_refl _)
      have y8 := cell_below g8 k0 (Nat.le_refl _)
      have z8 := cell_below h8 k0 (Nat.le_refl _)
      have y9 := cell_below g9 k0 (Nat.le_refl _)
      have z9 := cell_below h9 k0 (Nat.le_refl _)
      have y10 := cell_below g10 k0 (Nat.le_refl _)
      have z10 := cell_below h10 k0 (Nat.le_refl _)
      have y11 := cell_below g11 k0 (Nat.le_refl _)
      have z11 := cell_below h11 k0 (Nat.le_refl _)
      have y12 := cell_below g12 k0 (Nat.le_refl _)
      have z12 := cell_below h12 k0 (Nat.le_refl _)
      clear g0 h0 g1 h1 g2 h2 g3 h3 g4 h4 g5 h5 g6 h6 g7 h7 g8 h8 g9 h9 g10 h10 g11 h11 g12 h12
      have heq := eqSent k n f0 f1 f2 f3 f4 f5 f6 f7 f8 f9 body
      have hgd := guardSent
      go_wp2_with fail
      go_quiet (fail)
      go_wp2
      go_roundw
      case rel => exact ⟨1, by omega, by go_num, ⟨k0.os, k0.tape, k0.output, k0.size, k0.block⟩⟩
      case measure => simp [intOf]
    · obtain rfl : j = 1 := by omega
      clear g0 h0 g1 h1 g2 h2 g3 h3 g4 h4 g5 h5 g6 h6 g7 h7 g8 h8 g9 h9 g10 h10 g11 h11 g12 h12
      go_wp2_with fail
      go_ret
      exact ⟨rfl, k0⟩

end Go.Proofs.Ytonhfgdnkkkikac
