/-
  Raw numbers that came in, opened: four numbers.
-/
import Derived.Test.YtonhfgdnkkkikacOa
namespace Go.Proofs.Ytonhfgdnkkkikac
open Go.ChangeShapes Go.WideShapes Go.ChangeAt Go.RowKit
set_option linter.unusedVariables false
set_option maxRecDepth 100000

theorem cellsRaw : Try.prog.cellsOf 70 = 4 := by kernel_rfl

theorem array4' {α : Type} {cs : Array α} (h : cs.size = 4) : ∃ c0 c1 c2 c3, cs = #[c0, c1, c2, c3] := by
  obtain ⟨l⟩ := cs
  match l, h with
  | [c0, c1, c2, c3], _ => exact ⟨c0, c1, c2, c3, rfl⟩

theorem i64_in {n : Int} (h : (Lit.int .i64 n).wf = true) : -9223372036854775808 ≤ n ∧ n ≤ 9223372036854775807 := by
  simpa [Lit.wf, IntKind.min, IntKind.max, IntKind.signed, IntKind.bits] using h

theorem open_raw {H : Type} {enc : TypeId × Value → H} {w : World} {base b0 : Nat} {spare : Nat → Bool} {held : Bool} {r : Reach} {v : Value} {d : DataW H} {p : List MemPlace}
    (hv : Value.okWide Try.prog w r b0 70 v) (h : DataW.Trod enc Try.prog w base spare held 70 v d p) :
    ∃ k a b c : Int, v = .agg #[.int .i64 k, .int .i64 a, .int .i64 b, .int .i64 c] ∧ (-9223372036854775808 ≤ k ∧ k ≤ 9223372036854775807) ∧ (-9223372036854775808 ≤ a ∧ a ≤ 9223372036854775807) ∧ (-9223372036854775808 ≤ b ∧ b ≤ 9223372036854775807) ∧
      (-9223372036854775808 ≤ c ∧ c ≤ 9223372036854775807) := by
  obtain ⟨cs, rfl, hsz⟩ := okWide_struct Try.underlying70 hv
  obtain ⟨c0, c1, c2, c3, rfl⟩ := array4' (hsz.trans cellsRaw)
  obtain ⟨fuel, hf⟩ := h
  obtain ⟨xs, n, _, _, _, hlen, hf⟩ := DataW.trod_struct Try.underlying70 hf
  have h8 : xs.length = 4 := by simpa using hlen
  have g0 := hf 0 _ rfl
  have g1 := hf 1 _ rfl
  have g2 := hf 2 _ rfl
  have g3 := hf 3 _ rfl
  simp only [Value.cells] at g0 g1 g2 g3
  obtain ⟨k0, rfl, w0⟩ := int_cell (i := 0) (by omega) g0
  obtain ⟨k1, rfl, w1⟩ := int_cell (i := 1) (by omega) g1
  obtain ⟨k2, rfl, w2⟩ := int_cell (i := 2) (by omega) g2
  obtain ⟨k3, rfl, w3⟩ := int_cell (i := 3) (by omega) g3
  exact ⟨k0, k1, k2, k3, rfl, i64_in w0, i64_in w1, i64_in w2, i64_in w3⟩

end Go.Proofs.Ytonhfgdnkkkikac
