/-
  A frame that came in, opened: its value is eight cells, seven numbers and a text.
-/
import Derived.Test.YtonhfgdnkkkikaeWa
import Derived.Test.YtonhfgdnkkkikaeOa
namespace Go.Proofs.Ytonhfgdnkkkikae
set_option linter.unusedVariables false
set_option maxRecDepth 100000
open Go.ChangeShapes Go.WideShapes Go.ChangeAt Go.RowKit

theorem cellsFrame : Try.prog.cellsOf 26 = 8 := by kernel_rfl

theorem array8 {α : Type} {cs : Array α} (h : cs.size = 8) : ∃ c0 c1 c2 c3 c4 c5 c6 c7, cs = #[c0, c1, c2, c3, c4, c5, c6, c7] := by
  obtain ⟨l⟩ := cs
  match l, h with
  | [c0, c1, c2, c3, c4, c5, c6, c7], _ => exact ⟨c0, c1, c2, c3, c4, c5, c6, c7, rfl⟩

theorem open_frame {H : Type} {enc : TypeId × Value → H} {w : World} {base b0 : Nat} {spare : Nat → Bool} {held : Bool} {r : Reach} {v : Value} {d : DataW H} {p : List MemPlace}
    (hv : Value.okWide Try.prog w r b0 26 v) (h : DataW.Trod enc Try.prog w base spare held 26 v d p) :
    ∃ dst src kind ips ipd ttl port : Int, ∃ body : ByteArray, v = fr dst src kind ips ipd ttl port body ∧ body.size ≤ maxLen ∧ (Lit.int .i64 dst).wf = true ∧ (Lit.int .i64 src).wf = true ∧ (Lit.int .i64 kind).wf = true
      ∧ (Lit.int .i64 ips).wf = true ∧ (Lit.int .i64 ipd).wf = true ∧ (Lit.int .i64 ttl).wf = true ∧ (Lit.int .i64 port).wf = true := by
  obtain ⟨cs, rfl, hsz⟩ := okWide_struct Try.underlying26 hv
  obtain ⟨c0, c1, c2, c3, c4, c5, c6, c7, rfl⟩ := array8 (hsz.trans cellsFrame)
  obtain ⟨fuel, hf⟩ := h
  obtain ⟨xs, n, _, _, _, hlen, hf⟩ := DataW.trod_struct Try.underlying26 hf
  have h8 : xs.length = 8 := by simpa using hlen
  have g0 := hf 0 _ rfl
  have g1 := hf 1 _ rfl
  have g2 := hf 2 _ rfl
  have g3 := hf 3 _ rfl
  have g4 := hf 4 _ rfl
  have g5 := hf 5 _ rfl
  have g6 := hf 6 _ rfl
  have g7 := hf 7 _ rfl
  simp only [Value.cells] at g0 g1 g2 g3 g4 g5 g6 g7
  obtain ⟨k0, rfl, w0⟩ := int_cell (i := 0) (by omega) g0
  obtain ⟨k1, rfl, w1⟩ := int_cell (i := 1) (by omega) g1
  obtain ⟨k2, rfl, w2⟩ := int_cell (i := 2) (by omega) g2
  obtain ⟨k3, rfl, w3⟩ := int_cell (i := 3) (by omega) g3
  obtain ⟨k4, rfl, w4⟩ := int_cell (i := 4) (by omega) g4
  obtain ⟨k5, rfl, w5⟩ := int_cell (i := 5) (by omega) g5
  obtain ⟨k6, rfl, w6⟩ := int_cell (i := 6) (by omega) g6
  obtain ⟨s, rfl, hs⟩ := string_cell (i := 7) (by omega) g7
  exact ⟨k0, k1, k2, k3, k4, k5, k6, s, rfl, hs, w0, w1, w2, w3, w4, w5, w6⟩

end Go.Proofs.Ytonhfgdnkkkikae
