/-
  A packet that came in, opened: ten numbers and a text.
-/
import Derived.Test.YtonhfgdnkkkikaePk
import Derived.Test.YtonhfgdnkkkikaeOp
import Derived.OpenShut
namespace Go.Proofs.Ytonhfgdnkkkikae
open Go.ChangeShapes Go.WideShapes Go.ChangeAt Go.RowKit
set_option linter.unusedVariables false
set_option maxRecDepth 100000

theorem cellsPacket : Try.prog.cellsOf 24 = 11 := by kernel_rfl
theorem cellsArr : Try.prog.cellsOf 22 = 10 := by kernel_rfl

theorem array11 {α : Type} {cs : Array α} (h : cs.size = 11) : ∃ c0 c1 c2 c3 c4 c5 c6 c7 c8 c9 c10, cs = #[c0, c1, c2, c3, c4, c5, c6, c7, c8, c9, c10] := by
  obtain ⟨l⟩ := cs
  match l, h with
  | [c0, c1, c2, c3, c4, c5, c6, c7, c8, c9, c10], _ => exact ⟨c0, c1, c2, c3, c4, c5, c6, c7, c8, c9, c10, rfl⟩

theorem open_packet {H : Type} {enc : TypeId × Value → H} {w : World} {base b0 : Nat} {spare : Nat → Bool} {held : Bool} {r : Reach} {v : Value} {d : DataW H} {p : List MemPlace}
    (hv : Value.okWide Try.prog w r b0 24 v) (h : DataW.Trod enc Try.prog w base spare held 24 v d p) :
    ∃ f0 f1 f2 f3 f4 f5 f6 f7 f8 f9 : Int, ∃ body : ByteArray, v = pkt f0 f1 f2 f3 f4 f5 f6 f7 f8 f9 body ∧ body.size ≤ maxLen := by
  obtain ⟨cs, rfl, hsz⟩ := okWide_struct Try.underlying24 hv
  obtain ⟨c0, c1, c2, c3, c4, c5, c6, c7, c8, c9, c10, rfl⟩ := array11 (hsz.trans cellsPacket)
  obtain ⟨fuel, hf⟩ := h
  obtain ⟨xs, n, _, _, _, hlen, hf⟩ := DataW.trod_struct Try.underlying24 hf
  have h2 : xs.length = 2 := by simpa using hlen
  have g0 := hf 0 _ rfl
  have g1 := hf 1 _ rfl
  simp only [Value.cells] at g0 g1
  obtain ⟨s, rfl, hs⟩ := string_cell (i := 1) (by omega) g1
  rw [List.getElem?_eq_getElem (show 0 < xs.length by omega)] at g0
  obtain ⟨ys, m, _, _, _, hyl, hy⟩ := DataW.trod_array Try.underlying22 g0
  have y0 := hy 0 (by omega)
  have y1 := hy 1 (by omega)
  have y2 := hy 2 (by omega)
  have y3 := hy 3 (by omega)
  have y4 := hy 4 (by omega)
  have y5 := hy 5 (by omega)
  have y6 := hy 6 (by omega)
  have y7 := hy 7 (by omega)
  have y8 := hy 8 (by omega)
  have y9 := hy 9 (by omega)
  obtain ⟨k0, rfl, _⟩ := int_cell (i := 0) (by omega) y0
  obtain ⟨k1, rfl, _⟩ := int_cell (i := 1) (by omega) y1
  obtain ⟨k2, rfl, _⟩ := int_cell (i := 2) (by omega) y2
  obtain ⟨k3, rfl, _⟩ := int_cell (i := 3) (by omega) y3
  obtain ⟨k4, rfl, _⟩ := int_cell (i := 4) (by omega) y4
  obtain ⟨k5, rfl, _⟩ := int_cell (i := 5) (by omega) y5
  obtain ⟨k6, rfl, _⟩ := int_cell (i := 6) (by omega) y6
  obtain ⟨k7, rfl, _⟩ := int_cell (i := 7) (by omega) y7
  obtain ⟨k8, rfl, _⟩ := int_cell (i := 8) (by omega) y8
  obtain ⟨k9, rfl, _⟩ := int_cell (i := 9) (by omega) y9
  exact ⟨k0, k1, k2, k3, k4, k5, k6, k7, k8, k9, s, rfl, hs⟩

end Go.Proofs.Ytonhfgdnkkkikae
