/-
  An act that came in, opened: its 28 cells.
-/
import Derived.Test.YtonhfgdnkkkikadOcf
import Derived.Test.YtonhfgdnkkkikadCap
namespace Go.Proofs.Ytonhfgdnkkkikad
open Go.ChangeShapes Go.WideShapes Go.ChangeAt Go.RowKit
set_option linter.unusedVariables false
set_option maxRecDepth 100000

theorem cellsAct : Try.prog.cellsOf 39 = 28 := by kernel_rfl
theorem array28 {α : Type} {cs : Array α} (h : cs.size = 28) : ∃ c0 c1 c2 c3 c4 c5 c6 c7 c8 c9 c10 c11 c12 c13 c14 c15 c16 c17 c18 c19 c20 c21 c22 c23 c24 c25 c26 c27, cs = #[c0, c1, c2, c3, c4, c5, c6, c7, c8, c9, c10, c11, c12, c13, c14, c15, c16, c17, c18, c19, c20, c21, c22, c23, c24, c25, c26, c27] := by
  obtain ⟨l⟩ := cs
  match l, h with
  | [c0, c1, c2, c3, c4, c5, c6, c7, c8, c9, c10, c11, c12, c13, c14, c15, c16, c17, c18, c19, c20, c21, c22, c23, c24, c25, c26, c27], _ => exact ⟨c0, c1, c2, c3, c4, c5, c6, c7, c8, c9, c10, c11, c12, c13, c14, c15, c16, c17, c18, c19, c20, c21, c22, c23, c24, c25, c26, c27, rfl⟩
theorem list8 {α : Type} {cs : List α} (h : cs.length = 8) : ∃ c0 c1 c2 c3 c4 c5 c6 c7, cs = [c0, c1, c2, c3, c4, c5, c6, c7] := by
  match cs, h with
  | [c0, c1, c2, c3, c4, c5, c6, c7], _ => exact ⟨c0, c1, c2, c3, c4, c5, c6, c7, rfl⟩

section
variable {H : Type} {enc : TypeId × Value → H} {w : World} {base : Nat} {spare : Nat → Bool} {held : Bool}

theorem open_fr {n : Nat} {cs : List Value} {z : DataW H × List MemPlace} (h : DataW.trod enc Try.prog w base spare held n 37 cs = some z) : ∃ (f0 f1 f2 f3 f4 f5 f6 : Int) (s : ByteArray), cs = [.int .i64 f0, .int .i64 f1, .int .i64 f2, .int .i64 f3, .int .i64 f4, .int .i64 f5, .int .i64 f6, .string s] ∧ s.size ≤ maxLen := by
  obtain ⟨xs, n', _, _, hcl, hlen, hf⟩ := DataW.trod_struct Try.underlying37 h
  rw [show Try.prog.cellsOf 37 = 8 by kernel_rfl] at hcl
  have h3 : xs.length = 8 := by simpa using hlen
  obtain ⟨c0, c1, c2, c3, c4, c5, c6, c7, rfl⟩ := list8 hcl
  obtain ⟨n0, rfl, _⟩ := int_cell (i := 0) (by omega) (hf 0 _ rfl)
  obtain ⟨n1, rfl, _⟩ := int_cell (i := 1) (by omega) (hf 1 _ rfl)
  obtain ⟨n2, rfl, _⟩ := int_cell (i := 2) (by omega) (hf 2 _ rfl)
  obtain ⟨n3, rfl, _⟩ := int_cell (i := 3) (by omega) (hf 3 _ rfl)
  obtain ⟨n4, rfl, _⟩ := int_cell (i := 4) (by omega) (hf 4 _ rfl)
  obtain ⟨n5, rfl, _⟩ := int_cell (i := 5) (by omega) (hf 5 _ rfl)
  obtain ⟨n6, rfl, _⟩ := int_cell (i := 6) (by omega) (hf 6 _ rfl)
  obtain ⟨s, rfl, hs⟩ := string_cell (i := 7) (by omega) (hf 7 _ rfl)
  exact ⟨n0, n1, n2, n3, n4, n5, n6, s, rfl, hs⟩

theorem open_act {b0 : Nat} {r : Reach} {v : Value} {d : DataW H} {p : List MemPlace}
    (hv : Value.okWide Try.prog w r b0 39 v) (h : DataW.Trod enc Try.prog w base spare held 39 v d p) : ∃ a : Ax, v = actV a ∧ a.body.size ≤ maxLen := by
  obtain ⟨cs, rfl, hsz⟩ := okWide_struct Try.underlying39 hv
  obtain ⟨c0, c1, c2, c3, c4, c5, c6, c7, c8, c9, c10, c11, c12, c13, c14, c15, c16, c17, c18, c19, c20, c21, c22, c23, c24, c25, c26, c27, rfl⟩ := array28 (hsz.trans cellsAct)
  obtain ⟨fuel, hf⟩ := h
  obtain ⟨xs, n, _, _, _, hlen, hf⟩ := DataW.trod_struct Try.underlying39 hf
  have h7 : xs.length = 7 := by simpa using hlen
  have g0 := hf 0 _ rfl
  have g1 := hf 1 _ rfl
  have g2 := hf 2 _ rfl
  have g3 := hf 3 _ rfl
  have g4 := hf 4 _ rfl
  have g5 := hf 5 _ rfl
  have g6 := hf 6 _ rfl
  simp only [Value.cells] at g0 g1 g2 g3 g4 g5 g6
  obtain ⟨k, rfl, _⟩ := int_cell (i := 0) (by omega) g0
  obtain ⟨n4, rfl, _⟩ := int_cell (i := 4) (by omega) g4
  obtain ⟨n5, rfl, _⟩ := int_cell (i := 5) (by omega) g5
  rw [List.getElem?_eq_getElem (show 1 < xs.length by omega)] at g1
  rw [List.getElem?_eq_getElem (show 2 < xs.length by omega)] at g2
  rw [List.getElem?_eq_getElem (show 3 < xs.length by omega)] at g3
  rw [List.getElem?_eq_getElem (show 6 < xs.length by omega)] at g6
  obtain ⟨⟨s0, s1, s2⟩, e1⟩ := open_sw g1
  obtain ⟨⟨p0, p1, p2, p3, p4⟩, e2⟩ := open_pr g2
  obtain ⟨⟨a0, a1, a2, a3, a4, a5, a6, a7, a8⟩, e3⟩ := open_ac g3
  obtain ⟨f0, f1, f2, f3, f4, f5, f6, s, e6, hs⟩ := open_fr g6
  simp only [swC, prC, acC] at e1 e2 e3
  obtain ⟨rfl, rfl, rfl⟩ := e1
  obtain ⟨rfl, rfl, rfl, rfl, rfl⟩ := e2
  obtain ⟨rfl, rfl, rfl, rfl, rfl, rfl, rfl, rfl, rfl⟩ := e3
  obtain ⟨rfl, rfl, rfl, rfl, rfl, rfl, rfl, rfl⟩ := e6
  exact ⟨⟨k, s0, s1, s2, p0, p1, p2, p3, p4, a0, a1, a2, a3, a4, a5, a6, a7, a8, n4, n5, f0, f1, f2, f3, f4, f5, f6, s⟩, rfl, hs⟩
end

end Go.Proofs.Ytonhfgdnkkkikad
