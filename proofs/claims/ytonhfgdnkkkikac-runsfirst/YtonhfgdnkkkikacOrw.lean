/-
  A list of raw numbers that came in, opened.
-/
import Derived.Test.YtonhfgdnkkkikacOcf
import Derived.Test.YtonhfgdnkkkikacKr
namespace Go.Proofs.Ytonhfgdnkkkikac
open Go.ChangeShapes Go.WideShapes Go.ChangeAt Go.RowKit
set_option linter.unusedVariables false
set_option maxRecDepth 100000

/-- A word of 64 bits. -/
def W64 (n : Int) : Prop := -9223372036854775808 ≤ n ∧ n ≤ 9223372036854775807
/-- Some numbers. -/
structure Rw where
  k : Int
  a : Int
  b : Int
  c : Int
  ok : W64 k ∧ W64 a ∧ W64 b ∧ W64 c
def rw0 : Rw := ⟨0, 0, 0, 0, by simp [W64]⟩
instance : Inhabited Rw := ⟨rw0⟩
def rwC (x : Rw) : List Value := [.int .i64 x.k, .int .i64 x.a, .int .i64 x.b, .int .i64 x.c]

theorem rw_at {w : World} {v : Value} {l : List Rw} {k : Nat} (h : RowAt rwC 4 w v l) (hk : k < l.length) : ∃ b off cap, v = .slice (some ⟨b, off, none⟩) l.length cap ∧ l.length ≤ cap ∧ b < w.heap.size ∧
    w.cell? ⟨b, off + k * 4, none⟩ = some (.int .i64 (l.getD k rw0).k) ∧ w.cell? ⟨b, off + k * 4 + 1, none⟩ = some (.int .i64 (l.getD k rw0).a) ∧ w.cell? ⟨b, off + k * 4 + 2, none⟩ = some (.int .i64 (l.getD k rw0).b) ∧ w.cell? ⟨b, off + k * 4 + 3, none⟩ = some (.int .i64 (l.getD k rw0).c) := by
  obtain ⟨a, cap, e, _, h0 | ⟨b, off, rfl, hc, hx⟩⟩ := h
  · omega
  · have g := hx k _ (getD_at rw0 hk)
    have c0 := g 0 _ rfl
    exact ⟨b, off, cap, e, hc, cell_in c0, c0, g 1 _ rfl, g 2 _ rfl, g 3 _ rfl⟩

theorem open_rw {H : Type} {enc : TypeId × Value → H} {w : World} {base : Nat} {spare : Nat → Bool} {held : Bool} {n : Nat} {cs : List Value} {z : DataW H × List MemPlace} (h : DataW.trod enc Try.prog w base spare held n 70 cs = some z) : ∃ x : Rw, cs = rwC x := by
  obtain ⟨xs, n', _, _, hcl, hlen, hf⟩ := DataW.trod_struct Try.underlying70 h
  rw [show Try.prog.cellsOf 70 = 4 by kernel_rfl] at hcl
  have h3 : xs.length = 4 := by simpa using hlen
  obtain ⟨c0, c1, c2, c3, hcs⟩ : ∃ c0 c1 c2 c3, cs = [c0, c1, c2, c3] := by
    match cs, hcl with
    | [c0, c1, c2, c3], _ => exact ⟨c0, c1, c2, c3, rfl⟩
  subst hcs
  obtain ⟨n0, rfl, w0⟩ := int_cell (i := 0) (by omega) (hf 0 _ rfl)
  obtain ⟨n1, rfl, w1⟩ := int_cell (i := 1) (by omega) (hf 1 _ rfl)
  obtain ⟨n2, rfl, w2⟩ := int_cell (i := 2) (by omega) (hf 2 _ rfl)
  obtain ⟨n3, rfl, w3⟩ := int_cell (i := 3) (by omega) (hf 3 _ rfl)
  exact ⟨⟨n0, n1, n2, n3, i64_in w0, i64_in w1, i64_in w2, i64_in w3⟩, rfl⟩

theorem open_raws {H : Type} {enc : TypeId × Value → H} {w : World} {base b0 : Nat} {spare : Nat → Bool} {held : Bool} {r : Reach} {v : Value} {d : DataW H} {p : List MemPlace}
    (hv : Value.okWide Try.prog w r b0 29 v) (h : DataW.Trod enc Try.prog w base spare held 29 v d p) : ∃ l : List Rw, RowAt rwC 4 w v l := by
  obtain ⟨a, len, cap, rfl⟩ := okWide_slice Try.underlying29 hv
  obtain ⟨fuel, hf⟩ := h
  obtain ⟨v0, l, e0, hl, _⟩ := open_rows (C := rwC) (sz := 4) Try.underlying29 (by kernel_rfl) (by omega) (fun n cs' z hz => open_rw hz) hf
  simp [Value.cells] at e0
  subst e0
  exact ⟨l, hl⟩

end Go.Proofs.Ytonhfgdnkkkikac
