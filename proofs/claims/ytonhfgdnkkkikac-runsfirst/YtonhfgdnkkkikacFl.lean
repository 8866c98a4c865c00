/-
  Flows as data, and where they lie in memory.
-/
import Derived.Test.YtonhfgdnkkkikacWa
import Derived.Test.YtonhfgdnkkkikacMk
namespace Go.Proofs.Ytonhfgdnkkkikac
open Go.RowKit
set_option linter.unusedVariables false
set_option maxRecDepth 100000

theorem wrapI (n : Int) (h0 : 0 ≤ n) (h1 : n ≤ 1000000) : IntKind.i64.wrap n = n := by
  simp [IntKind.wrap, IntKind.bits, IntKind.signed]
  split <;> omega

/-- A match: the field, the mask, the value. -/
structure Mt where
  f : Int
  m : Int
  v : Int
/-- What a flow does: the kind, A, N. -/
structure Do where
  k : Int
  a : Int
  n : Int
/-- A flow. -/
structure Fl where
  t : Int
  p : Int
  ms : List Mt
  ds : List Do

def mt0 : Mt := ⟨0, 0, 0⟩
def do0 : Do := ⟨0, 0, 0⟩
def fl0 : Fl := ⟨0, 0, [], []⟩

/-- Matches lie where a slice says. -/
def MsAt (w : World) (v : Value) (ms : List Mt) : Prop :=
  ∃ a cap, v = .slice a ms.length cap ∧ (a = none → cap = 0) ∧ (ms.length = 0 ∨ ∃ b off, a = some ⟨b, off, none⟩ ∧ ms.length ≤ cap ∧ ∀ i, i < ms.length →
    w.cell? ⟨b, off + i * 3, none⟩ = some (.int .i64 (ms.getD i mt0).f) ∧ w.cell? ⟨b, off + i * 3 + 1, none⟩ = some (.int .i64 (ms.getD i mt0).m) ∧ w.cell? ⟨b, off + i * 3 + 2, none⟩ = some (.int .i64 (ms.getD i mt0).v))
def DsAt (w : World) (v : Value) (ds : List Do) : Prop :=
  ∃ a cap, v = .slice a ds.length cap ∧ (a = none → cap = 0) ∧ (ds.length = 0 ∨ ∃ b off, a = some ⟨b, off, none⟩ ∧ ds.length ≤ cap ∧ ∀ i, i < ds.length →
    w.cell? ⟨b, off + i * 3, none⟩ = some (.int .i64 (ds.getD i do0).k) ∧ w.cell? ⟨b, off + i * 3 + 1, none⟩ = some (.int .i64 (ds.getD i do0).a) ∧ w.cell? ⟨b, off + i * 3 + 2, none⟩ = some (.int .i64 (ds.getD i do0).n))
/-- A flow lies at a place. -/
def FlAt (w : World) (b off : Nat) (f : Fl) : Prop :=
  w.cell? ⟨b, off, none⟩ = some (.int .i64 f.t) ∧ w.cell? ⟨b, off + 1, none⟩ = some (.int .i64 f.p) ∧
  ∃ mv dv, w.cell? ⟨b, off + 2, none⟩ = some mv ∧ w.cell? ⟨b, off + 3, none⟩ = some dv ∧ MsAt w mv f.ms ∧ DsAt w dv f.ds
/-- Flows lie where a slice says. -/
def FsAt (w : World) (v : Value) (fs : List Fl) : Prop :=
  ∃ a cap, v = .slice a fs.length cap ∧ (a = none → cap = 0) ∧ (fs.length = 0 ∨ ∃ b off, a = some ⟨b, off, none⟩ ∧ fs.length ≤ cap ∧ ∀ i, i < fs.length → FlAt w b (off + i * 4) (fs.getD i fl0))

theorem cell_lt {w : World} {b o : Nat} {v : Value} (h : w.cell? ⟨b, o, none⟩ = some v) : b < w.heap.size := by
  rcases Nat.lt_or_ge b w.heap.size with h' | h'
  · exact h'
  · simp [World.cell?, Array.getElem?_eq_none h'] at h
theorem cell_below {w w' : World} {B b o : Nat} {v : Value} (h : w.cell? ⟨b, o, none⟩ = some v) (hb : Below B w w') (hB : w.heap.size ≤ B) : w'.cell? ⟨b, o, none⟩ = some v :=
  (hb.cell (p := ⟨b, o, none⟩) (Nat.lt_of_lt_of_le (cell_lt h) hB)).trans h

theorem MsAt.below {w w' : World} {B : Nat} {v : Value} {ms : List Mt} (h : MsAt w v ms) (hb : Below B w w') (hB : w.heap.size ≤ B) : MsAt w' v ms := by
  obtain ⟨a, cap, hv, hn, h0 | ⟨b, off, ha, hc, hL⟩⟩ := h
  · exact ⟨a, cap, hv, hn, .inl h0⟩
  · exact ⟨a, cap, hv, hn, .inr ⟨b, off, ha, hc, fun i hi => ⟨cell_below (hL i hi).1 hb hB, cell_below (hL i hi).2.1 hb hB, cell_below (hL i hi).2.2 hb hB⟩⟩⟩
theorem DsAt.below {w w' : World} {B : Nat} {v : Value} {ds : List Do} (h : DsAt w v ds) (hb : Below B w w') (hB : w.heap.size ≤ B) : DsAt w' v ds := by
  obtain ⟨a, cap, hv, hn, h0 | ⟨b, off, ha, hc, hL⟩⟩ := h
  · exact ⟨a, cap, hv, hn, .inl h0⟩
  · exact ⟨a, cap, hv, hn, .inr ⟨b, off, ha, hc, fun i hi => ⟨cell_below (hL i hi).1 hb hB, cell_below (hL i hi).2.1 hb hB, cell_below (hL i hi).2.2 hb hB⟩⟩⟩
theorem FlAt.below {w w' : World} {B b off : Nat} {f : Fl} (h : FlAt w b off f) (hb : Below B w w') (hB : w.heap.size ≤ B) : FlAt w' b off f := by
  obtain ⟨h0, h1, mv, dv, h2, h3, hm, hd⟩ := h
  exact ⟨cell_below h0 hb hB, cell_below h1 hb hB, mv, dv, cell_below h2 hb hB, cell_below h3 hb hB, hm.below hb hB, hd.below hb hB⟩
theorem FsAt.below {w w' : World} {B : Nat} {v : Value} {fs : List Fl} (h : FsAt w v fs) (hb : Below B w w') (hB : w.heap.size ≤ B) : FsAt w' v fs := by
  obtain ⟨a, cap, hv, hn, h0 | ⟨b, off, ha, hc, hL⟩⟩ := h
  · exact ⟨a, cap, hv, hn, .inl h0⟩
  · exact ⟨a, cap, hv, hn, .inr ⟨b, off, ha, hc, fun i hi => (hL i hi).below hb hB⟩⟩

end Go.Proofs.Ytonhfgdnkkkikac
