/-
  Two rows of flows of the call's own, what their flows hold lying elsewhere.
-/
import Derived.Test.YtonhfgdnkkkikacSo
namespace Go.Proofs.Ytonhfgdnkkkikac
open Go.RowKit
set_option linter.unusedVariables false
set_option maxRecDepth 100000

/-- A flow, and the two slices that it holds. -/
structure Fv where
  f : Fl
  mv : Value
  dv : Value
def C (l : List Fv) : List Value := l.flatMap fun x => [.int .i64 x.f.t, .int .i64 x.f.p, x.mv, x.dv]
def fv0 : Fv := ⟨fl0, .slice none 0 0, .slice none 0 0⟩
theorem C_append (a b : List Fv) : C (a ++ b) = C a ++ C b := by simp [C]
theorem C_at : ∀ (l : List Fv) (i : Nat), i < l.length → (C l)[i * 4]? = some (.int .i64 (l.getD i fv0).f.t) ∧ (C l)[i * 4 + 1]? = some (.int .i64 (l.getD i fv0).f.p) ∧ (C l)[i * 4 + 2]? = some (l.getD i fv0).mv ∧ (C l)[i * 4 + 3]? = some (l.getD i fv0).dv
  | [], i, h => by simp at h
  | x :: r, 0, _ => ⟨rfl, rfl, rfl, rfl⟩
  | x :: r, i + 1, h => by
    have ih := C_at r i (by simpa using h)
    have e : ∀ j, (C (x :: r))[(i + 1) * 4 + j]? = (C r)[i * 4 + j]? := fun j => by
      have : (i + 1) * 4 + j = i * 4 + j + 4 := by omega
      rw [this]; rfl
    refine ⟨?_, ?_, ?_, ?_⟩
    · have := e 0; simp only [Nat.add_zero] at this; rw [this]; simpa using ih.1
    · rw [e 1]; simpa using ih.2.1
    · rw [e 2]; simpa using ih.2.2.1
    · rw [e 3]; simpa using ih.2.2.2

/-- One slice lies elsewhere than another. -/
def Apart (u v : Value) : Prop := u.ownBlock = none ∨ u.ownBlock ≠ v.ownBlock
/-- What a flow holds lies there; and it is nothing that came later. -/
def FvOk (w : World) (x : Fv) : Prop := MsAt w x.mv x.f.ms ∧ DsAt w x.dv x.f.ds ∧ (∀ g, x.mv.ownBlock = some g → g < w.heap.size) ∧ (∀ g, x.dv.ownBlock = some g → g < w.heap.size)
theorem FvOk.below {w w' : World} {x : Fv} (h : FvOk w x) (hb : Below w.heap.size w w') : FvOk w' x :=
  ⟨h.1.below hb (Nat.le_refl _), h.2.1.below hb (Nat.le_refl _), fun g e => Nat.lt_of_lt_of_le (h.2.2.1 g e) hb.size, fun g e => Nat.lt_of_lt_of_le (h.2.2.2 g e) hb.size⟩
theorem FvOk.kept {w w' : World} {x : Fv} {v : Value} (h : FvOk w x) (hg : w.grownBy w' v.ownBlock) (h1 : Apart x.mv v) (h2 : Apart x.dv v) : FvOk w' x :=
  ⟨h.1.kept hg h1, h.2.1.kept hg h2, fun g e => Nat.lt_of_lt_of_le (h.2.2.1 g e) hg.size, fun g e => Nat.lt_of_lt_of_le (h.2.2.2 g e) hg.size⟩
theorem FvOk.slices {w : World} {x : Fv} (h : FvOk w x) : (∃ o c, x.mv = .slice o x.f.ms.length c) ∧ (∃ o c, x.dv = .slice o x.f.ds.length c) := by
  obtain ⟨⟨a, c, h1, _⟩, ⟨a', c', h2, _⟩, _⟩ := h
  exact ⟨⟨a, c, h1⟩, ⟨a', c', h2⟩⟩
theorem FvOk.one {w : World} {x : Fv} (h : FvOk w x) : ∀ u ∈ C [x], u.oneCell' = true := by
  obtain ⟨⟨o, c, h1⟩, ⟨o', c', h2⟩⟩ := h.slices
  intro u hu
  simp [C] at hu
  rcases hu with rfl | rfl | rfl | rfl
  · rfl
  · rfl
  · rw [h1]; rfl
  · rw [h2]; rfl

/-- Two rows of flows, apart from one another and from what their flows hold. -/
structure Rows2 (w : World) (B : Nat) (vo : Value) (lo : List Fv) (vn : Value) (ln : List Fv) : Prop where
  out : w.ownsRow B 41 4 vo lo.length (C lo)
  next : w.ownsRow B 41 4 vn ln.length (C ln)
  two : Apart vo vn
  oks : ∀ x ∈ lo ++ ln, FvOk w x ∧ Apart x.mv vo ∧ Apart x.dv vo ∧ Apart x.mv vn ∧ Apart x.dv vn
theorem Rows2.below {w w' : World} {B : Nat} {vo vn : Value} {lo ln : List Fv} (h : Rows2 w B vo lo vn ln) (hb : Below w.heap.size w w') : Rows2 w' B vo lo vn ln :=
  ⟨own_below h.out hb, own_below h.next hb, h.two, fun x hx => ⟨(h.oks x hx).1.below hb, (h.oks x hx).2⟩⟩
theorem Apart.app {w : World} {u v : Value} {g H n c : Nat} (h : Apart u v) (hu : ∀ g, u.ownBlock = some g → g < H) (ha : v.ownBlock = some g ∨ g = H) : Apart u (.slice (some ⟨g, 0, none⟩) n c) := by
  rcases h with h | h
  · exact .inl h
  · cases e : u.ownBlock with
    | none => exact .inl e
    | some b =>
      refine .inr ?_
      rw [e]
      simp only [Value.ownBlock]
      rcases ha with ha | ha
      · rw [ha, e] at h; exact h
      · have := hu b e
        simp; omega
/-- Behind an append of one flow to the second row. -/
theorem Rows2.app {w w' : World} {B g cap H : Nat} {vo vn : Value} {lo ln : List Fv} {x : Fv} (h : Rows2 w B vo lo vn ln) (hx : FvOk w x) (x1 : Apart x.mv vo) (x2 : Apart x.dv vo) (x3 : Apart x.mv vn) (x4 : Apart x.dv vn)
    (ho : w'.ownsRow B 41 4 (.slice (some ⟨g, 0, none⟩) (ln.length + 1) cap) (ln.length + 1) (C ln ++ C [x])) (hg : w.grownBy w' vn.ownBlock) (ha : vn.ownBlock = some g ∨ g = H) (hH : w.heap.size = H) :
    Rows2 w' B vo lo (.slice (some ⟨g, 0, none⟩) (ln.length + 1) cap) (ln ++ [x]) := by
  refine ⟨h.out.kept hg h.two, ?_, ?_, ?_⟩
  · rw [C_append, List.length_append]; exact ho
  · exact Apart.app (w := w) h.two (fun g e => hH ▸ own_lt h.out e) ha
  · intro y hy
    have hy' : (FvOk w y ∧ Apart y.mv vo ∧ Apart y.dv vo ∧ Apart y.mv vn ∧ Apart y.dv vn) := by
      simp only [List.mem_append, List.mem_singleton] at hy
      rcases hy with hy | hy | rfl
      · exact h.oks y (by simp [hy])
      · exact h.oks y (by simp [hy])
      · exact ⟨hx, x1, x2, x3, x4⟩
    obtain ⟨k0, k1, k2, k3, k4⟩ := hy'
    exact ⟨k0.kept hg k3 k4, k1, k2, Apart.app (w := w) k3 (fun g e => hH ▸ k0.2.2.1 g e) ha, Apart.app (w := w) k4 (fun g e => hH ▸ k0.2.2.2 g e) ha⟩

end Go.Proofs.Ytonhfgdnkkkikac
