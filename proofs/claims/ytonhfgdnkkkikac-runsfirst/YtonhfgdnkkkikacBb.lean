/-
  Cells of new and of older blocks; cells that are filled one behind the other.
-/
import Derived.Test.YtonhfgdnkkkikacBa
import Derived.Laws.IdiomCopy
namespace Go.Proofs.Ytonhfgdnkkkikac
open Go.RowKit
set_option linter.unusedVariables false
set_option maxRecDepth 100000

theorem cell_in {w : World} {b o : Nat} {v : Value} (h : w.cell? ⟨b, o, none⟩ = some v) : b < w.heap.size := by
  rcases Nat.lt_or_ge b w.heap.size with h' | h'
  · exact h'
  · simp [World.cell?, Array.getElem?_eq_none h'] at h
theorem cell_beh {w w' : World} {B b o : Nat} {v : Value} (h : w.cell? ⟨b, o, none⟩ = some v) (hb : Below B w w') (hB : w.heap.size ≤ B) : w'.cell? ⟨b, o, none⟩ = some v :=
  (hb.cell (p := ⟨b, o, none⟩) (Nat.lt_of_lt_of_le (cell_in h) hB)).trans h
theorem new_cell (W : World) (n : Nat) (h : W.heap.size = n) (cs : Array Value) (t : TypeId) (j : Nat) (v : Value) (hv : cs[j]? = some v) : (W.alloc (.cells cs t)).cell? ⟨n, j, none⟩ = some v := by
  subst h
  simp [hv]
theorem old_cell {W : World} {b o : Nat} {v : Value} (h : W.cell? ⟨b, o, none⟩ = some v) (x : Obj) : (W.alloc x).cell? ⟨b, o, none⟩ = some v := cell_beh h ((Below.refl _ _).alloc (Nat.le_refl _) _) (Nat.le_refl _)

theorem new_frozen (W : World) (n : Nat) (h : W.heap.size = n) (cs : Array Value) (t : TypeId) (j : Nat) : (W.alloc (.cells cs t)).frozen? ⟨n, j, none⟩ = false := by
  subst h
  simp
theorem old_frozen {W : World} {b o : Nat} (hb : b < W.heap.size) (h : W.frozen? ⟨b, o, none⟩ = false) (x : Obj) : (W.alloc x).frozen? ⟨b, o, none⟩ = false := (((Below.refl W.heap.size W).alloc (Nat.le_refl _) x).frozen (p := ⟨b, o, none⟩) hb).trans h

/-- Cells that were filled. -/
theorem fill_at {w : World} {b : Nat} {vs : List Value} (h : ∀ j, j < vs.length → (w.cell? ⟨b, j, none⟩).isSome = true) {j : Nat} {v : Value} (hv : vs[j]? = some v) : (w.setCells b 0 vs).cell? ⟨b, j, none⟩ = some v := by
  have hj : j < vs.length := by
    rcases Nat.lt_or_ge j vs.length with h' | h'
    · exact h'
    · simp [List.getElem?_eq_none h'] at hv
  have := World.cell?_setCells_in b vs 0 w (fun k hk => by rw [Nat.zero_add]; exact h k hk) j hj
  rw [Nat.zero_add] at this
  rw [this]
  rw [List.getElem?_eq_getElem hj] at hv
  exact hv
theorem fill_below {B b : Nat} {a : World} (hb : B ≤ b) : ∀ (vs : List Value) (o : Nat) (w : World), Below B a w → Below B a (w.setCells b o vs)
  | [], _, _, h => h
  | v :: vs, o, w, h => fill_below hb vs (o + 1) _ (h.setCell hb v)
theorem new_cell_range (W : World) (n : Nat) (h : W.heap.size = n) (cs : Array Value) (t : TypeId) (j : Nat) (hj : j < cs.size) : ((W.alloc (.cells cs t)).cell? ⟨n, j, none⟩).isSome = true := by
  rw [new_cell W n h cs t j cs[j] (by simp [hj])]
  rfl

end Go.Proofs.Ytonhfgdnkkkikac
