/-
  Packets as values; what the document's PacketFault answers.
-/
import Derived.Test.YtonhfgdnkkkikacWa
import Derived.Test.YtonhfgdnkkkikacPm
namespace Go.Proofs.Ytonhfgdnkkkikac
open Go.RowKit
set_option linter.unusedVariables false
set_option maxRecDepth 100000

/-- A packet as a value. -/
abbrev pkt (f0 f1 f2 f3 f4 f5 f6 f7 f8 f9 : Int) (body : ByteArray) : Value :=
  .agg #[.int .i64 f0, .int .i64 f1, .int .i64 f2, .int .i64 f3, .int .i64 f4, .int .i64 f5, .int .i64 f6, .int .i64 f7, .int .i64 f8, .int .i64 f9, .string body]

/-- A packet lies at a block. -/
def PkAt (w : World) (b : Nat) (F : List Int) (body : ByteArray) : Prop :=
  F.length = 10 ∧ (∀ i, i < 10 → w.cell? ⟨b, i, none⟩ = some (.int .i64 (F.getD i 0))) ∧ w.cell? ⟨b, 10, none⟩ = some (.string body)

theorem pkAt_new (w : World) (t : TypeId) (f0 f1 f2 f3 f4 f5 f6 f7 f8 f9 : Int) (body : ByteArray) :
    PkAt (w.alloc (.cells #[.int .i64 f0, .int .i64 f1, .int .i64 f2, .int .i64 f3, .int .i64 f4, .int .i64 f5, .int .i64 f6, .int .i64 f7, .int .i64 f8, .int .i64 f9, .string body] t)) w.heap.size [f0, f1, f2, f3, f4, f5, f6, f7, f8, f9] body := by
  refine ⟨rfl, fun i hi => ?_, by simp⟩
  have hc : i = 0 ∨ i = 1 ∨ i = 2 ∨ i = 3 ∨ i = 4 ∨ i = 5 ∨ i = 6 ∨ i = 7 ∨ i = 8 ∨ i = 9 := by omega
  rcases hc with rfl | rfl | rfl | rfl | rfl | rfl | rfl | rfl | rfl | rfl <;> simp

theorem PkAt.below {w w' : World} {b B : Nat} {F : List Int} {body : ByteArray} (h : PkAt w b F body) (hb : Below B w w') (hB : b < B) : PkAt w' b F body :=
  ⟨h.1, fun i hi => (hb.cell (p := ⟨b, i, none⟩) hB).trans (h.2.1 i hi), (hb.cell (p := ⟨b, 10, none⟩) hB).trans h.2.2⟩

/-- P2.2: what is wrong with a packet. -/
def pktFault (F : List Int) (n : Nat) : Int := if F.all wordB then (if 40 < n then 1 else 0) else 2

theorem all_of (F : List Int) (k : Nat) (h : ∀ j, j < k → wordB (F.getD j 0) = true) (hk : k = F.length) : F.all wordB = true := by
  rw [List.all_eq_true]
  intro x hx
  obtain ⟨i, hi, rfl⟩ := List.getElem_of_mem hx
  have := h i (by omega)
  simpa [List.getD, List.getElem?_eq_getElem hi] using this
theorem not_all_of (F : List Int) (k : Nat) (hk : k < F.length) (h : wordB (F.getD k 0) = false) : F.all wordB = false := by
  rw [List.all_eq_false]
  exact ⟨F[k], List.getElem_mem hk, by simpa [List.getD, List.getElem?_eq_getElem hk] using h⟩

end Go.Proofs.Ytonhfgdnkkkikac
