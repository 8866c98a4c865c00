/-
  What all rows ask of the program; numbers and texts that came in, opened.
-/
import Derived.Test.YtonhfgdnkkkikacBa
import Derived.ProofKit
import Derived.OpenShut
import Derived.ShutString
import Derived.ChangeOld
namespace Go.Proofs.Ytonhfgdnkkkikac
set_option linter.unusedVariables false
set_option maxRecDepth 100000
open Go.ChangeShapes Go.WideShapes Go.ChangeAt Go.RowKit

theorem own : ownKnob Try.prog.godebug = none := by kernel_rfl
theorem laidOut : laidOutB Try.prog = true := by kernel_rfl

theorem int_cell {H : Type} {enc : TypeId × Value → H} {w : World} {base : Nat} {spare : Nat → Bool} {held : Bool} {n i : Nat} {c : Value} {xs : List (DataW H × List MemPlace)} (hi : i < xs.length)
    (h : DataW.trod enc Try.prog w base spare held n 3 [c] = xs[i]?) : ∃ k, c = .int .i64 k ∧ (Lit.int .i64 k).wf = true := by
  rw [List.getElem?_eq_getElem hi] at h
  obtain ⟨k, hc, _, hw⟩ := DataW.trod_int Try.underlying3 h
  exact ⟨k, by simpa using hc, hw⟩

theorem string_cell {H : Type} {enc : TypeId × Value → H} {w : World} {base : Nat} {spare : Nat → Bool} {held : Bool} {n i : Nat} {c : Value} {xs : List (DataW H × List MemPlace)} (hi : i < xs.length)
    (h : DataW.trod enc Try.prog w base spare held n 9 [c] = xs[i]?) : ∃ s : ByteArray, c = .string s ∧ s.size ≤ maxLen := by
  rw [List.getElem?_eq_getElem hi] at h
  obtain ⟨k, hc, _, hw⟩ := DataW.trod_string Try.underlying9 h
  exact ⟨k, by simpa using hc, hw⟩

end Go.Proofs.Ytonhfgdnkkkikac
