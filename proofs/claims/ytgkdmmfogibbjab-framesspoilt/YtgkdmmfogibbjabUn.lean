/-
  P1.5: what bytes of a tunnel tell.
-/
import Derived.Test.YtgkdmmfogibbjabWe2
namespace Go.Proofs.Ytgkdmmfogibbjab
open Go.RowKit
set_option linter.unusedVariables false

/-- Do bytes begin as those of a tunnel do? -/
def dyB (xs : List Int) : Bool := (strOfNums (xs.take 2)).toList == [100, 121]
def unwE (xs : List Int) : Int := if xs.length < 6 then 5 else if dyB xs = true then decE (xs.drop 6) else 4
def unw (xs : List Int) : Value := if unwE xs = 0 then .tuple #[.int .i64 (wd xs 2), .int .i64 (wd xs 4), decV (xs.drop 6), .int .i64 0] else .tuple #[.int .i64 0, .int .i64 0, zeroF, .int .i64 (unwE xs)]

theorem conv_two (b off cap : Nat) (xs : List Int) (hn : 2 ≤ xs.length) (w : World) (hL : Lies w b off xs) :
    (convert 22 9 (.slice (some ⟨b, off, none⟩) 2 cap)).run Try.prog w = .ok (.string (strOfNums (xs.take 2))) w :=
  run_convert_bytes_arg w 22 5 Try.underlying22 Try.underlying5 b off 2 cap (xs.take 2) (by simp; omega) (fun i hi => by
    rw [hL i (by omega)]
    simp [hi]) 9 Try.underlying9

theorem decV_form (xs : List Int) : ∃ a b c d e f g : Int, ∃ s : ByteArray, decV xs = fr a b c d e f g s := by
  unfold decV
  split
  · exact ⟨_, _, _, _, _, _, _, _, rfl⟩
  · exact ⟨_, _, _, _, _, _, _, _, rfl⟩

theorem unw_form (xs : List Int) : ∃ n t a b c d e f g : Int, ∃ s : ByteArray, ∃ x : Int, unw xs = .tuple #[.int .i64 n, .int .i64 t, fr a b c d e f g s, .int .i64 x] := by
  unfold unw
  split
  · obtain ⟨a, b, c, d, e, f, g, s, h⟩ := decV_form (xs.drop 6)
    rw [h]
    exact ⟨_, _, _, _, _, _, _, _, _, _, _, rfl⟩
  · exact ⟨_, _, _, _, _, _, _, _, _, _, _, rfl⟩

end Go.Proofs.Ytgkdmmfogibbjab
