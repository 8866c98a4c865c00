/-
  'string(b)' of a slice that owns bytes, and of nil.
-/
import Derived.Test.YtaonmcjbpfiliabWe
namespace Go.Proofs.Ytaonmcjbpfiliab
open Go.RowKit

/-- 'string(b)' of a slice that owns bytes. -/
theorem conv_own {w : World} {g cap : Nat} {xs : List Int} (hcell : ∀ i, i < xs.length → w.cell? ⟨g, 0 + i, none⟩ = some (.int .u8 (xs.getD i 0))) :
    (convert 22 9 (.slice (some ⟨g, 0, none⟩) xs.length cap)).run Try.prog w = .ok (.string (strOfNums xs)) w :=
  run_convert_bytes_arg w 22 5 Try.underlying22 Try.underlying5 g 0 xs.length cap xs rfl hcell 9 Try.underlying9

theorem conv_nil (w : World) : (convert 22 9 (.slice none 0 0)).run Try.prog w = .ok (.string ByteArray.empty) w :=
  run_convert_bytes_nil w 22 5 Try.underlying22 Try.underlying5 0 0 9 Try.underlying9

end Go.Proofs.Ytaonmcjbpfiliab
