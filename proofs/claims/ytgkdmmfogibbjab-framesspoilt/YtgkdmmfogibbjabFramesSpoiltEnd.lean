/-
  FramesSpoilt: a frame of which a byte is another one is not read: the law returns true at all numbers and texts. No condition.
-/
import Derived.Test.YtgkdmmfogibbjabFramesSpoiltRow
import Derived.Test.YtgkdmmfogibbjabPo
namespace Go.Proofs.Ytgkdmmfogibbjab

theorem framesSpoilt : Rows.FramesSpoiltSaid := framesSpoilt_of patchOne_any

end Go.Proofs.Ytgkdmmfogibbjab
