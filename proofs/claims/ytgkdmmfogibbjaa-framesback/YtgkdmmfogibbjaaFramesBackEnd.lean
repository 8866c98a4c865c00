/-
  FramesBack: a frame is read as it was written, in a tunnel, too; cut short, or longer, it is not: the law returns true at all numbers and texts. No condition.
-/
import Derived.Test.YtgkdmmfogibbjaaFramesBackRow
import Derived.Test.YtgkdmmfogibbjaaPo
namespace Go.Proofs.Ytgkdmmfogibbjaa

theorem framesBack : Rows.FramesBackSaid := framesBack_of patchOne_any

end Go.Proofs.Ytgkdmmfogibbjaa
