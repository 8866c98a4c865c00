/-
  A frame's bytes in a tunnel, and how many bytes a frame has.
-/
import Derived.Test.YtonhfgdnkkkikacWe
namespace Go.Proofs.Ytonhfgdnkkkikac
open Go.RowKit
set_option linter.unusedVariables false
set_option maxRecDepth 100000

/-- P1.5: a frame's bytes for a tunnel. -/
def wrapped (net tow dst src kind ips ipd ttl port : Int) (body : ByteArray) : List Int := [100, 121] ++ word net ++ word tow ++ enc dst src kind ips ipd ttl port body

theorem enc_length (dst src kind ips ipd ttl port : Int) (body : ByteArray) : (enc dst src kind ips ipd ttl port body).length = 16 + body.size := by
  unfold enc; rw [List.length_append, enc0_length]; simp [word]; omega

end Go.Proofs.Ytonhfgdnkkkikac
