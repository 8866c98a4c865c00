/-
  No cell of these rows narrows 'for every input' (looked for: loops, veiled, ifaces, maps, wideKeys, modest, calm, conditions, laid).
  DERIVED. THE GIVEN ROWS OF THIS SEAT. 5 by the template 'for every input the law returns true; each argument reads behind the call as it read before'; 0 by the template 'total and deterministic' (their statements: YtonhfgdnkkkikadTotals.lean).
  GIVEN WITH THE SEED: the statements are not yours to turn. If you find one false, say at which input.
  Laid BY PROGRAM, IN A SANDBOX (cutbox-rows.mjs): the forced cells as the released guide's own fill.sh prints them over the translation 1470aab0629812b6… (all of the seat's roots in one cut). By AI agents, Wed Nov 11 2026. No macro, syntax, notation, axiom, sorry.
-/
import Derived.Test.YtonhfgdnkkkikadChecked
import GoSem.Claim
import GoSem.ClaimJoined
import GoSem.ClaimMapViews
import Derived.JoinedTies
import Derived.KernelRfl
namespace Go.Proofs.Ytonhfgdnkkkikad
/- THE CELL 'sum', in the pinned program and in every row, IS THE sha256 OF THE DUMP (.gsa) THAT YtonhfgdnkkkikadProg.lean LOADS. Nothing in Lean hashes anything: it is a label: what it is worth is what the hold of that sum in a sandbox is worth. -/
noncomputable def Try.pinned : Pinned := { name := "ytonhfgdnkkkikad", sum := "1470aab0629812b6752cff60cba6e9a330d9ce565197213f66f189edf5a4a68a", checked := Try.checked }
namespace Rows
def none {H : Type} : Left H := { results := [], args := [] }

/-- 'dyeworkslaw.ConfCopies': WHATEVER THE INPUT: true; the input reads as it did. -/
def confCopiesSpec : ChangeSpec := { name := "confCopies", fn := fun _ => fun
  | [d] => { results := [.lit (.bool true)], args := [d] }
  | _ => none }
def confCopiesRow : OpenClaim := { program := "ytonhfgdnkkkikad", sum := "1470aab0629812b6752cff60cba6e9a330d9ce565197213f66f189edf5a4a68a", func := "dyeworks/dyeworkslaw.ConfCopies", spec := "confCopies", apart := false }
def ConfCopiesSaid : Prop := confCopiesRow.holds Try.pinned (OpenSpec.ofChange confCopiesSpec)

/-- ITS FALSE NEIGHBOUR: 'it returns false'. Refute it at one input. -/
def confCopiesWrong : ChangeSpec := { name := "confCopies", fn := fun _ => fun
  | [d] => { results := [.lit (.bool false)], args := [d] }
  | _ => none }
def ConfCopiesWrongFalsely : Prop := confCopiesRow.holds Try.pinned (OpenSpec.ofChange confCopiesWrong)

/-- 'dyeworkslaw.ConfApplies': WHATEVER THE INPUT: true; the input reads as it did. -/
def confAppliesSpec : ChangeSpec := { name := "confApplies", fn := fun _ => fun
  | [d1, d2] => { results := [.lit (.bool true)], args := [d1, d2] }
  | _ => none }
def confAppliesRow : OpenClaim := { program := "ytonhfgdnkkkikad", sum := "1470aab0629812b6752cff60cba6e9a330d9ce565197213f66f189edf5a4a68a", func := "dyeworks/dyeworkslaw.ConfApplies", spec := "confApplies", unfollowed := true, recurses := true, apart := false }
def ConfAppliesSaid : Prop := confAppliesRow.holds Try.pinned (OpenSpec.ofChange confAppliesSpec)

/-- ITS FALSE NEIGHBOUR: 'it returns false'. Refute it at one input. -/
def confAppliesWrong : ChangeSpec := { name := "confApplies", fn := fun _ => fun
  | [d1, d2] => { results := [.lit (.bool false)], args := [d1, d2] }
  | _ => none }
def ConfAppliesWrongFalsely : Prop := confAppliesRow.holds Try.pinned (OpenSpec.ofChange confAppliesWrong)

/-- 'dyeworkskeep.ConfsGood': WHATEVER THE INPUT: true; the input reads as it did. -/
def confsGoodSpec : ChangeSpec := { name := "confsGood", fn := fun _ => fun
  | [d1, d2] => { results := [.lit (.bool true)], args := [d1, d2] }
  | _ => none }
def confsGoodRow : OpenClaim := { program := "ytonhfgdnkkkikad", sum := "1470aab0629812b6752cff60cba6e9a330d9ce565197213f66f189edf5a4a68a", func := "dyeworks/dyeworkskeep.ConfsGood", spec := "confsGood", unfollowed := true, recurses := true, apart := false }
def ConfsGoodSaid : Prop := confsGoodRow.holds Try.pinned (OpenSpec.ofChange confsGoodSpec)

/-- ITS FALSE NEIGHBOUR: 'it returns false'. Refute it at one input. -/
def confsGoodWrong : ChangeSpec := { name := "confsGood", fn := fun _ => fun
  | [d1, d2] => { results := [.lit (.bool false)], args := [d1, d2] }
  | _ => none }
def ConfsGoodWrongFalsely : Prop := confsGoodRow.holds Try.pinned (OpenSpec.ofChange confsGoodWrong)

/-- 'dyeworkskeep.ConfsTwice': WHATEVER THE INPUT: true; the input reads as it did. -/
def confsTwiceSpec : ChangeSpec := { name := "confsTwice", fn := fun _ => fun
  | [d1, d2] => { results := [.lit (.bool true)], args := [d1, d2] }
  | _ => none }
def confsTwiceRow : OpenClaim := { program := "ytonhfgdnkkkikad", sum := "1470aab0629812b6752cff60cba6e9a330d9ce565197213f66f189edf5a4a68a", func := "dyeworks/dyeworkskeep.ConfsTwice", spec := "confsTwice", unfollowed := true, recurses := true, apart := false }
def ConfsTwiceSaid : Prop := confsTwiceRow.holds Try.pinned (OpenSpec.ofChange confsTwiceSpec)

/-- ITS FALSE NEIGHBOUR: 'it returns false'. Refute it at one input. -/
def confsTwiceWrong : ChangeSpec := { name := "confsTwice", fn := fun _ => fun
  | [d1, d2] => { results := [.lit (.bool false)], args := [d1, d2] }
  | _ => none }
def ConfsTwiceWrongFalsely : Prop := confsTwiceRow.holds Try.pinned (OpenSpec.ofChange confsTwiceWrong)

/-- 'dyeworkslaw.PipePackets': WHATEVER THE INPUT: true; the input reads as it did. -/
def pipePacketsSpec : ChangeSpec := { name := "pipePackets", fn := fun _ => fun
  | [d1, d2, d3, d4] => { results := [.lit (.bool true)], args := [d1, d2, d3, d4] }
  | _ => none }
def pipePacketsRow : OpenClaim := { program := "ytonhfgdnkkkikad", sum := "1470aab0629812b6752cff60cba6e9a330d9ce565197213f66f189edf5a4a68a", func := "dyeworks/dyeworkslaw.PipePackets", spec := "pipePackets", apart := false }
def PipePacketsSaid : Prop := pipePacketsRow.holds Try.pinned (OpenSpec.ofChange pipePacketsSpec)

/-- ITS FALSE NEIGHBOUR: 'it returns false'. Refute it at one input. -/
def pipePacketsWrong : ChangeSpec := { name := "pipePackets", fn := fun _ => fun
  | [d1, d2, d3, d4] => { results := [.lit (.bool false)], args := [d1, d2, d3, d4] }
  | _ => none }
def PipePacketsWrongFalsely : Prop := pipePacketsRow.holds Try.pinned (OpenSpec.ofChange pipePacketsWrong)

/- THE SECOND FORM. 'bulk': how many values and letters a reading holds, each counted each time it is reached (what is shared counts as often as it is met; a slice's spare places count too). A statement '..UptoSaid' is the law's where the arguments, and the package variables that the reading takes, are together of bulk at most 1048576: NARROWER than '..Said'. Prove '..Said' where nothing that the law and all that it calls make is longer than what came in: it says more and counts as full. Else prove '..UptoSaid'. A law counts once. -/
mutual
def uptoBulk {H : Type} : DataW H → Nat
  | .lit (.string bytes) => bytes.length + 1
  | .lit _ => 1
  | .nil => 1
  | .ptr d => uptoBulk d + 1
  | .slice elems spare => uptoBulkAll elems + uptoBulkAll spare + 1
  | .agg parts => uptoBulkAll parts + 1
  | .iface _ d => uptoBulk d + 1
  | .map entries => uptoBulkEntries entries + 1
  | .held _ => 1
def uptoBulkAll {H : Type} : List (DataW H) → Nat
  | [] => 0
  | d :: r => uptoBulk d + uptoBulkAll r
def uptoBulkEntries {H : Type} : List (Lit × DataW H) → Nat
  | [] => 0
  | x :: r => uptoBulkEntry x + uptoBulkEntries r
def uptoBulkEntry {H : Type} : Lit × DataW H → Nat
  | (.string bytes, d) => bytes.length + uptoBulk d + 1
  | (_, d) => uptoBulk d + 1
 end
def uptoSmall : (H : Type) → List (DataW H) → Bool := fun _ ds => decide (uptoBulkAll ds ≤ 1048576)
def OpenSpec.upto (s : _root_.Go.ChangeSpec) : _root_.Go.OpenSpec := { _root_.Go.OpenSpec.ofChange s with cond := some uptoSmall }

/-- 'dyeworkslaw.ConfCopies', WHERE WHAT IT READS IS OF BULK AT MOST 1048576: true; the input reads as it did. -/
def confCopiesUptoRow : OpenClaim := { program := "ytonhfgdnkkkikad", sum := "1470aab0629812b6752cff60cba6e9a330d9ce565197213f66f189edf5a4a68a", func := "dyeworks/dyeworkslaw.ConfCopies", spec := "confCopies", apart := false, narrowed := true }
def ConfCopiesUptoSaid : Prop := confCopiesUptoRow.holds Try.pinned (OpenSpec.upto confCopiesSpec)

/-- 'dyeworkslaw.ConfApplies', WHERE WHAT IT READS IS OF BULK AT MOST 1048576: true; the input reads as it did. -/
def confAppliesUptoRow : OpenClaim := { program := "ytonhfgdnkkkikad", sum := "1470aab0629812b6752cff60cba6e9a330d9ce565197213f66f189edf5a4a68a", func := "dyeworks/dyeworkslaw.ConfApplies", spec := "confApplies", unfollowed := true, recurses := true, apart := false, narrowed := true }
def ConfAppliesUptoSaid : Prop := confAppliesUptoRow.holds Try.pinned (OpenSpec.upto confAppliesSpec)

/-- 'dyeworkskeep.ConfsGood', WHERE WHAT IT READS IS OF BULK AT MOST 1048576: true; the input reads as it did. -/
def confsGoodUptoRow : OpenClaim := { program := "ytonhfgdnkkkikad", sum := "1470aab0629812b6752cff60cba6e9a330d9ce565197213f66f189edf5a4a68a", func := "dyeworks/dyeworkskeep.ConfsGood", spec := "confsGood", unfollowed := true, recurses := true, apart := false, narrowed := true }
def ConfsGoodUptoSaid : Prop := confsGoodUptoRow.holds Try.pinned (OpenSpec.upto confsGoodSpec)

/-- 'dyeworkskeep.ConfsTwice', WHERE WHAT IT READS IS OF BULK AT MOST 1048576: true; the input reads as it did. -/
def confsTwiceUptoRow : OpenClaim := { program := "ytonhfgdnkkkikad", sum := "1470aab0629812b6752cff60cba6e9a330d9ce565197213f66f189edf5a4a68a", func := "dyeworks/dyeworkskeep.ConfsTwice", spec := "confsTwice", unfollowed := true, recurses := true, apart := false, narrowed := true }
def ConfsTwiceUptoSaid : Prop := confsTwiceUptoRow.holds Try.pinned (OpenSpec.upto confsTwiceSpec)

/-- 'dyeworkslaw.PipePackets', WHERE WHAT IT READS IS OF BULK AT MOST 1048576: true; the input reads as it did. -/
def pipePacketsUptoRow : OpenClaim := { program := "ytonhfgdnkkkikad", sum := "1470aab0629812b6752cff60cba6e9a330d9ce565197213f66f189edf5a4a68a", func := "dyeworks/dyeworkslaw.PipePackets", spec := "pipePackets", apart := false, narrowed := true }
def PipePacketsUptoSaid : Prop := pipePacketsUptoRow.holds Try.pinned (OpenSpec.upto pipePacketsSpec)

end Rows
end Go.Proofs.Ytonhfgdnkkkikad
