/-
  No cell of these rows narrows 'for every input' (looked for: loops, veiled, ifaces, maps, wideKeys, modest, calm, conditions, laid).
  DERIVED. THE GIVEN ROWS OF THIS SEAT. 6 by the template 'for every input the law returns true; each argument reads behind the call as it read before'; 0 by the template 'total and deterministic' (their statements: YtgkdmmfogibbjabTotals.lean).
  GIVEN WITH THE SEED: the statements are not yours to turn. If you find one false, say at which input.
  Laid BY PROGRAM, IN A SANDBOX (cutbox-rows.mjs): the forced cells as the released guide's own fill.sh prints them over the translation 40b80beb3e0cb411… (all of the seat's roots in one cut). By AI agents, Wed Nov 11 2026. No macro, syntax, notation, axiom, sorry.
-/
import Derived.Test.YtgkdmmfogibbjabChecked
import GoSem.Claim
import GoSem.ClaimJoined
import GoSem.ClaimMapViews
import Derived.JoinedTies
import Derived.KernelRfl
namespace Go.Proofs.Ytgkdmmfogibbjab
/- THE CELL 'sum', in the pinned program and in every row, IS THE sha256 OF THE DUMP (.gsa) THAT YtgkdmmfogibbjabProg.lean LOADS. Nothing in Lean hashes anything: it is a label: what it is worth is what the hold of that sum in a sandbox is worth. -/
noncomputable def Try.pinned : Pinned := { name := "ytgkdmmfogibbjab", sum := "40b80beb3e0cb4117d7a57e226e0e370e328431c513e7da21eeb8fd2a51671e1", checked := Try.checked }
namespace Rows
def none {H : Type} : Left H := { results := [], args := [] }

/-- 'dyeworkskeep.FramesOnce': WHATEVER THE INPUT: true; the input reads as it did. -/
def framesOnceSpec : ChangeSpec := { name := "framesOnce", fn := fun _ => fun
  | [d] => { results := [.lit (.bool true)], args := [d] }
  | _ => none }
def framesOnceRow : OpenClaim := { program := "ytgkdmmfogibbjab", sum := "40b80beb3e0cb4117d7a57e226e0e370e328431c513e7da21eeb8fd2a51671e1", func := "dyeworks/dyeworkskeep.FramesOnce", spec := "framesOnce", apart := false }
def FramesOnceSaid : Prop := framesOnceRow.holds Try.pinned (OpenSpec.ofChange framesOnceSpec)

/-- ITS FALSE NEIGHBOUR: 'it returns false'. Refute it at one input. -/
def framesOnceWrong : ChangeSpec := { name := "framesOnce", fn := fun _ => fun
  | [d] => { results := [.lit (.bool false)], args := [d] }
  | _ => none }
def FramesOnceWrongFalsely : Prop := framesOnceRow.holds Try.pinned (OpenSpec.ofChange framesOnceWrong)

/-- 'dyeworkskeep.FramesSpoilt': WHATEVER THE INPUT: true; the input reads as it did. -/
def framesSpoiltSpec : ChangeSpec := { name := "framesSpoilt", fn := fun _ => fun
  | [d1, d2, d3, d4] => { results := [.lit (.bool true)], args := [d1, d2, d3, d4] }
  | _ => none }
def framesSpoiltRow : OpenClaim := { program := "ytgkdmmfogibbjab", sum := "40b80beb3e0cb4117d7a57e226e0e370e328431c513e7da21eeb8fd2a51671e1", func := "dyeworks/dyeworkskeep.FramesSpoilt", spec := "framesSpoilt", unfollowed := true, recurses := true, apart := false }
def FramesSpoiltSaid : Prop := framesSpoiltRow.holds Try.pinned (OpenSpec.ofChange framesSpoiltSpec)

/-- ITS FALSE NEIGHBOUR: 'it returns false'. Refute it at one input. -/
def framesSpoiltWrong : ChangeSpec := { name := "framesSpoilt", fn := fun _ => fun
  | [d1, d2, d3, d4] => { results := [.lit (.bool false)], args := [d1, d2, d3, d4] }
  | _ => none }
def FramesSpoiltWrongFalsely : Prop := framesSpoiltRow.holds Try.pinned (OpenSpec.ofChange framesSpoiltWrong)

/-- 'dyeworkslaw.FlowChecks': WHATEVER THE INPUT: true; the input reads as it did. -/
def flowChecksSpec : ChangeSpec := { name := "flowChecks", fn := fun _ => fun
  | [d] => { results := [.lit (.bool true)], args := [d] }
  | _ => none }
def flowChecksRow : OpenClaim := { program := "ytgkdmmfogibbjab", sum := "40b80beb3e0cb4117d7a57e226e0e370e328431c513e7da21eeb8fd2a51671e1", func := "dyeworks/dyeworkslaw.FlowChecks", spec := "flowChecks", unfollowed := true, recurses := true, apart := false }
def FlowChecksSaid : Prop := flowChecksRow.holds Try.pinned (OpenSpec.ofChange flowChecksSpec)

/-- ITS FALSE NEIGHBOUR: 'it returns false'. Refute it at one input. -/
def flowChecksWrong : ChangeSpec := { name := "flowChecks", fn := fun _ => fun
  | [d] => { results := [.lit (.bool false)], args := [d] }
  | _ => none }
def FlowChecksWrongFalsely : Prop := flowChecksRow.holds Try.pinned (OpenSpec.ofChange flowChecksWrong)

/-- 'dyeworkslaw.FlowPackets': WHATEVER THE INPUT: true; the input reads as it did. -/
def flowPacketsSpec : ChangeSpec := { name := "flowPackets", fn := fun _ => fun
  | [d] => { results := [.lit (.bool true)], args := [d] }
  | _ => none }
def flowPacketsRow : OpenClaim := { program := "ytgkdmmfogibbjab", sum := "40b80beb3e0cb4117d7a57e226e0e370e328431c513e7da21eeb8fd2a51671e1", func := "dyeworks/dyeworkslaw.FlowPackets", spec := "flowPackets", apart := false }
def FlowPacketsSaid : Prop := flowPacketsRow.holds Try.pinned (OpenSpec.ofChange flowPacketsSpec)

/-- ITS FALSE NEIGHBOUR: 'it returns false'. Refute it at one input. -/
def flowPacketsWrong : ChangeSpec := { name := "flowPackets", fn := fun _ => fun
  | [d] => { results := [.lit (.bool false)], args := [d] }
  | _ => none }
def FlowPacketsWrongFalsely : Prop := flowPacketsRow.holds Try.pinned (OpenSpec.ofChange flowPacketsWrong)

/-- 'dyeworkslaw.FlowRuns': WHATEVER THE INPUT: true; the input reads as it did. -/
def flowRunsSpec : ChangeSpec := { name := "flowRuns", fn := fun _ => fun
  | [d1, d2] => { results := [.lit (.bool true)], args := [d1, d2] }
  | _ => none }
def flowRunsRow : OpenClaim := { program := "ytgkdmmfogibbjab", sum := "40b80beb3e0cb4117d7a57e226e0e370e328431c513e7da21eeb8fd2a51671e1", func := "dyeworks/dyeworkslaw.FlowRuns", spec := "flowRuns", unfollowed := true, recurses := true, apart := false }
def FlowRunsSaid : Prop := flowRunsRow.holds Try.pinned (OpenSpec.ofChange flowRunsSpec)

/-- ITS FALSE NEIGHBOUR: 'it returns false'. Refute it at one input. -/
def flowRunsWrong : ChangeSpec := { name := "flowRuns", fn := fun _ => fun
  | [d1, d2] => { results := [.lit (.bool false)], args := [d1, d2] }
  | _ => none }
def FlowRunsWrongFalsely : Prop := flowRunsRow.holds Try.pinned (OpenSpec.ofChange flowRunsWrong)

/-- 'dyeworkslaw.FlowSorts': WHATEVER THE INPUT: true; the input reads as it did. -/
def flowSortsSpec : ChangeSpec := { name := "flowSorts", fn := fun _ => fun
  | [d] => { results := [.lit (.bool true)], args := [d] }
  | _ => none }
def flowSortsRow : OpenClaim := { program := "ytgkdmmfogibbjab", sum := "40b80beb3e0cb4117d7a57e226e0e370e328431c513e7da21eeb8fd2a51671e1", func := "dyeworks/dyeworkslaw.FlowSorts", spec := "flowSorts", unfollowed := true, recurses := true, apart := false }
def FlowSortsSaid : Prop := flowSortsRow.holds Try.pinned (OpenSpec.ofChange flowSortsSpec)

/-- ITS FALSE NEIGHBOUR: 'it returns false'. Refute it at one input. -/
def flowSortsWrong : ChangeSpec := { name := "flowSorts", fn := fun _ => fun
  | [d] => { results := [.lit (.bool false)], args := [d] }
  | _ => none }
def FlowSortsWrongFalsely : Prop := flowSortsRow.holds Try.pinned (OpenSpec.ofChange flowSortsWrong)

/- THE SECOND FORM. 'bulk': how many values and letters a reading holds, each counted each time it is reached (what is shared counts as often as it is met; a slice's spare places count too). A statement '..UptoSaid' is the law's where the arguments, and the package variables that the reading takes, are together of bulk at most 1048576: NARROWER than '..Said'. Prove '..Said' where nothing that the law and all that it calls make is longer than what came in: it says more and counts as full. Else prove '..UptoSaid'. A law counts once. -/
mutual
def uptoBulk {H : Type} : DataW H → Nat
  | .lit (.string bytes) => bytes.length + 1
  | .lit _ => 1
  | .nil => 1
  | .ptr d => uptoBulk d + 1
  | .slice elems spare => uptoBulkAll elems + uptoBulkAll spare + 1
  | .agg parts => uptoBulkAll parts + 1
  | .iface _ d => uptoBulk d + 1
  | .map entries => uptoBulkEntries entries + 1
  | .held _ => 1
def uptoBulkAll {H : Type} : List (DataW H) → Nat
  | [] => 0
  | d :: r => uptoBulk d + uptoBulkAll r
def uptoBulkEntries {H : Type} : List (Lit × DataW H) → Nat
  | [] => 0
  | x :: r => uptoBulkEntry x + uptoBulkEntries r
def uptoBulkEntry {H : Type} : Lit × DataW H → Nat
  | (.string bytes, d) => bytes.length + uptoBulk d + 1
  | (_, d) => uptoBulk d + 1
 end
def uptoSmall : (H : Type) → List (DataW H) → Bool := fun _ ds => decide (uptoBulkAll ds ≤ 1048576)
def OpenSpec.upto (s : _root_.Go.ChangeSpec) : _root_.Go.OpenSpec := { _root_.Go.OpenSpec.ofChange s with cond := some uptoSmall }

/-- 'dyeworkskeep.FramesOnce', WHERE WHAT IT READS IS OF BULK AT MOST 1048576: true; the input reads as it did. -/
def framesOnceUptoRow : OpenClaim := { program := "ytgkdmmfogibbjab", sum := "40b80beb3e0cb4117d7a57e226e0e370e328431c513e7da21eeb8fd2a51671e1", func := "dyeworks/dyeworkskeep.FramesOnce", spec := "framesOnce", apart := false, narrowed := true }
def FramesOnceUptoSaid : Prop := framesOnceUptoRow.holds Try.pinned (OpenSpec.upto framesOnceSpec)

/-- 'dyeworkskeep.FramesSpoilt', WHERE WHAT IT READS IS OF BULK AT MOST 1048576: true; the input reads as it did. -/
def framesSpoiltUptoRow : OpenClaim := { program := "ytgkdmmfogibbjab", sum := "40b80beb3e0cb4117d7a57e226e0e370e328431c513e7da21eeb8fd2a51671e1", func := "dyeworks/dyeworkskeep.FramesSpoilt", spec := "framesSpoilt", unfollowed := true, recurses := true, apart := false, narrowed := true }
def FramesSpoiltUptoSaid : Prop := framesSpoiltUptoRow.holds Try.pinned (OpenSpec.upto framesSpoiltSpec)

/-- 'dyeworkslaw.FlowChecks', WHERE WHAT IT READS IS OF BULK AT MOST 1048576: true; the input reads as it did. -/
def flowChecksUptoRow : OpenClaim := { program := "ytgkdmmfogibbjab", sum := "40b80beb3e0cb4117d7a57e226e0e370e328431c513e7da21eeb8fd2a51671e1", func := "dyeworks/dyeworkslaw.FlowChecks", spec := "flowChecks", unfollowed := true, recurses := true, apart := false, narrowed := true }
def FlowChecksUptoSaid : Prop := flowChecksUptoRow.holds Try.pinned (OpenSpec.upto flowChecksSpec)

/-- 'dyeworkslaw.FlowPackets', WHERE WHAT IT READS IS OF BULK AT MOST 1048576: true; the input reads as it did. -/
def flowPacketsUptoRow : OpenClaim := { program := "ytgkdmmfogibbjab", sum := "40b80beb3e0cb4117d7a57e226e0e370e328431c513e7da21eeb8fd2a51671e1", func := "dyeworks/dyeworkslaw.FlowPackets", spec := "flowPackets", apart := false, narrowed := true }
def FlowPacketsUptoSaid : Prop := flowPacketsUptoRow.holds Try.pinned (OpenSpec.upto flowPacketsSpec)

/-- 'dyeworkslaw.FlowRuns', WHERE WHAT IT READS IS OF BULK AT MOST 1048576: true; the input reads as it did. -/
def flowRunsUptoRow : OpenClaim := { program := "ytgkdmmfogibbjab", sum := "40b80beb3e0cb4117d7a57e226e0e370e328431c513e7da21eeb8fd2a51671e1", func := "dyeworks/dyeworkslaw.FlowRuns", spec := "flowRuns", unfollowed := true, recurses := true, apart := false, narrowed := true }
def FlowRunsUptoSaid : Prop := flowRunsUptoRow.holds Try.pinned (OpenSpec.upto flowRunsSpec)

/-- 'dyeworkslaw.FlowSorts', WHERE WHAT IT READS IS OF BULK AT MOST 1048576: true; the input reads as it did. -/
def flowSortsUptoRow : OpenClaim := { program := "ytgkdmmfogibbjab", sum := "40b80beb3e0cb4117d7a57e226e0e370e328431c513e7da21eeb8fd2a51671e1", func := "dyeworks/dyeworkslaw.FlowSorts", spec := "flowSorts", unfollowed := true, recurses := true, apart := false, narrowed := true }
def FlowSortsUptoSaid : Prop := flowSortsUptoRow.holds Try.pinned (OpenSpec.upto flowSortsSpec)

end Rows
end Go.Proofs.Ytgkdmmfogibbjab
