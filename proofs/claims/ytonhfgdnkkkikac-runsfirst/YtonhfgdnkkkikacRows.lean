/-
  No cell of these rows narrows 'for every input' (looked for: loops, veiled, ifaces, maps, wideKeys, modest, calm, conditions, laid).
  DERIVED. THE GIVEN ROWS OF THIS SEAT. 6 by the template 'for every input the law returns true; each argument reads behind the call as it read before'; 0 by the template 'total and deterministic' (their statements: YtonhfgdnkkkikacTotals.lean).
  GIVEN WITH THE SEED: the statements are not yours to turn. If you find one false, say at which input.
  Laid BY PROGRAM, IN A SANDBOX (cutbox-rows.mjs): the forced cells as the released guide's own fill.sh prints them over the translation 098f67f6c190a148… (all of the seat's roots in one cut). By AI agents, Wed Nov 11 2026. No macro, syntax, notation, axiom, sorry.
-/
import Derived.Test.YtonhfgdnkkkikacChecked
import GoSem.Claim
import GoSem.ClaimJoined
import GoSem.ClaimMapViews
import Derived.JoinedTies
import Derived.KernelRfl
namespace Go.Proofs.Ytonhfgdnkkkikac
/- THE CELL 'sum', in the pinned program and in every row, IS THE sha256 OF THE DUMP (.gsa) THAT YtonhfgdnkkkikacProg.lean LOADS. Nothing in Lean hashes anything: it is a label: what it is worth is what the hold of that sum in a sandbox is worth. -/
noncomputable def Try.pinned : Pinned := { name := "ytonhfgdnkkkikac", sum := "098f67f6c190a1484cd8cfa7aca24ed89da7e7da5d76a60e2f211381ce1ad372", checked := Try.checked }
namespace Rows
def none {H : Type} : Left H := { results := [], args := [] }

/-- 'dyeworkslaw.FlowDiffs': WHATEVER THE INPUT: true; the input reads as it did. -/
def flowDiffsSpec : ChangeSpec := { name := "flowDiffs", fn := fun _ => fun
  | [d1, d2] => { results := [.lit (.bool true)], args := [d1, d2] }
  | _ => none }
def flowDiffsRow : OpenClaim := { program := "ytonhfgdnkkkikac", sum := "098f67f6c190a1484cd8cfa7aca24ed89da7e7da5d76a60e2f211381ce1ad372", func := "dyeworks/dyeworkslaw.FlowDiffs", spec := "flowDiffs", unfollowed := true, recurses := true, apart := false }
def FlowDiffsSaid : Prop := flowDiffsRow.holds Try.pinned (OpenSpec.ofChange flowDiffsSpec)

/-- ITS FALSE NEIGHBOUR: 'it returns false'. Refute it at one input. -/
def flowDiffsWrong : ChangeSpec := { name := "flowDiffs", fn := fun _ => fun
  | [d1, d2] => { results := [.lit (.bool false)], args := [d1, d2] }
  | _ => none }
def FlowDiffsWrongFalsely : Prop := flowDiffsRow.holds Try.pinned (OpenSpec.ofChange flowDiffsWrong)

/-- 'dyeworkslaw.FlowPatches': WHATEVER THE INPUT: true; the input reads as it did. -/
def flowPatchesSpec : ChangeSpec := { name := "flowPatches", fn := fun _ => fun
  | [d1, d2, d3] => { results := [.lit (.bool true)], args := [d1, d2, d3] }
  | _ => none }
def flowPatchesRow : OpenClaim := { program := "ytonhfgdnkkkikac", sum := "098f67f6c190a1484cd8cfa7aca24ed89da7e7da5d76a60e2f211381ce1ad372", func := "dyeworks/dyeworkslaw.FlowPatches", spec := "flowPatches", unfollowed := true, recurses := true, apart := false }
def FlowPatchesSaid : Prop := flowPatchesRow.holds Try.pinned (OpenSpec.ofChange flowPatchesSpec)

/-- ITS FALSE NEIGHBOUR: 'it returns false'. Refute it at one input. -/
def flowPatchesWrong : ChangeSpec := { name := "flowPatches", fn := fun _ => fun
  | [d1, d2, d3] => { results := [.lit (.bool false)], args := [d1, d2, d3] }
  | _ => none }
def FlowPatchesWrongFalsely : Prop := flowPatchesRow.holds Try.pinned (OpenSpec.ofChange flowPatchesWrong)

/-- 'dyeworkskeep.RunsFirst': WHATEVER THE INPUT: true; the input reads as it did. -/
def runsFirstSpec : ChangeSpec := { name := "runsFirst", fn := fun _ => fun
  | [d1, d2] => { results := [.lit (.bool true)], args := [d1, d2] }
  | _ => none }
def runsFirstRow : OpenClaim := { program := "ytonhfgdnkkkikac", sum := "098f67f6c190a1484cd8cfa7aca24ed89da7e7da5d76a60e2f211381ce1ad372", func := "dyeworks/dyeworkskeep.RunsFirst", spec := "runsFirst", unfollowed := true, recurses := true, apart := false }
def RunsFirstSaid : Prop := runsFirstRow.holds Try.pinned (OpenSpec.ofChange runsFirstSpec)

/-- ITS FALSE NEIGHBOUR: 'it returns false'. Refute it at one input. -/
def runsFirstWrong : ChangeSpec := { name := "runsFirst", fn := fun _ => fun
  | [d1, d2] => { results := [.lit (.bool false)], args := [d1, d2] }
  | _ => none }
def RunsFirstWrongFalsely : Prop := runsFirstRow.holds Try.pinned (OpenSpec.ofChange runsFirstWrong)

/-- 'dyeworkskeep.RunsEnd': WHATEVER THE INPUT: true; the input reads as it did. -/
def runsEndSpec : ChangeSpec := { name := "runsEnd", fn := fun _ => fun
  | [d] => { results := [.lit (.bool true)], args := [d] }
  | _ => none }
def runsEndRow : OpenClaim := { program := "ytonhfgdnkkkikac", sum := "098f67f6c190a1484cd8cfa7aca24ed89da7e7da5d76a60e2f211381ce1ad372", func := "dyeworks/dyeworkskeep.RunsEnd", spec := "runsEnd", unfollowed := true, recurses := true, apart := false }
def RunsEndSaid : Prop := runsEndRow.holds Try.pinned (OpenSpec.ofChange runsEndSpec)

/-- ITS FALSE NEIGHBOUR: 'it returns false'. Refute it at one input. -/
def runsEndWrong : ChangeSpec := { name := "runsEnd", fn := fun _ => fun
  | [d] => { results := [.lit (.bool false)], args := [d] }
  | _ => none }
def RunsEndWrongFalsely : Prop := runsEndRow.holds Try.pinned (OpenSpec.ofChange runsEndWrong)

/-- 'dyeworkskeep.PatchesLead': WHATEVER THE INPUT: true; the input reads as it did. -/
def patchesLeadSpec : ChangeSpec := { name := "patchesLead", fn := fun _ => fun
  | [d1, d2] => { results := [.lit (.bool true)], args := [d1, d2] }
  | _ => none }
def patchesLeadRow : OpenClaim := { program := "ytonhfgdnkkkikac", sum := "098f67f6c190a1484cd8cfa7aca24ed89da7e7da5d76a60e2f211381ce1ad372", func := "dyeworks/dyeworkskeep.PatchesLead", spec := "patchesLead", unfollowed := true, recurses := true, apart := false }
def PatchesLeadSaid : Prop := patchesLeadRow.holds Try.pinned (OpenSpec.ofChange patchesLeadSpec)

/-- ITS FALSE NEIGHBOUR: 'it returns false'. Refute it at one input. -/
def patchesLeadWrong : ChangeSpec := { name := "patchesLead", fn := fun _ => fun
  | [d1, d2] => { results := [.lit (.bool false)], args := [d1, d2] }
  | _ => none }
def PatchesLeadWrongFalsely : Prop := patchesLeadRow.holds Try.pinned (OpenSpec.ofChange patchesLeadWrong)

/-- 'dyeworkslaw.ConfChecks': WHATEVER THE INPUT: true; the input reads as it did. -/
def confChecksSpec : ChangeSpec := { name := "confChecks", fn := fun _ => fun
  | [d] => { results := [.lit (.bool true)], args := [d] }
  | _ => none }
def confChecksRow : OpenClaim := { program := "ytonhfgdnkkkikac", sum := "098f67f6c190a1484cd8cfa7aca24ed89da7e7da5d76a60e2f211381ce1ad372", func := "dyeworks/dyeworkslaw.ConfChecks", spec := "confChecks", unfollowed := true, recurses := true, apart := false }
def ConfChecksSaid : Prop := confChecksRow.holds Try.pinned (OpenSpec.ofChange confChecksSpec)

/-- ITS FALSE NEIGHBOUR: 'it returns false'. Refute it at one input. -/
def confChecksWrong : ChangeSpec := { name := "confChecks", fn := fun _ => fun
  | [d] => { results := [.lit (.bool false)], args := [d] }
  | _ => none }
def ConfChecksWrongFalsely : Prop := confChecksRow.holds Try.pinned (OpenSpec.ofChange confChecksWrong)

/- THE SECOND FORM. 'bulk': how many values and letters a reading holds, each counted each time it is reached (what is shared counts as often as it is met; a slice's spare places count too). A statement '..UptoSaid' is the law's where the arguments, and the package variables that the reading takes, are together of bulk at most 1048576: NARROWER than '..Said'. Prove '..Said' where nothing that the law and all that it calls make is longer than what came in: it says more and counts as full. Else prove '..UptoSaid'. A law counts once. -/
mutual
def uptoBulk {H : Type} : DataW H → Nat
  | .lit (.string bytes) => bytes.length + 1
  | .lit _ => 1
  | .nil => 1
  | .ptr d => uptoBulk d + 1
  | .slice elems spare => uptoBulkAll elems + uptoBulkAll spare + 1
  | .agg parts => uptoBulkAll parts + 1
  | .iface _ d => uptoBulk d + 1
  | .map entries => uptoBulkEntries entries + 1
  | .held _ => 1
def uptoBulkAll {H : Type} : List (DataW H) → Nat
  | [] => 0
  | d :: r => uptoBulk d + uptoBulkAll r
def uptoBulkEntries {H : Type} : List (Lit × DataW H) → Nat
  | [] => 0
  | x :: r => uptoBulkEntry x + uptoBulkEntries r
def uptoBulkEntry {H : Type} : Lit × DataW H → Nat
  | (.string bytes, d) => bytes.length + uptoBulk d + 1
  | (_, d) => uptoBulk d + 1
 end
def uptoSmall : (H : Type) → List (DataW H) → Bool := fun _ ds => decide (uptoBulkAll ds ≤ 1048576)
def OpenSpec.upto (s : _root_.Go.ChangeSpec) : _root_.Go.OpenSpec := { _root_.Go.OpenSpec.ofChange s with cond := some uptoSmall }

/-- 'dyeworkslaw.FlowDiffs', WHERE WHAT IT READS IS OF BULK AT MOST 1048576: true; the input reads as it did. -/
def flowDiffsUptoRow : OpenClaim := { program := "ytonhfgdnkkkikac", sum := "098f67f6c190a1484cd8cfa7aca24ed89da7e7da5d76a60e2f211381ce1ad372", func := "dyeworks/dyeworkslaw.FlowDiffs", spec := "flowDiffs", unfollowed := true, recurses := true, apart := false, narrowed := true }
def FlowDiffsUptoSaid : Prop := flowDiffsUptoRow.holds Try.pinned (OpenSpec.upto flowDiffsSpec)

/-- 'dyeworkslaw.FlowPatches', WHERE WHAT IT READS IS OF BULK AT MOST 1048576: true; the input reads as it did. -/
def flowPatchesUptoRow : OpenClaim := { program := "ytonhfgdnkkkikac", sum := "098f67f6c190a1484cd8cfa7aca24ed89da7e7da5d76a60e2f211381ce1ad372", func := "dyeworks/dyeworkslaw.FlowPatches", spec := "flowPatches", unfollowed := true, recurses := true, apart := false, narrowed := true }
def FlowPatchesUptoSaid : Prop := flowPatchesUptoRow.holds Try.pinned (OpenSpec.upto flowPatchesSpec)

/-- 'dyeworkskeep.RunsFirst', WHERE WHAT IT READS IS OF BULK AT MOST 1048576: true; the input reads as it did. -/
def runsFirstUptoRow : OpenClaim := { program := "ytonhfgdnkkkikac", sum := "098f67f6c190a1484cd8cfa7aca24ed89da7e7da5d76a60e2f211381ce1ad372", func := "dyeworks/dyeworkskeep.RunsFirst", spec := "runsFirst", unfollowed := true, recurses := true, apart := false, narrowed := true }
def RunsFirstUptoSaid : Prop := runsFirstUptoRow.holds Try.pinned (OpenSpec.upto runsFirstSpec)

/-- 'dyeworkskeep.RunsEnd', WHERE WHAT IT READS IS OF BULK AT MOST 1048576: true; the input reads as it did. -/
def runsEndUptoRow : OpenClaim := { program := "ytonhfgdnkkkikac", sum := "098f67f6c190a1484cd8cfa7aca24ed89da7e7da5d76a60e2f211381ce1ad372", func := "dyeworks/dyeworkskeep.RunsEnd", spec := "runsEnd", unfollowed := true, recurses := true, apart := false, narrowed := true }
def RunsEndUptoSaid : Prop := runsEndUptoRow.holds Try.pinned (OpenSpec.upto runsEndSpec)

/-- 'dyeworkskeep.PatchesLead', WHERE WHAT IT READS IS OF BULK AT MOST 1048576: true; the input reads as it did. -/
def patchesLeadUptoRow : OpenClaim := { program := "ytonhfgdnkkkikac", sum := "098f67f6c190a1484cd8cfa7aca24ed89da7e7da5d76a60e2f211381ce1ad372", func := "dyeworks/dyeworkskeep.PatchesLead", spec := "patchesLead", unfollowed := true, recurses := true, apart := false, narrowed := true }
def PatchesLeadUptoSaid : Prop := patchesLeadUptoRow.holds Try.pinned (OpenSpec.upto patchesLeadSpec)

/-- 'dyeworkslaw.ConfChecks', WHERE WHAT IT READS IS OF BULK AT MOST 1048576: true; the input reads as it did. -/
def confChecksUptoRow : OpenClaim := { program := "ytonhfgdnkkkikac", sum := "098f67f6c190a1484cd8cfa7aca24ed89da7e7da5d76a60e2f211381ce1ad372", func := "dyeworks/dyeworkslaw.ConfChecks", spec := "confChecks", unfollowed := true, recurses := true, apart := false, narrowed := true }
def ConfChecksUptoSaid : Prop := confChecksUptoRow.holds Try.pinned (OpenSpec.upto confChecksSpec)

end Rows
end Go.Proofs.Ytonhfgdnkkkikac
