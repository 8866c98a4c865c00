/-
  No cell of these rows narrows 'for every input' (looked for: loops, veiled, ifaces, maps, wideKeys, modest, calm, conditions, laid).
  DERIVED. THE GIVEN ROWS OF THIS SEAT. 5 by the template 'for every input the law returns true; each argument reads behind the call as it read before'; 0 by the template 'total and deterministic' (their statements: YtncdininppehkaaGreatTotals.lean).
  GIVEN WITH THE SEED: the statements are not yours to turn. If you find one false, say at which input.
  Laid BY PROGRAM, IN A SANDBOX (cutbox-rows.mjs): the forced cells as the released guide's own fill.sh prints them over the translation 48f67c7c4dfe61ea… (all of the seat's roots in one cut). By AI agents, Wed Nov 11 2026. No macro, syntax, notation, axiom, sorry.
-/
import Derived.Test.YtncdininppehkaaGreatChecked
import GoSem.Claim
import GoSem.ClaimJoined
import GoSem.ClaimMapViews
import Derived.JoinedTies
import Derived.KernelRfl
namespace Go.Proofs.YtncdininppehkaaGreat
/- THE CELL 'sum', in the pinned program and in every row, IS THE sha256 OF THE DUMP (.gsa) THAT YtncdininppehkaaGreatProg.lean LOADS. Nothing in Lean hashes anything: it is a label: what it is worth is what the hold of that sum in a sandbox is worth. -/
noncomputable def Tryz.pinned : Pinned := { name := "ytncdininppehkaagreat", sum := "48f67c7c4dfe61ea2a1f854e756b48af1664f44fd0f63075ca89440307e21e7e", checked := Tryz.checked }
namespace Rows
def none {H : Type} : Left H := { results := [], args := [] }

/-- 'dyeworkskeep.PipesSteady': WHATEVER THE INPUT: true; the input reads as it did. -/
def pipesSteadySpec : ChangeSpec := { name := "pipesSteady", fn := fun _ => fun
  | [d1, d2, d3, d4] => { results := [.lit (.bool true)], args := [d1, d2, d3, d4] }
  | _ => none }
def pipesSteadyRow : OpenClaim := { program := "ytncdininppehkaagreat", sum := "48f67c7c4dfe61ea2a1f854e756b48af1664f44fd0f63075ca89440307e21e7e", func := "dyeworks/dyeworkskeep.PipesSteady", spec := "pipesSteady", unfollowed := true, recurses := true, apart := false }
def PipesSteadySaid : Prop := pipesSteadyRow.holds Tryz.pinned (OpenSpec.ofChange pipesSteadySpec)

/-- ITS FALSE NEIGHBOUR: 'it returns false'. Refute it at one input. -/
def pipesSteadyWrong : ChangeSpec := { name := "pipesSteady", fn := fun _ => fun
  | [d1, d2, d3, d4] => { results := [.lit (.bool false)], args := [d1, d2, d3, d4] }
  | _ => none }
def PipesSteadyWrongFalsely : Prop := pipesSteadyRow.holds Tryz.pinned (OpenSpec.ofChange pipesSteadyWrong)

/-- 'dyeworkskeep.NeighborsTalk': WHATEVER THE INPUT: true; the input reads as it did. -/
def neighborsTalkSpec : ChangeSpec := { name := "neighborsTalk", fn := fun _ => fun
  | [d1, d2, d3] => { results := [.lit (.bool true)], args := [d1, d2, d3] }
  | _ => none }
def neighborsTalkRow : OpenClaim := { program := "ytncdininppehkaagreat", sum := "48f67c7c4dfe61ea2a1f854e756b48af1664f44fd0f63075ca89440307e21e7e", func := "dyeworks/dyeworkskeep.NeighborsTalk", spec := "neighborsTalk", unfollowed := true, recurses := true, apart := false }
def NeighborsTalkSaid : Prop := neighborsTalkRow.holds Tryz.pinned (OpenSpec.ofChange neighborsTalkSpec)

/-- ITS FALSE NEIGHBOUR: 'it returns false'. Refute it at one input. -/
def neighborsTalkWrong : ChangeSpec := { name := "neighborsTalk", fn := fun _ => fun
  | [d1, d2, d3] => { results := [.lit (.bool false)], args := [d1, d2, d3] }
  | _ => none }
def NeighborsTalkWrongFalsely : Prop := neighborsTalkRow.holds Tryz.pinned (OpenSpec.ofChange neighborsTalkWrong)

/-- 'dyeworkskeep.RoutersLead': WHATEVER THE INPUT: true; the input reads as it did. -/
def routersLeadSpec : ChangeSpec := { name := "routersLead", fn := fun _ => fun
  | [d1, d2, d3] => { results := [.lit (.bool true)], args := [d1, d2, d3] }
  | _ => none }
def routersLeadRow : OpenClaim := { program := "ytncdininppehkaagreat", sum := "48f67c7c4dfe61ea2a1f854e756b48af1664f44fd0f63075ca89440307e21e7e", func := "dyeworks/dyeworkskeep.RoutersLead", spec := "routersLead", unfollowed := true, recurses := true, apart := false }
def RoutersLeadSaid : Prop := routersLeadRow.holds Tryz.pinned (OpenSpec.ofChange routersLeadSpec)

/-- ITS FALSE NEIGHBOUR: 'it returns false'. Refute it at one input. -/
def routersLeadWrong : ChangeSpec := { name := "routersLead", fn := fun _ => fun
  | [d1, d2, d3] => { results := [.lit (.bool false)], args := [d1, d2, d3] }
  | _ => none }
def RoutersLeadWrongFalsely : Prop := routersLeadRow.holds Tryz.pinned (OpenSpec.ofChange routersLeadWrong)

/-- 'dyeworkskeep.AsksAnswered': WHATEVER THE INPUT: true; the input reads as it did. -/
def asksAnsweredSpec : ChangeSpec := { name := "asksAnswered", fn := fun _ => fun
  | [d1, d2] => { results := [.lit (.bool true)], args := [d1, d2] }
  | _ => none }
def asksAnsweredRow : OpenClaim := { program := "ytncdininppehkaagreat", sum := "48f67c7c4dfe61ea2a1f854e756b48af1664f44fd0f63075ca89440307e21e7e", func := "dyeworks/dyeworkskeep.AsksAnswered", spec := "asksAnswered", unfollowed := true, recurses := true, apart := false }
def AsksAnsweredSaid : Prop := asksAnsweredRow.holds Tryz.pinned (OpenSpec.ofChange asksAnsweredSpec)

/-- ITS FALSE NEIGHBOUR: 'it returns false'. Refute it at one input. -/
def asksAnsweredWrong : ChangeSpec := { name := "asksAnswered", fn := fun _ => fun
  | [d1, d2] => { results := [.lit (.bool false)], args := [d1, d2] }
  | _ => none }
def AsksAnsweredWrongFalsely : Prop := asksAnsweredRow.holds Tryz.pinned (OpenSpec.ofChange asksAnsweredWrong)

/-- 'dyeworkskeep.RulesDeny': WHATEVER THE INPUT: true; the input reads as it did. -/
def rulesDenySpec : ChangeSpec := { name := "rulesDeny", fn := fun _ => fun
  | [d1, d2, d3, d4] => { results := [.lit (.bool true)], args := [d1, d2, d3, d4] }
  | _ => none }
def rulesDenyRow : OpenClaim := { program := "ytncdininppehkaagreat", sum := "48f67c7c4dfe61ea2a1f854e756b48af1664f44fd0f63075ca89440307e21e7e", func := "dyeworks/dyeworkskeep.RulesDeny", spec := "rulesDeny", unfollowed := true, recurses := true, apart := false }
def RulesDenySaid : Prop := rulesDenyRow.holds Tryz.pinned (OpenSpec.ofChange rulesDenySpec)

/-- ITS FALSE NEIGHBOUR: 'it returns false'. Refute it at one input. -/
def rulesDenyWrong : ChangeSpec := { name := "rulesDeny", fn := fun _ => fun
  | [d1, d2, d3, d4] => { results := [.lit (.bool false)], args := [d1, d2, d3, d4] }
  | _ => none }
def RulesDenyWrongFalsely : Prop := rulesDenyRow.holds Tryz.pinned (OpenSpec.ofChange rulesDenyWrong)

/- THE SECOND FORM. 'bulk': how many values and letters a reading holds, each counted each time it is reached (what is shared counts as often as it is met; a slice's spare places count too). A statement '..UptoSaid' is the law's where the arguments, and the package variables that the reading takes, are together of bulk at most 1048576: NARROWER than '..Said'. Prove '..Said' where nothing that the law and all that it calls make is longer than what came in: it says more and counts as full. Else prove '..UptoSaid'. A law counts once. -/
mutual
def uptoBulk {H : Type} : DataW H → Nat
  | .lit (.string bytes) => bytes.length + 1
  | .lit _ => 1
  | .nil => 1
  | .ptr d => uptoBulk d + 1
  | .slice elems spare => uptoBulkAll elems + uptoBulkAll spare + 1
  | .agg parts => uptoBulkAll parts + 1
  | .iface _ d => uptoBulk d + 1
  | .map entries => uptoBulkEntries entries + 1
  | .held _ => 1
def uptoBulkAll {H : Type} : List (DataW H) → Nat
  | [] => 0
  | d :: r => uptoBulk d + uptoBulkAll r
def uptoBulkEntries {H : Type} : List (Lit × DataW H) → Nat
  | [] => 0
  | x :: r => uptoBulkEntry x + uptoBulkEntries r
def uptoBulkEntry {H : Type} : Lit × DataW H → Nat
  | (.string bytes, d) => bytes.length + uptoBulk d + 1
  | (_, d) => uptoBulk d + 1
 end
def uptoSmall : (H : Type) → List (DataW H) → Bool := fun _ ds => decide (uptoBulkAll ds ≤ 1048576)
def OpenSpec.upto (s : _root_.Go.ChangeSpec) : _root_.Go.OpenSpec := { _root_.Go.OpenSpec.ofChange s with cond := some uptoSmall }

/-- 'dyeworkskeep.PipesSteady', WHERE WHAT IT READS IS OF BULK AT MOST 1048576: true; the input reads as it did. -/
def pipesSteadyUptoRow : OpenClaim := { program := "ytncdininppehkaagreat", sum := "48f67c7c4dfe61ea2a1f854e756b48af1664f44fd0f63075ca89440307e21e7e", func := "dyeworks/dyeworkskeep.PipesSteady", spec := "pipesSteady", unfollowed := true, recurses := true, apart := false, narrowed := true }
def PipesSteadyUptoSaid : Prop := pipesSteadyUptoRow.holds Tryz.pinned (OpenSpec.upto pipesSteadySpec)

/-- 'dyeworkskeep.NeighborsTalk', WHERE WHAT IT READS IS OF BULK AT MOST 1048576: true; the input reads as it did. -/
def neighborsTalkUptoRow : OpenClaim := { program := "ytncdininppehkaagreat", sum := "48f67c7c4dfe61ea2a1f854e756b48af1664f44fd0f63075ca89440307e21e7e", func := "dyeworks/dyeworkskeep.NeighborsTalk", spec := "neighborsTalk", unfollowed := true, recurses := true, apart := false, narrowed := true }
def NeighborsTalkUptoSaid : Prop := neighborsTalkUptoRow.holds Tryz.pinned (OpenSpec.upto neighborsTalkSpec)

/-- 'dyeworkskeep.RoutersLead', WHERE WHAT IT READS IS OF BULK AT MOST 1048576: true; the input reads as it did. -/
def routersLeadUptoRow : OpenClaim := { program := "ytncdininppehkaagreat", sum := "48f67c7c4dfe61ea2a1f854e756b48af1664f44fd0f63075ca89440307e21e7e", func := "dyeworks/dyeworkskeep.RoutersLead", spec := "routersLead", unfollowed := true, recurses := true, apart := false, narrowed := true }
def RoutersLeadUptoSaid : Prop := routersLeadUptoRow.holds Tryz.pinned (OpenSpec.upto routersLeadSpec)

/-- 'dyeworkskeep.AsksAnswered', WHERE WHAT IT READS IS OF BULK AT MOST 1048576: true; the input reads as it did. -/
def asksAnsweredUptoRow : OpenClaim := { program := "ytncdininppehkaagreat", sum := "48f67c7c4dfe61ea2a1f854e756b48af1664f44fd0f63075ca89440307e21e7e", func := "dyeworks/dyeworkskeep.AsksAnswered", spec := "asksAnswered", unfollowed := true, recurses := true, apart := false, narrowed := true }
def AsksAnsweredUptoSaid : Prop := asksAnsweredUptoRow.holds Tryz.pinned (OpenSpec.upto asksAnsweredSpec)

/-- 'dyeworkskeep.RulesDeny', WHERE WHAT IT READS IS OF BULK AT MOST 1048576: true; the input reads as it did. -/
def rulesDenyUptoRow : OpenClaim := { program := "ytncdininppehkaagreat", sum := "48f67c7c4dfe61ea2a1f854e756b48af1664f44fd0f63075ca89440307e21e7e", func := "dyeworks/dyeworkskeep.RulesDeny", spec := "rulesDeny", unfollowed := true, recurses := true, apart := false, narrowed := true }
def RulesDenyUptoSaid : Prop := rulesDenyUptoRow.holds Tryz.pinned (OpenSpec.upto rulesDenySpec)

end Rows
end Go.Proofs.YtncdininppehkaaGreat
