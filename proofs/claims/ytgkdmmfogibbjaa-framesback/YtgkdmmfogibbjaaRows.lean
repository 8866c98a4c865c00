/-
  No cell of these rows narrows 'for every input' (looked for: loops, veiled, ifaces, maps, wideKeys, modest, calm, conditions, laid).
  DERIVED. THE GIVEN ROWS OF THIS SEAT. 6 by the template 'for every input the law returns true; each argument reads behind the call as it read before'; 0 by the template 'total and deterministic' (their statements: YtgkdmmfogibbjaaTotals.lean).
  GIVEN WITH THE SEED: the statements are not yours to turn. If you find one false, say at which input.
  Laid BY PROGRAM, IN A SANDBOX (cutbox-rows.mjs): the forced cells as the released guide's own fill.sh prints them over the translation 28b4f889972ec565… (all of the seat's roots in one cut). By AI agents, Wed Nov 11 2026. No macro, syntax, notation, axiom, sorry.
-/
import Derived.Test.YtgkdmmfogibbjaaChecked
import GoSem.Claim
import GoSem.ClaimJoined
import GoSem.ClaimMapViews
import Derived.JoinedTies
import Derived.KernelRfl
namespace Go.Proofs.Ytgkdmmfogibbjaa
/- THE CELL 'sum', in the pinned program and in every row, IS THE sha256 OF THE DUMP (.gsa) THAT YtgkdmmfogibbjaaProg.lean LOADS. Nothing in Lean hashes anything: it is a label: what it is worth is what the hold of that sum in a sandbox is worth. -/
noncomputable def Try.pinned : Pinned := { name := "ytgkdmmfogibbjaa", sum := "28b4f889972ec565293c22acfcab11749b076342b94b0c6f22620ecc6adac916", checked := Try.checked }
namespace Rows
def none {H : Type} : Left H := { results := [], args := [] }

/-- 'dyeworkslaw.WireChecks': WHATEVER THE INPUT: true; the input reads as it did. -/
def wireChecksSpec : ChangeSpec := { name := "wireChecks", fn := fun _ => fun
  | [d] => { results := [.lit (.bool true)], args := [d] }
  | _ => none }
def wireChecksRow : OpenClaim := { program := "ytgkdmmfogibbjaa", sum := "28b4f889972ec565293c22acfcab11749b076342b94b0c6f22620ecc6adac916", func := "dyeworks/dyeworkslaw.WireChecks", spec := "wireChecks", apart := false }
def WireChecksSaid : Prop := wireChecksRow.holds Try.pinned (OpenSpec.ofChange wireChecksSpec)

/-- ITS FALSE NEIGHBOUR: 'it returns false'. Refute it at one input. -/
def wireChecksWrong : ChangeSpec := { name := "wireChecks", fn := fun _ => fun
  | [d] => { results := [.lit (.bool false)], args := [d] }
  | _ => none }
def WireChecksWrongFalsely : Prop := wireChecksRow.holds Try.pinned (OpenSpec.ofChange wireChecksWrong)

/-- 'dyeworkslaw.WireEncodes': WHATEVER THE INPUT: true; the input reads as it did. -/
def wireEncodesSpec : ChangeSpec := { name := "wireEncodes", fn := fun _ => fun
  | [d] => { results := [.lit (.bool true)], args := [d] }
  | _ => none }
def wireEncodesRow : OpenClaim := { program := "ytgkdmmfogibbjaa", sum := "28b4f889972ec565293c22acfcab11749b076342b94b0c6f22620ecc6adac916", func := "dyeworks/dyeworkslaw.WireEncodes", spec := "wireEncodes", apart := false }
def WireEncodesSaid : Prop := wireEncodesRow.holds Try.pinned (OpenSpec.ofChange wireEncodesSpec)

/-- ITS FALSE NEIGHBOUR: 'it returns false'. Refute it at one input. -/
def wireEncodesWrong : ChangeSpec := { name := "wireEncodes", fn := fun _ => fun
  | [d] => { results := [.lit (.bool false)], args := [d] }
  | _ => none }
def WireEncodesWrongFalsely : Prop := wireEncodesRow.holds Try.pinned (OpenSpec.ofChange wireEncodesWrong)

/-- 'dyeworkslaw.WireDecodes': WHATEVER THE INPUT: true; the input reads as it did. -/
def wireDecodesSpec : ChangeSpec := { name := "wireDecodes", fn := fun _ => fun
  | [d] => { results := [.lit (.bool true)], args := [d] }
  | _ => none }
def wireDecodesRow : OpenClaim := { program := "ytgkdmmfogibbjaa", sum := "28b4f889972ec565293c22acfcab11749b076342b94b0c6f22620ecc6adac916", func := "dyeworks/dyeworkslaw.WireDecodes", spec := "wireDecodes", apart := false }
def WireDecodesSaid : Prop := wireDecodesRow.holds Try.pinned (OpenSpec.ofChange wireDecodesSpec)

/-- ITS FALSE NEIGHBOUR: 'it returns false'. Refute it at one input. -/
def wireDecodesWrong : ChangeSpec := { name := "wireDecodes", fn := fun _ => fun
  | [d] => { results := [.lit (.bool false)], args := [d] }
  | _ => none }
def WireDecodesWrongFalsely : Prop := wireDecodesRow.holds Try.pinned (OpenSpec.ofChange wireDecodesWrong)

/-- 'dyeworkslaw.WireWraps': WHATEVER THE INPUT: true; the input reads as it did. -/
def wireWrapsSpec : ChangeSpec := { name := "wireWraps", fn := fun _ => fun
  | [d1, d2, d3] => { results := [.lit (.bool true)], args := [d1, d2, d3] }
  | _ => none }
def wireWrapsRow : OpenClaim := { program := "ytgkdmmfogibbjaa", sum := "28b4f889972ec565293c22acfcab11749b076342b94b0c6f22620ecc6adac916", func := "dyeworks/dyeworkslaw.WireWraps", spec := "wireWraps", apart := false }
def WireWrapsSaid : Prop := wireWrapsRow.holds Try.pinned (OpenSpec.ofChange wireWrapsSpec)

/-- ITS FALSE NEIGHBOUR: 'it returns false'. Refute it at one input. -/
def wireWrapsWrong : ChangeSpec := { name := "wireWraps", fn := fun _ => fun
  | [d1, d2, d3] => { results := [.lit (.bool false)], args := [d1, d2, d3] }
  | _ => none }
def WireWrapsWrongFalsely : Prop := wireWrapsRow.holds Try.pinned (OpenSpec.ofChange wireWrapsWrong)

/-- 'dyeworkslaw.WireUnwraps': WHATEVER THE INPUT: true; the input reads as it did. -/
def wireUnwrapsSpec : ChangeSpec := { name := "wireUnwraps", fn := fun _ => fun
  | [d] => { results := [.lit (.bool true)], args := [d] }
  | _ => none }
def wireUnwrapsRow : OpenClaim := { program := "ytgkdmmfogibbjaa", sum := "28b4f889972ec565293c22acfcab11749b076342b94b0c6f22620ecc6adac916", func := "dyeworks/dyeworkslaw.WireUnwraps", spec := "wireUnwraps", apart := false }
def WireUnwrapsSaid : Prop := wireUnwrapsRow.holds Try.pinned (OpenSpec.ofChange wireUnwrapsSpec)

/-- ITS FALSE NEIGHBOUR: 'it returns false'. Refute it at one input. -/
def wireUnwrapsWrong : ChangeSpec := { name := "wireUnwraps", fn := fun _ => fun
  | [d] => { results := [.lit (.bool false)], args := [d] }
  | _ => none }
def WireUnwrapsWrongFalsely : Prop := wireUnwrapsRow.holds Try.pinned (OpenSpec.ofChange wireUnwrapsWrong)

/-- 'dyeworkskeep.FramesBack': WHATEVER THE INPUT: true; the input reads as it did. -/
def framesBackSpec : ChangeSpec := { name := "framesBack", fn := fun _ => fun
  | [d1, d2, d3, d4, d5] => { results := [.lit (.bool true)], args := [d1, d2, d3, d4, d5] }
  | _ => none }
def framesBackRow : OpenClaim := { program := "ytgkdmmfogibbjaa", sum := "28b4f889972ec565293c22acfcab11749b076342b94b0c6f22620ecc6adac916", func := "dyeworks/dyeworkskeep.FramesBack", spec := "framesBack", unfollowed := true, recurses := true, apart := false }
def FramesBackSaid : Prop := framesBackRow.holds Try.pinned (OpenSpec.ofChange framesBackSpec)

/-- ITS FALSE NEIGHBOUR: 'it returns false'. Refute it at one input. -/
def framesBackWrong : ChangeSpec := { name := "framesBack", fn := fun _ => fun
  | [d1, d2, d3, d4, d5] => { results := [.lit (.bool false)], args := [d1, d2, d3, d4, d5] }
  | _ => none }
def FramesBackWrongFalsely : Prop := framesBackRow.holds Try.pinned (OpenSpec.ofChange framesBackWrong)

/- THE SECOND FORM. 'bulk': how many values and letters a reading holds, each counted each time it is reached (what is shared counts as often as it is met; a slice's spare places count too). A statement '..UptoSaid' is the law's where the arguments, and the package variables that the reading takes, are together of bulk at most 1048576: NARROWER than '..Said'. Prove '..Said' where nothing that the law and all that it calls make is longer than what came in: it says more and counts as full. Else prove '..UptoSaid'. A law counts once. -/
mutual
def uptoBulk {H : Type} : DataW H → Nat
  | .lit (.string bytes) => bytes.length + 1
  | .lit _ => 1
  | .nil => 1
  | .ptr d => uptoBulk d + 1
  | .slice elems spare => uptoBulkAll elems + uptoBulkAll spare + 1
  | .agg parts => uptoBulkAll parts + 1
  | .iface _ d => uptoBulk d + 1
  | .map entries => uptoBulkEntries entries + 1
  | .held _ => 1
def uptoBulkAll {H : Type} : List (DataW H) → Nat
  | [] => 0
  | d :: r => uptoBulk d + uptoBulkAll r
def uptoBulkEntries {H : Type} : List (Lit × DataW H) → Nat
  | [] => 0
  | x :: r => uptoBulkEntry x + uptoBulkEntries r
def uptoBulkEntry {H : Type} : Lit × DataW H → Nat
  | (.string bytes, d) => bytes.length + uptoBulk d + 1
  | (_, d) => uptoBulk d + 1
 end
def uptoSmall : (H : Type) → List (DataW H) → Bool := fun _ ds => decide (uptoBulkAll ds ≤ 1048576)
def OpenSpec.upto (s : _root_.Go.ChangeSpec) : _root_.Go.OpenSpec := { _root_.Go.OpenSpec.ofChange s with cond := some uptoSmall }

/-- 'dyeworkslaw.WireChecks', WHERE WHAT IT READS IS OF BULK AT MOST 1048576: true; the input reads as it did. -/
def wireChecksUptoRow : OpenClaim := { program := "ytgkdmmfogibbjaa", sum := "28b4f889972ec565293c22acfcab11749b076342b94b0c6f22620ecc6adac916", func := "dyeworks/dyeworkslaw.WireChecks", spec := "wireChecks", apart := false, narrowed := true }
def WireChecksUptoSaid : Prop := wireChecksUptoRow.holds Try.pinned (OpenSpec.upto wireChecksSpec)

/-- 'dyeworkslaw.WireEncodes', WHERE WHAT IT READS IS OF BULK AT MOST 1048576: true; the input reads as it did. -/
def wireEncodesUptoRow : OpenClaim := { program := "ytgkdmmfogibbjaa", sum := "28b4f889972ec565293c22acfcab11749b076342b94b0c6f22620ecc6adac916", func := "dyeworks/dyeworkslaw.WireEncodes", spec := "wireEncodes", apart := false, narrowed := true }
def WireEncodesUptoSaid : Prop := wireEncodesUptoRow.holds Try.pinned (OpenSpec.upto wireEncodesSpec)

/-- 'dyeworkslaw.WireDecodes', WHERE WHAT IT READS IS OF BULK AT MOST 1048576: true; the input reads as it did. -/
def wireDecodesUptoRow : OpenClaim := { program := "ytgkdmmfogibbjaa", sum := "28b4f889972ec565293c22acfcab11749b076342b94b0c6f22620ecc6adac916", func := "dyeworks/dyeworkslaw.WireDecodes", spec := "wireDecodes", apart := false, narrowed := true }
def WireDecodesUptoSaid : Prop := wireDecodesUptoRow.holds Try.pinned (OpenSpec.upto wireDecodesSpec)

/-- 'dyeworkslaw.WireWraps', WHERE WHAT IT READS IS OF BULK AT MOST 1048576: true; the input reads as it did. -/
def wireWrapsUptoRow : OpenClaim := { program := "ytgkdmmfogibbjaa", sum := "28b4f889972ec565293c22acfcab11749b076342b94b0c6f22620ecc6adac916", func := "dyeworks/dyeworkslaw.WireWraps", spec := "wireWraps", apart := false, narrowed := true }
def WireWrapsUptoSaid : Prop := wireWrapsUptoRow.holds Try.pinned (OpenSpec.upto wireWrapsSpec)

/-- 'dyeworkslaw.WireUnwraps', WHERE WHAT IT READS IS OF BULK AT MOST 1048576: true; the input reads as it did. -/
def wireUnwrapsUptoRow : OpenClaim := { program := "ytgkdmmfogibbjaa", sum := "28b4f889972ec565293c22acfcab11749b076342b94b0c6f22620ecc6adac916", func := "dyeworks/dyeworkslaw.WireUnwraps", spec := "wireUnwraps", apart := false, narrowed := true }
def WireUnwrapsUptoSaid : Prop := wireUnwrapsUptoRow.holds Try.pinned (OpenSpec.upto wireUnwrapsSpec)

/-- 'dyeworkskeep.FramesBack', WHERE WHAT IT READS IS OF BULK AT MOST 1048576: true; the input reads as it did. -/
def framesBackUptoRow : OpenClaim := { program := "ytgkdmmfogibbjaa", sum := "28b4f889972ec565293c22acfcab11749b076342b94b0c6f22620ecc6adac916", func := "dyeworks/dyeworkskeep.FramesBack", spec := "framesBack", unfollowed := true, recurses := true, apart := false, narrowed := true }
def FramesBackUptoSaid : Prop := framesBackUptoRow.holds Try.pinned (OpenSpec.upto framesBackSpec)

end Rows
end Go.Proofs.Ytgkdmmfogibbjaa
