/-
  FlowChecks: flow.Check answers what P2.1 says, at every list of flows. No condition.
-/
import Derived.Test.YtgkdmmfogibbjabFlowChecksRow
import Derived.Test.YtgkdmmfogibbjabFk2
namespace Go.Proofs.Ytgkdmmfogibbjab

theorem flowChecks : Rows.FlowChecksSaid := flowChecks_of fCheck_any

end Go.Proofs.Ytgkdmmfogibbjab
