/-
  FlowPackets: flow.CheckPacket answers what P2.2 says, at every packet. No condition.
-/
import Derived.Test.YtgkdmmfogibbjabFlowPacketsRow
import Derived.Test.YtgkdmmfogibbjabFp
namespace Go.Proofs.Ytgkdmmfogibbjab

theorem flowPackets : Rows.FlowPacketsSaid := flowPackets_of fun f0 f1 f2 f3 f4 f5 f6 f7 f8 f9 body w hb => checkPacket_any f0 f1 f2 f3 f4 f5 f6 f7 f8 f9 body w hb

end Go.Proofs.Ytgkdmmfogibbjab
