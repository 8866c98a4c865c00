/-
  What the law's packet answers.
-/
import Derived.Test.YtonhfgdnkkkikadPk
namespace Go.Proofs.Ytonhfgdnkkkikad
open Go.RowKit
set_option linter.unusedVariables false
set_option maxRecDepth 100000

set_option maxHeartbeats 4000000 in
theorem lawPacket_any (dst src kind ips ipd ttl port : Int) (body : ByteArray) (i net t : Int) (w : World) :
    Calls Try.prog 18 #[fr dst src kind ips ipd ttl port body, .int .i64 i, .int .i64 net, .int .i64 t] w fun e w' => e = .returned (pkt i dst src kind ips ipd ttl port net t body) ∧ Below w.heap.size w w' := by
  go_enter Try.func18, Try.ntmps18
  go_wp2_with fail
  refine bodyPost_ret (v := pkt i dst src kind ips ipd ttl port net t body) ?_ rfl ⟨rfl, ?_⟩
  · simp [results, Try.results18, go_sem]
  · exact (((Below.refl _ _).alloc (Nat.le_refl _) _).alloc (by simp) _).alloc (by simp; omega) _

end Go.Proofs.Ytonhfgdnkkkikad
