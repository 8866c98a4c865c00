/- The law PipePackets returns true at every frame and all numbers, and they read behind the call as they read before; no condition. -/
import Derived.Test.YtonhfgdnkkkikadPp
import Derived.Test.YtonhfgdnkkkikadPq
import Derived.Test.YtonhfgdnkkkikadPe
import Derived.Test.YtonhfgdnkkkikadRa
import Derived.Test.YtonhfgdnkkkikadRp
import Derived.Test.YtonhfgdnkkkikadOp
namespace Go.Proofs.Ytonhfgdnkkkikad
set_option linter.unusedVariables false
set_option maxRecDepth 100000
open Go.ChangeShapes Go.WideShapes Go.ChangeAt Go.RowKit

set_option maxHeartbeats 4000000 in
/-- PipePackets: true, at every frame and all numbers. -/
theorem pipePackets_any (dst src kind ips ipd ttl port : Int) (body : ByteArray) (i net t : Int) (w : World) (hb : body.size ≤ maxLen) :
    Calls Try.prog 7 #[fr dst src kind ips ipd ttl port body, .int .i64 i, .int .i64 net, .int .i64 t] w fun e w' => e = .returned (.bool true) ∧ Below w.heap.size w w' := by
  have HE : Hid (pkE dst src kind ips ipd ttl port body.size i net t = if fault dst src kind ips ipd ttl port body.size = 0 then pktFault [i, dst, src, kind, ips, ipd, ttl, port, net, t] body.size else fault dst src kind ips ipd ttl port body.size) := rfl
  have H0 := hide (fun W => pPacket_any dst src kind ips ipd ttl port body i net t W hb)
  generalize pkE dst src kind ips ipd ttl port body.size i net t = E at *
  have H1 := hide (fun W => lawPacket_any dst src kind ips ipd ttl port body i net t W)
  have H2 := hide (fun W => frameFault_any dst src kind ips ipd ttl port body W hb)
  have H3 := hide (fun W => packetFault_any i dst src kind ips ipd ttl port net t body W hb)
  generalize fault dst src kind ips ipd ttl port body.size = G at *
  generalize pktFault [i, dst, src, kind, ips, ipd, ttl, port, net, t] body.size = K at *
  have q1 := eqPacket 0 0 0 0 0 0 0 0 0 0 ⟨#[]⟩
  have q2 := eqPacket i dst src kind ips ipd ttl port net t body
  have q3 := guardPacket
  by_cases hG : ¬ G = 0
  · have hE : E = G := by rw [HE.out, if_neg hG]
    subst hE
    rw [if_neg hG] at H0
    clear HE
    go_enter Try.func7, Try.ntmps7
    go_wp2_with fail
    obtain ⟨W0, hW0⟩ : ∃ W0, W0 = w.alloc (.cells #[.int .i64 dst, .int .i64 src, .int .i64 kind, .int .i64 ips, .int .i64 ipd, .int .i64 ttl, .int .i64 port, .string body] 37) := ⟨_, rfl⟩
    have k0 : Below w.heap.size w W0 := by rw [hW0]; exact (Below.refl _ w).alloc (Nat.le_refl _) _
    have c0 : W0.cell? ⟨w.heap.size, 0, none⟩ = some (.int .i64 dst) := by rw [hW0]; exact new_cell w _ rfl _ _ _ _ rfl
    have c1 : W0.cell? ⟨w.heap.size, 1, none⟩ = some (.int .i64 src) := by rw [hW0]; exact new_cell w _ rfl _ _ _ _ rfl
    have c2 : W0.cell? ⟨w.heap.size, 2, none⟩ = some (.int .i64 kind) := by rw [hW0]; exact new_cell w _ rfl _ _ _ _ rfl
    have c3 : W0.cell? ⟨w.heap.size, 3, none⟩ = some (.int .i64 ips) := by rw [hW0]; exact new_cell w _ rfl _ _ _ _ rfl
    have c4 : W0.cell? ⟨w.heap.size, 4, none⟩ = some (.int .i64 ipd) := by rw [hW0]; exact new_cell w _ rfl _ _ _ _ rfl
    have c5 : W0.cell? ⟨w.heap.size, 5, none⟩ = some (.int .i64 ttl) := by rw [hW0]; exact new_cell w _ rfl _ _ _ _ rfl
    have c6 : W0.cell? ⟨w.heap.size, 6, none⟩ = some (.int .i64 port) := by rw [hW0]; exact new_cell w _ rfl _ _ _ _ rfl
    have c7 : W0.cell? ⟨w.heap.size, 7, none⟩ = some (.string body) := by rw [hW0]; exact new_cell w _ rfl _ _ _ _ rfl
    rw [← hW0]
    clear hW0
    refine (unhide H0 _).mono ?_
    rintro e w1 ⟨rfl, hb1⟩
    have k1 := k0.trans (hb1.mono k0.size)
    replace c0 := cell_beh c0 hb1 (Nat.le_refl _)
    replace c1 := cell_beh c1 hb1 (Nat.le_refl _)
    replace c2 := cell_beh c2 hb1 (Nat.le_refl _)
    replace c3 := cell_beh c3 hb1 (Nat.le_refl _)
    replace c4 := cell_beh c4 hb1 (Nat.le_refl _)
    replace c5 := cell_beh c5 hb1 (Nat.le_refl _)
    replace c6 := cell_beh c6 hb1 (Nat.le_refl _)
    replace c7 := cell_beh c7 hb1 (Nat.le_refl _)
    clear hb1 k0 H0
    have l1 := cell_in c0
    have n1 : ¬ w.heap.size = w1.heap.size := by omega
    go_wp2_with fail
    obtain ⟨W1, hW1⟩ : ∃ W1, W1 = w1.alloc (.cells #[.int .i64 0, .int .i64 0, .int .i64 0, .int .i64 0, .int .i64 0, .int .i64 0, .int .i64 0, .int .i64 0, .int .i64 0, .int .i64 0, .string ⟨#[]⟩] 55) := ⟨_, rfl⟩
    have g1 : Below w.heap.size w W1 := by rw [hW1]; exact k1.alloc (by omega) _
    have a0 : W1.cell? ⟨w1.heap.size, 0, none⟩ = some (.int .i64 0) := by rw [hW1]; exact new_cell w1 _ rfl _ _ _ _ rfl
    have a1 : W1.cell? ⟨w1.heap.size, 1, none⟩ = some (.int .i64 0) := by rw [hW1]; exact new_cell w1 _ rfl _ _ _ _ rfl
    have a2 : W1.cell? ⟨w1.heap.size, 2, none⟩ = some (.int .i64 0) := by rw [hW1]; exact new_cell w1 _ rfl _ _ _ _ rfl
    have a3 : W1.cell? ⟨w1.heap.size, 3, none⟩ = some (.int .i64 0) := by rw [hW1]; exact new_cell w1 _ rfl _ _ _ _ rfl
    have a4 : W1.cell? ⟨w1.heap.size, 4, none⟩ = some (.int .i64 0) := by rw [hW1]; exact new_cell w1 _ rfl _ _ _ _ rfl
    have a5 : W1.cell? ⟨w1.heap.size, 5, none⟩ = some (.int .i64 0) := by rw [hW1]; exact new_cell w1 _ rfl _ _ _ _ rfl
    have a6 : W1.cell? ⟨w1.heap.size, 6, none⟩ = some (.int .i64 0) := by rw [hW1]; exact new_cell w1 _ rfl _ _ _ _ rfl
    have a7 : W1.cell? ⟨w1.heap.size, 7, none⟩ = some (.int .i64 0) := by rw [hW1]; exact new_cell w1 _ rfl _ _ _ _ rfl
    have a8 : W1.cell? ⟨w1.heap.size, 8, none⟩ = some (.int .i64 0) := by rw [hW1]; exact new_cell w1 _ rfl _ _ _ _ rfl
    have a9 : W1.cell? ⟨w1.heap.size, 9, none⟩ = some (.int .i64 0) := by rw [hW1]; exact new_cell w1 _ rfl _ _ _ _ rfl
    have a10 : W1.cell? ⟨w1.heap.size, 10, none⟩ = some (.string ⟨#[]⟩) := by rw [hW1]; exact new_cell w1 _ rfl _ _ _ _ rfl
    replace c0 : W1.cell? ⟨w.heap.size, 0, none⟩ = some (.int .i64 dst) := by rw [hW1]; exact old_cell c0 _
    replace c1 : W1.cell? ⟨w.heap.size, 1, none⟩ = some (.int .i64 src) := by rw [hW1]; exact old_cell c1 _
    replace c2 : W1.cell? ⟨w.heap.size, 2, none⟩ = some (.int .i64 kind) := by rw [hW1]; exact old_cell c2 _
    replace c3 : W1.cell? ⟨w.heap.size, 3, none⟩ = some (.int .i64 ips) := by rw [hW1]; exact old_cell c3 _
    replace c4 : W1.cell? ⟨w.heap.size, 4, none⟩ = some (.int .i64 ipd) := by rw [hW1]; exact old_cell c4 _
    replace c5 : W1.cell? ⟨w.heap.size, 5, none⟩ = some (.int .i64 ttl) := by rw [hW1]; exact old_cell c5 _
    replace c6 : W1.cell? ⟨w.heap.size, 6, none⟩ = some (.int .i64 port) := by rw [hW1]; exact old_cell c6 _
    replace c7 : W1.cell? ⟨w.heap.size, 7, none⟩ = some (.string body) := by rw [hW1]; exact old_cell c7 _
    rw [← hW1]
    clear hW1
    refine (unhide H1 _).mono ?_
    rintro e w2 ⟨rfl, hb2⟩
    have k2 := g1.trans (hb2.mono g1.size)
    replace c0 := cell_beh c0 hb2 (Nat.le_refl _)
    replace c1 := cell_beh c1 hb2 (Nat.le_refl _)
    replace c2 := cell_beh c2 hb2 (Nat.le_refl _)
    replace c3 := cell_beh c3 hb2 (Nat.le_refl _)
    replace c4 := cell_beh c4 hb2 (Nat.le_refl _)
    replace c5 := cell_beh c5 hb2 (Nat.le_refl _)
    replace c6 := cell_beh c6 hb2 (Nat.le_refl _)
    replace c7 := cell_beh c7 hb2 (Nat.le_refl _)
    replace a0 := cell_beh a0 hb2 (Nat.le_refl _)
    replace a1 := cell_beh a1 hb2 (Nat.le_refl _)
    replace a2 := cell_beh a2 hb2 (Nat.le_refl _)
    replace a3 := cell_beh a3 hb2 (Nat.le_refl _)
    replace a4 := cell_beh a4 hb2 (Nat.le_refl _)
    replace a5 := cell_beh a5 hb2 (Nat.le_refl _)
    replace a6 := cell_beh a6 hb2 (Nat.le_refl _)
    replace a7 := cell_beh a7 hb2 (Nat.le_refl _)
    replace a8 := cell_beh a8 hb2 (Nat.le_refl _)
    replace a9 := cell_beh a9 hb2 (Nat.le_refl _)
    replace a10 := cell_beh a10 hb2 (Nat.le_refl _)
    clear hb2 g1 H1
    have l2 := cell_in c0
    have n2 : ¬ w.heap.size = w2.heap.size := by omega
    have l3 := cell_in a0
    have n3 : ¬ w1.heap.size = w2.heap.size := by omega
    go_wp2_with fail
    obtain ⟨W2, hW2⟩ : ∃ W2, W2 = w2.alloc (.cells #[.int .i64 i, .int .i64 dst, .int .i64 src, .int .i64 kind, .int .i64 ips, .int .i64 ipd, .int .i64 ttl, .int .i64 port, .int .i64 net, .int .i64 t, .string body] 55) := ⟨_, rfl⟩
    have g2 : Below w.heap.size w W2 := by rw [hW2]; exact k2.alloc (by omega) _
    have b0 : W2.cell? ⟨w2.heap.size, 0, none⟩ = some (.int .i64 i) := by rw [hW2]; exact new_cell w2 _ rfl _ _ _ _ rfl
    have b1 : W2.cell? ⟨w2.heap.size, 1, none⟩ = some (.int .i64 dst) := by rw [hW2]; exact new_cell w2 _ rfl _ _ _ _ rfl
    have b2 : W2.cell? ⟨w2.heap.size, 2, none⟩ = some (.int .i64 src) := by rw [hW2]; exact new_cell w2 _ rfl _ _ _ _ rfl
    have b3 : W2.cell? ⟨w2.heap.size, 3, none⟩ = some (.int .i64 kind) := by rw [hW2]; exact new_cell w2 _ rfl _ _ _ _ rfl
    have b4 : W2.cell? ⟨w2.heap.size, 4, none⟩ = some (.int .i64 ips) := by rw [hW2]; exact new_cell w2 _ rfl _ _ _ _ rfl
    have b5 : W2.cell? ⟨w2.heap.size, 5, none⟩ = some (.int .i64 ipd) := by rw [hW2]; exact new_cell w2 _ rfl _ _ _ _ rfl
    have b6 : W2.cell? ⟨w2.heap.size, 6, none⟩ = some (.int .i64 ttl) := by rw [hW2]; exact new_cell w2 _ rfl _ _ _ _ rfl
    have b7 : W2.cell? ⟨w2.heap.size, 7, none⟩ = some (.int .i64 port) := by rw [hW2]; exact new_cell w2 _ rfl _ _ _ _ rfl
    have b8 : W2.cell? ⟨w2.heap.size, 8, none⟩ = some (.int .i64 net) := by rw [hW2]; exact new_cell w2 _ rfl _ _ _ _ rfl
    have b9 : W2.cell? ⟨w2.heap.size, 9, none⟩ = some (.int .i64 t) := by rw [hW2]; exact new_cell w2 _ rfl _ _ _ _ rfl
    have b10 : W2.cell? ⟨w2.heap.size, 10, none⟩ = some (.string body) := by rw [hW2]; exact new_cell w2 _ rfl _ _ _ _ rfl
    replace a0 : W2.cell? ⟨w1.heap.size, 0, none⟩ = some (.int .i64 0) := by rw [hW2]; exact old_cell a0 _
    replace a1 : W2.cell? ⟨w1.heap.size, 1, none⟩ = some (.int .i64 0) := by rw [hW2]; exact old_cell a1 _
    replace a2 : W2.cell? ⟨w1.heap.size, 2, none⟩ = some (.int .i64 0) := by rw [hW2]; exact old_cell a2 _
    replace a3 : W2.cell? ⟨w1.heap.size, 3, none⟩ = some (.int .i64 0) := by rw [hW2]; exact old_cell a3 _
    replace a4 : W2.cell? ⟨w1.heap.size, 4, none⟩ = some (.int .i64 0) := by rw [hW2]; exact old_cell a4 _
    replace a5 : W2.cell? ⟨w1.heap.size, 5, none⟩ = some (.int .i64 0) := by rw [hW2]; exact old_cell a5 _
    replace a6 : W2.cell? ⟨w1.heap.size, 6, none⟩ = some (.int .i64 0) := by rw [hW2]; exact old_cell a6 _
    replace a7 : W2.cell? ⟨w1.heap.size, 7, none⟩ = some (.int .i64 0) := by rw [hW2]; exact old_cell a7 _
    replace a8 : W2.cell? ⟨w1.heap.size, 8, none⟩ = some (.int .i64 0) := by rw [hW2]; exact old_cell a8 _
    replace a9 : W2.cell? ⟨w1.heap.size, 9, none⟩ = some (.int .i64 0) := by rw [hW2]; exact old_cell a9 _
    replace a10 : W2.cell? ⟨w1.heap.size, 10, none⟩ = some (.string ⟨#[]⟩) := by rw [hW2]; exact old_cell a10 _
    rw [← hW2]
    clear hW2 c0 c1 c2 c3 c4 c5 c6 c7
    refine (unhide H2 _).mono ?_
    rintro e w3 ⟨rfl, hb3⟩
    have k3 := g2.trans (hb3.mono g2.size)
    replace a0 := cell_beh a0 hb3 (Nat.le_refl _)
    replace a1 := cell_beh a1 hb3 (Nat.le_refl _)
    replace a2 := cell_beh a2 hb3 (Nat.le_refl _)
    replace a3 := cell_beh a3 hb3 (Nat.le_refl _)
    replace a4 := cell_beh a4 hb3 (Nat.le_refl _)
    replace a5 := cell_beh a5 hb3 (Nat.le_refl _)
    replace a6 := cell_beh a6 hb3 (Nat.le_refl _)
    replace a7 := cell_beh a7 hb3 (Nat.le_refl _)
    replace a8 := cell_beh a8 hb3 (Nat.le_refl _)
    replace a9 := cell_beh a9 hb3 (Nat.le_refl _)
    replace a10 := cell_beh a10 hb3 (Nat.le_refl _)
    replace b0 := cell_beh b0 hb3 (Nat.le_refl _)
    replace b1 := cell_beh b1 hb3 (Nat.le_refl _)
    replace b2 := cell_beh b2 hb3 (Nat.le_refl _)
    replace b3 := cell_beh b3 hb3 (Nat.le_refl _)
    replace b4 := cell_beh b4 hb3 (Nat.le_refl _)
    replace b5 := cell_beh b5 hb3 (Nat.le_refl _)
    replace b6 := cell_beh b6 hb3 (Nat.le_refl _)
    replace b7 := cell_beh b7 hb3 (Nat.le_refl _)
    replace b8 := cell_beh b8 hb3 (Nat.le_refl _)
    replace b9 := cell_beh b9 hb3 (Nat.le_refl _)
    replace b10 := cell_beh b10 hb3 (Nat.le_refl _)
    clear hb3 g2 H2
    go_wp2_with fail
    go_ret
    exact ⟨bool_ret (by first | rfl | simp), k3⟩
  · have hG0 : G = 0 := by omega
    have hE : E = K := by rw [HE.out, if_pos hG0]
    subst hE
    subst hG0
    clear HE hG
    by_cases hK : ¬ E = 0
    · rw [if_neg hK] at H0
      go_enter Try.func7, Try.ntmps7
      go_wp2_with fail
      obtain ⟨W0, hW0⟩ : ∃ W0, W0 = w.alloc (.cells #[.int .i64 dst, .int .i64 src, .int .i64 kind, .int .i64 ips, .int .i64 ipd, .int .i64 ttl, .int .i64 port, .string body] 37) := ⟨_, rfl⟩
      have k0 : Below w.heap.size w W0 := by rw [hW0]; exact (Below.refl _ w).alloc (Nat.le_refl _) _
      have c0 : W0.cell? ⟨w.heap.size, 0, none⟩ = some (.int .i64 dst) := by rw [hW0]; exact new_cell w _ rfl _ _ _ _ rfl
      have c1 : W0.cell? ⟨w.heap.size, 1, none⟩ = some (.int .i64 src) := by rw [hW0]; exact new_cell w _ rfl _ _ _ _ rfl
      have c2 : W0.cell? ⟨w.heap.size, 2, none⟩ = some (.int .i64 kind) := by rw [hW0]; exact new_cell w _ rfl _ _ _ _ rfl
      have c3 : W0.cell? ⟨w.heap.size, 3, none⟩ = some (.int .i64 ips) := by rw [hW0]; exact new_cell w _ rfl _ _ _ _ rfl
      have c4 : W0.cell? ⟨w.heap.size, 4, none⟩ = some (.int .i64 ipd) := by rw [hW0]; exact new_cell w _ rfl _ _ _ _ rfl
      have c5 : W0.cell? ⟨w.heap.size, 5, none⟩ = some (.int .i64 ttl) := by rw [hW0]; exact new_cell w _ rfl _ _ _ _ rfl
      have c6 : W0.cell? ⟨w.heap.size, 6, none⟩ = some (.int .i64 port) := by rw [hW0]; exact new_cell w _ rfl _ _ _ _ rfl
      have c7 : W0.cell? ⟨w.heap.size, 7, none⟩ = some (.string body) := by rw [hW0]; exact new_cell w _ rfl _ _ _ _ rfl
      rw [← hW0]
      clear hW0
      refine (unhide H0 _).mono ?_
      rintro e w1 ⟨rfl, hb1⟩
      have k1 := k0.trans (hb1.mono k0.size)
      replace c0 := cell_beh c0 hb1 (Nat.le_refl _)
      replace c1 := cell_beh c1 hb1 (Nat.le_refl _)
      replace c2 := cell_beh c2 hb1 (Nat.le_refl _)
      replace c3 := cell_beh c3 hb1 (Nat.le_refl _)
      replace c4 := cell_beh c4 hb1 (Nat.le_refl _)
      replace c5 := cell_beh c5 hb1 (Nat.le_refl _)
      replace c6 := cell_beh c6 hb1 (Nat.le_refl _)
      replace c7 := cell_beh c7 hb1 (Nat.le_refl _)
      clear hb1 k0 H0
      have l1 := cell_in c0
      have n1 : ¬ w.heap.size = w1.heap.size := by omega
      go_wp2_with fail
      obtain ⟨W1, hW1⟩ : ∃ W1, W1 = w1.alloc (.cells #[.int .i64 0, .int .i64 0, .int .i64 0, .int .i64 0, .int .i64 0, .int .i64 0, .int .i64 0, .int .i64 0, .int .i64 0, .int .i64 0, .string ⟨#[]⟩] 55) := ⟨_, rfl⟩
      have g1 : Below w.heap.size w W1 := by rw [hW1]; exact k1.alloc (by omega) _
      have a0 : W1.cell? ⟨w1.heap.size, 0, none⟩ = some (.int .i64 0) := by rw [hW1]; exact new_cell w1 _ rfl _ _ _ _ rfl
      have a1 : W1.cell? ⟨w1.heap.size, 1, none⟩ = some (.int .i64 0) := by rw [hW1]; exact new_cell w1 _ rfl _ _ _ _ rfl
      have a2 : W1.cell? ⟨w1.heap.size, 2, none⟩ = some (.int .i64 0) := by rw [hW1]; exact new_cell w1 _ rfl _ _ _ _ rfl
      have a3 : W1.cell? ⟨w1.heap.size, 3, none⟩ = some (.int .i64 0) := by rw [hW1]; exact new_cell w1 _ rfl _ _ _ _ rfl
      have a4 : W1.cell? ⟨w1.heap.size, 4, none⟩ = some (.int .i64 0) := by rw [hW1]; exact new_cell w1 _ rfl _ _ _ _ rfl
      have a5 : W1.cell? ⟨w1.heap.size, 5, none⟩ = some (.int .i64 0) := by rw [hW1]; exact new_cell w1 _ rfl _ _ _ _ rfl
      have a6 : W1.cell? ⟨w1.heap.size, 6, none⟩ = some (.int .i64 0) := by rw [hW1]; exact new_cell w1 _ rfl _ _ _ _ rfl
      have a7 : W1.cell? ⟨w1.heap.size, 7, none⟩ = some (.int .i64 0) := by rw [hW1]; exact new_cell w1 _ rfl _ _ _ _ rfl
      have a8 : W1.cell? ⟨w1.heap.size, 8, none⟩ = some (.int .i64 0) := by rw [hW1]; exact new_cell w1 _ rfl _ _ _ _ rfl
      have a9 : W1.cell? ⟨w1.heap.size, 9, none⟩ = some (.int .i64 0) := by rw [hW1]; exact new_cell w1 _ rfl _ _ _ _ rfl
      have a10 : W1.cell? ⟨w1.heap.size, 10, none⟩ = some (.string ⟨#[]⟩) := by rw [hW1]; exact new_cell w1 _ rfl _ _ _ _ rfl
      replace c0 : W1.cell? ⟨w.heap.size, 0, none⟩ = some (.int .i64 dst) := by rw [hW1]; exact old_cell c0 _
      replace c1 : W1.cell? ⟨w.heap.size, 1, none⟩ = some (.int .i64 src) := by rw [hW1]; exact old_cell c1 _
      replace c2 : W1.cell? ⟨w.heap.size, 2, none⟩ = some (.int .i64 kind) := by rw [hW1]; exact old_cell c2 _
      replace c3 : W1.cell? ⟨w.heap.size, 3, none⟩ = some (.int .i64 ips) := by rw [hW1]; exact old_cell c3 _
      replace c4 : W1.cell? ⟨w.heap.size, 4, none⟩ = some (.int .i64 ipd) := by rw [hW1]; exact old_cell c4 _
      replace c5 : W1.cell? ⟨w.heap.size, 5, none⟩ = some (.int .i64 ttl) := by rw [hW1]; exact old_cell c5 _
      replace c6 : W1.cell? ⟨w.heap.size, 6, none⟩ = some (.int .i64 port) := by rw [hW1]; exact old_cell c6 _
      replace c7 : W1.cell? ⟨w.heap.size, 7, none⟩ = some (.string body) := by rw [hW1]; exact old_cell c7 _
      rw [← hW1]
      clear hW1
      refine (unhide H1 _).mono ?_
      rintro e w2 ⟨rfl, hb2⟩
      have k2 := g1.trans (hb2.mono g1.size)
      replace c0 := cell_beh c0 hb2 (Nat.le_refl _)
      replace c1 := cell_beh c1 hb2 (Nat.le_refl _)
      replace c2 := cell_beh c2 hb2 (Nat.le_refl _)
      replace c3 := cell_beh c3 hb2 (Nat.le_refl _)
      replace c4 := cell_beh c4 hb2 (Nat.le_refl _)
      replace c5 := cell_beh c5 hb2 (Nat.le_refl _)
      replace c6 := cell_beh c6 hb2 (Nat.le_refl _)
      replace c7 := cell_beh c7 hb2 (Nat.le_refl _)
      replace a0 := cell_beh a0 hb2 (Nat.le_refl _)
      replace a1 := cell_beh a1 hb2 (Nat.le_refl _)
      replace a2 := cell_beh a2 hb2 (Nat.le_refl _)
      replace a3 := cell_beh a3 hb2 (Nat.le_refl _)
      replace a4 := cell_beh a4 hb2 (Nat.le_refl _)
      replace a5 := cell_beh a5 hb2 (Nat.le_refl _)
      replace a6 := cell_beh a6 hb2 (Nat.le_refl _)
      replace a7 := cell_beh a7 hb2 (Nat.le_refl _)
      replace a8 := cell_beh a8 hb2 (Nat.le_refl _)
      replace a9 := cell_beh a9 hb2 (Nat.le_refl _)
      replace a10 := cell_beh a10 hb2 (Nat.le_refl _)
      clear hb2 g1 H1
      have l2 := cell_in c0
      have n2 : ¬ w.heap.size = w2.heap.size := by omega
      have l3 := cell_in a0
      have n3 : ¬ w1.heap.size = w2.heap.size := by omega
      go_wp2_with fail
      obtain ⟨W2, hW2⟩ : ∃ W2, W2 = w2.alloc (.cells #[.int .i64 i, .int .i64 dst, .int .i64 src, .int .i64 kind, .int .i64 ips, .int .i64 ipd, .int .i64 ttl, .int .i64 port, .int .i64 net, .int .i64 t, .string body] 55) := ⟨_, rfl⟩
      have g2 : Below w.heap.size w W2 := by rw [hW2]; exact k2.alloc (by omega) _
      have b0 : W2.cell? ⟨w2.heap.size, 0, none⟩ = some (.int .i64 i) := by rw [hW2]; exact new_cell w2 _ rfl _ _ _ _ rfl
      have b1 : W2.cell? ⟨w2.heap.size, 1, none⟩ = some (.int .i64 dst) := by rw [hW2]; exact new_cell w2 _ rfl _ _ _ _ rfl
      have b2 : W2.cell? ⟨w2.heap.size, 2, none⟩ = some (.int .i64 src) := by rw [hW2]; exact new_cell w2 _ rfl _ _ _ _ rfl
      have b3 : W2.cell? ⟨w2.heap.size, 3, none⟩ = some (.int .i64 kind) := by rw [hW2]; exact new_cell w2 _ rfl _ _ _ _ rfl
      have b4 : W2.cell? ⟨w2.heap.size, 4, none⟩ = some (.int .i64 ips) := by rw [hW2]; exact new_cell w2 _ rfl _ _ _ _ rfl
      have b5 : W2.cell? ⟨w2.heap.size, 5, none⟩ = some (.int .i64 ipd) := by rw [hW2]; exact new_cell w2 _ rfl _ _ _ _ rfl
      have b6 : W2.cell? ⟨w2.heap.size, 6, none⟩ = some (.int .i64 ttl) := by rw [hW2]; exact new_cell w2 _ rfl _ _ _ _ rfl
      have b7 : W2.cell? ⟨w2.heap.size, 7, none⟩ = some (.int .i64 port) := by rw [hW2]; exact new_cell w2 _ rfl _ _ _ _ rfl
      have b8 : W2.cell? ⟨w2.heap.size, 8, none⟩ = some (.int .i64 net) := by rw [hW2]; exact new_cell w2 _ rfl _ _ _ _ rfl
      have b9 : W2.cell? ⟨w2.heap.size, 9, none⟩ = some (.int .i64 t) := by rw [hW2]; exact new_cell w2 _ rfl _ _ _ _ rfl
      have b10 : W2.cell? ⟨w2.heap.size, 10, none⟩ = some (.string body) := by rw [hW2]; exact new_cell w2 _ rfl _ _ _ _ rfl
      replace a0 : W2.cell? ⟨w1.heap.size, 0, none⟩ = some (.int .i64 0) := by rw [hW2]; exact old_cell a0 _
      replace a1 : W2.cell? ⟨w1.heap.size, 1, none⟩ = some (.int .i64 0) := by rw [hW2]; exact old_cell a1 _
      replace a2 : W2.cell? ⟨w1.heap.size, 2, none⟩ = some (.int .i64 0) := by rw [hW2]; exact old_cell a2 _
      replace a3 : W2.cell? ⟨w1.heap.size, 3, none⟩ = some (.int .i64 0) := by rw [hW2]; exact old_cell a3 _
      replace a4 : W2.cell? ⟨w1.heap.size, 4, none⟩ = some (.int .i64 0) := by rw [hW2]; exact old_cell a4 _
      replace a5 : W2.cell? ⟨w1.heap.size, 5, none⟩ = some (.int .i64 0) := by rw [hW2]; exact old_cell a5 _
      replace a6 : W2.cell? ⟨w1.heap.size, 6, none⟩ = some (.int .i64 0) := by rw [hW2]; exact old_cell a6 _
      replace a7 : W2.cell? ⟨w1.heap.size, 7, none⟩ = some (.int .i64 0) := by rw [hW2]; exact old_cell a7 _
      replace a8 : W2.cell? ⟨w1.heap.size, 8, none⟩ = some (.int .i64 0) := by rw [hW2]; exact old_cell a8 _
      replace a9 : W2.cell? ⟨w1.heap.size, 9, none⟩ = some (.int .i64 0) := by rw [hW2]; exact old_cell a9 _
      replace a10 : W2.cell? ⟨w1.heap.size, 10, none⟩ = some (.string ⟨#[]⟩) := by rw [hW2]; exact old_cell a10 _
      rw [← hW2]
      clear hW2 c0 c1 c2 c3 c4 c5 c6 c7
      refine (unhide H2 _).mono ?_
      rintro e w3 ⟨rfl, hb3⟩
      have k3 := g2.trans (hb3.mono g2.size)
      replace a0 := cell_beh a0 hb3 (Nat.le_refl _)
      replace a1 := cell_beh a1 hb3 (Nat.le_refl _)
      replace a2 := cell_beh a2 hb3 (Nat.le_refl _)
      replace a3 := cell_beh a3 hb3 (Nat.le_refl _)
      replace a4 := cell_beh a4 hb3 (Nat.le_refl _)
      replace a5 := cell_beh a5 hb3 (Nat.le_refl _)
      replace a6 := cell_beh a6 hb3 (Nat.le_refl _)
      replace a7 := cell_beh a7 hb3 (Nat.le_refl _)
      replace a8 := cell_beh a8 hb3 (Nat.le_refl _)
      replace a9 := cell_beh a9 hb3 (Nat.le_refl _)
      replace a10 := cell_beh a10 hb3 (Nat.le_refl _)
      replace b0 := cell_beh b0 hb3 (Nat.le_refl _)
      replace b1 := cell_beh b1 hb3 (Nat.le_refl _)
      replace b2 := cell_beh b2 hb3 (Nat.le_refl _)
      replace b3 := cell_beh b3 hb3 (Nat.le_refl _)
      replace b4 := cell_beh b4 hb3 (Nat.le_refl _)
      replace b5 := cell_beh b5 hb3 (Nat.le_refl _)
      replace b6 := cell_beh b6 hb3 (Nat.le_refl _)
      replace b7 := cell_beh b7 hb3 (Nat.le_refl _)
      replace b8 := cell_beh b8 hb3 (Nat.le_refl _)
      replace b9 := cell_beh b9 hb3 (Nat.le_refl _)
      replace b10 := cell_beh b10 hb3 (Nat.le_refl _)
      clear hb3 g2 H2
      go_wp2_with fail
      refine (unhide H3 _).mono ?_
      rintro e w4 ⟨rfl, hb4⟩
      have k4 := k3.trans (hb4.mono k3.size)
      replace a0 := cell_beh a0 hb4 (Nat.le_refl _)
      replace a1 := cell_beh a1 hb4 (Nat.le_refl _)
      replace a2 := cell_beh a2 hb4 (Nat.le_refl _)
      replace a3 := cell_beh a3 hb4 (Nat.le_refl _)
      replace a4 := cell_beh a4 hb4 (Nat.le_refl _)
      replace a5 := cell_beh a5 hb4 (Nat.le_refl _)
      replace a6 := cell_beh a6 hb4 (Nat.le_refl _)
      replace a7 := cell_beh a7 hb4 (Nat.le_refl _)
      replace a8 := cell_beh a8 hb4 (Nat.le_refl _)
      replace a9 := cell_beh a9 hb4 (Nat.le_refl _)
      replace a10 := cell_beh a10 hb4 (Nat.le_refl _)
      replace b0 := cell_beh b0 hb4 (Nat.le_refl _)
      replace b1 := cell_beh b1 hb4 (Nat.le_refl _)
      replace b2 := cell_beh b2 hb4 (Nat.le_refl _)
      replace b3 := cell_beh b3 hb4 (Nat.le_refl _)
      replace b4 := cell_beh b4 hb4 (Nat.le_refl _)
      replace b5 := cell_beh b5 hb4 (Nat.le_refl _)
      replace b6 := cell_beh b6 hb4 (Nat.le_refl _)
      replace b7 := cell_beh b7 hb4 (Nat.le_refl _)
      replace b8 := cell_beh b8 hb4 (Nat.le_refl _)
      replace b9 := cell_beh b9 hb4 (Nat.le_refl _)
      replace b10 := cell_beh b10 hb4 (Nat.le_refl _)
      clear hb4 H3
      go_wp2_with fail
      go_ret
      exact ⟨bool_ret (by first | rfl | simp), k4⟩
    · have hK0 : E = 0 := by omega
      subst hK0
      rw [if_pos rfl] at H0
      clear hK
      go_enter Try.func7, Try.ntmps7
      go_wp2_with fail
      obtain ⟨W0, hW0⟩ : ∃ W0, W0 = w.alloc (.cells #[.int .i64 dst, .int .i64 src, .int .i64 kind, .int .i64 ips, .int .i64 ipd, .int .i64 ttl, .int .i64 port, .string body] 37) := ⟨_, rfl⟩
      have k0 : Below w.heap.size w W0 := by rw [hW0]; exact (Below.refl _ w).alloc (Nat.le_refl _) _
      have c0 : W0.cell? ⟨w.heap.size, 0, none⟩ = some (.int .i64 dst) := by rw [hW0]; exact new_cell w _ rfl _ _ _ _ rfl
      have c1 : W0.cell? ⟨w.heap.size, 1, none⟩ = some (.int .i64 src) := by rw [hW0]; exact new_cell w _ rfl _ _ _ _ rfl
      have c2 : W0.cell? ⟨w.heap.size, 2, none⟩ = some (.int .i64 kind) := by rw [hW0]; exact new_cell w _ rfl _ _ _ _ rfl
      have c3 : W0.cell? ⟨w.heap.size, 3, none⟩ = some (.int .i64 ips) := by rw [hW0]; exact new_cell w _ rfl _ _ _ _ rfl
      have c4 : W0.cell? ⟨w.heap.size, 4, none⟩ = some (.int .i64 ipd) := by rw [hW0]; exact new_cell w _ rfl _ _ _ _ rfl
      have c5 : W0.cell? ⟨w.heap.size, 5, none⟩ = some (.int .i64 ttl) := by rw [hW0]; exact new_cell w _ rfl _ _ _ _ rfl
      have c6 : W0.cell? ⟨w.heap.size, 6, none⟩ = some (.int .i64 port) := by rw [hW0]; exact new_cell w _ rfl _ _ _ _ rfl
      have c7 : W0.cell? ⟨w.heap.size, 7, none⟩ = some (.string body) := by rw [hW0]; exact new_cell w _ rfl _ _ _ _ rfl
      rw [← hW0]
      clear hW0
      refine (unhide H0 _).mono ?_
      rintro e w1 ⟨rfl, hb1⟩
      have k1 := k0.trans (hb1.mono k0.size)
      replace c0 := cell_beh c0 hb1 (Nat.le_refl _)
      replace c1 := cell_beh c1 hb1 (Nat.le_refl _)
      replace c2 := cell_beh c2 hb1 (Nat.le_refl _)
      replace c3 := cell_beh c3 hb1 (Nat.le_refl _)
      replace c4 := cell_beh c4 hb1 (Nat.le_refl _)
      replace c5 := cell_beh c5 hb1 (Nat.le_refl _)
      replace c6 := cell_beh c6 hb1 (Nat.le_refl _)
      replace c7 := cell_beh c7 hb1 (Nat.le_refl _)
      clear hb1 k0 H0
      have l1 := cell_in c0
      have n1 : ¬ w.heap.size = w1.heap.size := by omega
      go_wp2_with fail
      obtain ⟨W1, hW1⟩ : ∃ W1, W1 = w1.alloc (.cells #[.int .i64 i, .int .i64 dst, .int .i64 src, .int .i64 kind, .int .i64 ips, .int .i64 ipd, .int .i64 ttl, .int .i64 port, .int .i64 net, .int .i64 t, .string body] 55) := ⟨_, rfl⟩
      have g1 : Below w.heap.size w W1 := by rw [hW1]; exact k1.alloc (by omega) _
      have a0 : W1.cell? ⟨w1.heap.size, 0, none⟩ = some (.int .i64 i) := by rw [hW1]; exact new_cell w1 _ rfl _ _ _ _ rfl
      have a1 : W1.cell? ⟨w1.heap.size, 1, none⟩ = some (.int .i64 dst) := by rw [hW1]; exact new_cell w1 _ rfl _ _ _ _ rfl
      have a2 : W1.cell? ⟨w1.heap.size, 2, none⟩ = some (.int .i64 src) := by rw [hW1]; exact new_cell w1 _ rfl _ _ _ _ rfl
      have a3 : W1.cell? ⟨w1.heap.size, 3, none⟩ = some (.int .i64 kind) := by rw [hW1]; exact new_cell w1 _ rfl _ _ _ _ rfl
      have a4 : W1.cell? ⟨w1.heap.size, 4, none⟩ = some (.int .i64 ips) := by rw [hW1]; exact new_cell w1 _ rfl _ _ _ _ rfl
      have a5 : W1.cell? ⟨w1.heap.size, 5, none⟩ = some (.int .i64 ipd) := by rw [hW1]; exact new_cell w1 _ rfl _ _ _ _ rfl
      have a6 : W1.cell? ⟨w1.heap.size, 6, none⟩ = some (.int .i64 ttl) := by rw [hW1]; exact new_cell w1 _ rfl _ _ _ _ rfl
      have a7 : W1.cell? ⟨w1.heap.size, 7, none⟩ = some (.int .i64 port) := by rw [hW1]; exact new_cell w1 _ rfl _ _ _ _ rfl
      have a8 : W1.cell? ⟨w1.heap.size, 8, none⟩ = some (.int .i64 net) := by rw [hW1]; exact new_cell w1 _ rfl _ _ _ _ rfl
      have a9 : W1.cell? ⟨w1.heap.size, 9, none⟩ = some (.int .i64 t) := by rw [hW1]; exact new_cell w1 _ rfl _ _ _ _ rfl
      have a10 : W1.cell? ⟨w1.heap.size, 10, none⟩ = some (.string body) := by rw [hW1]; exact new_cell w1 _ rfl _ _ _ _ rfl
      replace c0 : W1.cell? ⟨w.heap.size, 0, none⟩ = some (.int .i64 dst) := by rw [hW1]; exact old_cell c0 _
      replace c1 : W1.cell? ⟨w.heap.size, 1, none⟩ = some (.int .i64 src) := by rw [hW1]; exact old_cell c1 _
      replace c2 : W1.cell? ⟨w.heap.size, 2, none⟩ = some (.int .i64 kind) := by rw [hW1]; exact old_cell c2 _
      replace c3 : W1.cell? ⟨w.heap.size, 3, none⟩ = some (.int .i64 ips) := by rw [hW1]; exact old_cell c3 _
      replace c4 : W1.cell? ⟨w.heap.size, 4, none⟩ = some (.int .i64 ipd) := by rw [hW1]; exact old_cell c4 _
      replace c5 : W1.cell? ⟨w.heap.size, 5, none⟩ = some (.int .i64 ttl) := by rw [hW1]; exact old_cell c5 _
      replace c6 : W1.cell? ⟨w.heap.size, 6, none⟩ = some (.int .i64 port) := by rw [hW1]; exact old_cell c6 _
      replace c7 : W1.cell? ⟨w.heap.size, 7, none⟩ = some (.string body) := by rw [hW1]; exact old_cell c7 _
      rw [← hW1]
      clear hW1
      refine (unhide H1 _).mono ?_
      rintro e w2 ⟨rfl, hb2⟩
      have k2 := g1.trans (hb2.mono g1.size)
      replace c0 := cell_beh c0 hb2 (Nat.le_refl _)
      replace c1 := cell_beh c1 hb2 (Nat.le_refl _)
      replace c2 := cell_beh c2 hb2 (Nat.le_refl _)
      replace c3 := cell_beh c3 hb2 (Nat.le_refl _)
      replace c4 := cell_beh c4 hb2 (Nat.le_refl _)
      replace c5 := cell_beh c5 hb2 (Nat.le_refl _)
      replace c6 := cell_beh c6 hb2 (Nat.le_refl _)
      replace c7 := cell_beh c7 hb2 (Nat.le_refl _)
      replace a0 := cell_beh a0 hb2 (Nat.le_refl _)
      replace a1 := cell_beh a1 hb2 (Nat.le_refl _)
      replace a2 := cell_beh a2 hb2 (Nat.le_refl _)
      replace a3 := cell_beh a3 hb2 (Nat.le_refl _)
      replace a4 := cell_beh a4 hb2 (Nat.le_refl _)
      replace a5 := cell_beh a5 hb2 (Nat.le_refl _)
      replace a6 := cell_beh a6 hb2 (Nat.le_refl _)
      replace a7 := cell_beh a7 hb2 (Nat.le_refl _)
      replace a8 := cell_beh a8 hb2 (Nat.le_refl _)
      replace a9 := cell_beh a9 hb2 (Nat.le_refl _)
      replace a10 := cell_beh a10 hb2 (Nat.le_refl _)
      clear hb2 g1 H1
      have l2 := cell_in c0
      have n2 : ¬ w.heap.size = w2.heap.size := by omega
      have l3 := cell_in a0
      have n3 : ¬ w1.heap.size = w2.heap.size := by omega
      go_wp2_with fail
      obtain ⟨W2, hW2⟩ : ∃ W2, W2 = w2.alloc (.cells #[.int .i64 i, .int .i64 dst, .int .i64 src, .int .i64 kind, .int .i64 ips, .int .i64 ipd, .int .i64 ttl, .int .i64 port, .int .i64 net, .int .i64 t, .string body] 55) := ⟨_, rfl⟩
      have g2 : Below w.heap.size w W2 := by rw [hW2]; exact k2.alloc (by omega) _
      have b0 : W2.cell? ⟨w2.heap.size, 0, none⟩ = some (.int .i64 i) := by rw [hW2]; exact new_cell w2 _ rfl _ _ _ _ rfl
      have b1 : W2.cell? ⟨w2.heap.size, 1, none⟩ = some (.int .i64 dst) := by rw [hW2]; exact new_cell w2 _ rfl _ _ _ _ rfl
      have b2 : W2.cell? ⟨w2.heap.size, 2, none⟩ = some (.int .i64 src) := by rw [hW2]; exact new_cell w2 _ rfl _ _ _ _ rfl
      have b3 : W2.cell? ⟨w2.heap.size, 3, none⟩ = some (.int .i64 kind) := by rw [hW2]; exact new_cell w2 _ rfl _ _ _ _ rfl
      have b4 : W2.cell? ⟨w2.heap.size, 4, none⟩ = some (.int .i64 ips) := by rw [hW2]; exact new_cell w2 _ rfl _ _ _ _ rfl
      have b5 : W2.cell? ⟨w2.heap.size, 5, none⟩ = some (.int .i64 ipd) := by rw [hW2]; exact new_cell w2 _ rfl _ _ _ _ rfl
      have b6 : W2.cell? ⟨w2.heap.size, 6, none⟩ = some (.int .i64 ttl) := by rw [hW2]; exact new_cell w2 _ rfl _ _ _ _ rfl
      have b7 : W2.cell? ⟨w2.heap.size, 7, none⟩ = some (.int .i64 port) := by rw [hW2]; exact new_cell w2 _ rfl _ _ _ _ rfl
      have b8 : W2.cell? ⟨w2.heap.size, 8, none⟩ = some (.int .i64 net) := by rw [hW2]; exact new_cell w2 _ rfl _ _ _ _ rfl
      have b9 : W2.cell? ⟨w2.heap.size, 9, none⟩ = some (.int .i64 t) := by rw [hW2]; exact new_cell w2 _ rfl _ _ _ _ rfl
      have b10 : W2.cell? ⟨w2.heap.size, 10, none⟩ = some (.string body) := by rw [hW2]; exact new_cell w2 _ rfl _ _ _ _ rfl
      replace a0 : W2.cell? ⟨w1.heap.size, 0, none⟩ = some (.int .i64 i) := by rw [hW2]; exact old_cell a0 _
      replace a1 : W2.cell? ⟨w1.heap.size, 1, none⟩ = some (.int .i64 dst) := by rw [hW2]; exact old_cell a1 _
      replace a2 : W2.cell? ⟨w1.heap.size, 2, none⟩ = some (.int .i64 src) := by rw [hW2]; exact old_cell a2 _
      replace a3 : W2.cell? ⟨w1.heap.size, 3, none⟩ = some (.int .i64 kind) := by rw [hW2]; exact old_cell a3 _
      replace a4 : W2.cell? ⟨w1.heap.size, 4, none⟩ = some (.int .i64 ips) := by rw [hW2]; exact old_cell a4 _
      replace a5 : W2.cell? ⟨w1.heap.size, 5, none⟩ = some (.int .i64 ipd) := by rw [hW2]; exact old_cell a5 _
      replace a6 : W2.cell? ⟨w1.heap.size, 6, none⟩ = some (.int .i64 ttl) := by rw [hW2]; exact old_cell a6 _
      replace a7 : W2.cell? ⟨w1.heap.size, 7, none⟩ = some (.int .i64 port) := by rw [hW2]; exact old_cell a7 _
      replace a8 : W2.cell? ⟨w1.heap.size, 8, none⟩ = some (.int .i64 net) := by rw [hW2]; exact old_cell a8 _
      replace a9 : W2.cell? ⟨w1.heap.size, 9, none⟩ = some (.int .i64 t) := by rw [hW2]; exact old_cell a9 _
      replace a10 : W2.cell? ⟨w1.heap.size, 10, none⟩ = some (.string body) := by rw [hW2]; exact old_cell a10 _
      rw [← hW2]
      clear hW2 c0 c1 c2 c3 c4 c5 c6 c7
      refine (unhide H2 _).mono ?_
      rintro e w3 ⟨rfl, hb3⟩
      have k3 := g2.trans (hb3.mono g2.size)
      replace a0 := cell_beh a0 hb3 (Nat.le_refl _)
      replace a1 := cell_beh a1 hb3 (Nat.le_refl _)
      replace a2 := cell_beh a2 hb3 (Nat.le_refl _)
      replace a3 := cell_beh a3 hb3 (Nat.le_refl _)
      replace a4 := cell_beh a4 hb3 (Nat.le_refl _)
      replace a5 := cell_beh a5 hb3 (Nat.le_refl _)
      replace a6 := cell_beh a6 hb3 (Nat.le_refl _)
      replace a7 := cell_beh a7 hb3 (Nat.le_refl _)
      replace a8 := cell_beh a8 hb3 (Nat.le_refl _)
      replace a9 := cell_beh a9 hb3 (Nat.le_refl _)
      replace a10 := cell_beh a10 hb3 (Nat.le_refl _)
      replace b0 := cell_beh b0 hb3 (Nat.le_refl _)
      replace b1 := cell_beh b1 hb3 (Nat.le_refl _)
      replace b2 := cell_beh b2 hb3 (Nat.le_refl _)
      replace b3 := cell_beh b3 hb3 (Nat.le_refl _)
      replace b4 := cell_beh b4 hb3 (Nat.le_refl _)
      replace b5 := cell_beh b5 hb3 (Nat.le_refl _)
      replace b6 := cell_beh b6 hb3 (Nat.le_refl _)
      replace b7 := cell_beh b7 hb3 (Nat.le_refl _)
      replace b8 := cell_beh b8 hb3 (Nat.le_refl _)
      replace b9 := cell_beh b9 hb3 (Nat.le_refl _)
      replace b10 := cell_beh b10 hb3 (Nat.le_refl _)
      clear hb3 g2 H2
      go_wp2_with fail
      refine (unhide H3 _).mono ?_
      rintro e w4 ⟨rfl, hb4⟩
      have k4 := k3.trans (hb4.mono k3.size)
      replace a0 := cell_beh a0 hb4 (Nat.le_refl _)
      replace a1 := cell_beh a1 hb4 (Nat.le_refl _)
      replace a2 := cell_beh a2 hb4 (Nat.le_refl _)
      replace a3 := cell_beh a3 hb4 (Nat.le_refl _)
      replace a4 := cell_beh a4 hb4 (Nat.le_refl _)
      replace a5 := cell_beh a5 hb4 (Nat.le_refl _)
      replace a6 := cell_beh a6 hb4 (Nat.le_refl _)
      replace a7 := cell_beh a7 hb4 (Nat.le_refl _)
      replace a8 := cell_beh a8 hb4 (Nat.le_refl _)
      replace a9 := cell_beh a9 hb4 (Nat.le_refl _)
      replace a10 := cell_beh a10 hb4 (Nat.le_refl _)
      replace b0 := cell_beh b0 hb4 (Nat.le_refl _)
      replace b1 := cell_beh b1 hb4 (Nat.le_refl _)
      replace b2 := cell_beh b2 hb4 (Nat.le_refl _)
      replace b3 := cell_beh b3 hb4 (Nat.le_refl _)
      replace b4 := cell_beh b4 hb4 (Nat.le_refl _)
      replace b5 := cell_beh b5 hb4 (Nat.le_refl _)
      replace b6 := cell_beh b6 hb4 (Nat.le_refl _)
      replace b7 := cell_beh b7 hb4 (Nat.le_refl _)
      replace b8 := cell_beh b8 hb4 (Nat.le_refl _)
      replace b9 := cell_beh b9 hb4 (Nat.le_refl _)
      replace b10 := cell_beh b10 hb4 (Nat.le_refl _)
      clear hb4 H3
      go_wp2_with fail
      go_ret
      exact ⟨bool_ret (by first | rfl | simp), k4⟩

set_option maxRecDepth 100000 in
theorem pipePackets_lifted (os : Os) (started : os.Started) (H : Type) (enc : TypeId × Value → H) :
    ReturnsInHanded {} Try.checked os 7 .any (Rows.pipePacketsSpec.pre6 enc Try.prog Try.f7 Rows.pipePacketsRow.domain false) (Rows.pipePacketsSpec.post enc Try.prog Try.f7 false true false false) := by
  refine returnsInHanded_of_change (C := Try.checked) own started (by kernel_rfl) Try.func7
    (ChangeSpec.witness6 (enc := enc) (C := Try.checked) false ⟨#[], #[fr 0 0 0 0 0 0 0 ⟨#[]⟩, .int .i64 0, .int .i64 0, .int .i64 0], []⟩ 8 (by kernel_rfl) (by kernel_rfl) (by kernel_rfl) (by kernel_rfl)) ?_
  intro W base args ds gs before hval0 hW hcnd _
  have hval : ∀ (j : Nat) t v, Try.f7.params[j]? = some t → args[j]? = some v → Value.okWide Try.prog W .any base t v := hval0
  have hW' := hW
  obtain ⟨p, q, hA0, hV, rfl, hfz, hnd⟩ := hW
  have hA : DataW.TrodAll enc Try.prog W 0 (fun _ => true) true Try.f7.params.toList args.toList ds p := hA0
  rw [Try.params7] at hA hval
  obtain ⟨v0, vs0, d0, ds0, p0, q0, hargs, rfl, rfl, h0, r0⟩ := trodAll_cons hA
  obtain ⟨v1, vs1, d1, ds1, p1, q1, rfl, rfl, rfl, h1, r1⟩ := trodAll_cons r0
  obtain ⟨v2, vs2, d2, ds2, p2, q2, rfl, rfl, rfl, h2, r2⟩ := trodAll_cons r1
  obtain ⟨v3, vs3, d3, ds3, p3, q3, rfl, rfl, rfl, h3, r3⟩ := trodAll_cons r2
  obtain ⟨rfl, rfl, rfl⟩ := trodAll_nil r3
  obtain rfl : args = #[v0, v1, v2, v3] := by cases args; simp_all
  obtain ⟨rfl, rfl⟩ := trodVars_none hV
  have k0 := h0
  have lt0 : ∀ x ∈ p0, x.block < W.heap.size := by obtain ⟨m, hm⟩ := k0; exact DataW.trod_lt m _ _ _ hm
  obtain ⟨dst0, src0, kind0, ips0, ipd0, ttl0, port0, body0, rfl, hb0, _⟩ := open_frame (hval 0 37 v0 rfl rfl) h0
  obtain ⟨x1, rfl, rfl, rfl, wx1⟩ := open_int Try.underlying3 (hval 1 3 v1 rfl rfl) h1
  obtain ⟨x2, rfl, rfl, rfl, wx2⟩ := open_int Try.underlying3 (hval 2 3 v2 rfl rfl) h2
  obtain ⟨x3, rfl, rfl, rfl, wx3⟩ := open_int Try.underlying3 (hval 3 3 v3 rfl rfl) h3
  clear hA0 hval0
  refine (pipePackets_any dst0 src0 kind0 ips0 ipd0 ttl0 port0 body0 x1 x2 x3 W hb0).mono fun e W' ⟨he, bel⟩ => ?_
  subst he
  exact ⟨_, rfl, _, _, _, [], _, [], hW', trodAll_mk1 (shut_bool Try.underlying4 _), (trodAll_cons_mk (Below.trod laidOut (by kernel_rfl) (of_decide_eq_true (by kernel_rfl)) k0 bel lt0) (trodAll_cons_mk (shut_int Try.underlying3 wx1) (trodAll_cons_mk (shut_int Try.underlying3 wx2) (trodAll_cons_mk (shut_int Try.underlying3 wx3) trodAll_mk0)))), rfl, bel.frame _, fun h => by cases h⟩

theorem pipePackets_holds : Rows.PipePacketsSaid :=
  OpenClaim.holds_of_wide 7 Try.f7 rfl rfl rfl rfl rfl rfl rfl ⟨rfl, rfl, rfl, rfl, rfl⟩ rfl rfl rfl rfl rfl (by kernel_rfl) Try.func7 (by kernel_rfl)
    (of_decide_eq_true (by kernel_rfl)) (by unfold Func.isWrapper; first | (rw [if_pos (by decide +kernel)]; kernel_rfl) | (rw [if_neg (by decide +kernel)]; exact ⟨rfl, rfl⟩))
    (fun os started H enc _ => pipePackets_lifted os started H enc)

end Go.Proofs.Ytonhfgdnkkkikad
