/- The law PipeFrames returns true at every packet, and it reads behind the call as it read before; no condition. -/
import Derived.Test.YtonhfgdnkkkikaePf
import Derived.Test.YtonhfgdnkkkikaeEf
import Derived.Test.YtonhfgdnkkkikaeRa
import Derived.Test.YtonhfgdnkkkikaeOpk
namespace Go.Proofs.Ytonhfgdnkkkikae
set_option linter.unusedVariables false
set_option maxRecDepth 100000
open Go.ChangeShapes Go.WideShapes Go.ChangeAt Go.RowKit

set_option maxHeartbeats 4000000 in
/-- PipeFrames: true, at every packet. -/
theorem pipeFrames_any (g0 g1 g2 g3 g4 g5 g6 g7 g8 g9 : Int) (body : ByteArray) (w : World) (hb : body.size ≤ maxLen) :
    Calls Try.prog 3 #[pkt g0 g1 g2 g3 g4 g5 g6 g7 g8 g9 body] w fun e w' => e = .returned (.bool true) ∧ Below w.heap.size w w' := by
  have H0 := hide (fun W => pFrame_any g0 g1 g2 g3 g4 g5 g6 g7 g8 g9 body W hb)
  have H1 := hide (fun W => framed_any g0 g1 g2 g3 g4 g5 g6 g7 g8 g9 body W)
  have H2 := hide (fun W => frameFault_any g1 g2 g3 g4 g5 g6 g7 body W hb)
  generalize fault g1 g2 g3 g4 g5 g6 g7 body.size = E at *
  have q1 := eqFrame 0 0 0 0 0 0 0 ⟨#[]⟩
  have q2 := eqFrame g1 g2 g3 g4 g5 g6 g7 body
  have q3 := guardFrame
  by_cases hE : ¬ E = 0
  · rw [if_neg hE] at H0
    go_enter Try.func3, Try.ntmps3
    go_wp2_with fail
    obtain ⟨W0, hW0⟩ : ∃ W0, W0 = w.alloc (.cells #[.int .i64 g0, .int .i64 g1, .int .i64 g2, .int .i64 g3, .int .i64 g4, .int .i64 g5, .int .i64 g6, .int .i64 g7, .int .i64 g8, .int .i64 g9, .string body] 24) := ⟨_, rfl⟩
    have k0 : Below w.heap.size w W0 := by rw [hW0]; exact (Below.refl _ w).alloc (Nat.le_refl _) _
    have c0 : W0.cell? ⟨w.heap.size, 0, none⟩ = some (.int .i64 g0) := by rw [hW0]; exact new_cell w _ rfl _ _ _ _ rfl
    have c1 : W0.cell? ⟨w.heap.size, 1, none⟩ = some (.int .i64 g1) := by rw [hW0]; exact new_cell w _ rfl _ _ _ _ rfl
    have c2 : W0.cell? ⟨w.heap.size, 2, none⟩ = some (.int .i64 g2) := by rw [hW0]; exact new_cell w _ rfl _ _ _ _ rfl
    have c3 : W0.cell? ⟨w.heap.size, 3, none⟩ = some (.int .i64 g3) := by rw [hW0]; exact new_cell w _ rfl _ _ _ _ rfl
    have c4 : W0.cell? ⟨w.heap.size, 4, none⟩ = some (.int .i64 g4) := by rw [hW0]; exact new_cell w _ rfl _ _ _ _ rfl
    have c5 : W0.cell? ⟨w.heap.size, 5, none⟩ = some (.int .i64 g5) := by rw [hW0]; exact new_cell w _ rfl _ _ _ _ rfl
    have c6 : W0.cell? ⟨w.heap.size, 6, none⟩ = some (.int .i64 g6) := by rw [hW0]; exact new_cell w _ rfl _ _ _ _ rfl
    have c7 : W0.cell? ⟨w.heap.size, 7, none⟩ = some (.int .i64 g7) := by rw [hW0]; exact new_cell w _ rfl _ _ _ _ rfl
    have c8 : W0.cell? ⟨w.heap.size, 8, none⟩ = some (.int .i64 g8) := by rw [hW0]; exact new_cell w _ rfl _ _ _ _ rfl
    have c9 : W0.cell? ⟨w.heap.size, 9, none⟩ = some (.int .i64 g9) := by rw [hW0]; exact new_cell w _ rfl _ _ _ _ rfl
    have c10 : W0.cell? ⟨w.heap.size, 10, none⟩ = some (.string body) := by rw [hW0]; exact new_cell w _ rfl _ _ _ _ rfl
    rw [← hW0]
    clear hW0
    refine (unhide H0 _).mono ?_
    rintro e w1 ⟨rfl, hb1⟩
    have k1 := k0.trans (hb1.mono k0.size)
    replace c0 := cell_beh c0 hb1 (Nat.le_refl _)
    replace c1 := cell_beh c1 hb1 (Nat.le_refl _)
    replace c2 := cell_beh c2 hb1 (Nat.le_refl _)
    replace c3 := cell_beh c3 hb1 (Nat.le_refl _)
    replace c4 := cell_beh c4 hb1 (Nat.le_refl _)
    replace c5 := cell_beh c5 hb1 (Nat.le_refl _)
    replace c6 := cell_beh c6 hb1 (Nat.le_refl _)
    replace c7 := cell_beh c7 hb1 (Nat.le_refl _)
    replace c8 := cell_beh c8 hb1 (Nat.le_refl _)
    replace c9 := cell_beh c9 hb1 (Nat.le_refl _)
    replace c10 := cell_beh c10 hb1 (Nat.le_refl _)
    clear hb1 k0 H0
    have l1 := cell_in c0
    have n1 : ¬ w.heap.size = w1.heap.size := by omega
    go_wp2_with fail
    obtain ⟨W1, hW1⟩ : ∃ W1, W1 = w1.alloc (.cells #[.int .i64 0, .int .i64 0, .int .i64 0, .int .i64 0, .int .i64 0, .int .i64 0, .int .i64 0, .string ⟨#[]⟩] 26) := ⟨_, rfl⟩
    have gb1 : Below w.heap.size w W1 := by rw [hW1]; exact k1.alloc (by omega) _
    have a0 : W1.cell? ⟨w1.heap.size, 0, none⟩ = some (.int .i64 0) := by rw [hW1]; exact new_cell w1 _ rfl _ _ _ _ rfl
    have a1 : W1.cell? ⟨w1.heap.size, 1, none⟩ = some (.int .i64 0) := by rw [hW1]; exact new_cell w1 _ rfl _ _ _ _ rfl
    have a2 : W1.cell? ⟨w1.heap.size, 2, none⟩ = some (.int .i64 0) := by rw [hW1]; exact new_cell w1 _ rfl _ _ _ _ rfl
    have a3 : W1.cell? ⟨w1.heap.size, 3, none⟩ = some (.int .i64 0) := by rw [hW1]; exact new_cell w1 _ rfl _ _ _ _ rfl
    have a4 : W1.cell? ⟨w1.heap.size, 4, none⟩ = some (.int .i64 0) := by rw [hW1]; exact new_cell w1 _ rfl _ _ _ _ rfl
    have a5 : W1.cell? ⟨w1.heap.size, 5, none⟩ = some (.int .i64 0) := by rw [hW1]; exact new_cell w1 _ rfl _ _ _ _ rfl
    have a6 : W1.cell? ⟨w1.heap.size, 6, none⟩ = some (.int .i64 0) := by rw [hW1]; exact new_cell w1 _ rfl _ _ _ _ rfl
    have a7 : W1.cell? ⟨w1.heap.size, 7, none⟩ = some (.string ⟨#[]⟩) := by rw [hW1]; exact new_cell w1 _ rfl _ _ _ _ rfl
    rw [← hW1]
    clear hW1
    refine (unhide H1 _).mono ?_
    rintro e w2 ⟨rfl, hb2⟩
    have k2 := gb1.trans (hb2.mono gb1.size)
    replace a0 := cell_beh a0 hb2 (Nat.le_refl _)
    replace a1 := cell_beh a1 hb2 (Nat.le_refl _)
    replace a2 := cell_beh a2 hb2 (Nat.le_refl _)
    replace a3 := cell_beh a3 hb2 (Nat.le_refl _)
    replace a4 := cell_beh a4 hb2 (Nat.le_refl _)
    replace a5 := cell_beh a5 hb2 (Nat.le_refl _)
    replace a6 := cell_beh a6 hb2 (Nat.le_refl _)
    replace a7 := cell_beh a7 hb2 (Nat.le_refl _)
    clear hb2 gb1 H1 c0 c1 c2 c3 c4 c5 c6 c7 c8 c9 c10
    have l3 := cell_in a0
    have n3 : ¬ w1.heap.size = w2.heap.size := by omega
    go_wp2_with fail
    obtain ⟨W2, hW2⟩ : ∃ W2, W2 = w2.alloc (.cells #[.int .i64 g1, .int .i64 g2, .int .i64 g3, .int .i64 g4, .int .i64 g5, .int .i64 g6, .int .i64 g7, .string body] 26) := ⟨_, rfl⟩
    have gb2 : Below w.heap.size w W2 := by rw [hW2]; exact k2.alloc (by omega) _
    have b0 : W2.cell? ⟨w2.heap.size, 0, none⟩ = some (.int .i64 g1) := by rw [hW2]; exact new_cell w2 _ rfl _ _ _ _ rfl
    have b1 : W2.cell? ⟨w2.heap.size, 1, none⟩ = some (.int .i64 g2) := by rw [hW2]; exact new_cell w2 _ rfl _ _ _ _ rfl
    have b2 : W2.cell? ⟨w2.heap.size, 2, none⟩ = some (.int .i64 g3) := by rw [hW2]; exact new_cell w2 _ rfl _ _ _ _ rfl
    have b3 : W2.cell? ⟨w2.heap.size, 3, none⟩ = some (.int .i64 g4) := by rw [hW2]; exact new_cell w2 _ rfl _ _ _ _ rfl
    have b4 : W2.cell? ⟨w2.heap.size, 4, none⟩ = some (.int .i64 g5) := by rw [hW2]; exact new_cell w2 _ rfl _ _ _ _ rfl
    have b5 : W2.cell? ⟨w2.heap.size, 5, none⟩ = some (.int .i64 g6) := by rw [hW2]; exact new_cell w2 _ rfl _ _ _ _ rfl
    have b6 : W2.cell? ⟨w2.heap.size, 6, none⟩ = some (.int .i64 g7) := by rw [hW2]; exact new_cell w2 _ rfl _ _ _ _ rfl
    have b7 : W2.cell? ⟨w2.heap.size, 7, none⟩ = some (.string body) := by rw [hW2]; exact new_cell w2 _ rfl _ _ _ _ rfl
    replace a0 : W2.cell? ⟨w1.heap.size, 0, none⟩ = some (.int .i64 0) := by rw [hW2]; exact old_cell a0 _
    replace a1 : W2.cell? ⟨w1.heap.size, 1, none⟩ = some (.int .i64 0) := by rw [hW2]; exact old_cell a1 _
    replace a2 : W2.cell? ⟨w1.heap.size, 2, none⟩ = some (.int .i64 0) := by rw [hW2]; exact old_cell a2 _
    replace a3 : W2.cell? ⟨w1.heap.size, 3, none⟩ = some (.int .i64 0) := by rw [hW2]; exact old_cell a3 _
    replace a4 : W2.cell? ⟨w1.heap.size, 4, none⟩ = some (.int .i64 0) := by rw [hW2]; exact old_cell a4 _
    replace a5 : W2.cell? ⟨w1.heap.size, 5, none⟩ = some (.int .i64 0) := by rw [hW2]; exact old_cell a5 _
    replace a6 : W2.cell? ⟨w1.heap.size, 6, none⟩ = some (.int .i64 0) := by rw [hW2]; exact old_cell a6 _
    replace a7 : W2.cell? ⟨w1.heap.size, 7, none⟩ = some (.string ⟨#[]⟩) := by rw [hW2]; exact old_cell a7 _
    rw [← hW2]
    clear hW2
    refine (unhide H2 _).mono ?_
    rintro e w3 ⟨rfl, hb3⟩
    have k3 := gb2.trans (hb3.mono gb2.size)
    replace a0 := cell_beh a0 hb3 (Nat.le_refl _)
    replace a1 := cell_beh a1 hb3 (Nat.le_refl _)
    replace a2 := cell_beh a2 hb3 (Nat.le_refl _)
    replace a3 := cell_beh a3 hb3 (Nat.le_refl _)
    replace a4 := cell_beh a4 hb3 (Nat.le_refl _)
    replace a5 := cell_beh a5 hb3 (Nat.le_refl _)
    replace a6 := cell_beh a6 hb3 (Nat.le_refl _)
    replace a7 := cell_beh a7 hb3 (Nat.le_refl _)
    replace b0 := cell_beh b0 hb3 (Nat.le_refl _)
    replace b1 := cell_beh b1 hb3 (Nat.le_refl _)
    replace b2 := cell_beh b2 hb3 (Nat.le_refl _)
    replace b3 := cell_beh b3 hb3 (Nat.le_refl _)
    replace b4 := cell_beh b4 hb3 (Nat.le_refl _)
    replace b5 := cell_beh b5 hb3 (Nat.le_refl _)
    replace b6 := cell_beh b6 hb3 (Nat.le_refl _)
    replace b7 := cell_beh b7 hb3 (Nat.le_refl _)
    clear hb3 gb2 H2
    go_wp2_with fail
    go_ret
    exact ⟨bool_ret (by first | rfl | simp), k3⟩
  · have hE0 : E = 0 := by omega
    subst hE0
    rw [if_pos rfl] at H0
    clear hE
    go_enter Try.func3, Try.ntmps3
    go_wp2_with fail
    obtain ⟨W0, hW0⟩ : ∃ W0, W0 = w.alloc (.cells #[.int .i64 g0, .int .i64 g1, .int .i64 g2, .int .i64 g3, .int .i64 g4, .int .i64 g5, .int .i64 g6, .int .i64 g7, .int .i64 g8, .int .i64 g9, .string body] 24) := ⟨_, rfl⟩
    have k0 : Below w.heap.size w W0 := by rw [hW0]; exact (Below.refl _ w).alloc (Nat.le_refl _) _
    have c0 : W0.cell? ⟨w.heap.size, 0, none⟩ = some (.int .i64 g0) := by rw [hW0]; exact new_cell w _ rfl _ _ _ _ rfl
    have c1 : W0.cell? ⟨w.heap.size, 1, none⟩ = some (.int .i64 g1) := by rw [hW0]; exact new_cell w _ rfl _ _ _ _ rfl
    have c2 : W0.cell? ⟨w.heap.size, 2, none⟩ = some (.int .i64 g2) := by rw [hW0]; exact new_cell w _ rfl _ _ _ _ rfl
    have c3 : W0.cell? ⟨w.heap.size, 3, none⟩ = some (.int .i64 g3) := by rw [hW0]; exact new_cell w _ rfl _ _ _ _ rfl
    have c4 : W0.cell? ⟨w.heap.size, 4, none⟩ = some (.int .i64 g4) := by rw [hW0]; exact new_cell w _ rfl _ _ _ _ rfl
    have c5 : W0.cell? ⟨w.heap.size, 5, none⟩ = some (.int .i64 g5) := by rw [hW0]; exact new_cell w _ rfl _ _ _ _ rfl
    have c6 : W0.cell? ⟨w.heap.size, 6, none⟩ = some (.int .i64 g6) := by rw [hW0]; exact new_cell w _ rfl _ _ _ _ rfl
    have c7 : W0.cell? ⟨w.heap.size, 7, none⟩ = some (.int .i64 g7) := by rw [hW0]; exact new_cell w _ rfl _ _ _ _ rfl
    have c8 : W0.cell? ⟨w.heap.size, 8, none⟩ = some (.int .i64 g8) := by rw [hW0]; exact new_cell w _ rfl _ _ _ _ rfl
    have c9 : W0.cell? ⟨w.heap.size, 9, none⟩ = some (.int .i64 g9) := by rw [hW0]; exact new_cell w _ rfl _ _ _ _ rfl
    have c10 : W0.cell? ⟨w.heap.size, 10, none⟩ = some (.string body) := by rw [hW0]; exact new_cell w _ rfl _ _ _ _ rfl
    rw [← hW0]
    clear hW0
    refine (unhide H0 _).mono ?_
    rintro e w1 ⟨rfl, hb1⟩
    have k1 := k0.trans (hb1.mono k0.size)
    replace c0 := cell_beh c0 hb1 (Nat.le_refl _)
    replace c1 := cell_beh c1 hb1 (Nat.le_refl _)
    replace c2 := cell_beh c2 hb1 (Nat.le_refl _)
    replace c3 := cell_beh c3 hb1 (Nat.le_refl _)
    replace c4 := cell_beh c4 hb1 (Nat.le_refl _)
    replace c5 := cell_beh c5 hb1 (Nat.le_refl _)
    replace c6 := cell_beh c6 hb1 (Nat.le_refl _)
    replace c7 := cell_beh c7 hb1 (Nat.le_refl _)
    replace c8 := cell_beh c8 hb1 (Nat.le_refl _)
    replace c9 := cell_beh c9 hb1 (Nat.le_refl _)
    replace c10 := cell_beh c10 hb1 (Nat.le_refl _)
    clear hb1 k0 H0
    have l1 := cell_in c0
    have n1 : ¬ w.heap.size = w1.heap.size := by omega
    go_wp2_with fail
    obtain ⟨W1, hW1⟩ : ∃ W1, W1 = w1.alloc (.cells #[.int .i64 g1, .int .i64 g2, .int .i64 g3, .int .i64 g4, .int .i64 g5, .int .i64 g6, .int .i64 g7, .string body] 26) := ⟨_, rfl⟩
    have gb1 : Below w.heap.size w W1 := by rw [hW1]; exact k1.alloc (by omega) _
    have a0 : W1.cell? ⟨w1.heap.size, 0, none⟩ = some (.int .i64 g1) := by rw [hW1]; exact new_cell w1 _ rfl _ _ _ _ rfl
    have a1 : W1.cell? ⟨w1.heap.size, 1, none⟩ = some (.int .i64 g2) := by rw [hW1]; exact new_cell w1 _ rfl _ _ _ _ rfl
    have a2 : W1.cell? ⟨w1.heap.size, 2, none⟩ = some (.int .i64 g3) := by rw [hW1]; exact new_cell w1 _ rfl _ _ _ _ rfl
    have a3 : W1.cell? ⟨w1.heap.size, 3, none⟩ = some (.int .i64 g4) := by rw [hW1]; exact new_cell w1 _ rfl _ _ _ _ rfl
    have a4 : W1.cell? ⟨w1.heap.size, 4, none⟩ = some (.int .i64 g5) := by rw [hW1]; exact new_cell w1 _ rfl _ _ _ _ rfl
    have a5 : W1.cell? ⟨w1.heap.size, 5, none⟩ = some (.int .i64 g6) := by rw [hW1]; exact new_cell w1 _ rfl _ _ _ _ rfl
    have a6 : W1.cell? ⟨w1.heap.size, 6, none⟩ = some (.int .i64 g7) := by rw [hW1]; exact new_cell w1 _ rfl _ _ _ _ rfl
    have a7 : W1.cell? ⟨w1.heap.size, 7, none⟩ = some (.string body) := by rw [hW1]; exact new_cell w1 _ rfl _ _ _ _ rfl
    rw [← hW1]
    clear hW1
    refine (unhide H1 _).mono ?_
    rintro e w2 ⟨rfl, hb2⟩
    have k2 := gb1.trans (hb2.mono gb1.size)
    replace a0 := cell_beh a0 hb2 (Nat.le_refl _)
    replace a1 := cell_beh a1 hb2 (Nat.le_refl _)
    replace a2 := cell_beh a2 hb2 (Nat.le_refl _)
    replace a3 := cell_beh a3 hb2 (Nat.le_refl _)
    replace a4 := cell_beh a4 hb2 (Nat.le_refl _)
    replace a5 := cell_beh a5 hb2 (Nat.le_refl _)
    replace a6 := cell_beh a6 hb2 (Nat.le_refl _)
    replace a7 := cell_beh a7 hb2 (Nat.le_refl _)
    clear hb2 gb1 H1 c0 c1 c2 c3 c4 c5 c6 c7 c8 c9 c10
    have l3 := cell_in a0
    have n3 : ¬ w1.heap.size = w2.heap.size := by omega
    go_wp2_with fail
    obtain ⟨W2, hW2⟩ : ∃ W2, W2 = w2.alloc (.cells #[.int .i64 g1, .int .i64 g2, .int .i64 g3, .int .i64 g4, .int .i64 g5, .int .i64 g6, .int .i64 g7, .string body] 26) := ⟨_, rfl⟩
    have gb2 : Below w.heap.size w W2 := by rw [hW2]; exact k2.alloc (by omega) _
    have b0 : W2.cell? ⟨w2.heap.size, 0, none⟩ = some (.int .i64 g1) := by rw [hW2]; exact new_cell w2 _ rfl _ _ _ _ rfl
    have b1 : W2.cell? ⟨w2.heap.size, 1, none⟩ = some (.int .i64 g2) := by rw [hW2]; exact new_cell w2 _ rfl _ _ _ _ rfl
    have b2 : W2.cell? ⟨w2.heap.size, 2, none⟩ = some (.int .i64 g3) := by rw [hW2]; exact new_cell w2 _ rfl _ _ _ _ rfl
    have b3 : W2.cell? ⟨w2.heap.size, 3, none⟩ = some (.int .i64 g4) := by rw [hW2]; exact new_cell w2 _ rfl _ _ _ _ rfl
    have b4 : W2.cell? ⟨w2.heap.size, 4, none⟩ = some (.int .i64 g5) := by rw [hW2]; exact new_cell w2 _ rfl _ _ _ _ rfl
    have b5 : W2.cell? ⟨w2.heap.size, 5, none⟩ = some (.int .i64 g6) := by rw [hW2]; exact new_cell w2 _ rfl _ _ _ _ rfl
    have b6 : W2.cell? ⟨w2.heap.size, 6, none⟩ = some (.int .i64 g7) := by rw [hW2]; exact new_cell w2 _ rfl _ _ _ _ rfl
    have b7 : W2.cell? ⟨w2.heap.size, 7, none⟩ = some (.string body) := by rw [hW2]; exact new_cell w2 _ rfl _ _ _ _ rfl
    replace a0 : W2.cell? ⟨w1.heap.size, 0, none⟩ = some (.int .i64 g1) := by rw [hW2]; exact old_cell a0 _
    replace a1 : W2.cell? ⟨w1.heap.size, 1, none⟩ = some (.int .i64 g2) := by rw [hW2]; exact old_cell a1 _
    replace a2 : W2.cell? ⟨w1.heap.size, 2, none⟩ = some (.int .i64 g3) := by rw [hW2]; exact old_cell a2 _
    replace a3 : W2.cell? ⟨w1.heap.size, 3, none⟩ = some (.int .i64 g4) := by rw [hW2]; exact old_cell a3 _
    replace a4 : W2.cell? ⟨w1.heap.size, 4, none⟩ = some (.int .i64 g5) := by rw [hW2]; exact old_cell a4 _
    replace a5 : W2.cell? ⟨w1.heap.size, 5, none⟩ = some (.int .i64 g6) := by rw [hW2]; exact old_cell a5 _
    replace a6 : W2.cell? ⟨w1.heap.size, 6, none⟩ = some (.int .i64 g7) := by rw [hW2]; exact old_cell a6 _
    replace a7 : W2.cell? ⟨w1.heap.size, 7, none⟩ = some (.string body) := by rw [hW2]; exact old_cell a7 _
    rw [← hW2]
    clear hW2
    refine (unhide H2 _).mono ?_
    rintro e w3 ⟨rfl, hb3⟩
    have k3 := gb2.trans (hb3.mono gb2.size)
    replace a0 := cell_beh a0 hb3 (Nat.le_refl _)
    replace a1 := cell_beh a1 hb3 (Nat.le_refl _)
    replace a2 := cell_beh a2 hb3 (Nat.le_refl _)
    replace a3 := cell_beh a3 hb3 (Nat.le_refl _)
    replace a4 := cell_beh a4 hb3 (Nat.le_refl _)
    replace a5 := cell_beh a5 hb3 (Nat.le_refl _)
    replace a6 := cell_beh a6 hb3 (Nat.le_refl _)
    replace a7 := cell_beh a7 hb3 (Nat.le_refl _)
    replace b0 := cell_beh b0 hb3 (Nat.le_refl _)
    replace b1 := cell_beh b1 hb3 (Nat.le_refl _)
    replace b2 := cell_beh b2 hb3 (Nat.le_refl _)
    replace b3 := cell_beh b3 hb3 (Nat.le_refl _)
    replace b4 := cell_beh b4 hb3 (Nat.le_refl _)
    replace b5 := cell_beh b5 hb3 (Nat.le_refl _)
    replace b6 := cell_beh b6 hb3 (Nat.le_refl _)
    replace b7 := cell_beh b7 hb3 (Nat.le_refl _)
    clear hb3 gb2 H2
    go_wp2_with fail
    go_ret
    exact ⟨bool_ret (by first | rfl | simp), k3⟩

set_option maxRecDepth 100000 in
theorem pipeFrames_lifted (os : Os) (started : os.Started) (H : Type) (enc : TypeId × Value → H) :
    ReturnsInHanded {} Try.checked os 3 .any (Rows.pipeFramesSpec.pre6 enc Try.prog Try.f3 Rows.pipeFramesRow.domain false) (Rows.pipeFramesSpec.post enc Try.prog Try.f3 false true false false) := by
  refine returnsInHanded_of_change (C := Try.checked) own started (by kernel_rfl) Try.func3
    (ChangeSpec.witness6 (enc := enc) (C := Try.checked) false ⟨#[], #[pkt 0 0 0 0 0 0 0 0 0 0 ⟨#[]⟩], []⟩ 8 (by kernel_rfl) (by kernel_rfl) (by kernel_rfl) (by kernel_rfl)) ?_
  intro W base args ds gs before hval0 hW hcnd _
  have hval : ∀ (j : Nat) t v, Try.f3.params[j]? = some t → args[j]? = some v → Value.okWide Try.prog W .any base t v := hval0
  have hW' := hW
  obtain ⟨p, q, hA0, hV, rfl, hfz, hnd⟩ := hW
  have hA : DataW.TrodAll enc Try.prog W 0 (fun _ => true) true Try.f3.params.toList args.toList ds p := hA0
  rw [Try.params3] at hA hval
  obtain ⟨v0, vs0, d0, ds0, p0, q0, hargs, rfl, rfl, h0, r0⟩ := trodAll_cons hA
  obtain ⟨rfl, rfl, rfl⟩ := trodAll_nil r0
  obtain rfl : args = #[v0] := by cases args; simp_all
  obtain ⟨rfl, rfl⟩ := trodVars_none hV
  have k0 := h0
  have lt0 : ∀ x ∈ p0, x.block < W.heap.size := by obtain ⟨m, hm⟩ := k0; exact DataW.trod_lt m _ _ _ hm
  obtain ⟨g00, g10, g20, g30, g40, g50, g60, g70, g80, g90, body0, rfl, hb0⟩ := open_packet (hval 0 24 v0 rfl rfl) h0
  clear hA0 hval0
  refine (pipeFrames_any g00 g10 g20 g30 g40 g50 g60 g70 g80 g90 body0 W hb0).mono fun e W' ⟨he, bel⟩ => ?_
  subst he
  exact ⟨_, rfl, _, _, _, [], _, [], hW', trodAll_mk1 (shut_bool Try.underlying4 _), (trodAll_cons_mk (Below.trod laidOut (by kernel_rfl) (of_decide_eq_true (by kernel_rfl)) k0 bel lt0) trodAll_mk0), rfl, bel.frame _, fun h => by cases h⟩

theorem pipeFrames_holds : Rows.PipeFramesSaid :=
  OpenClaim.holds_of_wide 3 Try.f3 rfl rfl rfl rfl rfl rfl rfl ⟨rfl, rfl, rfl, rfl, rfl⟩ rfl rfl rfl rfl rfl (by kernel_rfl) Try.func3 (by kernel_rfl)
    (of_decide_eq_true (by kernel_rfl)) (by unfold Func.isWrapper; first | (rw [if_pos (by decide +kernel)]; kernel_rfl) | (rw [if_neg (by decide +kernel)]; exact ⟨rfl, rfl⟩))
    (fun os started H enc _ => pipeFrames_lifted os started H enc)

end Go.Proofs.Ytonhfgdnkkkikae
