/-
  What flow.Run answers where flows or packet may not be; both cases as one.
-/
import Derived.Test.YtonhfgdnkkkikacFn
namespace Go.Proofs.Ytonhfgdnkkkikac
open Go.RowKit
set_option linter.unusedVariables false
set_option maxRecDepth 100000

/-- P2.2: what is wrong, and what is sent. -/
def runE (fs : List Fl) (F : List Int) (n : Nat) : Int := if fsFault fs = 0 then pktFault F n else fsFault fs
def runL (fs : List Fl) (F : List Int) (n : Nat) : List Sn := if runE fs F n = 0 then ran fs F else []
theorem fs_small {fs : List Fl} (h : fsFault fs = 0) : fs.length ≤ 5000 := by
  rcases Nat.lt_or_ge 5000 fs.length with h' | h'
  · unfold fsFault at h; rw [if_pos h'] at h; omega
  · exact h'

set_option maxHeartbeats 4000000 in
theorem fRun_any (f0 f1 f2 f3 f4 f5 f6 f7 f8 f9 : Int) (body : ByteArray) (v : Value) (fs : List Fl) (w : World) (hL : FsAt w v fs) (hb : body.size ≤ maxLen) (hm : fs.length ≤ 140737488355328) :
    Calls Try.prog 15 #[v, pkt f0 f1 f2 f3 f4 f5 f6 f7 f8 f9 body] w fun e w' => ∃ u, e = .returned (.tuple #[u, .int .i64 (runE fs [f0, f1, f2, f3, f4, f5, f6, f7, f8, f9] body.size)]) ∧ w'.ownsRow w.heap.size 49 13 u (runL fs [f0, f1, f2, f3, f4, f5, f6, f7, f8, f9] body.size).length (S body (runL fs [f0, f1, f2, f3, f4, f5, f6, f7, f8, f9] body.size)) ∧ Below w.heap.size w w' := by
  by_cases hz : fsFault fs = 0
  · by_cases hp : pktFault [f0, f1, f2, f3, f4, f5, f6, f7, f8, f9] body.size = 0
    · have h1 : runE fs [f0, f1, f2, f3, f4, f5, f6, f7, f8, f9] body.size = 0 := by unfold runE; rw [if_pos hz]; exact hp
      have h2 : runL fs [f0, f1, f2, f3, f4, f5, f6, f7, f8, f9] body.size = ran fs [f0, f1, f2, f3, f4, f5, f6, f7, f8, f9] := by unfold runL; rw [if_pos h1]
      rw [h1, h2]
      exact fRun_ok f0 f1 f2 f3 f4 f5 f6 f7 f8 f9 body v fs w hL hz hp (fs_small hz)
    · have h1 : runE fs [f0, f1, f2, f3, f4, f5, f6, f7, f8, f9] body.size = pktFault [f0, f1, f2, f3, f4, f5, f6, f7, f8, f9] body.size := by unfold runE; rw [if_pos hz]
      have h2 : runL fs [f0, f1, f2, f3, f4, f5, f6, f7, f8, f9] body.size = [] := by unfold runL; rw [if_neg (by rw [h1]; exact hp)]
      rw [h1, h2]
      have HL := hide hL
      have HZ := hide hz
      obtain ⟨a, cap, rfl, hn, _⟩ := hL
      have HC := hide (fun W => checkPacket_any f0 f1 f2 f3 f4 f5 f6 f7 f8 f9 body W hb)
      generalize pktFault [f0, f1, f2, f3, f4, f5, f6, f7, f8, f9] body.size = R at *
      clear h1 h2 hz
      go_enter Try.func15, Try.ntmps15
      go_wp2_with fail
      obtain ⟨W0, hW0⟩ : ∃ W0, W0 = w.alloc (.cells #[.int .i64 f0, .int .i64 f1, .int .i64 f2, .int .i64 f3, .int .i64 f4, .int .i64 f5, .int .i64 f6, .int .i64 f7, .int .i64 f8, .int .i64 f9, .string body] 32) := ⟨_, rfl⟩
      have c0 : W0.cell? ⟨w.heap.size, 0, none⟩ = some (.int .i64 f0) := by rw [hW0]; simp
      have c1 : W0.cell? ⟨w.heap.size, 1, none⟩ = some (.int .i64 f1) := by rw [hW0]; simp
      have c2 : W0.cell? ⟨w.heap.size, 2, none⟩ = some (.int .i64 f2) := by rw [hW0]; simp
      have c3 : W0.cell? ⟨w.heap.size, 3, none⟩ = some (.int .i64 f3) := by rw [hW0]; simp
      have c4 : W0.cell? ⟨w.heap.size, 4, none⟩ = some (.int .i64 f4) := by rw [hW0]; simp
      have c5 : W0.cell? ⟨w.heap.size, 5, none⟩ = some (.int .i64 f5) := by rw [hW0]; simp
      have c6 : W0.cell? ⟨w.heap.size, 6, none⟩ = some (.int .i64 f6) := by rw [hW0]; simp
      have c7 : W0.cell? ⟨w.heap.size, 7, none⟩ = some (.int .i64 f7) := by rw [hW0]; simp
      have c8 : W0.cell? ⟨w.heap.size, 8, none⟩ = some (.int .i64 f8) := by rw [hW0]; simp
      have c9 : W0.cell? ⟨w.heap.size, 9, none⟩ = some (.int .i64 f9) := by rw [hW0]; simp
      have cb : W0.cell? ⟨w.heap.size, 10, none⟩ = some (.string body) := by rw [hW0]; simp
      have hb0 : Below w.heap.size w W0 := by rw [hW0]; exact (Below.refl _ _).alloc (Nat.le_refl _) _
      rw [← hW0]
      clear hW0
      refine (fCheck_any _ fs _ (HL.out.below hb0 (Nat.le_refl _)) hm).mono ?_
      rintro e w1 ⟨rfl, hb1⟩
      rw [HZ.out]
      replace c0 := cell_below c0 hb1 (Nat.le_refl _)
      replace c1 := cell_below c1 hb1 (Nat.le_refl _)
      replace c2 := cell_below c2 hb1 (Nat.le_refl _)
      replace c3 := cell_below c3 hb1 (Nat.le_refl _)
      replace c4 := cell_below c4 hb1 (Nat.le_refl _)
      replace c5 := cell_below c5 hb1 (Nat.le_refl _)
      replace c6 := cell_below c6 hb1 (Nat.le_refl _)
      replace c7 := cell_below c7 hb1 (Nat.le_refl _)
      replace c8 := cell_below c8 hb1 (Nat.le_refl _)
      replace c9 := cell_below c9 hb1 (Nat.le_refl _)
      replace cb := cell_below cb hb1 (Nat.le_refl _)
      go_wp2_with fail
      refine (unhide HC _).mono ?_
      rintro e w2 ⟨rfl, hb2⟩
      have hb02 := (hb0.trans (hb1.mono hb0.size)).trans (hb2.mono (Nat.le_trans hb0.size hb1.size))
      clear c0 c1 c2 c3 c4 c5 c6 c7 c8 c9 cb
      have hne : (R != 0) = true := by simpa using hp
      go_wp2_with fail
      go_ret2
      exact ⟨_, rfl, World.ownsRow_nil _ _ _ _, hb02⟩
  · have h1 : runE fs [f0, f1, f2, f3, f4, f5, f6, f7, f8, f9] body.size = fsFault fs := by unfold runE; rw [if_neg hz]
    have h2 : runL fs [f0, f1, f2, f3, f4, f5, f6, f7, f8, f9] body.size = [] := by unfold runL; rw [if_neg (by rw [h1]; exact hz)]
    rw [h1, h2]
    have HL := hide hL
    obtain ⟨a, cap, rfl, hn, _⟩ := hL
    clear h1 h2
    have HC := hide (fun W h => fCheck_any (.slice a fs.length cap) fs W h hm)
    generalize fsFault fs = R at *
    have hA : Below w.heap.size w (w.alloc (.cells #[.int .i64 f0, .int .i64 f1, .int .i64 f2, .int .i64 f3, .int .i64 f4, .int .i64 f5, .int .i64 f6, .int .i64 f7, .int .i64 f8, .int .i64 f9, .string body] 32)) := (Below.refl _ _).alloc (Nat.le_refl _) _
    go_enter Try.func15, Try.ntmps15
    go_wp2_with fail
    refine (unhide HC _ (HL.out.below hA (Nat.le_refl _))).mono ?_
    rintro e w1 ⟨rfl, hb1⟩
    have hne : (R != 0) = true := by simpa using hz
    have hb01 := hA.trans (hb1.mono hA.size)
    go_wp2_with fail
    go_ret2
    exact ⟨_, rfl, World.ownsRow_nil _ _ _ _, hb01⟩

end Go.Proofs.Ytonhfgdnkkkikac
