/-
  What slices.Equal answers at matches and at what is done, and the keepers' sameFlows at flows, where both hold the same.
-/
import Derived.Test.YtonhfgdnkkkikacSm
import Derived.Test.YtonhfgdnkkkikacOc
import Derived.Test.YtonhfgdnkkkikacSk
namespace Go.Proofs.Ytonhfgdnkkkikac
open Go.RowKit
set_option linter.unusedVariables false
set_option maxRecDepth 100000

set_option maxHeartbeats 2000000 in
theorem eqMs_any (u v : Value) (ms : List Mt) (w : World) (hu : MsAt w u ms) (hv : MsAt w v ms) (hl : ms.length ≤ 2000000) :
    Calls Try.prog 42 #[u, v] w fun e w' => e = .returned (.bool true) ∧ ∃ n, w' = w.drewN n := by
  obtain ⟨ua, uc, rfl, hun, huL⟩ := hu
  obtain ⟨va, vc, rfl, hvn, hvL⟩ := hv
  go_enter Try.func42, Try.ntmps42
  go_wp2_with fail
  go_loopw [13] (fun i wr => ∃ k : Nat, k ≤ ms.length ∧ i = .int .i64 k ∧ ∃ n, wr = w.drewN n) (fun i _ => ms.length - (intOf i).toNat)
  case atStart => exact ⟨0, by omega, rfl, 0, rfl⟩
  case round =>
    obtain ⟨k, hk, rfl, n, hwn⟩ := hrel
    have HW := hide hwn
    by_cases hlt : k < ms.length
    · obtain ⟨b, off, rfl, hcap, hcell⟩ : ∃ b off, ua = some ⟨b, off, none⟩ ∧ ms.length ≤ uc ∧ ∀ i, i < ms.length → w.cell? ⟨b, off + i * 3, none⟩ = some (.int .i64 (ms.getD i mt0).f) ∧ w.cell? ⟨b, off + i * 3 + 1, none⟩ = some (.int .i64 (ms.getD i mt0).m) ∧ w.cell? ⟨b, off + i * 3 + 2, none⟩ = some (.int .i64 (ms.getD i mt0).v) := by
        rcases huL with h0 | h
        · omega
        · exact h
      obtain ⟨b2, off2, rfl, hcap2, hcell2⟩ : ∃ b off, va = some ⟨b, off, none⟩ ∧ ms.length ≤ vc ∧ ∀ i, i < ms.length → w.cell? ⟨b, off + i * 3, none⟩ = some (.int .i64 (ms.getD i mt0).f) ∧ w.cell? ⟨b, off + i * 3 + 1, none⟩ = some (.int .i64 (ms.getD i mt0).m) ∧ w.cell? ⟨b, off + i * 3 + 2, none⟩ = some (.int .i64 (ms.getD i mt0).v) := by
        rcases hvL with h0 | h
        · omega
        · exact h
      obtain ⟨g0, g1, g2⟩ := hcell k hlt
      obtain ⟨k0, k1, k2⟩ := hcell2 k hlt
      have e : ∀ a : Addr, wr.cell? a = w.cell? a := fun a => by rw [hwn]; rfl
      rw [← e] at g0 g1 g2 k0 k1 k2
      clear hcell hcell2 huL hvL hwn e
      generalize (ms.getD k mt0).f = x0 at *
      generalize (ms.getD k mt0).m = x1 at *
      generalize (ms.getD k mt0).v = x2 at *
      have heq := eqMt x0 x1 x2
      have hgd := guardMt
      go_wp2_with fail
      go_quiet (fail)
      go_wp2
      go_roundw
      case rel => exact ⟨k + 1, by omega, by go_num, _, by rw [HW.out]; exact World.drewN_drewN _ _ _⟩
      case measure => simp [intOf]; omega
    · clear huL hvL hwn
      go_wp2_with fail
      go_ret
      exact ⟨rfl, n, HW.out⟩

set_option maxHeartbeats 2000000 in
theorem eqDs_any (u v : Value) (ms : List Do) (w : World) (hu : DsAt w u ms) (hv : DsAt w v ms) (hl : ms.length ≤ 2000000) :
    Calls Try.prog 43 #[u, v] w fun e w' => e = .returned (.bool true) ∧ ∃ n, w' = w.drewN n := by
  obtain ⟨ua, uc, rfl, hun, huL⟩ := hu
  obtain ⟨va, vc, rfl, hvn, hvL⟩ := hv
  go_enter Try.func43, Try.ntmps43
  go_wp2_with fail
  go_loopw [13] (fun i wr => ∃ k : Nat, k ≤ ms.length ∧ i = .int .i64 k ∧ ∃ n, wr = w.drewN n) (fun i _ => ms.length - (intOf i).toNat)
  case atStart => exact ⟨0, by omega, rfl, 0, rfl⟩
  case round =>
    obtain ⟨k, hk, rfl, n, hwn⟩ := hrel
    have HW := hide hwn
    by_cases hlt : k < ms.length
    · obtain ⟨b, off, rfl, hcap, hcell⟩ : ∃ b off, ua = some ⟨b, off, none⟩ ∧ ms.length ≤ uc ∧ ∀ i, i < ms.length → w.cell? ⟨b, off + i * 3, none⟩ = some (.int .i64 (ms.getD i do0).k) ∧ w.cell? ⟨b, off + i * 3 + 1, none⟩ = some (.int .i64 (ms.getD i do0).a) ∧ w.cell? ⟨b, off + i * 3 + 2, none⟩ = some (.int .i64 (ms.getD i do0).n) := by
        rcases huL with h0 | h
        · omega
        · exact h
      obtain ⟨b2, off2, rfl, hcap2, hcell2⟩ : ∃ b off, va = some ⟨b, off, none⟩ ∧ ms.length ≤ vc ∧ ∀ i, i < ms.length → w.cell? ⟨b, off + i * 3, none⟩ = some (.int .i64 (ms.getD i do0).k) ∧ w.cell? ⟨b, off + i * 3 + 1, none⟩ = some (.int .i64 (ms.getD i do0).a) ∧ w.cell? ⟨b, off + i * 3 + 2, none⟩ = some (.int .i64 (ms.getD i do0).n) := by
        rcases hvL with h0 | h
        · omega
        · exact h
      obtain ⟨g0, g1, g2⟩ := hcell k hlt
      obtain ⟨k0, k1, k2⟩ := hcell2 k hlt
      have e : ∀ a : Addr, wr.cell? a = w.cell? a := fun a => by rw [hwn]; rfl
      rw [← e] at g0 g1 g2 k0 k1 k2
      clear hcell hcell2 huL hvL hwn e
      generalize (ms.getD k do0).k = x0 at *
      generalize (ms.getD k do0).a = x1 at *
      generalize (ms.getD k do0).n = x2 at *
      have heq := eqDo x0 x1 x2
      have hgd := guardDo
      go_wp2_with fail
      go_quiet (fail)
      go_wp2
      go_roundw
      case rel => exact ⟨k + 1, by omega, by go_num, _, by rw [HW.out]; exact World.drewN_drewN _ _ _⟩
      case measure => simp [intOf]; omega
    · clear huL hvL hwn
      go_wp2_with fail
      go_ret
      exact ⟨rfl, n, HW.out⟩

set_option maxHeartbeats 4000000 in
theorem eqFl_any (f : Fl) (ua va ub vb : Option Addr) (uc vc ud vd : Nat) (w : World) (h1 : MsAt w (.slice ua f.ms.length uc) f.ms) (h2 : DsAt w (.slice ub f.ds.length ud) f.ds) (h3 : MsAt w (.slice va f.ms.length vc) f.ms) (h4 : DsAt w (.slice vb f.ds.length vd) f.ds) (l1 : f.ms.length ≤ 2000000) (l2 : f.ds.length ≤ 2000000) :
    Calls Try.prog 41 #[.agg #[.int .i64 f.t, .int .i64 f.p, .slice ua f.ms.length uc, .slice ub f.ds.length ud], .agg #[.int .i64 f.t, .int .i64 f.p, .slice va f.ms.length vc, .slice vb f.ds.length vd]] w fun e w' => e = .returned (.bool true) ∧ Grw w w' := by
  obtain ⟨W, hW⟩ : ∃ W, W = (w.alloc (.cells #[.int .i64 f.t, .int .i64 f.p, .slice ua f.ms.length uc, .slice ub f.ds.length ud] 41)).alloc (.cells #[.int .i64 f.t, .int .i64 f.p, .slice va f.ms.length vc, .slice vb f.ds.length vd] 41) := ⟨_, rfl⟩
  have hg : Grw w W := by rw [hW]; exact ((Grw.refl w).alloc _).alloc _
  have HM : Hid (∀ V : World, Grw W V → Calls Try.prog 42 #[.slice ua f.ms.length uc, .slice va f.ms.length vc] V fun e w' => e = .returned (.bool true) ∧ ∃ n, w' = V.drewN n) := fun V hV =>
    eqMs_any _ _ f.ms _ (h1.below (hg.trans hV).below (Nat.le_refl _)) (h3.below (hg.trans hV).below (Nat.le_refl _)) l1
  have HD : Hid (∀ V : World, Grw W V → Calls Try.prog 43 #[.slice ub f.ds.length ud, .slice vb f.ds.length vd] V fun e w' => e = .returned (.bool true) ∧ ∃ n, w' = V.drewN n) := fun V hV =>
    eqDs_any _ _ f.ds _ (h2.below (hg.trans hV).below (Nat.le_refl _)) (h4.below (hg.trans hV).below (Nat.le_refl _)) l2
  have a0 : W.cell? ⟨w.heap.size, 0, none⟩ = some (.int .i64 f.t) := by rw [hW]; simp
  have a1 : W.cell? ⟨w.heap.size, 1, none⟩ = some (.int .i64 f.p) := by rw [hW]; simp
  have a2 : W.cell? ⟨w.heap.size, 2, none⟩ = some (.slice ua f.ms.length uc) := by rw [hW]; simp
  have a3 : W.cell? ⟨w.heap.size, 3, none⟩ = some (.slice ub f.ds.length ud) := by rw [hW]; simp
  have b0 : W.cell? ⟨w.heap.size + 1, 0, none⟩ = some (.int .i64 f.t) := by rw [hW]; simp
  have b1 : W.cell? ⟨w.heap.size + 1, 1, none⟩ = some (.int .i64 f.p) := by rw [hW]; simp
  have b2 : W.cell? ⟨w.heap.size + 1, 2, none⟩ = some (.slice va f.ms.length vc) := by rw [hW]; simp
  have b3 : W.cell? ⟨w.heap.size + 1, 3, none⟩ = some (.slice vb f.ds.length vd) := by rw [hW]; simp
  have HG := hide hg
  clear h1 h2 h3 h4 hg
  generalize f.t = x0 at *
  generalize f.p = x1 at *
  generalize f.ms.length = x2 at *
  generalize f.ds.length = x3 at *
  go_enter Try.func41, Try.ntmps41
  go_wp2_with fail
  rw [← hW]
  clear hW
  refine (unhide HM _ (Grw.refl _)).mono ?_
  rintro e w1 ⟨rfl, n1, hw1⟩
  have hg1 : Grw W w1 := by rw [hw1]; exact (Grw.refl _).drewN _
  have c3 : w1.cell? ⟨w.heap.size, 3, none⟩ = some (.slice ub x3 ud) := by rw [hw1]; exact a3
  have d3 : w1.cell? ⟨w.heap.size + 1, 3, none⟩ = some (.slice vb x3 vd) := by rw [hw1]; exact b3
  clear hw1 a0 a1 a2 a3 b0 b1 b2 b3
  go_wp2_with fail
  refine (unhide HD _ hg1).mono ?_
  rintro e w2 ⟨rfl, n2, hw2⟩
  have HG2 : Hid (Grw w w2) := by rw [hw2]; exact hide ((HG.out.trans hg1).drewN _)
  clear hw2 hg1 c3 d3
  go_wp2_with fail
  go_ret
  exact ⟨rfl, HG2.out⟩

end Go.Proofs.Ytonhfgdnkkkikac
