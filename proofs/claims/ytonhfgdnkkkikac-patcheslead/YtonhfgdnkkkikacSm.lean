/-
  What the law's sameMatches, sameDoes and sameFlows answer at rows that hold the same.
-/
import Derived.Test.YtonhfgdnkkkikacFl
import Derived.Test.YtonhfgdnkkkikacWa
import Derived.Laws.StructEq
import Derived.Deep.QuietTactic
import Derived.BigQuiet
import Derived.Deep.RegionHeld3
namespace Go.Proofs.Ytonhfgdnkkkikac
open Go.RowKit
set_option linter.unusedVariables false
set_option maxRecDepth 100000

theorem eqMt (a b c : Int) (w : World) : (Op.equalIn 10000 35 (.agg #[.int .i64 a, .int .i64 b, .int .i64 c]) (.agg #[.int .i64 a, .int .i64 b, .int .i64 c])).run Try.prog w = .ok true w := by
  have hS : Try.prog.underlying 35 = some (.struct (Try.prog.fieldsOf 35)) := by kernel_rfl
  have hp : Try.prog.stoodInHeld 35 = false := by kernel_rfl
  rw [show (10000 : Nat) = 9999 + 1 from rfl, run_equalIn_agg w 9999 35 _ _ hS hp]
  simp only [Program.fieldsOf, Try.underlying35]
  go_simp
theorem guardMt : Try.prog.eqGuardType Try.prog.depth 35 = false := by kernel_rfl
theorem eqDo (a b c : Int) (w : World) : (Op.equalIn 10000 38 (.agg #[.int .i64 a, .int .i64 b, .int .i64 c]) (.agg #[.int .i64 a, .int .i64 b, .int .i64 c])).run Try.prog w = .ok true w := by
  have hS : Try.prog.underlying 38 = some (.struct (Try.prog.fieldsOf 38)) := by kernel_rfl
  have hp : Try.prog.stoodInHeld 38 = false := by kernel_rfl
  rw [show (10000 : Nat) = 9999 + 1 from rfl, run_equalIn_agg w 9999 38 _ _ hS hp]
  simp only [Program.fieldsOf, Try.underlying38]
  go_simp
theorem guardDo : Try.prog.eqGuardType Try.prog.depth 38 = false := by kernel_rfl

set_option maxHeartbeats 2000000 in
theorem sameMs_any (u v : Value) (ms : List Mt) (w : World) (hu : MsAt w u ms) (hv : MsAt w v ms) (hl : ms.length ≤ 2000000) :
    Calls Try.prog 26 #[u, v] w fun e w' => e = .returned (.bool true) ∧ ∃ n, w' = w.drewN n := by
  obtain ⟨ua, uc, rfl, hun, huL⟩ := hu
  obtain ⟨va, vc, rfl, hvn, hvL⟩ := hv
  go_enter Try.func26, Try.ntmps26
  go_wp2_with fail
  go_loopw [5] (fun i wr => ∃ k : Nat, k ≤ ms.length ∧ i = .int .i64 k ∧ ∃ n, wr = w.drewN n) (fun i _ => ms.length - (intOf i).toNat)
  case atStart => exact ⟨0, by omega, rfl, 0, rfl⟩
  case round =>
    obtain ⟨k, hk, rfl, n, hwn⟩ := hrel
    have HW := hide hwn
    by_cases hlt : k < ms.length
    · obtain ⟨b, off, rfl, hcap, hcell⟩ : ∃ b off, ua = some ⟨b, off, none⟩ ∧ ms.length ≤ uc ∧ ∀ i, i < ms.length → w.cell? ⟨b, off + i * 3, none⟩ = some (.int .i64 (ms.getD i mt0).f) ∧ w.cell? ⟨b, off + i * 3 + 1, none⟩ = some (.int .i64 (ms.getD i mt0).m) ∧ w.cell? ⟨b, off + i * 3 + 2, none⟩ = some (.int .i64 (ms.getD i mt0).v) := by
        rcases huL with h0 | h
        · omega
        · exact h
      obtain ⟨b2, off2, rfl, hcap2, hcell2⟩ : ∃ b off, va = some ⟨b, off, none⟩ ∧ ms.length ≤ vc ∧ ∀ i, i < ms.length → w.cell? ⟨b, off + i * 3, none⟩ = some (.int .i64 (ms.getD i mt0).f) ∧ w.cell? ⟨b, off + i * 3 + 1, none⟩ = some (.int .i64 (ms.getD i mt0).m) ∧ w.cell? ⟨b, off + i * 3 + 2, none⟩ = some (.int .i64 (ms.getD i mt0).v) := by
        rcases hvL with h0 | h
        · omega
        · exact h
      obtain ⟨g0, g1, g2⟩ := hcell k hlt
      obtain ⟨k0, k1, k2⟩ := hcell2 k hlt
      have e : ∀ a : Addr, wr.cell? a = w.cell? a := fun a => by rw [hwn]; rfl
      rw [← e] at g0 g1 g2 k0 k1 k2
      clear hcell hcell2 huL hvL hwn e
      generalize (ms.getD k mt0).f = x0 at *
      generalize (ms.getD k mt0).m = x1 at *
      generalize (ms.getD k mt0).v = x2 at *
      have heq := eqMt x0 x1 x2
      have hgd := guardMt
      go_wp2_with fail
      go_quiet (fail)
      go_wp2
      go_roundw
      case rel => exact ⟨k + 1, by omega, by go_num, _, by rw [HW.out]; exact World.drewN_drewN _ _ _⟩
      case measure => simp [intOf]; omega
    · clear huL hvL hwn
      go_wp2_with fail
      go_ret
      exact ⟨rfl, n, HW.out⟩

set_option maxHeartbeats 2000000 in
theorem sameDs_any (u v : Value) (ms : List Do) (w : World) (hu : DsAt w u ms) (hv : DsAt w v ms) (hl : ms.length ≤ 2000000) :
    Calls Try.prog 27 #[u, v] w fun e w' => e = .returned (.bool true) ∧ ∃ n, w' = w.drewN n := by
  obtain ⟨ua, uc, rfl, hun, huL⟩ := hu
  obtain ⟨va, vc, rfl, hvn, hvL⟩ := hv
  go_enter Try.func27, Try.ntmps27
  go_wp2_with fail
  go_loopw [5] (fun i wr => ∃ k : Nat, k ≤ ms.length ∧ i = .int .i64 k ∧ ∃ n, wr = w.drewN n) (fun i _ => ms.length - (intOf i).toNat)
  case atStart => exact ⟨0, by omega, rfl, 0, rfl⟩
  case round =>
    obtain ⟨k, hk, rfl, n, hwn⟩ := hrel
    have HW := hide hwn
    by_cases hlt : k < ms.length
    · obtain ⟨b, off, rfl, hcap, hcell⟩ : ∃ b off, ua = some ⟨b, off, none⟩ ∧ ms.length ≤ uc ∧ ∀ i, i < ms.length → w.cell? ⟨b, off + i * 3, none⟩ = some (.int .i64 (ms.getD i do0).k) ∧ w.cell? ⟨b, off + i * 3 + 1, none⟩ = some (.int .i64 (ms.getD i do0).a) ∧ w.cell? ⟨b, off + i * 3 + 2, none⟩ = some (.int .i64 (ms.getD i do0).n) := by
        rcases huL with h0 | h
        · omega
        · exact h
      obtain ⟨b2, off2, rfl, hcap2, hcell2⟩ : ∃ b off, va = some ⟨b, off, none⟩ ∧ ms.length ≤ vc ∧ ∀ i, i < ms.length → w.cell? ⟨b, off + i * 3, none⟩ = some (.int .i64 (ms.getD i do0).k) ∧ w.cell? ⟨b, off + i * 3 + 1, none⟩ = some (.int .i64 (ms.getD i do0).a) ∧ w.cell? ⟨b, off + i * 3 + 2, none⟩ = some (.int .i64 (ms.getD i do0).n) := by
        rcases hvL with h0 | h
        · omega
        · exact h
      obtain ⟨g0, g1, g2⟩ := hcell k hlt
      obtain ⟨k0, k1, k2⟩ := hcell2 k hlt
      have e : ∀ a : Addr, wr.cell? a = w.cell? a := fun a => by rw [hwn]; rfl
      rw [← e] at g0 g1 g2 k0 k1 k2
      clear hcell hcell2 huL hvL hwn e
      generalize (ms.getD k do0).k = x0 at *
      generalize (ms.getD k do0).a = x1 at *
      generalize (ms.getD k do0).n = x2 at *
      have heq := eqDo x0 x1 x2
      have hgd := guardDo
      go_wp2_with fail
      go_quiet (fail)
      go_wp2
      go_roundw
      case rel => exact ⟨k + 1, by omega, by go_num, _, by rw [HW.out]; exact World.drewN_drewN _ _ _⟩
      case measure => simp [intOf]; omega
    · clear huL hvL hwn
      go_wp2_with fail
      go_ret
      exact ⟨rfl, n, HW.out⟩

set_option maxHeartbeats 4000000 in
theorem sameFls_any (u v : Value) (fs : List Fl) (w : World) (hu : FsAt w u fs) (hv : FsAt w v fs) (hl : fs.length ≤ 2000000) (hs : ∀ f ∈ fs, f.ms.length ≤ 2000000 ∧ f.ds.length ≤ 2000000) :
    Calls Try.prog 11 #[u, v] w fun e w' => e = .returned (.bool true) ∧ ∃ n, w' = w.drewN n := by
  obtain ⟨ua, uc, rfl, hun, huL⟩ := hu
  obtain ⟨va, vc, rfl, hvn, hvL⟩ := hv
  have HS := hide hs
  clear hs
  go_enter Try.func11, Try.ntmps11
  go_wp2_with fail
  go_loopw [5] (fun i wr => ∃ k : Nat, k ≤ fs.length ∧ i = .int .i64 k ∧ ∃ n, wr = w.drewN n) (fun i _ => fs.length - (intOf i).toNat)
  case atStart => exact ⟨0, by omega, rfl, 0, rfl⟩
  case round =>
    obtain ⟨k, hk, rfl, n, hwn⟩ := hrel
    have HW := hide hwn
    by_cases hlt : k < fs.length
    · obtain ⟨b, off, rfl, hcap, hcell⟩ : ∃ b off, ua = some ⟨b, off, none⟩ ∧ fs.length ≤ uc ∧ ∀ i, i < fs.length → FlAt w b (off + i * 4) (fs.getD i fl0) := by
        rcases huL with h0 | h
        · omega
        · exact h
      obtain ⟨b2, off2, rfl, hcap2, hcell2⟩ : ∃ b off, va = some ⟨b, off, none⟩ ∧ fs.length ≤ vc ∧ ∀ i, i < fs.length → FlAt w b (off + i * 4) (fs.getD i fl0) := by
        rcases hvL with h0 | h
        · omega
        · exact h
      obtain ⟨g0, g1, gm, gd, g2, g3, hm1, hd1⟩ := hcell k hlt
      obtain ⟨k0, k1, km, kd, k2, k3, hm2, hd2⟩ := hcell2 k hlt
      have hb := HS.out (fs.getD k fl0) (by rw [List.getD_eq_getElem?_getD, List.getElem?_eq_getElem hlt]; exact List.getElem_mem hlt)
      have e : ∀ a : Addr, wr.cell? a = w.cell? a := fun a => by rw [hwn]; rfl
      rw [← e] at g0 g1 g2 g3 k0 k1 k2 k3
      have hbe : ∀ m, Below w.heap.size w (wr.drewN m) := fun m => by
        rw [hwn]
        exact ⟨rfl, rfl, rfl, Nat.le_refl _, fun _ _ => rfl⟩
      have HM : Hid (∀ m, Calls Try.prog 26 #[gm, km] (wr.drewN m) fun e w' => e = .returned (.bool true) ∧ ∃ n, w' = (wr.drewN m).drewN n) := fun m => sameMs_any gm km (fs.getD k fl0).ms _ (hm1.below (hbe m) (Nat.le_refl _)) (hm2.below (hbe m) (Nat.le_refl _)) hb.1
      have HD : Hid (∀ m, Calls Try.prog 27 #[gd, kd] (wr.drewN m) fun e w' => e = .returned (.bool true) ∧ ∃ n, w' = (wr.drewN m).drewN n) := fun m => sameDs_any gd kd (fs.getD k fl0).ds _ (hd1.below (hbe m) (Nat.le_refl _)) (hd2.below (hbe m) (Nat.le_refl _)) hb.2
      obtain ⟨ma1, mc1, rfl, _⟩ := hm1
      obtain ⟨ma2, mc2, rfl, _⟩ := hm2
      obtain ⟨da1, dc1, rfl, _⟩ := hd1
      obtain ⟨da2, dc2, rfl, _⟩ := hd2
      clear hcell hcell2 huL hvL hwn e hbe hb
      generalize (fs.getD k fl0).t = x0 at *
      generalize (fs.getD k fl0).p = x1 at *
      generalize (fs.getD k fl0).ms.length = x2 at *
      generalize (fs.getD k fl0).ds.length = x3 at *
      go_wp2_with fail
      go_quiet ((first | (go_at_call 26; exact Calls.quiet_of (unhide HM _)) | (go_at_call 27; exact Calls.quiet_of (unhide HD _))))
      go_wp2
      go_roundw
      case rel => exact ⟨k + 1, by omega, by go_num, _, by rw [HW.out]; exact World.drewN_drewN _ _ _⟩
      case measure => simp [intOf]; omega
    · clear huL hvL hwn
      go_wp2_with fail
      go_ret
      exact ⟨rfl, n, HW.out⟩

end Go.Proofs.Ytonhfgdnkkkikac
