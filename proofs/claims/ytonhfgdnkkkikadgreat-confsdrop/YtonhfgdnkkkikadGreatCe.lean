/-
  slices.Equal at switches, ports and rules, where both hold the same; slices.Clone at ports.
-/
import Derived.Test.YtonhfgdnkkkikadGreatCn
import Derived.Laws.StructEq
import Derived.Deep.QuietTactic
import Derived.BigQuiet
import Derived.Deep.AppendLies
import Derived.Lib.SlBytesConst
namespace Go.Proofs.YtonhfgdnkkkikadGreat
open Go.RowKit
set_option linter.unusedVariables false
set_option maxRecDepth 100000

theorem qqSw (x0 : Int) (x1 : Int) (x2 : Int) (w : World) : (Op.equalIn 10000 37 (.agg #[.int .i64 x0, .int .i64 x1, .int .i64 x2]) (.agg #[.int .i64 x0, .int .i64 x1, .int .i64 x2])).run Tryz.prog w = .ok true w := by
  have hS : Tryz.prog.underlying 37 = some (.struct (Tryz.prog.fieldsOf 37)) := by kernel_rfl
  have hp : Tryz.prog.stoodInHeld 37 = false := by kernel_rfl
  rw [show (10000 : Nat) = 9999 + 1 from rfl, run_equalIn_agg w 9999 37 _ _ hS hp]
  simp only [Program.fieldsOf, Tryz.underlying37]
  go_simp
theorem qgSw : Tryz.prog.eqGuardType Tryz.prog.depth 37 = false := by kernel_rfl
set_option maxHeartbeats 4000000 in
theorem equalSw_any (u v : Value) (l : List Sw) (w : World) (hu : RowAt swC 3 w u l) (hv : RowAt swC 3 w v l) (hl : l.length ≤ 2000000) :
    Calls Tryz.prog 8 #[u, v] w fun e w' => e = .returned (.bool true) ∧ Below w.heap.size w w' := by
  have HU := hide hu
  have HV := hide hv
  obtain ⟨ua, uc, rfl⟩ := hu.slice
  obtain ⟨va, vc, rfl⟩ := hv.slice
  clear hu hv
  go_enter Tryz.func8, Tryz.ntmps8
  go_wp2_with fail
  go_loopw [13] (fun i wr => ∃ k : Nat, k ≤ l.length ∧ i = .int .i64 k ∧ Below w.heap.size w wr) (fun i _ => l.length - (intOf i).toNat)
  case atStart => exact ⟨0, by omega, rfl, Below.refl _ _⟩
  case round =>
    obtain ⟨k, hk, rfl, k0⟩ := hrel
    by_cases hlt : k < l.length
    · obtain ⟨b, off, c1, e1, hcap, _, g0, g1, g2⟩ := sw_at (RowAt.below HU.out k0 (Nat.le_refl _)) hlt
      obtain ⟨b2, off2, c2, e2, hcap2, _, h0, h1, h2⟩ := sw_at (RowAt.below HV.out k0 (Nat.le_refl _)) hlt
      simp only [Value.slice.injEq, true_and] at e1 e2
      obtain ⟨rfl, rfl⟩ := e1
      obtain ⟨rfl, rfl⟩ := e2
      clear HU HV
      generalize (l.getD k sw0).i = x0 at *
      generalize (l.getD k sw0).t = x1 at *
      generalize (l.getD k sw0).g = x2 at *
      have heq := qqSw x0 x1 x2
      have hgd := qgSw
      have q3 : (0 : Int) ≤ (k : Int) := by omega
      have q4 : (k : Int) < (l.length : Int) := by omega
      go_wp2_with fail
      go_quiet (fail)
      go_wp2
      go_roundw
      case rel => exact ⟨k + 1, by omega, by go_num, ⟨k0.os, k0.tape, k0.output, k0.size, k0.block⟩⟩
      case measure => simp [intOf]; omega
    · clear HU HV
      go_wp2_with fail
      go_ret
      exact ⟨rfl, k0⟩

theorem qqPr (x0 : Int) (x1 : Int) (x2 : Int) (x3 : Int) (x4 : Int) (w : World) : (Op.equalIn 10000 32 (.agg #[.int .i64 x0, .int .i64 x1, .int .i64 x2, .int .i64 x3, .int .i64 x4]) (.agg #[.int .i64 x0, .int .i64 x1, .int .i64 x2, .int .i64 x3, .int .i64 x4])).run Tryz.prog w = .ok true w := by
  have hS : Tryz.prog.underlying 32 = some (.struct (Tryz.prog.fieldsOf 32)) := by kernel_rfl
  have hp : Tryz.prog.stoodInHeld 32 = false := by kernel_rfl
  rw [show (10000 : Nat) = 9999 + 1 from rfl, run_equalIn_agg w 9999 32 _ _ hS hp]
  simp only [Program.fieldsOf, Tryz.underlying32]
  go_simp
theorem qgPr : Tryz.prog.eqGuardType Tryz.prog.depth 32 = false := by kernel_rfl
set_option maxHeartbeats 4000000 in
theorem equalPr_any (u v : Value) (l : List Pr) (w : World) (hu : RowAt prC 5 w u l) (hv : RowAt prC 5 w v l) (hl : l.length ≤ 2000000) :
    Calls Tryz.prog 10 #[u, v] w fun e w' => e = .returned (.bool true) ∧ Below w.heap.size w w' := by
  have HU := hide hu
  have HV := hide hv
  obtain ⟨ua, uc, rfl⟩ := hu.slice
  obtain ⟨va, vc, rfl⟩ := hv.slice
  clear hu hv
  go_enter Tryz.func10, Tryz.ntmps10
  go_wp2_with fail
  go_loopw [13] (fun i wr => ∃ k : Nat, k ≤ l.length ∧ i = .int .i64 k ∧ Below w.heap.size w wr) (fun i _ => l.length - (intOf i).toNat)
  case atStart => exact ⟨0, by omega, rfl, Below.refl _ _⟩
  case round =>
    obtain ⟨k, hk, rfl, k0⟩ := hrel
    by_cases hlt : k < l.length
    · obtain ⟨b, off, c1, e1, hcap, _, g0, g1, g2, g3, g4⟩ := pr_at (RowAt.below HU.out k0 (Nat.le_refl _)) hlt
      obtain ⟨b2, off2, c2, e2, hcap2, _, h0, h1, h2, h3, h4⟩ := pr_at (RowAt.below HV.out k0 (Nat.le_refl _)) hlt
      simp only [Value.slice.injEq, true_and] at e1 e2
      obtain ⟨rfl, rfl⟩ := e1
      obtain ⟨rfl, rfl⟩ := e2
      clear HU HV
      generalize (l.getD k pr0).i = x0 at *
      generalize (l.getD k pr0).s = x1 at *
      generalize (l.getD k pr0).m = x2 at *
      generalize (l.getD k pr0).p = x3 at *
      generalize (l.getD k pr0).c = x4 at *
      have heq := qqPr x0 x1 x2 x3 x4
      have hgd := qgPr
      have q3 : (0 : Int) ≤ (k : Int) := by omega
      have q4 : (k : Int) < (l.length : Int) := by omega
      go_wp2_with fail
      go_quiet (fail)
      go_wp2
      go_roundw
      case rel => exact ⟨k + 1, by omega, by go_num, ⟨k0.os, k0.tape, k0.output, k0.size, k0.block⟩⟩
      case measure => simp [intOf]; omega
    · clear HU HV
      go_wp2_with fail
      go_ret
      exact ⟨rfl, k0⟩

theorem qqAc (x0 : Int) (x1 : Int) (x2 : Bool) (x3 : Int) (x4 : Int) (x5 : Int) (x6 : Int) (x7 : Int) (x8 : Bool) (w : World) : (Op.equalIn 10000 39 (.agg #[.int .i64 x0, .int .i64 x1, .bool x2, .int .i64 x3, .int .i64 x4, .int .i64 x5, .int .i64 x6, .int .i64 x7, .bool x8]) (.agg #[.int .i64 x0, .int .i64 x1, .bool x2, .int .i64 x3, .int .i64 x4, .int .i64 x5, .int .i64 x6, .int .i64 x7, .bool x8])).run Tryz.prog w = .ok true w := by
  have hS : Tryz.prog.underlying 39 = some (.struct (Tryz.prog.fieldsOf 39)) := by kernel_rfl
  have hp : Tryz.prog.stoodInHeld 39 = false := by kernel_rfl
  rw [show (10000 : Nat) = 9999 + 1 from rfl, run_equalIn_agg w 9999 39 _ _ hS hp]
  simp only [Program.fieldsOf, Tryz.underlying39]
  go_simp
theorem qgAc : Tryz.prog.eqGuardType Tryz.prog.depth 39 = false := by kernel_rfl
set_option maxHeartbeats 4000000 in
theorem equalAc_any (u v : Value) (l : List Ac) (w : World) (hu : RowAt acC 9 w u l) (hv : RowAt acC 9 w v l) (hl : l.length ≤ 2000000) :
    Calls Tryz.prog 9 #[u, v] w fun e w' => e = .returned (.bool true) ∧ Below w.heap.size w w' := by
  have HU := hide hu
  have HV := hide hv
  obtain ⟨ua, uc, rfl⟩ := hu.slice
  obtain ⟨va, vc, rfl⟩ := hv.slice
  clear hu hv
  go_enter Tryz.func9, Tryz.ntmps9
  go_wp2_with fail
  go_loopw [13] (fun i wr => ∃ k : Nat, k ≤ l.length ∧ i = .int .i64 k ∧ Below w.heap.size w wr) (fun i _ => l.length - (intOf i).toNat)
  case atStart => exact ⟨0, by omega, rfl, Below.refl _ _⟩
  case round =>
    obtain ⟨k, hk, rfl, k0⟩ := hrel
    by_cases hlt : k < l.length
    · obtain ⟨b, off, c1, e1, hcap, _, g0, g1, g2, g3, g4, g5, g6, g7, g8⟩ := ac_at (RowAt.below HU.out k0 (Nat.le_refl _)) hlt
      obtain ⟨b2, off2, c2, e2, hcap2, _, h0, h1, h2, h3, h4, h5, h6, h7, h8⟩ := ac_at (RowAt.below HV.out k0 (Nat.le_refl _)) hlt
      simp only [Value.slice.injEq, true_and] at e1 e2
      obtain ⟨rfl, rfl⟩ := e1
      obtain ⟨rfl, rfl⟩ := e2
      clear HU HV
      generalize (l.getD k ac0).s = x0 at *
      generalize (l.getD k ac0).p = x1 at *
      generalize (l.getD k ac0).n = x2 at *
      generalize (l.getD k ac0).src = x3 at *
      generalize (l.getD k ac0).sb = x4 at *
      generalize (l.getD k ac0).dst = x5 at *
      generalize (l.getD k ac0).db = x6 at *
      generalize (l.getD k ac0).o = x7 at *
      generalize (l.getD k ac0).d = x8 at *
      have heq := qqAc x0 x1 x2 x3 x4 x5 x6 x7 x8
      have hgd := qgAc
      have q3 : (0 : Int) ≤ (k : Int) := by omega
      have q4 : (k : Int) < (l.length : Int) := by omega
      go_wp2_with fail
      go_quiet (fail)
      go_wp2
      go_roundw
      case rel => exact ⟨k + 1, by omega, by go_num, ⟨k0.os, k0.tape, k0.output, k0.size, k0.block⟩⟩
      case measure => simp [intOf]; omega
    · clear HU HV
      go_wp2_with fail
      go_ret
      exact ⟨rfl, k0⟩

set_option maxHeartbeats 4000000 in
theorem clonePr_any (v : Value) (P : List Pr) (w : World) (hv : RowAt prC 5 w v P) (h0 : 0 < P.length) (h1 : P.length ≤ 40) :
    Calls Tryz.prog 12 #[v] w fun e w' => ∃ u, e = .returned u ∧ w'.ownsRow w.heap.size 32 5 u P.length (P.flatMap prC) ∧ Below w.heap.size w w' := by
  obtain ⟨i0, hi, hz0, hz1, hz2⟩ := info_parts infoPr
  have HV := hide hv
  obtain ⟨g, cap, rfl, hn, h | ⟨b, off, rfl, hc, _⟩⟩ := hv
  · omega
  have hnl := fun (w' : World) => Lib.run_eql_slice_nil (P := Tryz.prog) w' 25 32 (some ⟨b, off, none⟩) P.length cap 0 0 Tryz.underlying25
  go_enter Tryz.func12, Tryz.ntmps12
  have hoA : (w.alloc (.cells #[] 32)).ownsRow w.heap.size 32 5 (.slice (some ⟨w.heap.size, 0, none⟩) 0 0) 0 [] := World.ownsRow_made w #[] 0 (Nat.le_refl _) (by decide) rfl
  have HOA := hide hoA
  clear hoA
  go_wp2_with (at_builtin; refine wpList_append_own _ rfl _ _ 25 rfl w.heap.size 32 i0 _ 5 40 Tryz.underlying25 hi hz0 hz1 hz2 rfl (by decide) _ _ _ rfl (unhide HOA) ⟨b, off, none⟩ P.length cap (P.flatMap prC) rfl ?a1 ?a2 ?a3 ?a4 ?a5 ?a6 ?_)
  case a1 => exact flat_len prC_len P
  case a2 => exact RowAt.news prC_len (RowAt.below HV.out ((Below.refl _ w).alloc (Nat.le_refl _) _) (Nat.le_refl _))
  case a3 => exact prC_one P
  case a4 => unfold maxLen; omega
  case a5 => omega
  case a6 => simp
  intro v1 w1 ho1 hg1 _
  have hb1 : Below w.heap.size w w1 := ((Below.refl _ w).alloc (Nat.le_refl _) _).grown hg1 (by simp) (own_ge HOA.out)
  have ho1' : w1.ownsRow w.heap.size 32 5 v1 P.length (P.flatMap prC) := by simpa using ho1
  clear ho1 hg1 HOA
  go_wp2
  go_ret
  exact ⟨v1, rfl, ho1', hb1⟩

end Go.Proofs.YtonhfgdnkkkikadGreat
