/-
  The keepers' sameFlows at rows that hold the same.
-/
import Derived.Test.YtonhfgdnkkkikacKs
import Derived.Test.YtonhfgdnkkkikacDf
namespace Go.Proofs.Ytonhfgdnkkkikac
open Go.RowKit
set_option linter.unusedVariables false
set_option maxRecDepth 100000

set_option maxHeartbeats 4000000 in
theorem equalFls_any (ua va : Option Addr) (uc vc : Nat) (fs : List Fl) (w : World) (hu : FsAt w (.slice ua fs.length uc) fs) (hv : FsAt w (.slice va fs.length vc) fs) (hl : fs.length ≤ 2000000) (hs : ∀ f ∈ fs, f.ms.length ≤ 2000000 ∧ f.ds.length ≤ 2000000) :
    Calls Try.prog 40 #[.slice ua fs.length uc, .slice va fs.length vc, .func (.func 41) #[] #[]] w fun e w' => e = .returned (.bool true) ∧ Grw w w' := by
  have HU := hide hu
  have HV := hide hv
  have HS := hide hs
  clear hu hv hs
  go_enter Try.func40, Try.ntmps40
  go_wp2_with fail
  go_loopw [17] (fun i wr => ∃ k : Nat, k ≤ fs.length ∧ i = .int .i64 k ∧ Grw w wr) (fun i _ => fs.length - (intOf i).toNat)
  case atStart => exact ⟨0, by omega, rfl, Grw.refl _⟩
  case round =>
    obtain ⟨k, hk, rfl, hgr⟩ := hrel
    by_cases hlt : k < fs.length
    · obtain ⟨b, off, rfl, hcap, hcell⟩ := fsAt_one HU.out hlt
      obtain ⟨b2, off2, rfl, hcap2, hcell2⟩ := fsAt_one HV.out hlt
      obtain ⟨g0, g1, gm, gd, g2, g3, hm1, hd1⟩ := hcell.below hgr.below (Nat.le_refl _)
      obtain ⟨k0, k1, km, kd, k2, k3, hm2, hd2⟩ := hcell2.below hgr.below (Nat.le_refl _)
      have hbd := HS.out _ (getD_in hlt)
      have hb1 := cell_lt g0
      have hb2 := cell_lt k0
      obtain ⟨ma1, mc1, rfl, -, -⟩ := id hm1
      obtain ⟨ma2, mc2, rfl, -, -⟩ := id hm2
      obtain ⟨da1, dc1, rfl, -, -⟩ := id hd1
      obtain ⟨da2, dc2, rfl, -, -⟩ := id hd2
      have HC : Hid (∀ V : World, Grw wr V → Calls Try.prog 41 #[.agg #[.int .i64 (fs.getD k fl0).t, .int .i64 (fs.getD k fl0).p, .slice ma1 (fs.getD k fl0).ms.length mc1, .slice da1 (fs.getD k fl0).ds.length dc1], .agg #[.int .i64 (fs.getD k fl0).t, .int .i64 (fs.getD k fl0).p, .slice ma2 (fs.getD k fl0).ms.length mc2, .slice da2 (fs.getD k fl0).ds.length dc2]] V fun e w' => e = .returned (.bool true) ∧ Grw V w') := fun V hV =>
        eqFl_any (fs.getD k fl0) _ _ _ _ _ _ _ _ V (hm1.below hV.below (Nat.le_refl _)) (hd1.below hV.below (Nat.le_refl _)) (hm2.below hV.below (Nat.le_refl _)) (hd2.below hV.below (Nat.le_refl _)) hbd.1 hbd.2
      have HG := hide hgr
      clear hm1 hd1 hm2 hd2 hcell hcell2 hbd hgr
      generalize (fs.getD k fl0).t = x0 at *
      generalize (fs.getD k fl0).p = x1 at *
      generalize (fs.getD k fl0).ms.length = x2 at *
      generalize (fs.getD k fl0).ds.length = x3 at *
      have q1 : (0 : Int) ≤ (k : Int) := by omega
      have q2 : (k : Int) < (fs.length : Int) := by omega
      have hA : Grw wr ((wr.alloc (.cells #[.int .i64 x0, .int .i64 x1, .slice ma1 x2 mc1, .slice da1 x3 dc1] 41)).alloc (.cells #[.int .i64 x0, .int .i64 x1, .slice ma2 x2 mc2, .slice da2 x3 dc2] 41)) := ((Grw.refl wr).alloc _).alloc _
      have HA := hide hA
      clear hA
      go_wp2_with fail
      refine (unhide HC _ HA.out).mono ?_
      rintro e w1 ⟨rfl, hg1⟩
      have HG1 := hide ((HG.out.trans HA.out).trans hg1)
      clear hg1 HC HA HG g0 g1 g2 g3 k0 k1 k2 k3
      go_wp2_with fail
      go_roundw
      case rel => exact ⟨k + 1, by omega, by go_num, HG1.out⟩
      case measure => simp [intOf]; omega
    · have HG := hide hgr
      clear hgr
      go_wp2_with fail
      go_ret
      exact ⟨rfl, HG.out⟩

set_option maxHeartbeats 2000000 in
theorem keepSame_any (u v : Value) (fs : List Fl) (w : World) (hu : FsAt w u fs) (hv : FsAt w v fs) (hf : Few fs) :
    Calls Try.prog 20 #[u, v] w fun e w' => e = .returned (.bool true) ∧ Grw w w' := by
  obtain ⟨ua, uc, hu1⟩ := fs_slice hu
  obtain ⟨va, vc, hv1⟩ := fs_slice hv
  subst hu1 hv1
  have HE := hide (equalFls_any ua va uc vc fs w hu hv hf.1 hf.2)
  clear hu hv
  generalize fs.length = n at *
  go_enter Try.func20, Try.ntmps20
  go_wp2_with fail
  refine (unhide HE).mono ?_
  rintro e w1 ⟨rfl, hg1⟩
  have HG := hide hg1
  clear hg1 HE
  go_wp2_with fail
  go_ret
  exact ⟨rfl, HG.out⟩

end Go.Proofs.Ytonhfgdnkkkikac
