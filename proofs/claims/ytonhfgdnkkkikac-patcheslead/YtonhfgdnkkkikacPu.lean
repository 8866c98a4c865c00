/-
  The document's PatchedOf.
-/
import Derived.Test.YtonhfgdnkkkikacPt
namespace Go.Proofs.Ytonhfgdnkkkikac
open Go.RowKit
set_option linter.unusedVariables false
set_option maxRecDepth 100000

theorem srt_in (l : List Fl) (x : Fl) : x ∈ srt l l.length ↔ x ∈ l := by
  rw [(srt_srt l l.length (Nat.le_refl _)).2, List.take_length]
theorem srt_same {a b : List Fl} (h : ∀ x, x ∈ a ↔ x ∈ b) : srt a a.length = srt b b.length :=
  srt_is (srt_srt a a.length (Nat.le_refl _)).1 fun x => by rw [srt_in]; exact h x
theorem sortedF_any (v : Value) (fs : List Fl) (w : World) (hF : FsAt w v fs) (hf : Few fs) :
    Calls Try.prog 25 #[v] w fun e w' => ∃ u, e = .returned u ∧ FsAt w' u (srt fs fs.length) ∧ Below w.heap.size w w' := by
  refine (sortedOf_any v fs w hF hf.1 hf.2).mono ?_
  rintro e w' ⟨u, lo, rfl, hm, hr, hb⟩
  have := own_fsAt (w0 := w) hr.out (fun x hx => ⟨(hr.oks x (by simp [hx])).1.1, (hr.oks x (by simp [hx])).1.2.1⟩)
  rw [hm] at this
  exact ⟨u, rfl, this, hb⟩

set_option maxHeartbeats 2000000 in
theorem patchedOf_any (vl vc vg : Value) (ls cs gs : List Fl) (w : World) (hL : FsAt w vl ls) (hC : FsAt w vc cs) (hG : FsAt w vg gs) (fl : Few ls) (fc : Few cs) (fg : Few gs) (hsum : ls.length + cs.length ≤ 2000000) :
    Calls Try.prog 13 #[vl, vc, vg] w fun e w' => ∃ u, e = .returned u ∧ FsAt w' u (srt (srt (lft ls gs) (lft ls gs).length ++ cs) (srt (lft ls gs) (lft ls gs).length ++ cs).length) ∧ Below w.heap.size w w' := by
  obtain ⟨i0, hi, hz0, hz1, hz2⟩ := info_parts infoFlow
  have HL := hide hL
  have HC := hide hC
  have HG := hide hG
  have HFL := hide fl
  have HFG := hide fg
  have HFW : Hid (Few (srt (lft ls gs) (lft ls gs).length ++ cs)) := by
    refine hide ⟨?_, fun f hf => ?_⟩
    · have := lft_length ls gs
      have := srt_length (lft ls gs) (lft ls gs).length
      rw [List.length_append]; omega
    · rcases List.mem_append.1 hf with h | h
      · exact fl.lft.srt.2 f h
      · exact fc.2 f h
  obtain ⟨a, cap, rfl⟩ := fs_slice hL
  obtain ⟨a3, cap3, rfl⟩ := fs_slice hG
  obtain ⟨a2, cap2, rfl, hn2, hL2⟩ := hC
  have hlls := fl.1
  clear hL hG fl fc fg
  cases a2 with
  | none =>
    obtain rfl := hn2 rfl
    have h0 : cs.length = 0 := by
      rcases hL2 with h | ⟨_, _, h, _⟩
      · exact h
      · simp at h
    obtain rfl := List.eq_nil_of_length_eq_zero h0
    clear hL2 h0 hn2
    rw [show ([] : List Fl).length = 0 from rfl]
    rw [List.append_nil] at HFW ⊢
    go_enter Try.func13, Try.ntmps13
    go_wp2_with fail
    refine (leftF_any _ _ ls gs _ HL.out HG.out HFL.out HFG.out).mono ?_
    rintro e w1 ⟨u, rfl, hu, hb1⟩
    have HU := hide hu
    obtain ⟨p1, c1, rfl, hpn, hpl⟩ := hu
    have hc1 : (srt (lft ls gs) (lft ls gs).length).length ≤ c1 := by
      rcases hpl with h | ⟨_, _, _, h, _⟩
      · omega
      · exact h
    clear hpl hpn
    go_wp2_with (at_builtin; refine wpList_appendNone rfl _ _ rfl p1 _ c1 hc1 rfl rfl ?_)
    refine (sortedF_any _ (srt (lft ls gs) (lft ls gs).length) _ HU.out HFW.out).mono ?_
    rintro e w2 ⟨u2, rfl, hu2, hb2⟩
    have HU2 := hide hu2
    obtain ⟨p2, c2, rfl⟩ := fs_slice hu2
    have HB2 := hide (hb1.trans (hb2.mono hb1.size))
    clear hu2 hb1 hb2 HU
    go_wp2_with fail
    go_ret
    exact ⟨_, rfl, HU2.out, HB2.out⟩
  | some ad =>
    obtain ⟨lc, hlc, hlcl, hhc, hcell⟩ := come_lo HC.out
    have HLC := hide hlc
    have HHC := hide hhc
    have HCL := hide hcell
    have HCN : Hid ((C lc).length = cs.length * 4) := by
      rw [← hlcl]; exact hide (C_len lc)
    have HLL := hide hlcl
    clear hL2 hn2 hlc hhc hcell hlcl
    go_enter Try.func13, Try.ntmps13
    go_wp2_with fail
    refine (leftOf_any _ _ ls gs _ HL.out HG.out HFL.out.1 HFG.out.1 HFL.out.2 HFG.out.2).mono ?_
    rintro e w1 ⟨u, rfl, lo, BB, hBB, hm, hr, hb1⟩
    rw [lf_lft] at hm
    have HM := hide hm
    have HKP := hide (keeps_left hr)
    have HO := hide (own_less hr.out hBB)
    have hs1 : w.heap.size ≤ w1.heap.size := hb1.size
    have hll : lo.length ≤ ls.length := by
      have := congrArg List.length hm
      rw [List.length_map] at this
      have h2 := srt_length (lft ls gs) (lft ls gs).length
      have h3 := lft_length ls gs
      omega
    obtain ⟨q1, qc, rfl, -, -⟩ := own_form hr.out
    have HCW : Hid (∀ j u, (C lc)[j]? = some u → w1.cell? (ad.add j) = some u) := fun j u hj => by
      have h := HCL.out j u hj
      have hsp : (ad.add j).spot = none := World.cell?_spot h
      rcases hq : ad.add j with ⟨bb, oo, ss⟩
      rw [hq] at h hsp
      simp only at hsp
      subst hsp
      exact cell_below h hb1 (Nat.le_refl _)
    clear hm hr hBB
    go_wp2_with (at_builtin; refine wpList_append_own _ rfl _ _ 22 rfl w.heap.size 41 i0 _ 4 64 Try.underlying22 hi hz0 hz1 hz2 rfl (by decide) _ _ _ rfl (unhide HO) ad cs.length cap2 (C lc) rfl (unhide HCN) (unhide HCW) (held_one (unhide HHC)) ?a1 ?a2 ?a3 ?_)
    case a1 => unfold maxLen; omega
    case a2 => omega
    case a3 => exact hs1
    intro v2 w2 ho2 hg2 _
    have hb2 : Below w.heap.size w w2 := hb1.grown hg2 hb1.size (own_ge HO.out)
    have HF2 : Hid (FsAt w2 v2 (srt (lft ls gs) (lft ls gs).length ++ cs)) := by
      have := put_fsAt HKP.out HHC.out hb2 hg2 (by rw [HLL.out]; exact ho2)
      rw [HM.out, HLC.out] at this
      exact hide this
    obtain ⟨p2, c2, hv2⟩ := fs_slice HF2.out
    have HSRT := hide (sortedF_any v2 (srt (lft ls gs) (lft ls gs).length ++ cs) w2 HF2.out HFW.out)
    obtain ⟨N, hN⟩ : ∃ N, N = (srt (lft ls gs) (lft ls gs).length ++ cs).length := ⟨_, rfl⟩
    rw [← hN] at hv2
    subst hv2
    clear hN ho2 hg2 HO HKP HCW HCL hb1 HF2
    go_wp2_with fail
    refine (unhide HSRT).mono ?_
    rintro e w3 ⟨u3, rfl, hu3, hb3⟩
    have HU3 := hide hu3
    obtain ⟨p3, c3, hv3⟩ := fs_slice hu3
    obtain ⟨N3, hN3⟩ : ∃ N3, N3 = (srt (srt (lft ls gs) (lft ls gs).length ++ cs) (srt (lft ls gs) (lft ls gs).length ++ cs).length).length := ⟨_, rfl⟩
    rw [← hN3] at hv3
    subst hv3
    have HB3 := hide (hb2.trans (hb3.mono hb2.size))
    clear hu3 hb2 hb3 hN3 HSRT
    go_wp2_with fail
    go_ret
    exact ⟨_, rfl, HU3.out, HB3.out⟩

end Go.Proofs.Ytonhfgdnkkkikac
