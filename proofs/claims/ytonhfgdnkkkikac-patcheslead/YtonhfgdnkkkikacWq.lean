/-
  flow.without.
-/
import Derived.Test.YtonhfgdnkkkikacWp
namespace Go.Proofs.Ytonhfgdnkkkikac
open Go.RowKit
set_option linter.unusedVariables false
set_option maxRecDepth 100000

theorem srt0_of {sl : List Fv} (h : sl.Pairwise fun a b => ¬ plc b.f a.f < 0) : Srt0 (sl.map Fv.f) := by
  intro i j hij hj
  have hj' : j < sl.length := by simpa using hj
  have hi' : i < sl.length := by omega
  have := List.pairwise_iff_getElem.1 h i j hi' hj' hij
  have e1 : (sl.map Fv.f).getD i fl0 = sl[i].f := by simp [List.getD, List.getElem?_eq_getElem hi']
  have e2 : (sl.map Fv.f).getD j fl0 = sl[j].f := by simp [List.getD, List.getElem?_eq_getElem hj']
  rw [e1, e2]
  exact Int.not_lt.1 fun hc => this ((plc_flip _ _).2 hc)
theorem kp_map (del : Fl → Bool) (lo : List Fv) : (kp del lo lo.length).map Fv.f = (lo.map Fv.f).filter fun f => !del f := by
  unfold kp
  rw [List.take_length, List.filter_map]
  rfl
theorem kp_mem {del : Fl → Bool} {lo : List Fv} {x : Fv} (h : x ∈ kp del lo lo.length) : x ∈ lo := by
  unfold kp at h
  rw [List.take_length] at h
  exact (List.mem_filter.1 h).1

set_option maxHeartbeats 1000000 in
theorem indexNone_any (p : Option Addr) (cap : Nat) (fv : Value) (w : World) : Calls Try.prog 81 #[.slice p 0 cap, fv] w fun e w' => e = .returned (.int .i64 (-1)) ∧ w' = w := by
  go_enter Try.func81, Try.ntmps81
  go_wp2_with fail
  refine wp_loop_rounds 1 ?_
  rw [rounds_succ]
  go_wp2_with fail
  go_ret
  exact ⟨rfl, rfl⟩
set_option maxHeartbeats 1000000 in
theorem deleteNone_any (p : Option Addr) (cap : Nat) (fv : Value) (w : World) : Calls Try.prog 50 #[.slice p 0 cap, fv] w fun e w' => e = .returned (.slice p 0 cap) ∧ w' = w := by
  go_enter Try.func50, Try.ntmps50
  go_wp2_with fail
  refine (indexNone_any p cap fv w).mono ?_
  rintro e w1 ⟨rfl, rfl⟩
  go_wp2_with fail
  go_ret
  exact ⟨rfl, rfl⟩

set_option maxHeartbeats 4000000 in
theorem without_any (vl vg : Value) (ls gs : List Fl) (w : World) (hF : FsAt w vl ls) (hG : FsAt w vg gs) (hl : ls.length ≤ 2000000) (hlg : gs.length ≤ 2000000) (hs : ∀ f ∈ ls, f.ms.length ≤ 2000000 ∧ f.ds.length ≤ 2000000) (hsg : ∀ f ∈ gs, f.ms.length ≤ 2000000 ∧ f.ds.length ≤ 2000000) :
    Calls Try.prog 23 #[vl, vg] w fun e w' => ∃ u, e = .returned u ∧ ∃ lo : List Fv, lo.map Fv.f = ls.filter (fun f => !th f gs gs.length) ∧ ∃ w4, (∀ x ∈ lo, Held w4 x) ∧ w'.ownsRow w4.heap.size 41 4 u lo.length (C lo) ∧ Below w.heap.size w w4 ∧ Below w4.heap.size w4 w' := by
  have HF := hide hF
  have HG := hide hG
  have HS := hide hs
  have HSG := hide hsg
  obtain ⟨a, cap, rfl, _, _⟩ := hF
  obtain ⟨a2, cap2, rfl, _, _⟩ := hG
  clear hs hsg
  go_enter Try.func23, Try.ntmps23
  go_wp2_with fail
  refine (fPlaces_any _).mono ?_
  rintro e w1 ⟨rfl, hw1⟩
  have hb1 : Below w.heap.size w w1 := by rw [hw1]; exact ((Below.refl _ _).alloc (Nat.le_refl _) _).alloc (by simp) _
  have HO1 : Hid (OrdAt w1 (w.heap.size + 1)) := by
    rw [hw1]
    have e : w.heap.size + 1 = (w.alloc sixO).heap.size := by simp
    refine hide ⟨w.heap.size, ?_, ?_⟩
    · rw [e]; simp
    · simp
  have hs1 := hb1.size
  clear hw1
  obtain ⟨G, hG⟩ : ∃ G, G = w.heap.size + 1 := ⟨_, rfl⟩
  rw [← hG] at HO1 ⊢
  clear hG
  go_wp2_with fail
  refine (ordered_any _ gs _ (HG.out.below hb1 (Nat.le_refl _)) hlg HSG.out).mono ?_
  rintro e w3 ⟨u, rfl, sl, hp, hsrt, hh, ho3, hb3⟩
  obtain ⟨so, sc, rfl, hsc, hsg⟩ := own_form ho3
  have hb03 := hb1.trans (hb3.mono hb1.size)
  have HO3 := hide (HO1.out.below hb3)
  have HFS : Hid (FsAt w3 (.slice so sl.length sc) (sl.map Fv.f)) := hide (own_fsAt (w0 := w) ho3 (fun x hx => (hh x hx).below hb3 (Nat.le_refl _)))
  have HSO := hide (srt0_of hsrt)
  have HPM : Hid (∀ f, f ∈ sl.map Fv.f ↔ f ∈ gs) := fun f => hp.mem_iff
  have HLN : Hid ((sl.map Fv.f).length ≤ 2000000) := by
    have := hp.length_eq
    exact hide (by omega)
  have HSL : Hid (∀ f ∈ sl.map Fv.f, f.ms.length ≤ 2000000 ∧ f.ds.length ≤ 2000000) := fun f hf => HSG.out f (hp.mem_iff.1 hf)
  have HML : Hid ((sl.map Fv.f).length = sl.length) := hide (List.length_map _)
  clear hp hh ho3 hsg hsrt hb3 HO1
  go_wp2_with fail
  obtain ⟨w4, hw4⟩ : ∃ w4, w4 = (w3.alloc (.cells #[.func (.func 89) #[] #[.pointer (some ⟨G, 0, none⟩)]] 62)).alloc (.cells #[.slice so sl.length sc] 22) := ⟨_, rfl⟩
  have hb34 : Below w3.heap.size w3 w4 := by rw [hw4]; exact ((Below.refl _ _).alloc (Nat.le_refl _) _).alloc (by simp) _
  have HB4 := hide (hb03.trans (hb34.mono hb03.size))
  have HE4 : Hid (EqAt w4 w3.heap.size G) := by
    refine hide ⟨by rw [hw4]; simp, HO3.out.below hb34⟩
  have HC4 : Hid (w4.cell? ⟨w3.heap.size + 1, 0, none⟩ = some (.slice so sl.length sc)) := by
    rw [hw4]
    have e : w3.heap.size + 1 = (w3.alloc (.cells #[.func (.func 89) #[] #[.pointer (some ⟨G, 0, none⟩)]] 62)).heap.size := by simp
    rw [e]
    exact hide (by simp)
  have HF4 := hide (HFS.out.below hb34 (Nat.le_refl _))
  rw [← hw4]
  clear hw4 hb34 HO3 HFS
  obtain ⟨OB, hOB⟩ : ∃ OB, OB = w3.heap.size := ⟨_, rfl⟩
  rw [← hOB] at HE4 HC4 ⊢
  clear hOB
  refine (freshFl_any _ ls w4 (HF.out.below HB4.out (Nat.le_refl _)) hl).mono ?_
  rintro e w5 ⟨v, lo, rfl, hlm, hh5, ho5, hb5⟩
  have HLM := hide hlm
  have HH5 := hide hh5
  have HO5 := hide ho5
  have HLL : Hid (lo.length ≤ 2000000) := by
    have := congrArg List.length hlm
    rw [List.length_map] at this
    exact hide (by omega)
  have HBD : Hid (∀ x ∈ lo, x.f.ms.length ≤ 2000000 ∧ x.f.ds.length ≤ 2000000) := fun x hx => HS.out x.f (by rw [← hlm]; exact List.mem_map_of_mem hx)
  clear hlm hh5
  by_cases h0 : lo.length = 0
  · obtain ⟨ua, uc, rfl, -, -⟩ := own_form ho5
    obtain rfl := List.eq_nil_of_length_eq_zero h0
    have HNL : Hid (ls = []) := HLM.out.symm
    clear ho5 HLM
    go_wp2_with fail
    refine (deleteNone_any _ _ _ _).mono ?_
    rintro e w6 ⟨rfl, rfl⟩
    have HB5 := hide hb5
    go_wp2_with fail
    go_ret
    exact ⟨_, rfl, [], by rw [HNL.out]; rfl, w4, by simp, HO5.out, HB4.out, HB5.out⟩
  · obtain ⟨blk, uc, rfl, _⟩ := ho5.form (by omega)
    obtain ⟨hblk0, hblk1⟩ := own_at ho5
    clear ho5
    have HW : Hid (∀ W : World, w5.grownBy W (some blk) → Below w4.heap.size w4 W) := fun W hW => hb5.grown hW hb5.size (by simp; omega)
    have HTS : Hid (Tests w5 blk (OB + 1) OB lo (fun f => th f gs gs.length)) := fun W x hW hx => by
      have hbW := HW.out W hW
      have hlen := HML.out
      have hFW := HF4.out.below hbW (Nat.le_refl _)
      rw [← hlen] at hFW
      have hcW := cell_below HC4.out hbW (Nat.le_refl _)
      rw [← hlen] at hcW
      refine (gone_any x (sl.map Fv.f) so sc (OB + 1) OB G W hFW HSO.out (HE4.out.below hbW) hcW ((HH5.out x hx).below hbW (Nat.le_refl _)) (HBD.out x hx).1 (HBD.out x hx).2 HLN.out HSL.out).mono ?_
      rintro e w' ⟨fd, rfl, hfd, hg⟩
      refine ⟨?_, hg⟩
      have : fd = th x.f gs gs.length := by
        rw [Bool.eq_iff_iff, hfd, th_mem]
        exact HPM.out x.f
      rw [this]
    have HHH : Hid (∀ x ∈ lo, Held w5 x) := fun x hx => (HH5.out x hx).below hb5 (Nat.le_refl _)
    clear hb5
    go_wp2_with fail
    refine (delete_any lo (fun f => th f gs gs.length) w4.heap.size uc (OB + 1) OB HO5.out HTS.out HHH.out HLL.out).mono ?_
    rintro e w6 ⟨rfl, ho6, hg6⟩
    have HO6 := hide ho6
    have HB6 := hide (HW.out w6 hg6)
    clear ho6 hg6 HO5 HTS HHH
    go_wp2_with fail
    go_ret
    exact ⟨_, rfl, kp (fun f => th f gs gs.length) lo lo.length, by rw [kp_map, HLM.out], w4, fun x hx => HH5.out x (kp_mem hx), HO6.out, HB4.out, HB6.out⟩

end Go.Proofs.Ytonhfgdnkkkikac
