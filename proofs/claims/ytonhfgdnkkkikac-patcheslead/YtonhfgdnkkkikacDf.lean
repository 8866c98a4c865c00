/-
  flow.Diff; the law's walk over it.
-/
import Derived.Test.YtonhfgdnkkkikacWq
import Derived.Test.YtonhfgdnkkkikacSm
namespace Go.Proofs.Ytonhfgdnkkkikac
open Go.RowKit
set_option linter.unusedVariables false
set_option maxRecDepth 100000

/-- Those of some flows that others are not. -/
def lft (xs ys : List Fl) : List Fl := xs.filter fun f => !th f ys ys.length
theorem lf_take (xs ys : List Fl) : ∀ k, k ≤ xs.length → lf xs ys k = (xs.take k).filter fun f => !th f ys ys.length
  | 0, _ => by simp [lf]
  | k + 1, hk => by
    have h : k < xs.length := by omega
    have e : xs.getD k fl0 = xs[k] := by simp [List.getD, List.getElem?_eq_getElem h]
    rw [lf, lf_take xs ys k (by omega), List.take_succ_eq_append_getElem h, List.filter_append, e]
    by_cases hd : th xs[k] ys ys.length = true
    · rw [if_pos hd]; simp [hd]
    · rw [if_neg hd]; simp [hd]
theorem lf_lft (xs ys : List Fl) : lf xs ys xs.length = lft xs ys := by
  rw [lf_take xs ys _ (Nat.le_refl _), List.take_length]; rfl
theorem lft_length (xs ys : List Fl) : (lft xs ys).length ≤ xs.length := List.length_filter_le _ _
theorem lft_mem {xs ys : List Fl} {f : Fl} (h : f ∈ lft xs ys) : f ∈ xs := (List.mem_filter.1 h).1

/-- Few enough flows, of few enough matches and doings. -/
def Few (fs : List Fl) : Prop := fs.length ≤ 2000000 ∧ ∀ f ∈ fs, f.ms.length ≤ 2000000 ∧ f.ds.length ≤ 2000000
theorem Few.lft {xs ys : List Fl} (h : Few xs) : Few (lft xs ys) := ⟨Nat.le_trans (lft_length xs ys) h.1, fun f hf => h.2 f (lft_mem hf)⟩
theorem Few.srt {xs : List Fl} (h : Few xs) : Few (srt xs xs.length) := ⟨Nat.le_trans (srt_length xs xs.length) h.1, fun f hf => h.2 f (srt_mem xs xs.length (Nat.le_refl _) f hf)⟩

/-- flow.without, as a row of flows. -/
theorem withoutF_any (vl vg : Value) (ls gs : List Fl) (w : World) (hF : FsAt w vl ls) (hG : FsAt w vg gs) (hl : Few ls) (hg : Few gs) :
    Calls Try.prog 23 #[vl, vg] w fun e w' => ∃ u, e = .returned u ∧ FsAt w' u (lft ls gs) ∧ Below w.heap.size w w' := by
  refine (without_any vl vg ls gs w hF hG hl.1 hg.1 hl.2 hg.2).mono ?_
  rintro e w' ⟨u, rfl, lo, hm, w4, hh, ho, hb, hb'⟩
  have := own_fsAt (w0 := w) ho (fun x hx => (hh x hx).below hb' (Nat.le_refl _))
  rw [hm] at this
  exact ⟨u, rfl, this, hb.trans (hb'.mono hb.size)⟩
theorem leftF_any (va vb : Value) (xs ys : List Fl) (w : World) (hA : FsAt w va xs) (hB : FsAt w vb ys) (hx : Few xs) (hy : Few ys) :
    Calls Try.prog 10 #[va, vb] w fun e w' => ∃ u, e = .returned u ∧ FsAt w' u (srt (lft xs ys) (lft xs ys).length) ∧ Below w.heap.size w w' := by
  refine (leftOf_any va vb xs ys w hA hB hx.1 hy.1 hx.2 hy.2).mono ?_
  rintro e w' ⟨u, rfl, lo, B, hB, hm, hr, hb⟩
  rw [lf_lft] at hm
  have := own_fsAt (w0 := w) hr.out (fun x hx => ⟨(hr.oks x (by simp [hx])).1.1, (hr.oks x (by simp [hx])).1.2.1⟩)
  rw [hm] at this
  exact ⟨u, rfl, this, hb⟩

theorem fs_slice {w : World} {v : Value} {fs : List Fl} (h : FsAt w v fs) : ∃ a cap, v = .slice a fs.length cap := by
  obtain ⟨a, cap, h, _⟩ := h
  exact ⟨a, cap, h⟩

set_option maxHeartbeats 2000000 in
theorem diff_any (va vb : Value) (xs ys : List Fl) (w : World) (hA : FsAt w va xs) (hB : FsAt w vb ys) (hx : Few xs) (hy : Few ys) :
    Calls Try.prog 9 #[va, vb] w fun e w' => ∃ u v, e = .returned (.tuple #[u, v]) ∧ FsAt w' u (srt (lft ys xs) (lft ys xs).length) ∧ FsAt w' v (srt (lft xs ys) (lft xs ys).length) ∧ Below w.heap.size w w' := by
  have HA := hide hA
  have HB := hide hB
  have HX := hide hx
  have HY := hide hy
  obtain ⟨a, cap, rfl⟩ := fs_slice hA
  obtain ⟨a2, cap2, rfl⟩ := fs_slice hB
  clear hA hB hx hy
  go_enter Try.func9, Try.ntmps9
  go_wp2_with fail
  refine (withoutF_any _ _ ys xs _ HB.out HA.out HY.out HX.out).mono ?_
  rintro e w1 ⟨u1, rfl, hu1, hb1⟩
  have HU1 := hide hu1
  obtain ⟨p1, c1, rfl⟩ := fs_slice hu1
  clear hu1
  go_wp2_with fail
  refine (sort_any _ (lft ys xs) _ HU1.out HY.out.lft.1 HY.out.lft.2).mono ?_
  rintro e w2 ⟨u2, rfl, hu2, hb2⟩
  have HU2 := hide hu2
  obtain ⟨p2, c2, rfl⟩ := fs_slice hu2
  have hb02 := hb1.trans (hb2.mono hb1.size)
  clear hu2 hb1 hb2 HU1
  go_wp2_with fail
  refine (withoutF_any _ _ xs ys _ (HA.out.below hb02 (Nat.le_refl _)) (HB.out.below hb02 (Nat.le_refl _)) HX.out HY.out).mono ?_
  rintro e w3 ⟨u3, rfl, hu3, hb3⟩
  have HU3 := hide hu3
  obtain ⟨p3, c3, rfl⟩ := fs_slice hu3
  clear hu3
  go_wp2_with fail
  refine (sort_any _ (lft xs ys) _ HU3.out HX.out.lft.1 HX.out.lft.2).mono ?_
  rintro e w4 ⟨u4, rfl, hu4, hb4⟩
  have HU4 := hide hu4
  obtain ⟨p4, c4, rfl⟩ := fs_slice hu4
  have hb24 := hb3.trans (hb4.mono hb3.size)
  have HU5 := hide (HU2.out.below hb24 (Nat.le_refl _))
  have HBB := hide (hb02.trans (hb24.mono hb02.size))
  clear hu4 hb3 hb4 HU3 hb24 hb02 HU2
  go_wp2_with fail
  go_ret2
  exact ⟨_, _, rfl, HU5.out, HU4.out, HBB.out⟩

end Go.Proofs.Ytonhfgdnkkkikac
