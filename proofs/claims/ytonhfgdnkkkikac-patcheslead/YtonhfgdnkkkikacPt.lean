/-
  flow.Patch, and the document's PatchedOf.
-/
import Derived.Test.YtonhfgdnkkkikacDf
namespace Go.Proofs.Ytonhfgdnkkkikac
open Go.RowKit
set_option linter.unusedVariables false
set_option maxRecDepth 100000

/-- Flows that came in, as a row that may be appended. -/
theorem come_lo {w : World} {ad : Addr} {cap : Nat} {fs : List Fl} (h : FsAt w (.slice (some ad) fs.length cap) fs) : ∃ lc : List Fv, lc.map Fv.f = fs ∧ lc.length = fs.length ∧ (∀ x ∈ lc, Held w x) ∧ ∀ j u, (C lc)[j]? = some u → w.cell? (ad.add j) = some u := by
  obtain ⟨_, _, lo, h1, h2, h3⟩ := fs_lo h
  have hll : lo.length = fs.length := by rw [← h1]; simp
  refine ⟨lo, h1, hll, h2, ?_⟩
  rcases h3 with h | ⟨b, off, h4, _, h5⟩
  · intro j u hj
    rw [List.eq_nil_of_length_eq_zero h] at hj
    simp [C] at hj
  · cases h4
    exact h5
/-- A row's flows behind an append to it. -/
def Keeps (w : World) (u : Value) (lo : List Fv) : Prop := ∀ W : World, w.grownBy W u.ownBlock → ∀ x ∈ lo, Held W x
theorem keeps_now {w : World} {u : Value} {lo : List Fv} (h : Keeps w u lo) : ∀ x ∈ lo, Held w x := h w (grown_refl w _)
theorem keeps_without {w4 w1 : World} {u : Value} {lo : List Fv} (hh : ∀ x ∈ lo, Held w4 x) (ho : w1.ownsRow w4.heap.size 41 4 u lo.length (C lo)) (hb : Below w4.heap.size w4 w1) : Keeps w1 u lo := fun W hW x hx =>
  (hh x hx).below (hb.grown hW hb.size (own_ge ho)) (Nat.le_refl _)
theorem keeps_left {w1 : World} {B : Nat} {u : Value} {lo : List Fv} (hr : Rows2 w1 B u lo (.slice none 0 0) []) : Keeps w1 u lo := fun W hW x hx => by
  have h := hr.oks x (by simp [hx])
  have := h.1.kept hW h.2.1 h.2.2.1
  exact ⟨this.1, this.2.1⟩
theorem put_fsAt {w w1 w2 : World} {B : Nat} {u v : Value} {lo lc : List Fv} (hk : Keeps w1 u lo) (hc : ∀ x ∈ lc, Held w x) (hb : Below w.heap.size w w2) (hg : w1.grownBy w2 u.ownBlock) (ho : w2.ownsRow B 41 4 v (lo.length + lc.length) (C lo ++ C lc)) : FsAt w2 v (lo.map Fv.f ++ lc.map Fv.f) := by
  rw [← List.map_append]
  rw [← C_append, ← List.length_append] at ho
  refine own_fsAt (w0 := w) ho fun x hx => ?_
  rcases List.mem_append.1 hx with h | h
  · exact hk w2 hg x h
  · exact (hc x h).below hb (Nat.le_refl _)

/-- Nothing appended to a row that has the room it needs. -/
theorem append_none (p : Option Addr) (n c : Nat) (h : n ≤ c) (w : World) (ty : TypeId) : (Builtin.append_ #[22, 22] ty #[.slice p n c, .slice none 0 0]).run Try.prog w = .ok (.slice p n c) w := by
  obtain ⟨i0, hi, hz0, hz1, hz2⟩ := info_parts infoFlow
  cases p <;> simp [Builtin.append_, run_underlying Try.underlying22, sizeOf, typeInfo, hi, Builtin.lenOf, Builtin.firstCells, h, storeCells]

theorem wpList_appendNone {ops : Array Oper} {rest : List Oper} {o : Oper} {a : Act} {Q : Exit → Act → World → Prop} {w : World} (hgd : o.guard = none) (s x : Operand)
    (ho : o.op = .call { callee := .builtin .append, args := #[s, x], argTypes := #[22, 22] }) (p : Option Addr) (n c : Nat) (h : n ≤ c) (hs : a.eval s = .slice p n c) (hx : a.eval x = .slice none 0 0)
    (hK : wpList Try.prog ops Q rest (a.put o.dst (.slice p n c)) w) : wpList Try.prog ops Q (o :: rest) a w := by
  refine wpList_plain hgd fun K hK' => ?_
  have hr := append_none p n c h w o.type
  unfold Oper.wp execOp
  simp only [ho, resolve, invoke, builtin, Sem.run_bind, Sem.run_pure, Result.andThen_ok, List.map_toArray, List.map_cons, List.map_nil, hs, hx, hr]
  exact hK' _ _ hK

set_option maxHeartbeats 2000000 in
theorem patch_any (vl vc vg : Value) (ls cs gs : List Fl) (w : World) (hL : FsAt w vl ls) (hC : FsAt w vc cs) (hG : FsAt w vg gs) (fl : Few ls) (fc : Few cs) (fg : Few gs) (hsum : ls.length + cs.length ≤ 2000000) :
    Calls Try.prog 12 #[vl, vc, vg] w fun e w' => ∃ u, e = .returned u ∧ FsAt w' u (srt (lft ls gs ++ cs) (lft ls gs ++ cs).length) ∧ Below w.heap.size w w' := by
  obtain ⟨i0, hi, hz0, hz1, hz2⟩ := info_parts infoFlow
  have HL := hide hL
  have HC := hide hC
  have HG := hide hG
  have HFL := hide fl
  have HFG := hide fg
  have HFW : Hid (Few (lft ls gs ++ cs)) := by
    refine hide ⟨?_, fun f hf => ?_⟩
    · have := lft_length ls gs
      rw [List.length_append]; omega
    · rcases List.mem_append.1 hf with h | h
      · exact fl.2 f (lft_mem h)
      · exact fc.2 f h
  obtain ⟨a, cap, rfl⟩ := fs_slice hL
  obtain ⟨a3, cap3, rfl⟩ := fs_slice hG
  obtain ⟨a2, cap2, rfl, hn2, hL2⟩ := hC
  have hlls := fl.1
  clear hL hG fl fc fg
  cases a2 with
  | none =>
    obtain rfl := hn2 rfl
    have h0 : cs.length = 0 := by
      rcases hL2 with h | ⟨_, _, h, _⟩
      · exact h
      · simp at h
    obtain rfl := List.eq_nil_of_length_eq_zero h0
    clear hL2 h0 hn2
    rw [show ([] : List Fl).length = 0 from rfl]
    rw [List.append_nil] at HFW ⊢
    go_enter Try.func12, Try.ntmps12
    go_wp2_with fail
    refine (withoutF_any _ _ ls gs _ HL.out HG.out HFL.out HFG.out).mono ?_
    rintro e w1 ⟨u, rfl, hu, hb1⟩
    have HU := hide hu
    obtain ⟨p1, c1, rfl, hpn, hpl⟩ := hu
    have hc1 : (lft ls gs).length ≤ c1 := by
      rcases hpl with h | ⟨_, _, _, h, _⟩
      · omega
      · exact h
    clear hpl hpn
    go_wp2_with (at_builtin; refine wpList_appendNone rfl _ _ rfl p1 (lft ls gs).length c1 hc1 rfl rfl ?_)
    refine (sort_any _ (lft ls gs) _ HU.out HFW.out.1 HFW.out.2).mono ?_
    rintro e w2 ⟨u2, rfl, hu2, hb2⟩
    have HU2 := hide hu2
    obtain ⟨p2, c2, rfl⟩ := fs_slice hu2
    have HB2 := hide (hb1.trans (hb2.mono hb1.size))
    clear hu2 hb1 hb2 HU
    go_wp2_with fail
    go_ret
    exact ⟨_, rfl, HU2.out, HB2.out⟩
  | some ad =>
    obtain ⟨lc, hlc, hlcl, hhc, hcell⟩ := come_lo HC.out
    have HLC := hide hlc
    have HHC := hide hhc
    have HCL := hide hcell
    have HCN : Hid ((C lc).length = cs.length * 4) := by
      rw [← hlcl]; exact hide (C_len lc)
    have HLL := hide hlcl
    clear hL2 hn2 hlc hhc hcell hlcl
    go_enter Try.func12, Try.ntmps12
    go_wp2_with fail
    refine (without_any _ _ ls gs _ HL.out HG.out HFL.out.1 HFG.out.1 HFL.out.2 HFG.out.2).mono ?_
    rintro e w1 ⟨u, rfl, lo, hm, w4, hh, ho, hb4, hb41⟩
    have HM := hide hm
    have HKP := hide (keeps_without hh ho hb41)
    have HO := hide ho
    have hb1 := hb4.trans (hb41.mono hb4.size)
    have hs4 : w.heap.size ≤ w4.heap.size := hb4.size
    have hs41 : w4.heap.size ≤ w1.heap.size := hb41.size
    have hll : lo.length ≤ ls.length := by
      have := congrArg List.length hm
      rw [List.length_map] at this
      rw [this]; exact List.length_filter_le _ _
    have HCW : Hid (∀ j u, (C lc)[j]? = some u → w1.cell? (ad.add j) = some u) := fun j u hj => by
      have h := HCL.out j u hj
      have hsp : (ad.add j).spot = none := World.cell?_spot h
      rcases hq : ad.add j with ⟨bb, oo, ss⟩
      rw [hq] at h hsp
      simp only at hsp
      subst hsp
      exact cell_below h hb1 (Nat.le_refl _)
    clear hm hh ho hb4 hb41
    go_wp2_with (at_builtin; refine wpList_append_own _ rfl _ _ 22 rfl w4.heap.size 41 i0 _ 4 64 Try.underlying22 hi hz0 hz1 hz2 rfl (by decide) _ _ _ rfl (unhide HO) ad cs.length cap2 (C lc) rfl (unhide HCN) (unhide HCW) (held_one (unhide HHC)) ?a1 ?a2 ?a3 ?_)
    case a1 => unfold maxLen; omega
    case a2 => omega
    case a3 => exact hs41
    intro v2 w2 ho2 hg2 _
    have hb2 : Below w.heap.size w w2 := hb1.grown hg2 hb1.size (fun g e => Nat.le_trans hs4 (own_ge HO.out g e))
    have HF2 : Hid (FsAt w2 v2 (lft ls gs ++ cs)) := by
      have := put_fsAt HKP.out HHC.out hb2 hg2 (by rw [HLL.out]; exact ho2)
      rw [HM.out, HLC.out] at this
      exact hide this
    obtain ⟨p2, c2, hv2⟩ := fs_slice HF2.out
    have HSRT := hide (sort_any v2 (lft ls gs ++ cs) w2 HF2.out HFW.out.1 HFW.out.2)
    obtain ⟨N, hN⟩ : ∃ N, N = (lft ls gs ++ cs).length := ⟨_, rfl⟩
    rw [← hN] at hv2
    subst hv2
    clear hN ho2 hg2 HO HKP HCW HCL hb1 HF2
    go_wp2_with fail
    refine (unhide HSRT).mono ?_
    rintro e w3 ⟨u3, rfl, hu3, hb3⟩
    have HU3 := hide hu3
    obtain ⟨p3, c3, hv3⟩ := fs_slice hu3
    obtain ⟨N3, hN3⟩ : ∃ N3, N3 = (srt (lft ls gs ++ cs) (lft ls gs ++ cs).length).length := ⟨_, rfl⟩
    rw [← hN3] at hv3
    subst hv3
    have HB3 := hide (hb2.trans (hb3.mono hb2.size))
    clear hu3 hb2 hb3 hN3 HSRT
    go_wp2_with fail
    go_ret
    exact ⟨_, rfl, HU3.out, HB3.out⟩

end Go.Proofs.Ytonhfgdnkkkikac
