/-
  flow.Sort: the flows in their places, each once.
-/
import Derived.Test.YtonhfgdnkkkikacSj
namespace Go.Proofs.Ytonhfgdnkkkikac
open Go.RowKit
set_option linter.unusedVariables false
set_option maxRecDepth 100000

theorem map_set_f (l : List Fv) (i : Nat) (x : Fv) (h : i < l.length) (hx : x.f = (l.getD i fv0).f) : (l.set i x).map Fv.f = l.map Fv.f := by
  refine List.ext_getElem? fun j => ?_
  simp only [List.getElem?_map, List.getElem?_set]
  by_cases e : i = j
  · subst e
    simp only [h, if_true, Option.map_some]
    rw [List.getElem?_eq_getElem h, Option.map_some, hx]
    simp [List.getD, List.getElem?_eq_getElem h]
  · simp [e]
theorem mem_set_or {l : List Fv} {i : Nat} {x y : Fv} (h : y ∈ l.set i x) : y = x ∨ y ∈ l := by
  rcases List.mem_or_eq_of_mem_set h with h | h
  · exact .inr h
  · exact .inl h
theorem FoOk.grown {w w' : World} {blk : Nat} {x : Fv} (h : FoOk w blk x) (hb : Below w.heap.size w w') : FoOk w' blk x := ⟨h.1.below hb (Nat.le_refl _), h.2⟩
theorem FoOk.setBlk {w : World} {blk j : Nat} {v : Value} {x : Fv} (h : FoOk w blk x) : FoOk (w.setCell ⟨blk, j, none⟩ v) blk x := h.kept2 (grown_set (grown_refl w _))
/-- A row of flows as what comes in is said. -/
theorem row_fsAt {w : World} {B blk cap : Nat} {l : List Fv} (h : w.ownsRow B 41 4 (.slice (some ⟨blk, 0, none⟩) l.length cap) l.length (C l)) (hok : ∀ x ∈ l, Held w x) : FsAt w (.slice (some ⟨blk, 0, none⟩) l.length cap) (l.map Fv.f) := by
  have hc : l.length ≤ cap := by
    obtain ⟨_, ⟨h, _⟩ | ⟨g', cap', cur, hv, _, _, hnc, _⟩⟩ := h
    · simp at h
    · simp only [Value.slice.injEq] at hv; omega
  refine ⟨_, cap, by simp, by simp, .inr ⟨blk, 0, rfl, by simpa using hc, fun i hi => ?_⟩⟩
  have hi' : i < l.length := by simpa using hi
  obtain ⟨c0, c1, c2, c3⟩ := row_cells h hi'
  have e : (l.map Fv.f).getD i fl0 = (l.getD i fv0).f := by simp [List.getD, List.getElem?_eq_getElem hi']
  rw [e, Nat.zero_add]
  have hh := hok _ (getD_mem hi')
  exact ⟨c0, c1, _, _, c2, c3, hh.1, hh.2⟩

set_option maxHeartbeats 1000000 in
theorem compactNone_any (p : Option Addr) (cap : Nat) (fv : Value) (w : World) : Calls Try.prog 35 #[.slice p 0 cap, fv] w fun e w' => e = .returned (.slice p 0 cap) ∧ w' = w := by
  go_enter Try.func35, Try.ntmps35
  go_wp2_with fail
  go_ret
  exact ⟨rfl, rfl⟩

set_option maxHeartbeats 8000000 in
theorem sort_any (v : Value) (fs : List Fl) (w : World) (hF : FsAt w v fs) (hl : fs.length ≤ 2000000) (hs : ∀ f ∈ fs, f.ms.length ≤ 2000000 ∧ f.ds.length ≤ 2000000) :
    Calls Try.prog 19 #[v] w fun e w' => ∃ u, e = .returned u ∧ FsAt w' u (srt fs fs.length) ∧ Below w.heap.size w w' := by
  have HF := hide hF
  have HS := hide hs
  obtain ⟨a, cap, rfl, _, _⟩ := hF
  clear hs
  go_enter Try.func19, Try.ntmps19
  go_wp2_with fail
  refine (fPlaces_any _).mono ?_
  rintro e w1 ⟨rfl, hw1⟩
  have hb1 : Below w.heap.size w w1 := by rw [hw1]; exact ((Below.refl _ _).alloc (Nat.le_refl _) _).alloc (by simp) _
  have HO1 : Hid (OrdAt w1 (w.heap.size + 1)) := by
    rw [hw1]
    have e : w.heap.size + 1 = (w.alloc sixO).heap.size := by simp
    refine hide ⟨w.heap.size, ?_, ?_⟩
    · rw [e]; simp
    · simp
  have hs1 := hb1.size
  clear hw1
  obtain ⟨G, hG⟩ : ∃ G, G = w.heap.size + 1 := ⟨_, rfl⟩
  rw [← hG] at HO1 ⊢
  clear hG
  go_wp2_with fail
  obtain ⟨w2, hw2⟩ : ∃ w2, w2 = w1.alloc (.cells #[.func (.func 89) #[] #[.pointer (some ⟨G, 0, none⟩)]] 62) := ⟨_, rfl⟩
  have hb12 : Below w1.heap.size w1 w2 := by rw [hw2]; exact (Below.refl _ _).alloc (Nat.le_refl _) _
  have hb2 : Below w.heap.size w w2 := hb1.trans (hb12.mono hs1)
  have HE2 : Hid (EqAt w2 w1.heap.size G) := by
    refine hide ⟨by rw [hw2]; simp, HO1.out.below hb12⟩
  rw [← hw2]
  clear hw2 hb12 HO1
  obtain ⟨OB, hOB⟩ : ∃ OB, OB = w1.heap.size := ⟨_, rfl⟩
  rw [← hOB] at HE2 ⊢
  clear hOB
  refine (ordered_any _ fs w2 (HF.out.below hb2 (Nat.le_refl _)) hl HS.out).mono ?_
  rintro e w3 ⟨u, rfl, lo, hp, hsrt, hh, ho3, hb3⟩
  have hb03 := hb2.trans (hb3.mono hb2.size)
  have HSR : Hid ((ddTo lo lo.length).map Fv.f = srt fs fs.length) := by
    obtain ⟨q1, q2, _⟩ := ddTo_srt lo hsrt lo.length (Nat.le_refl _)
    exact srt_is q1 (fun x => by rw [q2, List.take_length]; exact hp.mem_iff)
  have HLL : Hid (lo.length ≤ 2000000) := by
    have := hp.length_eq
    simp only [List.length_map] at this
    exact hide (by omega)
  have HBD : Hid (∀ x ∈ lo, x.f.ms.length ≤ 2000000 ∧ x.f.ds.length ≤ 2000000) := fun x hx => HS.out x.f (hp.mem_iff.1 (List.mem_map_of_mem hx))
  have HH := hide hh
  clear hh hp hsrt
  by_cases h0 : lo.length = 0
  · obtain ⟨ua, uc, rfl, hua⟩ : ∃ a c, u = .slice a 0 c ∧ (a = none → c = 0) := by
      obtain ⟨_, ⟨rfl, _⟩ | ⟨g, cap, cur, rfl, _⟩⟩ := ho3
      · exact ⟨_, _, rfl, fun _ => rfl⟩
      · exact ⟨_, _, by rw [h0], by simp⟩
    obtain rfl := List.eq_nil_of_length_eq_zero h0
    have HSN : Hid (srt fs fs.length = []) := by show _ = _; rw [← HSR.out]; rfl
    clear ho3 HH HBD HSR HLL
    go_wp2_with fail
    refine (compactNone_any _ _ _ _).mono ?_
    rintro e w4 ⟨rfl, rfl⟩
    go_wp2_with fail
    refine wp_loop_rounds 1 ?_
    rw [rounds_succ]
    go_wp2_with fail
    go_ret
    exact ⟨_, rfl, by rw [HSN.out]; exact ⟨ua, uc, rfl, hua, .inl rfl⟩, hb03⟩
  · obtain ⟨blk, uc, rfl, _⟩ := ho3.form (by omega)
    have HO3 := hide ho3
    obtain ⟨hblk0, hblk1⟩ := own_at ho3
    clear ho3
    have HE3 : Hid (EqAt2 w3 OB G blk) := by
      obtain ⟨e1, q, o0, o1, o2, o3, o4, o5, o6⟩ := HE2.out
      have l1 := cell_lt e1
      have l2 := cell_lt o0
      have l3 := cell_lt o1
      exact hide ⟨by omega, cell_below e1 hb3 (Nat.le_refl _), by omega, q, by omega, cell_below o0 hb3 (Nat.le_refl _), cell_below o1 hb3 (Nat.le_refl _), cell_below o2 hb3 (Nat.le_refl _), cell_below o3 hb3 (Nat.le_refl _), cell_below o4 hb3 (Nat.le_refl _), cell_below o5 hb3 (Nat.le_refl _), cell_below o6 hb3 (Nat.le_refl _)⟩
    have HFO : Hid (∀ x ∈ lo, FoOk w3 blk x) := fun x hx => by
      obtain ⟨q1, q2⟩ := (HH.out x hx).away hblk0
      exact ⟨(HH.out x hx).below hb3 (Nat.le_refl _), q1, q2, (HBD.out x hx).1, (HBD.out x hx).2⟩
    go_wp2_with fail
    refine (compact_any lo w2.heap.size blk uc OB G w3 HO3.out HE3.out HFO.out (by omega) HLL.out).mono ?_
    rintro e w4 ⟨rfl, ho4, hg4⟩
    have HO4 := hide ho4
    have hb04 : Below w.heap.size w w4 := hb03.grown hg4 hb03.size (fun k hk => by cases hk; exact Nat.le_trans hb2.size hblk0)
    have HF4 : Hid (∀ x ∈ ddTo lo lo.length, FoOk w4 blk x) := fun x hx => (HFO.out x (by have := ddTo_mem lo lo.length (Nat.le_refl _) x hx; rwa [List.take_length] at this)).kept2 hg4
    have HML : Hid ((ddTo lo lo.length).length ≤ 2000000) := hide (Nat.le_trans (ddTo_le lo lo.length) HLL.out)
    have hblkw : w.heap.size ≤ blk := Nat.le_trans hb2.size hblk0
    clear ho4 hg4 HFO HE3 HO3 HH HBD HLL hb03
    generalize ddTo lo lo.length = l2 at *
    go_wp2_with fail
    go_loopw [14] (fun i wr => ∃ (k : Nat) (r : List Fv), k ≤ l2.length ∧ i = .int .i64 k ∧ Hid (r.map Fv.f = l2.map Fv.f) ∧ Hid (∀ x ∈ r, FoOk wr blk x) ∧ Hid (wr.ownsRow w2.heap.size 41 4 (.slice (some ⟨blk, 0, none⟩) r.length uc) r.length (C r)) ∧ Below w.heap.size w wr) (fun i _ => l2.length - (intOf i).toNat)
    case atStart => exact ⟨0, l2, by omega, rfl, hide rfl, HF4, HO4, hb04⟩
    case round =>
      clear HO4 HF4 hb04
      obtain ⟨k, r, hk, rfl, HRM, HFr, HOr, hbel⟩ := hrel
      have hrl : r.length = l2.length := by
        have := congrArg List.length HRM.out
        simpa using this
      have hblkr := (own_at HOr.out).2
      have hml := HML.out
      by_cases hlt : k < l2.length
      · have hkr : k < r.length := by omega
        obtain ⟨c0, c1, c2, c3⟩ := row_cells HOr.out hkr
        have z2 := HOr.out.frozenAt (k * 4 + 2)
        have z3 := HOr.out.frozenAt (k * 4 + 3)
        obtain ⟨x, hx⟩ : ∃ x, x = r.getD k fv0 := ⟨_, rfl⟩
        have HX := hide hx
        rw [← hx] at c0 c1 c2 c3
        have HXK : Hid (FoOk wr blk x) := by rw [hx]; exact hide (HFr.out _ (getD_mem hkr))
        clear hx
        obtain ⟨⟨xa, xc, e1, _⟩, ⟨xb, xe, e2, _⟩⟩ := HXK.out.1
        have HE1 := hide e1
        have HE2' := hide e2
        rw [e1] at c2
        rw [e2] at c3
        clear e1 e2
        obtain ⟨xml, hxml⟩ : ∃ z, z = x.f.ms.length := ⟨_, rfl⟩
        obtain ⟨xdl, hxdl⟩ : ∃ z, z = x.f.ds.length := ⟨_, rfl⟩
        rw [← hxml] at c2 HE1
        rw [← hxdl] at c3 HE2'
        have HL1 := hide hxml
        have HL2 := hide hxdl
        clear hxml hxdl
        generalize x.f.t = xt at *
        generalize x.f.p = xp at *
        obtain ⟨W1, hW1⟩ : ∃ W1, W1 = wr.alloc (.cells #[.int .i64 xt, .int .i64 xp, .slice xa xml xc, .slice xb xdl xe] 41) := ⟨_, rfl⟩
        have hbW : Below wr.heap.size wr W1 := by rw [hW1]; exact (Below.refl _ _).alloc (Nat.le_refl _) _
        have d3 : W1.cell? ⟨wr.heap.size, 3, none⟩ = some (.slice xb xdl xe) := by rw [hW1]; simp
        have HWE : Hid (wr.alloc (.cells #[.int .i64 xt, .int .i64 xp, .slice xa xml xc, .slice xb xdl xe] 41) = W1) := hW1.symm
        clear hW1
        have HCM : Hid (Calls Try.prog 38 #[.slice xa xml xc] W1 fun e w' => ∃ u, e = .returned u ∧ MsAt w' u x.f.ms ∧ (∀ k, u.ownBlock = some k → W1.heap.size ≤ k) ∧ Below W1.heap.size W1 w') := by
          have := freshMs_any x.mv x.f.ms W1 (HXK.out.1.1.below hbW (Nat.le_refl _)) HXK.out.2.2.2.1
          rw [HE1.out] at this
          exact hide this
        go_wp2_with fail
        rw [HWE.out]
        refine (unhide HCM).mono ?_
        rintro e w5 ⟨um, rfl, hms, hge, hb5⟩
        have hr5 : Below wr.heap.size wr w5 := hbW.trans (hb5.mono hbW.size)
        have hszW := hbW.size
        have hsz5 := hb5.size
        have hneM : um.ownBlock ≠ some blk := fun h => by have := hge blk h; omega
        have HMS := hide hms
        obtain ⟨ma, mc, e3, _⟩ := hms
        have HUM := hide e3
        have g2 := cell_below c2 hr5 (Nat.le_refl _)
        have g3 := cell_below c3 hr5 (Nat.le_refl _)
        have y2 : w5.frozen? ⟨blk, k * 4 + 2, none⟩ = false := (hr5.frozen (p := ⟨blk, k * 4 + 2, none⟩) hblkr).trans z2
        have y3 : w5.frozen? ⟨blk, k * 4 + 3, none⟩ = false := (hr5.frozen (p := ⟨blk, k * 4 + 3, none⟩) hblkr).trans z3
        have g3' := cell_below d3 hb5 (Nat.le_refl _)
        -- the row behind the first store
        have hW6g : w5.grownBy (w5.setCell ⟨blk, k * 4 + 2, none⟩ um) (some blk) := grown_set (grown_refl w5 _)
        have HO6 : Hid ((w5.setCell ⟨blk, k * 4 + 2, none⟩ um).ownsRow w2.heap.size 41 4 (.slice (some ⟨blk, 0, none⟩) (r.set k ⟨x.f, um, x.dv⟩).length uc) (r.set k ⟨x.f, um, x.dv⟩).length (C (r.set k ⟨x.f, um, x.dv⟩))) := by
          have h := own_set (own_below HOr.out hr5) (k * 4 + 2) um
          rw [C_set2 r k um hkr, ← HX.out] at h
          refine hide ?_
          simpa using h
        have HF6 : Hid (∀ y ∈ r.set k ⟨x.f, um, x.dv⟩, FoOk (w5.setCell ⟨blk, k * 4 + 2, none⟩ um) blk y) := fun y hy => by
          rcases mem_set_or hy with rfl | hy
          · have hx5 := (HXK.out.grown hr5).kept2 hW6g
            exact ⟨⟨HMS.out.kept0 hW6g (.inr hneM), hx5.1.2⟩, .inr hneM, hx5.2.2.1, hx5.2.2.2⟩
          · exact ((HFr.out y hy).grown hr5).kept2 hW6g
        have hb06 : Below w.heap.size w (w5.setCell ⟨blk, k * 4 + 2, none⟩ um) := (hbel.trans (hr5.mono hbel.size)).setCell (p := ⟨blk, k * 4 + 2, none⟩) hblkw _
        have HRM6 : Hid ((r.set k ⟨x.f, um, x.dv⟩).map Fv.f = l2.map Fv.f) := by
          refine hide ?_
          rw [map_set_f r k _ hkr (by rw [← HX.out]), HRM.out]
        have hne36 : blk ≠ wr.heap.size := by omega
        have i3 : (w5.setCell ⟨blk, k * 4 + 2, none⟩ um).cell? ⟨wr.heap.size, 3, none⟩ = some (.slice xb xdl xe) := by
          rw [World.cell?_setCell_other _ _ _ _ (by simp)]; exact g3'
        have j3 : (w5.setCell ⟨blk, k * 4 + 2, none⟩ um).cell? ⟨blk, k * 4 + 3, none⟩ = some (.slice xb xdl xe) := by
          rw [World.cell?_setCell_other _ _ _ _ (by simp)]; exact g3
        have j3f : (w5.setCell ⟨blk, k * 4 + 2, none⟩ um).frozen? ⟨blk, k * 4 + 3, none⟩ = false := by rw [World.frozen?_setCell]; exact y3
        have HCD : Hid (Calls Try.prog 39 #[.slice xb xdl xe] (w5.setCell ⟨blk, k * 4 + 2, none⟩ um) fun e w' => ∃ u, e = .returned u ∧ DsAt w' u x.f.ds ∧ (∀ k', u.ownBlock = some k' → (w5.setCell ⟨blk, k * 4 + 2, none⟩ um).heap.size ≤ k') ∧ Below (w5.setCell ⟨blk, k * 4 + 2, none⟩ um).heap.size (w5.setCell ⟨blk, k * 4 + 2, none⟩ um) w') := by
          have hx5 := (HXK.out.grown hr5).kept2 hW6g
          have := freshDs_any x.dv x.f.ds _ hx5.1.2 HXK.out.2.2.2.2
          rw [HE2'.out] at this
          exact hide this
        have hs6 : (w5.setCell ⟨blk, k * 4 + 2, none⟩ um).heap.size = w5.heap.size := by simp
        have HXb := hide (HXK.out.2)
        clear HRM HFr HOr hbel c0 c1 c2 c3 z2 z3 d3 g3 g3' y3 hge hb5 hbW hr5 HMS HXK HCM HE1 hW6g
        clear HUM
        subst e3
        have HJ3 := hide j3
        have HJ3F := hide j3f
        go_wp2_with fail
        clear j3 j3f i3 g2 y2
        generalize w5.setCell ⟨blk, k * 4 + 2, none⟩ (.slice ma x.f.ms.length mc) = w6 at *
        have hblk6 : blk < w6.heap.size := by omega
        obtain ⟨r1, hr1⟩ : ∃ r1, r1 = r.set k ⟨x.f, .slice ma x.f.ms.length mc, x.dv⟩ := ⟨_, rfl⟩
        have hr1l : r1.length = l2.length := by rw [hr1]; simpa using hrl
        have HR1 : Hid (r1.getD k fv0 = ⟨x.f, .slice ma x.f.ms.length mc, x.dv⟩) := by
          refine hide ?_
          rw [hr1]
          simp [List.getD, hkr]
        rw [← hr1] at HO6 HF6 HRM6
        clear hr1
        refine (unhide HCD).mono ?_
        rintro e w7 ⟨ud, rfl, hds, hge7, hb7⟩
        have hneD : ud.ownBlock ≠ some blk := fun h => by have := hge7 blk h; omega
        have hW8g : w7.grownBy (w7.setCell ⟨blk, k * 4 + 3, none⟩ ud) (some blk) := grown_set (grown_refl w7 _)
        have g3 := cell_below HJ3.out hb7 (Nat.le_refl _)
        have y3 : w7.frozen? ⟨blk, k * 4 + 3, none⟩ = false := (hb7.frozen (p := ⟨blk, k * 4 + 3, none⟩) hblk6).trans HJ3F.out
        have hk1 : k < r1.length := by omega
        have HO8 : Hid ((w7.setCell ⟨blk, k * 4 + 3, none⟩ ud).ownsRow w2.heap.size 41 4 (.slice (some ⟨blk, 0, none⟩) (r1.set k ⟨x.f, .slice ma x.f.ms.length mc, ud⟩).length uc) (r1.set k ⟨x.f, .slice ma x.f.ms.length mc, ud⟩).length (C (r1.set k ⟨x.f, .slice ma x.f.ms.length mc, ud⟩))) := by
          have h := own_set (own_below HO6.out hb7) (k * 4 + 3) ud
          rw [C_set3 r1 k ud hk1, HR1.out] at h
          refine hide ?_
          simpa using h
        have HF8 : Hid (∀ y ∈ r1.set k ⟨x.f, .slice ma x.f.ms.length mc, ud⟩, FoOk (w7.setCell ⟨blk, k * 4 + 3, none⟩ ud) blk y) := fun y hy => by
          rcases mem_set_or hy with rfl | hy
          · have hx6 := HF6.out _ (getD_mem hk1)
            rw [HR1.out] at hx6
            have hx8 := (hx6.grown hb7).kept2 hW8g
            exact ⟨⟨hx8.1.1, hds.kept0 hW8g (.inr hneD)⟩, hx8.2.1, .inr hneD, hx8.2.2.2⟩
          · exact ((HF6.out y hy).grown hb7).kept2 hW8g
        have hb08 : Below w.heap.size w (w7.setCell ⟨blk, k * 4 + 3, none⟩ ud) := (hb06.trans (hb7.mono hb06.size)).setCell (p := ⟨blk, k * 4 + 3, none⟩) hblkw _
        have HRM8 : Hid ((r1.set k ⟨x.f, .slice ma x.f.ms.length mc, ud⟩).map Fv.f = l2.map Fv.f) := by
          refine hide ?_
          rw [map_set_f r1 k _ hk1 (by rw [HR1.out]), HRM6.out]
        obtain ⟨da, dc, e4, _⟩ := hds
        clear HCD HF6 HO6 HRM6 hb06 HJ3 HJ3F hb7 hge7 hW8g HR1
        subst e4
        go_wp2_with fail
        go_roundw
        case rel => exact ⟨k + 1, _, by omega, by go_num, HRM8, HF8, HO8, hb08⟩
        case measure => simp [intOf]; omega
      · have hke : (l2.length : Int) ≤ (k : Int) := by omega
        have HFA := hide (row_fsAt HOr.out (fun x hx => (HFr.out x hx).1))
        rw [HRM.out, HSR.out] at HFA
        clear HRM HFr HOr
        rw [hrl] at HFA
        go_wp2_with fail
        go_ret
        exact ⟨_, rfl, HFA.out, hbel⟩

end Go.Proofs.Ytonhfgdnkkkikac
