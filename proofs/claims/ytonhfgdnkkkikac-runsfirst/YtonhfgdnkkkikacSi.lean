/-
  slices.CompactFunc at flows.
-/
import Derived.Test.YtonhfgdnkkkikacSh
namespace Go.Proofs.Ytonhfgdnkkkikac
open Go.RowKit
set_option linter.unusedVariables false
set_option maxRecDepth 100000

/-- What flow.Sort's equality closes over lies elsewhere than in a block. -/
def EqAt2 (w : World) (ob g blk : Nat) : Prop := ob ≠ blk ∧ w.cell? ⟨ob, 0, none⟩ = some (.func (.func 89) #[] #[.pointer (some ⟨g, 0, none⟩)]) ∧ OrdAt2 w g blk
theorem EqAt2.kept {w w' : World} {ob g blk : Nat} (h : EqAt2 w ob g blk) (hg : w.grownBy w' (some blk)) : EqAt w' ob g := ⟨hg.cell h.2.1 (by simpa using h.1), h.2.2.kept hg⟩
theorem row_cells {w : World} {B blk cap : Nat} {l : List Fv} (h : w.ownsRow B 41 4 (.slice (some ⟨blk, 0, none⟩) l.length cap) l.length (C l)) {i : Nat} (hi : i < l.length) :
    w.cell? ⟨blk, i * 4, none⟩ = some (.int .i64 (l.getD i fv0).f.t) ∧ w.cell? ⟨blk, i * 4 + 1, none⟩ = some (.int .i64 (l.getD i fv0).f.p) ∧ w.cell? ⟨blk, i * 4 + 2, none⟩ = some (l.getD i fv0).mv ∧ w.cell? ⟨blk, i * 4 + 3, none⟩ = some (l.getD i fv0).dv := by
  obtain ⟨c0, c1, c2, c3⟩ := C_at l i hi
  exact ⟨(h.cellAt _ (by omega)).trans c0, (h.cellAt _ (by omega)).trans c1, (h.cellAt _ (by omega)).trans c2, (h.cellAt _ (by omega)).trans c3⟩
theorem getD_mem {l : List Fv} {i : Nat} (hi : i < l.length) : l.getD i fv0 ∈ l := by
  rw [List.getD_eq_getElem?_getD, List.getElem?_eq_getElem hi]; exact List.getElem_mem hi

theorem own_setCells {B e size n cap g : Nat} {xs : List Value} : ∀ (vs : List Value) (o : Nat) (w : World), w.ownsRow B e size (.slice (some ⟨g, 0, none⟩) n cap) n xs → n * size ≤ o → (w.setCells g o vs).ownsRow B e size (.slice (some ⟨g, 0, none⟩) n cap) n xs
  | [], _, _, h, _ => h
  | v :: r, o, w, h, ho => by
    have h1 := own_set h o v
    rw [set_far (by rw [h.1]; exact ho)] at h1
    exact own_setCells r (o + 1) _ h1 (by omega)
theorem grown_setCells {g : Nat} {w : World} : ∀ (vs : List Value) (o : Nat) (w' : World), w.grownBy w' (some g) → w.grownBy (w'.setCells g o vs) (some g)
  | [], _, _, h => h
  | v :: r, o, w', h => grown_setCells r (o + 1) _ (grown_set h)
theorem clear_flows (w : World) (b o n c : Nat) (hn : 0 < n) (hc : ∀ j, j < n * 4 → (w.cell? ⟨b, o + j, none⟩).isSome = true) (hf : ∀ j, j < n * 4 → w.frozen? ⟨b, o + j, none⟩ = false) :
    ∃ vs, ∀ ty, (Builtin.clear_ #[22] ty #[.slice (some ⟨b, o, none⟩) n c]).run Try.prog w = .ok (.tuple #[]) (w.setCells b o vs) := by
  have hv : ∀ w, (zeroValue 41).run Try.prog w = .ok (.agg #[.int .i64 0, .int .i64 0, .slice none 0 0, .slice none 0 0]) w := fun w => by kernel_rfl
  refine ⟨(Builtin.zeroCells #[.int .i64 0, .int .i64 0, .slice none 0 0, .slice none 0 0] n).toList, fun ty => ?_⟩
  have hlen : (Builtin.zeroCells #[Value.int .i64 0, .int .i64 0, .slice none 0 0, .slice none 0 0] n).toList.length = n * 4 := by simp [Builtin.zeroCells]
  have hone : ∀ v ∈ (Builtin.zeroCells #[Value.int .i64 0, .int .i64 0, .slice none 0 0, .slice none 0 0] n).toList, v.oneCell' = true := by
    intro v hv
    obtain ⟨i, hi, rfl⟩ := List.getElem_of_mem hv
    simp only [Builtin.zeroCells, Array.getElem_toList]
    simp
    have hm : i % 4 = 0 ∨ i % 4 = 1 ∨ i % 4 = 2 ∨ i % 4 = 3 := by omega
    rcases hm with e | e | e | e <;> simp [e] <;> rfl
  have hst := run_storeCells_cells (P := Try.prog) b o (Builtin.zeroCells #[.int .i64 0, .int .i64 0, .slice none 0 0, .slice none 0 0] n).toList 0 w (by rw [hlen]; simpa using hc) (by rw [hlen]; simpa using hf) hone
  simp only [Nat.add_zero] at hst
  obtain ⟨m, rfl⟩ : ∃ m, n = m + 1 := ⟨n - 1, by omega⟩
  simp [Builtin.clear_, run_underlying Try.underlying22, hv, hst, Value.cells]

theorem wrapB (n : Int) (h0 : 0 ≤ n) (h1 : n ≤ 4000000) : IntKind.i64.wrap n = n := by
  simp [IntKind.wrap, IntKind.bits, IntKind.signed]
  split <;> omega

set_option maxHeartbeats 8000000 in
theorem compact_any (lo : List Fv) (B blk cap ob g : Nat) (w : World) (hown : w.ownsRow B 41 4 (.slice (some ⟨blk, 0, none⟩) lo.length cap) lo.length (C lo)) (hE : EqAt2 w ob g blk) (hok : ∀ x ∈ lo, FoOk w blk x) (h1 : 1 ≤ lo.length) (hl : lo.length ≤ 2000000) :
    Calls Try.prog 35 #[.slice (some ⟨blk, 0, none⟩) lo.length cap, .func (.func 37) #[] #[.pointer (some ⟨ob, 0, none⟩)]] w fun e w' => e = .returned (.slice (some ⟨blk, 0, none⟩) (ddTo lo lo.length).length cap) ∧ w'.ownsRow B 41 4 (.slice (some ⟨blk, 0, none⟩) (ddTo lo lo.length).length cap) (ddTo lo lo.length).length (C (ddTo lo lo.length)) ∧ w.grownBy w' (some blk) := by
  have HO := hide hown
  have HE := hide hE
  have HK := hide hok
  have hcap : lo.length ≤ cap := by
    obtain ⟨_, ⟨h, _⟩ | ⟨g', cap', cur, hv, _, _, hnc, _⟩⟩ := hown
    · simp at h
    · simp only [Value.slice.injEq] at hv; omega
  clear hown hE hok
  have HC : Hid (∀ (W : World) (x y : Fv), w.grownBy W (some blk) → x ∈ lo → y ∈ lo → Calls Try.prog 37 #[.agg #[.int .i64 x.f.t, .int .i64 x.f.p, x.mv, x.dv], .agg #[.int .i64 y.f.t, .int .i64 y.f.p, y.mv, y.dv], .pointer (some ⟨ob, 0, none⟩)] W fun e w' => e = .returned (.bool (plc x.f y.f == 0)) ∧ Grw W w') := fun W x y hW hx hy =>
    same_any x y ob g W (HE.out.kept hW) ((HK.out x hx).kept hW) ((HK.out y hy).kept hW) (HK.out x hx).2.2.2.1 (HK.out x hx).2.2.2.2 (HK.out y hy).2.2.2.1 (HK.out y hy).2.2.2.2
  by_cases h2 : lo.length < 2
  · have hdd : ddTo lo lo.length = lo := by
      rw [ddTo_all lo lo.length (Nat.le_refl _) (fun i a b => by omega), List.take_length]
    rw [hdd]
    clear HC HE HK
    go_enter Try.func35, Try.ntmps35
    go_wp2_with fail
    go_ret
    exact ⟨rfl, HO.out, grown_refl _ _⟩
  · go_enter Try.func35, Try.ntmps35
    go_wp2_with fail
    have hblkw := (own_at HO.out).2
    go_loopw [5] (fun i wr => ∃ k : Nat, 1 ≤ k ∧ k ≤ lo.length ∧ i = .int .i64 k ∧ Hid (∀ j, 1 ≤ j → j < k → plc (lo.getD j fv0).f (lo.getD (j - 1) fv0).f ≠ 0) ∧ Grw w wr) (fun i _ => lo.length - (intOf i).toNat)
    case atStart => exact ⟨1, by omega, by omega, rfl, hide (fun j a b => by omega), Grw.refl _⟩
    case round =>
      obtain ⟨k, hk1, hk, rfl, HALL, hgr⟩ := hrel
      have hbel := hgr.below
      have hgb : w.grownBy wr (some blk) := Below.grown1 hbel
      have HOr := hide (own_below HO.out hbel)
      have hblkr := Nat.lt_of_lt_of_le hblkw hbel.size
      by_cases hlt : k < lo.length
      · obtain ⟨k', hkk⟩ : ∃ k', k = k' + 1 := ⟨k - 1, by omega⟩
        have hkm : k - 1 = k' := by omega
        have hk'l : k' < lo.length := by omega
        obtain ⟨a0, a1, a2, a3⟩ := row_cells HOr.out hlt
        obtain ⟨b0, b1, b2, b3⟩ := row_cells HOr.out hk'l
        have hX := getD_mem hlt
        have hY := getD_mem hk'l
        have HXo := hide (HK.out _ hX)
        have HYo := hide (HK.out _ hY)
        have HST : Hid (∀ W : World, w.grownBy W (some blk) → Calls Try.prog 37 #[.agg #[.int .i64 (lo.getD k fv0).f.t, .int .i64 (lo.getD k fv0).f.p, (lo.getD k fv0).mv, (lo.getD k fv0).dv], .agg #[.int .i64 (lo.getD k' fv0).f.t, .int .i64 (lo.getD k' fv0).f.p, (lo.getD k' fv0).mv, (lo.getD k' fv0).dv], .pointer (some ⟨ob, 0, none⟩)] W fun e w' => e = .returned (.bool (plc (lo.getD k fv0).f (lo.getD k' fv0).f == 0)) ∧ Grw W w') := fun W hW => HC.out W _ _ hW hX hY
        have HNX : Hid (plc (lo.getD k fv0).f (lo.getD k' fv0).f ≠ 0 → ∀ j, 1 ≤ j → j < k + 1 → plc (lo.getD j fv0).f (lo.getD (j - 1) fv0).f ≠ 0) := fun h j h1 h2 => by
          by_cases e : j = k
          · subst e; rw [hkm]; exact h
          · exact HALL.out j h1 (by omega)
        have HDD : Hid (ddTo lo k = lo.take k) := ddTo_all lo k hk HALL.out
        have HD2 : Hid (plc (lo.getD k fv0).f (lo.getD k' fv0).f = 0 → ddTo lo (k + 1) = lo.take k) := fun h => by
          rw [ddTo, if_pos ⟨by omega, by rw [hkm]; exact h⟩]; exact HDD.out
        generalize plc (lo.getD k fv0).f (lo.getD k' fv0).f = R at *
        obtain ⟨⟨xa, xc, e1, _⟩, ⟨xb, xe, e2, _⟩⟩ := HXo.out.1
        obtain ⟨⟨ya, yc, e3, _⟩, ⟨yb, ye, e4, _⟩⟩ := HYo.out.1
        rw [e1] at a2 HST
        rw [e2] at a3 HST
        rw [e3] at b2 HST
        rw [e4] at b3 HST
        clear e1 e2 e3 e4 HXo HYo hX hY
        generalize (lo.getD k fv0).f.t = xt at *
        generalize (lo.getD k fv0).f.p = xp at *
        generalize (lo.getD k fv0).f.ms.length = xml at *
        generalize (lo.getD k fv0).f.ds.length = xdl at *
        generalize (lo.getD k' fv0).f.t = yt at *
        generalize (lo.getD k' fv0).f.p = yp at *
        generalize (lo.getD k' fv0).f.ms.length = yml at *
        generalize (lo.getD k' fv0).f.ds.length = ydl at *
        have hwr : IntKind.i64.wrap ((k : Int) - 1) = (k' : Int) := by rw [show (k : Int) - 1 = (k' : Int) by omega]; exact wrapB _ (by omega) (by omega)
        have q1 : (0 : Int) ≤ (k : Int) := by omega
        have q2 : (k : Int) < (lo.length : Int) := by omega
        have q3 : (0 : Int) ≤ (k' : Int) := by omega
        have q4 : (k' : Int) < (lo.length : Int) := by omega
        have HKK := hide hkk
        clear hkk hkm
        have hgd : w.grownBy wr.drew (some blk) := ⟨hgb.os, hgb.tape, hgb.output, hgb.size, hgb.block⟩
        go_wp2_with fail
        go_region_held3 (fun w' => w'.cell? ⟨blk, k * 4, none⟩ = some (.int .i64 xt) ∧ w'.cell? ⟨blk, k * 4 + 1, none⟩ = some (.int .i64 xp) ∧ w'.cell? ⟨blk, k * 4 + 2, none⟩ = some (.slice xa xml xc) ∧ w'.cell? ⟨blk, k * 4 + 3, none⟩ = some (.slice xb xdl xe) ∧ w'.cell? ⟨blk, k' * 4, none⟩ = some (.int .i64 yt) ∧ w'.cell? ⟨blk, k' * 4 + 1, none⟩ = some (.int .i64 yp) ∧ w'.cell? ⟨blk, k' * 4 + 2, none⟩ = some (.slice ya yml yc) ∧ w'.cell? ⟨blk, k' * 4 + 3, none⟩ = some (.slice yb ydl ye)) (go_keep)
          (first | (go_at_call 37; refine (unhide HST _ hgd).mono ?_; rintro e w1 ⟨rfl, hg1⟩; have hb1 := ((Grw.refl wr).drew.trans hg1).below; have z0 := cell_below a0 hb1 (Nat.le_refl _); have z1 := cell_below a1 hb1 (Nat.le_refl _); have z2 := cell_below a2 hb1 (Nat.le_refl _); have z3 := cell_below a3 hb1 (Nat.le_refl _); have z4 := cell_below b0 hb1 (Nat.le_refl _); have z5 := cell_below b1 hb1 (Nat.le_refl _); have z6 := cell_below b2 hb1 (Nat.le_refl _); have z7 := cell_below b3 hb1 (Nat.le_refl _)))
        have hgw : Grw w w1 := hgr.drew.trans hg1
        have hgw1 : w.grownBy w1 (some blk) := Below.grown1 hgw.below
        have HO1 := hide (own_below HO.out hgw.below)
        clear z0 z1 z2 z3 z4 z5 z6 z7 a0 a1 a2 a3 b0 b1 b2 b3 hb1 hg1 hgd HST
        by_cases hR : R = 0
        · have HD3 := hide (HD2.out hR)
          subst hR
          rw [show ((0 : Int) == 0) = true from rfl]
          clear HNX HD2 HALL hgr hbel hgb HOr
          have hkc : (k : Int) ≤ (cap : Int) := by omega
          have hkle : (k : Int) ≤ (lo.length : Int) := by omega
          go_wp2_with fail
          generalize wr.heap.size = zz at *
          rename World => W0
          go_loopw [5, 7] (fun p j wq => ∃ (jj pp : Nat) (r : List Fv), p = .int .i64 pp ∧ j = .int .i64 jj ∧ 1 ≤ jj ∧ k + jj ≤ lo.length ∧ pp + 1 ≤ k + jj ∧ Hid (r.length = lo.length ∧ r.take pp = ddTo lo (k + jj) ∧ pp = (ddTo lo (k + jj)).length ∧ ∀ i, k + jj ≤ i + 1 → r.getD i fv0 = lo.getD i fv0) ∧ Hid (wq.ownsRow B 41 4 (.slice (some ⟨blk, 0, none⟩) r.length cap) r.length (C r)) ∧ Hid (w.grownBy wq (some blk))) (fun _ j _ => lo.length - k - (intOf j).toNat)
          case atStart => exact ⟨1, k, lo, rfl, rfl, by omega, by omega, by omega, hide ⟨rfl, HD3.out.symm, by rw [HD3.out]; simp; omega, fun i _ => rfl⟩, HO1, hide hgw1⟩
          case round =>
            clear HO1 hgw1 hgw
            obtain ⟨jj, pp, r, rfl, rfl, hj1, hjl, hpp, HI, HOq, HGq⟩ := hrel
            have hblkq := (own_at HOq.out).2
            by_cases hlt2 : k + jj < lo.length
            · obtain ⟨jp, hjp⟩ : ∃ jp, jj = jp + 1 := ⟨jj - 1, by omega⟩
              obtain ⟨hrl, hrt, hrp, hrd⟩ := HI.out
              have hxl : k + jj < r.length := by omega
              have hyl : k + jp < r.length := by omega
              obtain ⟨a0, a1, a2, a3⟩ := row_cells HOq.out hxl
              obtain ⟨b0, b1, b2, b3⟩ := row_cells HOq.out hyl
              rw [hrd (k + jj) (by omega)] at a0 a1 a2 a3
              rw [hrd (k + jp) (by omega)] at b0 b1 b2 b3
              have ex : (k + jj) * 4 = k * 4 + jj * 4 := by omega
              have ey : (k + jp) * 4 = k * 4 + jp * 4 := by omega
              rw [ex] at a0 a1 a2 a3
              rw [ey] at b0 b1 b2 b3
              have hX := getD_mem hlt2
              have hY := getD_mem (show k + jp < lo.length by omega)
              have HXo := hide (HK.out _ hX)
              have HYo := hide (HK.out _ hY)
              have HST : Hid (∀ W : World, w.grownBy W (some blk) → Calls Try.prog 37 #[.agg #[.int .i64 (lo.getD (k + jj) fv0).f.t, .int .i64 (lo.getD (k + jj) fv0).f.p, (lo.getD (k + jj) fv0).mv, (lo.getD (k + jj) fv0).dv], .agg #[.int .i64 (lo.getD (k + jp) fv0).f.t, .int .i64 (lo.getD (k + jp) fv0).f.p, (lo.getD (k + jp) fv0).mv, (lo.getD (k + jp) fv0).dv], .pointer (some ⟨ob, 0, none⟩)] W fun e w' => e = .returned (.bool (plc (lo.getD (k + jj) fv0).f (lo.getD (k + jp) fv0).f == 0)) ∧ Grw W w') := fun W hW => HC.out W _ _ hW hX hY
              have HDN : Hid (ddTo lo (k + (jj + 1)) = if plc (lo.getD (k + jj) fv0).f (lo.getD (k + jp) fv0).f = 0 then ddTo lo (k + jj) else ddTo lo (k + jj) ++ [lo.getD (k + jj) fv0]) := by
                show _ = _
                have e : k + (jj + 1) = (k + jj) + 1 := by omega
                have e' : k + jj - 1 = k + jp := by omega
                rw [e, ddTo, e']
                by_cases hc : plc (lo.getD (k + jj) fv0).f (lo.getD (k + jp) fv0).f = 0
                · rw [if_pos ⟨by omega, hc⟩, if_pos hc]
                · rw [if_neg (fun h => hc h.2), if_neg hc]
              have HIR : Hid (r.length = lo.length ∧ r.take pp = ddTo lo (k + jj) ∧ pp = (ddTo lo (k + jj)).length ∧ ∀ i, k + jj ≤ i + 1 → r.getD i fv0 = lo.getD i fv0) := HI
              obtain ⟨x, hxd⟩ : ∃ x, x = lo.getD (k + jj) fv0 := ⟨_, rfl⟩
              rw [← hxd] at HST HDN a0 a1 a2 a3 HXo
              have HXD := hide hxd
              clear hxd hX hY hrt hrp hrd HI
              generalize plc x.f (lo.getD (k + jp) fv0).f = R at *
              obtain ⟨⟨xa', xc', e1, _⟩, ⟨xb', xe', e2, _⟩⟩ := HXo.out.1
              obtain ⟨⟨ya', yc', e3, _⟩, ⟨yb', ye', e4, _⟩⟩ := HYo.out.1
              rw [e1] at a2 HST
              rw [e2] at a3 HST
              rw [e3] at b2 HST
              rw [e4] at b3 HST
              have HE1 := hide e1
              have HE2 := hide e2
              clear e1 e2 e3 e4 HXo HYo
              generalize (lo.getD (k + jp) fv0).f.t = yt' at *
              generalize (lo.getD (k + jp) fv0).f.p = yp' at *
              generalize (lo.getD (k + jp) fv0).f.ms.length = yml' at *
              generalize (lo.getD (k + jp) fv0).f.ds.length = ydl' at *
              obtain ⟨xt', hxt⟩ : ∃ z, z = x.f.t := ⟨_, rfl⟩
              obtain ⟨xp', hxp⟩ : ∃ z, z = x.f.p := ⟨_, rfl⟩
              obtain ⟨xml', hxml⟩ : ∃ z, z = x.f.ms.length := ⟨_, rfl⟩
              obtain ⟨xdl', hxdl⟩ : ∃ z, z = x.f.ds.length := ⟨_, rfl⟩
              rw [← hxt] at a0 HST
              rw [← hxp] at a1 HST
              rw [← hxml] at a2 HST HE1
              rw [← hxdl] at a3 HST HE2
              have HX4 : Hid (xt' = x.f.t ∧ xp' = x.f.p) := ⟨hxt, hxp⟩
              clear hxt hxp hxml hxdl
              have hwj : IntKind.i64.wrap ((jj : Int) - 1) = (jp : Int) := by rw [show (jj : Int) - 1 = (jp : Int) by omega]; exact wrapB _ (by omega) (by omega)
              have p1 : (0 : Int) ≤ (jj : Int) := by omega
              have p2 : (jj : Int) < ((lo.length - k : Nat) : Int) := by omega
              have p3 : (0 : Int) ≤ (jp : Int) := by omega
              have p4 : (jp : Int) < ((lo.length - k : Nat) : Int) := by omega
              have HJP := hide hjp
              clear hjp ex ey
              have hgd : w.grownBy wr.drew (some blk) := ⟨HGq.out.os, HGq.out.tape, HGq.out.output, HGq.out.size, HGq.out.block⟩
              have HGD := hide hgd
              clear hgd
              go_wp2_with fail
              go_region_held3 (fun w' => w'.cell? ⟨blk, k * 4 + jj * 4, none⟩ = some (.int .i64 xt') ∧ w'.cell? ⟨blk, k * 4 + jj * 4 + 1, none⟩ = some (.int .i64 xp') ∧ w'.cell? ⟨blk, k * 4 + jj * 4 + 2, none⟩ = some (.slice xa' xml' xc') ∧ w'.cell? ⟨blk, k * 4 + jj * 4 + 3, none⟩ = some (.slice xb' xdl' xe') ∧ w'.cell? ⟨blk, k * 4 + jp * 4, none⟩ = some (.int .i64 yt') ∧ w'.cell? ⟨blk, k * 4 + jp * 4 + 1, none⟩ = some (.int .i64 yp') ∧ w'.cell? ⟨blk, k * 4 + jp * 4 + 2, none⟩ = some (.slice ya' yml' yc') ∧ w'.cell? ⟨blk, k * 4 + jp * 4 + 3, none⟩ = some (.slice yb' ydl' ye')) (go_keep)
                (first | (go_at_call 37; refine (unhide HST _ (unhide HGD)).mono ?_; rintro e w1 ⟨rfl, hg1⟩; have hb1 := ((Grw.refl wr).drew.trans hg1).below; have z0 := cell_below a0 hb1 (Nat.le_refl _); have z1 := cell_below a1 hb1 (Nat.le_refl _); have z2 := cell_below a2 hb1 (Nat.le_refl _); have z3 := cell_below a3 hb1 (Nat.le_refl _); have z4 := cell_below b0 hb1 (Nat.le_refl _); have z5 := cell_below b1 hb1 (Nat.le_refl _); have z6 := cell_below b2 hb1 (Nat.le_refl _); have z7 := cell_below b3 hb1 (Nat.le_refl _)))
              have HO1 := hide (own_below HOq.out hb1)
              have HG1 := hide (grown_trans HGq.out (Below.grown1 hb1))
              clear a0 a1 a2 a3 b0 b1 b2 b3 z4 z5 z6 z7 hg1 HST HOq HGq HGD
              by_cases hR : R = 0
              · rw [if_pos hR] at HDN
                have HN : Hid (r.length = lo.length ∧ r.take pp = ddTo lo (k + (jj + 1)) ∧ pp = (ddTo lo (k + (jj + 1))).length ∧ ∀ i, k + (jj + 1) ≤ i + 1 → r.getD i fv0 = lo.getD i fv0) := by
                  obtain ⟨n1, n2, n3, n4⟩ := HIR.out
                  rw [HDN.out]
                  exact hide ⟨n1, n2, n3, fun i hi => n4 i (by omega)⟩
                clear HDN HIR
                subst hR
                rw [show ((0 : Int) == 0) = true from rfl]
                go_wp2_with fail
                go_roundw
                case rel => exact ⟨jj + 1, pp, r, rfl, by go_num, by omega, by omega, by omega, HN, HO1, HG1⟩
                case measure => simp [intOf]; omega
              · rw [if_neg hR] at HDN
                have hrb : (R == 0) = false := by simpa using hR
                have hppl : pp < r.length := by omega
                obtain ⟨c0, c1, c2, c3⟩ := row_cells HO1.out hppl
                have f0 := HO1.out.frozenAt (pp * 4)
                have f1 := HO1.out.frozenAt (pp * 4 + 1)
                have f2 := HO1.out.frozenAt (pp * 4 + 2)
                have f3 := HO1.out.frozenAt (pp * 4 + 3)
                have HO4 := hide (own_set4 HO1.out pp x hppl)
                rw [← HX4.out.1, ← HX4.out.2, HE1.out, HE2.out] at HO4
                have HG4 := hide (grown_set (j := pp * 4 + 3) (v := .slice xb' xdl' xe') (grown_set (j := pp * 4 + 2) (v := .slice xa' xml' xc') (grown_set (j := pp * 4 + 1) (v := .int .i64 xp') (grown_set (j := pp * 4) (v := .int .i64 xt') HG1.out))))
                have HN : Hid ((r.set pp x).length = lo.length ∧ (r.set pp x).take (pp + 1) = ddTo lo (k + (jj + 1)) ∧ pp + 1 = (ddTo lo (k + (jj + 1))).length ∧ ∀ i, k + (jj + 1) ≤ i + 1 → (r.set pp x).getD i fv0 = lo.getD i fv0) := by
                  obtain ⟨n1, n2, n3, n4⟩ := HIR.out
                  rw [HDN.out]
                  refine hide ⟨by simpa using n1, ?_, by simp; omega, fun i hi => ?_⟩
                  · rw [← n2]
                    rw [List.take_succ_eq_append_getElem (by simpa using hppl), List.take_set_of_le (Nat.le_refl _)]
                    simp
                  · rw [← n4 i (by omega)]
                    simp [List.getD, show ¬ pp = i by omega]
                generalize (r.getD pp fv0).f.t = ct at *
                generalize (r.getD pp fv0).f.p = cp at *
                generalize (r.getD pp fv0).mv = cmv at *
                generalize (r.getD pp fv0).dv = cdv at *
                have t1 : (0 : Int) ≤ (pp : Int) := by omega
                have t2 : (pp : Int) < (lo.length : Int) := by omega
                clear HDN HIR HE1 HE2 HX4 HO1 HG1
                rw [hrb]
                clear hrb hR
                go_wp2_with fail
                go_roundw
                case rel => exact ⟨jj + 1, pp + 1, r.set pp x, by go_num, by go_num, by omega, by omega, by omega, HN, HO4, HG4⟩
                case measure => simp [intOf]; omega
            · obtain ⟨hrl, hrt, hrp, hrd⟩ := HI.out
              have hend : k + jj = lo.length := by omega
              rw [hend] at hrt hrp
              have HPP := hide hrp
              have HOP : Hid (wr.ownsRow B 41 4 (.slice (some ⟨blk, 0, none⟩) pp cap) pp (C (ddTo lo lo.length))) := by
                have := own_prefix HOq.out (show pp ≤ r.length by omega)
                rw [C_take, hrt] at this
                exact hide this
              have hpl : pp < lo.length := by omega
              obtain ⟨vs, hclr⟩ : ∃ vs, ∀ ty, (Builtin.clear_ #[22] ty #[.slice (some ⟨blk, pp * 4, none⟩) (lo.length - pp) (cap - pp)]).run Try.prog wr = .ok (.tuple #[]) (wr.setCells blk (pp * 4) vs) :=
                clear_flows wr blk (pp * 4) (lo.length - pp) (cap - pp) (by omega) (fun j hj => by rw [HOq.out.cellAt (pp * 4 + j) (by omega), List.getElem?_eq_getElem (by rw [C_len]; omega)]; rfl) (fun j hj => HOq.out.frozenAt _)
              have s1 : ((lo.length - k : Nat) : Int) ≤ (jj : Int) := by omega
              have s2 : (0 : Int) ≤ (pp : Int) := by omega
              have s3 : (pp : Int) ≤ (lo.length : Int) := by omega
              have s4 : (pp : Int) ≤ (cap : Int) := by omega
              have HOE := hide (own_setCells vs (pp * 4) wr HOP.out (Nat.le_refl _))
              have HGE := hide (grown_setCells vs (pp * 4) wr HGq.out)
              clear hrl hrt hrp hrd hend HOP HOq HGq HI hlt2 hj1 hjl hpp
              go_wp2_with (simp only [hclr])
              go_ret
              refine ⟨?_, ?_, HGE.out⟩
              · rw [← HPP.out]; rfl
              · rw [← HPP.out]; exact HOE.out
        · have HN := hide (HNX.out hR)
          clear HNX HD2
          go_wp2_with fail
          go_roundw
          case rel => exact ⟨k + 1, by omega, by omega, by go_num, HN, hgw⟩
          case measure => simp [intOf]; omega
      · have hkl : k = lo.length := by omega
        have HDD : Hid (ddTo lo lo.length = lo) := by
          show _ = _
          rw [ddTo_all lo lo.length (Nat.le_refl _) (fun j a b => HALL.out j a (by omega)), List.take_length]
        have hge : ((lo.length : Int)) ≤ (k : Int) := by omega
        clear HALL hkl
        go_wp2_with fail
        go_ret
        refine ⟨?_, ?_, hgb⟩
        · rw [HDD.out]; rfl
        · rw [HDD.out]; exact HOr.out

end Go.Proofs.Ytonhfgdnkkkikac
