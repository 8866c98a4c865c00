/-
  slices.DeleteFunc at flows, by flow.without's own test.
-/
import Derived.Test.YtonhfgdnkkkikacWo
namespace Go.Proofs.Ytonhfgdnkkkikac
open Go.RowKit
set_option linter.unusedVariables false
set_option maxRecDepth 100000

/-- Those of the first few that a test leaves. -/
def kp (del : Fl → Bool) (lo : List Fv) (j : Nat) : List Fv := (lo.take j).filter fun x => !del x.f
theorem kp_succ (del : Fl → Bool) (lo : List Fv) (j : Nat) (h : j < lo.length) : kp del lo (j + 1) = if del (lo.getD j fv0).f = true then kp del lo j else kp del lo j ++ [lo.getD j fv0] := by
  unfold kp
  rw [List.take_succ_eq_append_getElem h, List.filter_append]
  have e : lo.getD j fv0 = lo[j] := by simp [List.getD, List.getElem?_eq_getElem h]
  rw [e]
  by_cases hd : del lo[j].f = true
  · rw [if_pos hd]; simp [hd]
  · rw [if_neg hd]; simp [hd]
theorem kp_all (del : Fl → Bool) (lo : List Fv) : ∀ j, j ≤ lo.length → (∀ i, i < j → del (lo.getD i fv0).f = false) → kp del lo j = lo.take j
  | 0, _, _ => by simp [kp]
  | j + 1, hj, h => by
    rw [kp_succ del lo j (by omega), if_neg (by rw [h j (by omega)]; simp), kp_all del lo j (by omega) (fun i hi => h i (by omega)), List.take_succ_eq_append_getElem (by omega)]
    simp [List.getD, List.getElem?_eq_getElem (show j < lo.length by omega)]
theorem kp_le (del : Fl → Bool) (lo : List Fv) (j : Nat) : (kp del lo j).length ≤ j := by
  unfold kp
  exact Nat.le_trans (List.length_filter_le _ _) (by simp; omega)

section
variable {w : World} {blk : Nat}

set_option maxHeartbeats 8000000 in
theorem delete_any (lo : List Fv) (del : Fl → Bool) (B cap sb ob : Nat) (hown : w.ownsRow B 41 4 (.slice (some ⟨blk, 0, none⟩) lo.length cap) lo.length (C lo)) (hT : Tests w blk sb ob lo del) (hok : ∀ x ∈ lo, Held w x) (hl : lo.length ≤ 2000000) :
    Calls Try.prog 50 #[.slice (some ⟨blk, 0, none⟩) lo.length cap, .func (.func 52) #[] #[.pointer (some ⟨sb, 0, none⟩), .pointer (some ⟨ob, 0, none⟩)]] w fun e w' => e = .returned (.slice (some ⟨blk, 0, none⟩) (kp del lo lo.length).length cap) ∧ w'.ownsRow B 41 4 (.slice (some ⟨blk, 0, none⟩) (kp del lo lo.length).length cap) (kp del lo lo.length).length (C (kp del lo lo.length)) ∧ w.grownBy w' (some blk) := by
  have HO := hide hown
  have HT := hide hT
  have HK := hide hok
  have hcap : lo.length ≤ cap := by
    obtain ⟨_, ⟨h, _⟩ | ⟨g', cap', cur, hv, _, _, hnc, _⟩⟩ := hown
    · simp at h
    · simp only [Value.slice.injEq] at hv; omega
  have hblkw := (own_at hown).2
  clear hown hT hok
  go_enter Try.func50, Try.ntmps50
  go_wp2_with fail
  refine (index_any lo del B cap sb ob HO.out HT.out HK.out hl).mono ?_
  rintro e w1 ⟨r, rfl, hr, hg1⟩
  have HO1 := hide (own_below HO.out hg1.below)
  have HG1 := hide (Below.grown1 (row := some blk) hg1.below)
  clear hg1
  rcases hr with ⟨rfl, hall⟩ | ⟨k, hk, rfl, hall, hdel⟩
  · have HE : Hid (kp del lo lo.length = lo) := by
      show _ = _
      rw [kp_all del lo lo.length (Nat.le_refl _) hall, List.take_length]
    clear hall
    go_wp2_with fail
    go_ret
    rw [HE.out]
    exact ⟨rfl, HO1.out, HG1.out⟩
  · have HD0 : Hid (kp del lo (k + 1) = lo.take k) := by
      show _ = _
      rw [kp_succ del lo k hk, if_pos hdel, kp_all del lo k (by omega) hall]
    clear hall hdel
    have hne : ((k : Int) == -1) = false := beq_eq_false_iff_ne.mpr (by omega)
    go_wp2_with fail
    rename World => W0
    go_loopw [5, 6, 7] (fun p j _ wq => ∃ (jj pp : Nat) (r : List Fv), p = .int .i64 pp ∧ j = .int .i64 jj ∧ jj ≤ lo.length ∧ pp + 1 ≤ jj ∧ Hid (r.length = lo.length ∧ r.take pp = kp del lo jj ∧ pp = (kp del lo jj).length ∧ ∀ i, jj ≤ i → r.getD i fv0 = lo.getD i fv0) ∧ Hid (wq.ownsRow B 41 4 (.slice (some ⟨blk, 0, none⟩) r.length cap) r.length (C r)) ∧ Hid (w.grownBy wq (some blk))) (fun _ j _ _ => lo.length - (intOf j).toNat)
    case atStart => exact ⟨k + 1, k, lo, rfl, by go_num, by omega, by omega, hide ⟨rfl, HD0.out.symm, by rw [HD0.out]; simp; omega, fun i _ => rfl⟩, HO1, HG1⟩
    case round =>
      clear HO1 HG1 HD0
      obtain ⟨jj, pp, r, rfl, rfl, hjl, hpp, HI, HOq, HGq⟩ := hrel
      have hblkq := (own_at HOq.out).2
      by_cases hlt2 : jj < lo.length
      · obtain ⟨hrl, hrt, hrp, hrd⟩ := HI.out
        have hxl : jj < r.length := by omega
        obtain ⟨a0, a1, a2, a3⟩ := row_cells HOq.out hxl
        rw [hrd jj (Nat.le_refl _)] at a0 a1 a2 a3
        have hX := getD_mem hlt2
        have HXo := hide (HK.out _ hX)
        have HST : Hid (∀ W : World, w.grownBy W (some blk) → Calls Try.prog 52 #[.agg #[.int .i64 (lo.getD jj fv0).f.t, .int .i64 (lo.getD jj fv0).f.p, (lo.getD jj fv0).mv, (lo.getD jj fv0).dv], .pointer (some ⟨sb, 0, none⟩), .pointer (some ⟨ob, 0, none⟩)] W fun e w' => e = .returned (.bool (del (lo.getD jj fv0).f)) ∧ Grw W w') := fun W hW => HT.out W _ hW hX
        have HDN := hide (kp_succ del lo jj hlt2)
        obtain ⟨x, hxd⟩ : ∃ x, x = lo.getD jj fv0 := ⟨_, rfl⟩
        rw [← hxd] at HST HDN a0 a1 a2 a3 HXo
        clear hxd hX hrt hrp hrd
        have HIR := HI
        clear HI
        generalize del x.f = R at *
        obtain ⟨⟨xa', xc', e1, _⟩, ⟨xb', xe', e2, _⟩⟩ := HXo.out
        rw [e1] at a2 HST
        rw [e2] at a3 HST
        have HE1 := hide e1
        have HE2 := hide e2
        clear e1 e2 HXo
        obtain ⟨xt', hxt⟩ : ∃ z, z = x.f.t := ⟨_, rfl⟩
        obtain ⟨xp', hxp⟩ : ∃ z, z = x.f.p := ⟨_, rfl⟩
        obtain ⟨xml', hxml⟩ : ∃ z, z = x.f.ms.length := ⟨_, rfl⟩
        obtain ⟨xdl', hxdl⟩ : ∃ z, z = x.f.ds.length := ⟨_, rfl⟩
        rw [← hxt] at a0 HST
        rw [← hxp] at a1 HST
        rw [← hxml] at a2 HST HE1
        rw [← hxdl] at a3 HST HE2
        have HX4 : Hid (xt' = x.f.t ∧ xp' = x.f.p) := ⟨hxt, hxp⟩
        clear hxt hxp hxml hxdl
        have p1 : (0 : Int) ≤ (jj : Int) := by omega
        have p2 : (jj : Int) < (lo.length : Int) := by omega
        have hA : Grw wr (wr.alloc (.cells #[.int .i64 xt', .int .i64 xp', .slice xa' xml' xc', .slice xb' xdl' xe'] 41)) := (Grw.refl wr).alloc _
        have HGA := hide (grown_trans HGq.out (Below.grown1 (row := some blk) hA.below))
        go_wp2_with fail
        refine (unhide HST _ HGA.out).mono ?_
        rintro e w2 ⟨rfl, hg2⟩
        have z0 : w2.cell? ⟨wr.heap.size, 0, none⟩ = some (.int .i64 xt') := cell_below (by simp) hg2.below (Nat.le_refl _)
        have z1 : w2.cell? ⟨wr.heap.size, 1, none⟩ = some (.int .i64 xp') := cell_below (by simp) hg2.below (Nat.le_refl _)
        have z2 : w2.cell? ⟨wr.heap.size, 2, none⟩ = some (.slice xa' xml' xc') := cell_below (by simp) hg2.below (Nat.le_refl _)
        have z3 : w2.cell? ⟨wr.heap.size, 3, none⟩ = some (.slice xb' xdl' xe') := cell_below (by simp) hg2.below (Nat.le_refl _)
        have hb2 := (hA.trans hg2).below
        have HO2 := hide (own_below HOq.out hb2)
        have HG2 := hide (grown_trans HGq.out (Below.grown1 hb2))
        have hn1 : ¬blk = wr.heap.size := by omega
        have hn2 : ¬wr.heap.size = blk := by omega
        clear a0 a1 a2 a3 hg2 hb2 HST HOq HGq HGA hA
        cases R
        · rw [if_neg (by simp)] at HDN
          have hppl : pp < r.length := by omega
          obtain ⟨c0, c1, c2, c3⟩ := row_cells HO2.out hppl
          have f0 := HO2.out.frozenAt (pp * 4)
          have f1 := HO2.out.frozenAt (pp * 4 + 1)
          have f2 := HO2.out.frozenAt (pp * 4 + 2)
          have f3 := HO2.out.frozenAt (pp * 4 + 3)
          have HO4 := hide (own_set4 HO2.out pp x hppl)
          rw [← HX4.out.1, ← HX4.out.2, HE1.out, HE2.out] at HO4
          have HG4 := hide (grown_set (j := pp * 4 + 3) (v := .slice xb' xdl' xe') (grown_set (j := pp * 4 + 2) (v := .slice xa' xml' xc') (grown_set (j := pp * 4 + 1) (v := .int .i64 xp') (grown_set (j := pp * 4) (v := .int .i64 xt') HG2.out))))
          have HN : Hid ((r.set pp x).length = lo.length ∧ (r.set pp x).take (pp + 1) = kp del lo (jj + 1) ∧ pp + 1 = (kp del lo (jj + 1)).length ∧ ∀ i, jj + 1 ≤ i → (r.set pp x).getD i fv0 = lo.getD i fv0) := by
            obtain ⟨n1, n2, n3, n4⟩ := HIR.out
            rw [HDN.out]
            refine hide ⟨by simpa using n1, ?_, by simp; omega, fun i hi => ?_⟩
            · rw [← n2]
              rw [List.take_succ_eq_append_getElem (by simpa using hppl), List.take_set_of_le (Nat.le_refl _)]
              simp
            · rw [← n4 i (by omega)]
              simp [List.getD, show ¬ pp = i by omega]
          generalize (r.getD pp fv0).f.t = ct at *
          generalize (r.getD pp fv0).f.p = cp at *
          generalize (r.getD pp fv0).mv = cmv at *
          generalize (r.getD pp fv0).dv = cdv at *
          have t1 : (0 : Int) ≤ (pp : Int) := by omega
          have t2 : (pp : Int) < (lo.length : Int) := by omega
          clear HDN HIR HE1 HE2 HX4 HO2 HG2
          go_wp2_with fail
          go_roundw
          case rel => exact ⟨jj + 1, pp + 1, r.set pp x, by go_num, by go_num, by omega, by omega, HN, HO4, HG4⟩
          case measure => simp [intOf]; omega
        · rw [if_pos rfl] at HDN
          have HN : Hid (r.length = lo.length ∧ r.take pp = kp del lo (jj + 1) ∧ pp = (kp del lo (jj + 1)).length ∧ ∀ i, jj + 1 ≤ i → r.getD i fv0 = lo.getD i fv0) := by
            obtain ⟨n1, n2, n3, n4⟩ := HIR.out
            rw [HDN.out]
            exact hide ⟨n1, n2, n3, fun i hi => n4 i (by omega)⟩
          clear HDN HIR HE1 HE2 HX4
          go_wp2_with fail
          go_roundw
          case rel => exact ⟨jj + 1, pp, r, rfl, by go_num, by omega, by omega, HN, HO2, HG2⟩
          case measure => simp [intOf]; omega
      · obtain ⟨hrl, hrt, hrp, hrd⟩ := HI.out
        have hend : jj = lo.length := by omega
        rw [hend] at hrt hrp
        have HPP := hide hrp
        have HOP : Hid (wr.ownsRow B 41 4 (.slice (some ⟨blk, 0, none⟩) pp cap) pp (C (kp del lo lo.length))) := by
          have := own_prefix HOq.out (show pp ≤ r.length by omega)
          rw [C_take, hrt] at this
          exact hide this
        have hpl : pp < lo.length := by omega
        obtain ⟨vs, hclr⟩ : ∃ vs, ∀ ty, (Builtin.clear_ #[22] ty #[.slice (some ⟨blk, pp * 4, none⟩) (lo.length - pp) (cap - pp)]).run Try.prog wr = .ok (.tuple #[]) (wr.setCells blk (pp * 4) vs) :=
          clear_flows wr blk (pp * 4) (lo.length - pp) (cap - pp) (by omega) (fun j hj => by rw [HOq.out.cellAt (pp * 4 + j) (by omega), List.getElem?_eq_getElem (by rw [C_len]; omega)]; rfl) (fun j hj => HOq.out.frozenAt _)
        have s1 : (lo.length : Int) ≤ (jj : Int) := by omega
        have s2 : (0 : Int) ≤ (pp : Int) := by omega
        have s3 : (pp : Int) ≤ (lo.length : Int) := by omega
        have s4 : (pp : Int) ≤ (cap : Int) := by omega
        have HOE := hide (own_setCells vs (pp * 4) wr HOP.out (Nat.le_refl _))
        have HGE := hide (grown_setCells vs (pp * 4) wr HGq.out)
        clear hrl hrt hrp hrd hend HOP HOq HGq HI hlt2 hjl hpp
        go_wp2_with (simp only [hclr])
        go_ret
        refine ⟨?_, ?_, HGE.out⟩
        · rw [← HPP.out]; rfl
        · rw [← HPP.out]; exact HOE.out

end
end Go.Proofs.Ytonhfgdnkkkikac
