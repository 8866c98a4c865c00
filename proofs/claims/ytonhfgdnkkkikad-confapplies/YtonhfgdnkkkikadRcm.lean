/-
  What the document's ConfMay answers.
-/
import Derived.Test.YtonhfgdnkkkikadRq
import Derived.Deep.RegionLaw
import Derived.Deep.AppendLies
namespace Go.Proofs.Ytonhfgdnkkkikad
open Go.RowKit
set_option linter.unusedVariables false
set_option maxRecDepth 100000

theorem sep_nil (v : Value) : Hid (v.ownBlock = none ∨ v.ownBlock ≠ (Value.slice none 0 0).ownBlock) := by
  cases h : v.ownBlock with
  | none => exact hide (.inl rfl)
  | some g => exact hide (.inr (by simp [Value.ownBlock]))
theorem sep_grown {w : World} {B e size n H g cap m : Nat} {u v : Value} {xs : List Value} (h : w.ownsRow B e size u n xs) (hs : u.ownBlock = none ∨ u.ownBlock ≠ v.ownBlock) (ha : v.ownBlock = some g ∨ g = H) (hH : w.heap.size ≤ H) : u.ownBlock = none ∨ u.ownBlock ≠ (Value.slice (some ⟨g, 0, none⟩) m cap).ownBlock := by
  rcases hs with hs | hs
  · exact .inl hs
  · refine .inr fun e => ?_
    have e' : u.ownBlock = some g := by simpa [Value.ownBlock] using e
    rcases ha with ha | ha
    · exact hs (e'.trans ha.symm)
    · have := own_in h e'
      omega
theorem prFault_small {S : List Sw} {P : List Pr} {x : Pr} (h : prFault S P x = 0) : P.length < 40 := by
  unfold prFault at h
  split at h
  · omega
  · split at h
    · omega
    · split at h
      · omega
      · split at h
        · omega
        · split at h
          · omega
          · omega
theorem acFault_small {S : List Sw} {A : List Ac} {x : Ac} (h : acFault S A x = 0) : A.length < 40 := by
  unfold acFault at h
  split at h
  · omega
  · split at h
    · omega
    · split at h
      · omega
      · split at h
        · omega
        · omega

set_option maxHeartbeats 16000000 in
theorem confMay_any (sv pv av : Value) (S : List Sw) (P : List Pr) (A : List Ac) (w : World) (hC : CfAt w sv pv av S P A) (h1 : S.length * 24 ≤ 140737488355328) (h2 : P.length * 40 ≤ 140737488355328) (h3 : A.length * 72 ≤ 140737488355328) :
    Calls Try.prog 26 #[.agg #[sv, pv, av]] w fun e w' => e = .returned (.bool (may S P A)) ∧ Below w.heap.size w w' := by
  obtain ⟨iS, hiS, zS0, zS1, zS2⟩ := info_parts infoSw
  obtain ⟨iP, hiP, zP0, zP1, zP2⟩ := info_parts infoPr
  obtain ⟨iA, hiA, zA0, zA1, zA2⟩ := info_parts infoAc
  have HC := hide hC
  have HN0 : Hid (∀ k, k < S.length → (swFault (S.take k) [] (S.getD k sw0) == 0) = false → may S P A = false) := fun k hk h => by unfold may swsMay; rw [range_no hk h]; rfl
  have HN1 : Hid (∀ k, k < P.length → (prFault S (P.take k) (P.getD k pr0) == 0) = false → may S P A = false) := fun k hk h => by unfold may prsMay; rw [range_no hk h]; simp
  have HN2 : Hid (∀ k, k < A.length → (acFault S (A.take k) (A.getD k ac0) == 0) = false → may S P A = false) := fun k hk h => by unfold may acsMay; rw [range_no hk h]; simp
  have HYY : Hid (swsMay S = true → prsMay S P = true → acsMay S A = true → may S P A = true) := fun a b c => by unfold may; rw [a, b, c]; rfl
  generalize may S P A = R at *
  obtain ⟨s1, s2, rfl⟩ := hC.1.slice
  obtain ⟨p1, p2, rfl⟩ := hC.2.1.slice
  obtain ⟨a1, a2, rfl⟩ := hC.2.2.slice
  clear hC
  go_enter Try.func26, Try.ntmps26
  go_wp2_with fail
  obtain ⟨W0, hW0⟩ : ∃ W0, W0 = (w.alloc (.cells #[.slice s1 S.length s2, .slice p1 P.length p2, .slice a1 A.length a2] 26)).alloc (.cells #[.slice none 0 0, .slice none 0 0, .slice none 0 0] 26) := ⟨_, rfl⟩
  have hb0 : Below w.heap.size w W0 := by rw [hW0]; exact ((Below.refl _ _).alloc (Nat.le_refl _) _).alloc (by simp) _
  have c0 : W0.cell? ⟨w.heap.size, 0, none⟩ = some (.slice s1 S.length s2) := by rw [hW0]; exact old_cell (new_cell w _ rfl _ _ _ _ rfl) _
  have c1 : W0.cell? ⟨w.heap.size, 1, none⟩ = some (.slice p1 P.length p2) := by rw [hW0]; exact old_cell (new_cell w _ rfl _ _ _ _ rfl) _
  have c2 : W0.cell? ⟨w.heap.size, 2, none⟩ = some (.slice a1 A.length a2) := by rw [hW0]; exact old_cell (new_cell w _ rfl _ _ _ _ rfl) _
  have p_0 : W0.cell? ⟨w.heap.size + 1, 0, none⟩ = some (.slice none 0 0) := by rw [hW0]; exact new_cell _ _ (by simp) _ _ _ _ rfl
  have p_1 : W0.cell? ⟨w.heap.size + 1, 1, none⟩ = some (.slice none 0 0) := by rw [hW0]; exact new_cell _ _ (by simp) _ _ _ _ rfl
  have p_2 : W0.cell? ⟨w.heap.size + 1, 2, none⟩ = some (.slice none 0 0) := by rw [hW0]; exact new_cell _ _ (by simp) _ _ _ _ rfl
  have z_0 : W0.frozen? ⟨w.heap.size + 1, 0, none⟩ = false := by rw [hW0]; simp
  have z_1 : W0.frozen? ⟨w.heap.size + 1, 1, none⟩ = false := by rw [hW0]; simp
  have z_2 : W0.frozen? ⟨w.heap.size + 1, 2, none⟩ = false := by rw [hW0]; simp
  have hz0 : W0.heap.size = w.heap.size + 2 := by rw [hW0]; simp
  rw [← hW0]
  clear hW0
  obtain ⟨xb, hxb⟩ : ∃ xb, xb = w.heap.size + 1 := ⟨_, rfl⟩
  rw [← hxb] at p_0 p_1 p_2 z_0 z_1 z_2 ⊢
  have hx1 : w.heap.size < xb := by omega
  have hx2 : xb + 1 = W0.heap.size := by omega
  clear hxb hz0
  go_loopw [4] (fun i wr => ∃ (k : Nat) (v : Value), k ≤ S.length ∧ k ≤ 12 ∧ i = .int .i64 k ∧ wr.cell? ⟨xb, 0, none⟩ = some (v) ∧ wr.cell? ⟨xb, 1, none⟩ = some (.slice none 0 0) ∧ wr.cell? ⟨xb, 2, none⟩ = some (.slice none 0 0) ∧ wr.frozen? ⟨xb, 0, none⟩ = false ∧ wr.frozen? ⟨xb, 1, none⟩ = false ∧ wr.frozen? ⟨xb, 2, none⟩ = false ∧ Hid (wr.ownsRow (xb + 1) 31 3 v k ((S.take k).flatMap swC)) ∧ Hid (∀ j, j < k → (swFault (S.take j) [] (S.getD j sw0) == 0) = true) ∧ Below xb W0 wr) (fun i _ => S.length - (intOf i).toNat)
  case atStart => exact ⟨0, _, by omega, by omega, rfl, p_0, p_1, p_2, z_0, z_1, z_2, hide ⟨by simp, .inl ⟨rfl, rfl⟩⟩, hide (fun j h => absurd h (by omega)), Below.refl _ _⟩
  case round =>
    clear p_0 p_1 p_2 z_0 z_1 z_2
    obtain ⟨k, v, hk, hkl, rfl, p_0, p_1, p_2, z_0, z_1, z_2, HO, HALL, hbr⟩ := hrel
    have hbw : Below w.heap.size w wr := hb0.trans (hbr.mono (by omega))
    have d0 : wr.cell? ⟨w.heap.size, 0, none⟩ = some (.slice s1 S.length s2) := (hbr.cell (p := ⟨w.heap.size, 0, none⟩) hx1).trans c0
    have d1 : wr.cell? ⟨w.heap.size, 1, none⟩ = some (.slice p1 P.length p2) := (hbr.cell (p := ⟨w.heap.size, 1, none⟩) hx1).trans c1
    have d2 : wr.cell? ⟨w.heap.size, 2, none⟩ = some (.slice a1 A.length a2) := (hbr.cell (p := ⟨w.heap.size, 2, none⟩) hx1).trans c2
    have hxw : xb < wr.heap.size := by have := hbr.size; omega
    by_cases hlt : k < S.length
    · obtain ⟨b, off, cap', e_1, hcap, hb, e0, e1, e2⟩ := sw_at HC.out.1 hlt
      have HLT := hide hlt
      have hlk : Hid ((S.take k).length = k) := by show _ = _; rw [List.length_take]; omega
      obtain ⟨vo, vc, hve⟩ := own_slc HO.out
      subst hve
      have HK : Hid (∀ W : World, Below wr.heap.size wr W → Calls Try.prog 27 #[.agg #[.slice vo k vc, .slice none 0 0, .slice none 0 0], .agg #[.int .i64 (S.getD k sw0).i, .int .i64 (S.getD k sw0).t, .int .i64 (S.getD k sw0).g]] W fun e w' => e = .returned (.int .i64 (swFault (S.take k) [] (S.getD k sw0))) ∧ Below W.heap.size W w') := fun W hW => (switchFault_any _ _ _ (S.take k) [] [] (S.getD k sw0) W ⟨RowAt.of_own swC_len (by omega) (by rw [hlk.out]; exact own_below HO.out hW), RowAt.nil _ _ _, RowAt.nil _ _ _⟩ (ptake_len k 24 h1) (by simp)).mono fun e w' h => by rw [rSw_none] at h; exact h
      have HNk := hide (HN0.out k hlt)
      have HNX : Hid ((swFault (S.take k) [] (S.getD k sw0) == 0) = true → ∀ j, j < k + 1 → (swFault (S.take j) [] (S.getD j sw0) == 0) = true) := fun h j hj => by
        by_cases e : j = k
        · subst e; exact h
        · exact HALL.out j (by omega)
      have HLIM : Hid (swFault (S.take k) [] (S.getD k sw0) = 0 → k < 12) := fun h => by have := (swFault_zero h).2.2; rw [hlk.out] at this; exact this
      have HFL : Hid ((S.take k).flatMap swC ++ [.int .i64 (S.getD k sw0).i, .int .i64 (S.getD k sw0).t, .int .i64 (S.getD k sw0).g] = (S.take (k + 1)).flatMap swC) := flat_next sw0 hlt
      simp only [Value.slice.injEq, true_and] at e_1
      obtain ⟨rfl, rfl⟩ := e_1
      have g0 := cell_beh e0 hbw (Nat.le_refl _)
      have g1 := cell_beh e1 hbw (Nat.le_refl _)
      have g2 := cell_beh e2 hbw (Nat.le_refl _)
      clear HALL e0 e1 e2
      generalize swFault (S.take k) [] (S.getD k sw0) = G at HK HNk HNX HLIM
      generalize (S.getD k sw0).i = x0 at *
      generalize (S.getD k sw0).t = x1 at *
      generalize (S.getD k sw0).g = x2 at *
      have q3 : (0 : Int) ≤ (k : Int) := by omega
      have q4 : (k : Int) < (S.length : Int) := by omega
      go_wp2_with fail
      go_region_held3 (fun w' => w'.cell? ⟨xb, 0, none⟩ = some (.slice vo k vc) ∧ w'.cell? ⟨xb, 1, none⟩ = some (.slice none 0 0) ∧ w'.cell? ⟨xb, 2, none⟩ = some (.slice none 0 0) ∧ w'.cell? ⟨w.heap.size, 0, none⟩ = some (.slice (some ⟨b, off, none⟩) S.length s2) ∧ w'.cell? ⟨b, off + k * 3, none⟩ = some (.int .i64 x0) ∧ w'.cell? ⟨b, off + k * 3 + 1, none⟩ = some (.int .i64 x1) ∧ w'.cell? ⟨b, off + k * 3 + 2, none⟩ = some (.int .i64 x2)) (go_keep)
        (first | (go_at_call 27; refine (unhide HK _ ((Below.refl _ wr).drew)).mono ?_; rintro e w2 ⟨rfl, hc2⟩; have G2 : Below wr.heap.size wr w2 := ((Below.refl _ wr).drew).trans hc2; have t0 := cell_beh p_0 G2 (Nat.le_refl _); have t1 := cell_beh p_1 G2 (Nat.le_refl _); have t2 := cell_beh p_2 G2 (Nat.le_refl _); have t3 := cell_beh d0 G2 (Nat.le_refl _); have t4 := cell_beh g0 G2 (Nat.le_refl _); have t5 := cell_beh g1 G2 (Nat.le_refl _); have t6 := cell_beh g2 G2 (Nat.le_refl _)))
      have OW := hide (own_below HO.out G2)
      have y0 := (G2.frozen (p := ⟨xb, 0, none⟩) hxw).trans z_0
      have y1 := (G2.frozen (p := ⟨xb, 1, none⟩) hxw).trans z_1
      have y2 := (G2.frozen (p := ⟨xb, 2, none⟩) hxw).trans z_2
      have hb2 : Below xb W0 w2 := hbr.trans (G2.mono (Nat.le_of_lt hxw))
      have hx3 : xb < w2.heap.size := Nat.lt_of_lt_of_le hxw G2.size
      have hbx : b < w2.heap.size := cell_in t4
      clear HK hc2 G2 hbr hbw HO p_0 p_1 p_2 z_0 z_1 z_2 d0 d1 d2 hxw  g0 g1 g2
      by_cases hG : G = 0
      · subst hG
        have HN := hide (HNX.out rfl)
        have hlim := HLIM.out rfl
        clear HNX HNk HLIM
        have own1 := hide ((OW.out.alloc (.cells #[.int .i64 x0, .int .i64 x1, .int .i64 x2] 31)).drew)
        have NEWS1 : Hid (∀ j u, [(.int .i64 x0 : Value), (.int .i64 x1 : Value), (.int .i64 x2 : Value)][j]? = some u → (w2.alloc (.cells #[.int .i64 x0, .int .i64 x1, .int .i64 x2] 31)).drew.cell? ((⟨w2.heap.size, 0, none⟩ : Addr).add j) = some u) := by
          intro j u hj
          rw [add_fl, Nat.zero_add]
          exact new_cell w2 _ rfl #[.int .i64 x0, .int .i64 x1, .int .i64 x2] _ j u (by simpa using hj)
        have base1 : xb + 1 ≤ (w2.alloc (.cells #[.int .i64 x0, .int .i64 x1, .int .i64 x2] 31)).drew.heap.size := by simp; omega
        have bel1 : Below (xb + 1) w2 (w2.alloc (.cells #[.int .i64 x0, .int .i64 x1, .int .i64 x2] 31)).drew := ((Below.refl _ w2).alloc (by omega) _).drew
        have hy1 : k + 1 ≤ maxLen := by unfold maxLen; omega
        have hy2 : (k + 1) * 24 ≤ 140737488355328 := by omega
        have hne1 : xb ≠ w.heap.size := by omega
        have hne2 : xb ≠ b := by omega
        have hnw : w.heap.size < w2.heap.size := by omega
        have p2a : (w2.alloc (.cells #[.int .i64 x0, .int .i64 x1, .int .i64 x2] 31)).drew.cell? ⟨xb, 0, none⟩ = some (.slice vo k vc) := (bel1.cell (p := ⟨xb, 0, none⟩) (show xb < xb + 1 by omega)).trans t0
        go_wp2_with fail
        go_region_law
          (first | (refine step_append_lies _ rfl (.tmp 24) (.tmp 30) 22 rfl (xb + 1) 31 iS _ 3 24 Try.underlying22 hiS zS0 zS1 zS2 rfl (by decide) _ _ _ rfl (unhide own1) ⟨w2.heap.size, 0, none⟩ 1 1 [.int .i64 x0, .int .i64 x1, .int .i64 x2] rfl rfl (unhide NEWS1) (all_one rfl) (by decide) hy1 hy2 base1 _ rfl ?_; intro g cap w4 ho4 hg4 hat _; have hb4 := bel1.grown hg4 base1 (own_ge (unhide own1)); have r0 := (hb4.cell (p := ⟨xb, 0, none⟩) (show xb < xb + 1 by omega)).trans t0; have r1 := (hb4.cell (p := ⟨xb, 1, none⟩) (show xb < xb + 1 by omega)).trans t1; have r2 := (hb4.cell (p := ⟨xb, 2, none⟩) (show xb < xb + 1 by omega)).trans t2; have f0 := (hb4.frozen (p := ⟨xb, 0, none⟩) (show xb < xb + 1 by omega)).trans y0; have f1 := (hb4.frozen (p := ⟨xb, 1, none⟩) (show xb < xb + 1 by omega)).trans y1; have f2 := (hb4.frozen (p := ⟨xb, 2, none⟩) (show xb < xb + 1 by omega)).trans y2))
        all_goals
          have HO4 := hide (ownsRow_setCell_below ho4 (a := ⟨xb, 0, none⟩) (show xb < xb + 1 by omega) (.slice (some ⟨g, 0, none⟩) (k + 1) cap))
          have hb5 : Below xb W0 (w4.setCell ⟨xb, 0, none⟩ (.slice (some ⟨g, 0, none⟩) (k + 1) cap)) := (hb2.trans (hb4.mono (Nat.le_succ _))).setCell (Nat.le_refl _) _
          have u0 := World.cell?_setCell_same w4 _ (.slice (some ⟨g, 0, none⟩) (k + 1) cap) r0
          have l0 : (w4.setCell ⟨xb, 0, none⟩ (.slice (some ⟨g, 0, none⟩) (k + 1) cap)).frozen? ⟨xb, 0, none⟩ = false := by rw [World.frozen?_setCell]; exact f0
          have u1 := (World.cell?_setCell_other w4 ⟨xb, 0, none⟩ ⟨xb, 1, none⟩ (.slice (some ⟨g, 0, none⟩) (k + 1) cap) (by simp)).trans r1
          have l1 : (w4.setCell ⟨xb, 0, none⟩ (.slice (some ⟨g, 0, none⟩) (k + 1) cap)).frozen? ⟨xb, 1, none⟩ = false := by rw [World.frozen?_setCell]; exact f1
          have u2 := (World.cell?_setCell_other w4 ⟨xb, 0, none⟩ ⟨xb, 2, none⟩ (.slice (some ⟨g, 0, none⟩) (k + 1) cap) (by simp)).trans r2
          have l2 : (w4.setCell ⟨xb, 0, none⟩ (.slice (some ⟨g, 0, none⟩) (k + 1) cap)).frozen? ⟨xb, 2, none⟩ = false := by rw [World.frozen?_setCell]; exact f2
          have HE : Hid ((w4.setCell ⟨xb, 0, none⟩ (.slice (some ⟨g, 0, none⟩) (k + 1) cap)).ownsRow (xb + 1) 31 3 (.slice (some ⟨g, 0, none⟩) (k + 1) cap) (k + 1) ((S.take (k + 1)).flatMap swC)) := by
            show World.ownsRow _ _ _ _ _ _ _
            rw [← HFL.out]; exact HO4.out
          clear HO4 HFL ho4 hg4 hat r0 r1 r2 f0 f1 f2 own1 NEWS1 base1 bel1 hy1 hy2 OW hb2 hb4 p2a hne1 hne2 hnw hbx t0 t1 t2 t3 t4 t5 t6 y0 y1 y2 
          generalize (w4.setCell ⟨xb, 0, none⟩ (.slice (some ⟨g, 0, none⟩) (k + 1) cap)) = w5 at *
          go_wp2_with fail
          go_roundw
          case rel => exact ⟨k + 1, _, by omega, by omega, by go_num, u0, u1, u2, l0, l1, l2, HE, HN, hb5⟩
          case measure => simp [intOf]; omega
      · obtain rfl := HNk.out (by simpa using hG)
        clear HNX HNk HLIM HFL OW 
        go_wp2_with fail
        go_ret
        exact ⟨rfl, hb0.trans (hb2.mono (by omega))⟩
    · have hkl2 : k = S.length := by omega
      subst hkl2
      have HO0 : Hid (wr.ownsRow (xb + 1) 31 3 v S.length (S.flatMap swC)) := by
        have := HO.out
        rw [List.take_length] at this
        exact hide this
      have HM0 : Hid (swsMay S = true) := range_yes HALL.out
      clear HO HALL
      obtain ⟨v0, hvn⟩ : ∃ z, z = v := ⟨_, rfl⟩
      subst hvn
      go_wp2_with fail
      clear d0 d1 d2
      rename World => W1
      go_loopw [5] (fun i wr => ∃ (k : Nat) (v : Value), k ≤ P.length ∧ k ≤ 40 ∧ i = .int .i64 k ∧ wr.cell? ⟨xb, 0, none⟩ = some (v0) ∧ wr.cell? ⟨xb, 1, none⟩ = some (v) ∧ wr.cell? ⟨xb, 2, none⟩ = some (.slice none 0 0) ∧ wr.frozen? ⟨xb, 0, none⟩ = false ∧ wr.frozen? ⟨xb, 1, none⟩ = false ∧ wr.frozen? ⟨xb, 2, none⟩ = false ∧ Hid (wr.ownsRow (xb + 1) 33 5 v k ((P.take k).flatMap prC)) ∧ Hid (wr.ownsRow (xb + 1) 31 3 v0 S.length (S.flatMap swC)) ∧ Hid (v0.ownBlock = none ∨ v0.ownBlock ≠ v.ownBlock) ∧ Hid (∀ j, j < k → (prFault S (P.take j) (P.getD j pr0) == 0) = true) ∧ Below xb W0 wr) (fun i _ => P.length - (intOf i).toNat)
      case atStart => exact ⟨0, _, by omega, by omega, rfl, p_0, p_1, p_2, z_0, z_1, z_2, hide ⟨by simp, .inl ⟨rfl, rfl⟩⟩, HO0, (sep_nil _), hide (fun j h => absurd h (by omega)), hbr⟩
      case round =>
        clear p_0 p_1 p_2 z_0 z_1 z_2 hbr HO0
        obtain ⟨k, v, hk, hkl, rfl, p_0, p_1, p_2, z_0, z_1, z_2, HO, HO0, HS0, HALL, hbr⟩ := hrel
        have hbw : Below w.heap.size w wr := hb0.trans (hbr.mono (by omega))
        have d0 : wr.cell? ⟨w.heap.size, 0, none⟩ = some (.slice s1 S.length s2) := (hbr.cell (p := ⟨w.heap.size, 0, none⟩) hx1).trans c0
        have d1 : wr.cell? ⟨w.heap.size, 1, none⟩ = some (.slice p1 P.length p2) := (hbr.cell (p := ⟨w.heap.size, 1, none⟩) hx1).trans c1
        have d2 : wr.cell? ⟨w.heap.size, 2, none⟩ = some (.slice a1 A.length a2) := (hbr.cell (p := ⟨w.heap.size, 2, none⟩) hx1).trans c2
        have hxw : xb < wr.heap.size := by have := hbr.size; omega
        by_cases hlt : k < P.length
        · obtain ⟨b, off, cap', e_1, hcap, hb, e0, e1, e2, e3, e4⟩ := pr_at HC.out.2.1 hlt
          have HLT := hide hlt
          have hlk : Hid ((P.take k).length = k) := by show _ = _; rw [List.length_take]; omega
          obtain ⟨vo, vc, hve⟩ := own_slc HO.out
          subst hve
          obtain ⟨vo0, vc0, hve⟩ := own_slc HO0.out
          subst hve
          have HK : Hid (∀ W : World, Below wr.heap.size wr W → Calls Try.prog 28 #[.agg #[.slice vo0 S.length vc0, .slice vo k vc, .slice none 0 0], .agg #[.int .i64 (P.getD k pr0).i, .int .i64 (P.getD k pr0).s, .int .i64 (P.getD k pr0).m, .int .i64 (P.getD k pr0).p, .int .i64 (P.getD k pr0).c]] W fun e w' => e = .returned (.int .i64 (prFault S (P.take k) (P.getD k pr0))) ∧ Below W.heap.size W w') := fun W hW => (portFault_any _ _ _ S (P.take k) [] (P.getD k pr0) W ⟨RowAt.of_own swC_len (by omega) (own_below HO0.out hW), RowAt.of_own prC_len (by omega) (by rw [hlk.out]; exact own_below HO.out hW), RowAt.nil _ _ _⟩ h1 (ptake_len k 40 h2)).mono fun e w' h => by rw [rPr_eq HM0.out] at h; exact h
          have HNk := hide (HN1.out k hlt)
          have HNX : Hid ((prFault S (P.take k) (P.getD k pr0) == 0) = true → ∀ j, j < k + 1 → (prFault S (P.take j) (P.getD j pr0) == 0) = true) := fun h j hj => by
            by_cases e : j = k
            · subst e; exact h
            · exact HALL.out j (by omega)
          have HLIM : Hid (prFault S (P.take k) (P.getD k pr0) = 0 → k < 40) := fun h => by have := prFault_small h; rw [hlk.out] at this; exact this
          have HFL : Hid ((P.take k).flatMap prC ++ [.int .i64 (P.getD k pr0).i, .int .i64 (P.getD k pr0).s, .int .i64 (P.getD k pr0).m, .int .i64 (P.getD k pr0).p, .int .i64 (P.getD k pr0).c] = (P.take (k + 1)).flatMap prC) := flat_next pr0 hlt
          simp only [Value.slice.injEq, true_and] at e_1
          obtain ⟨rfl, rfl⟩ := e_1
          have g0 := cell_beh e0 hbw (Nat.le_refl _)
          have g1 := cell_beh e1 hbw (Nat.le_refl _)
          have g2 := cell_beh e2 hbw (Nat.le_refl _)
          have g3 := cell_beh e3 hbw (Nat.le_refl _)
          have g4 := cell_beh e4 hbw (Nat.le_refl _)
          clear HALL e0 e1 e2 e3 e4
          generalize prFault S (P.take k) (P.getD k pr0) = G at HK HNk HNX HLIM
          generalize (P.getD k pr0).i = x0 at *
          generalize (P.getD k pr0).s = x1 at *
          generalize (P.getD k pr0).m = x2 at *
          generalize (P.getD k pr0).p = x3 at *
          generalize (P.getD k pr0).c = x4 at *
          have q3 : (0 : Int) ≤ (k : Int) := by omega
          have q4 : (k : Int) < (P.length : Int) := by omega
          go_wp2_with fail
          go_region_held3 (fun w' => w'.cell? ⟨xb, 0, none⟩ = some (.slice vo0 S.length vc0) ∧ w'.cell? ⟨xb, 1, none⟩ = some (.slice vo k vc) ∧ w'.cell? ⟨xb, 2, none⟩ = some (.slice none 0 0) ∧ w'.cell? ⟨w.heap.size, 1, none⟩ = some (.slice (some ⟨b, off, none⟩) P.length p2) ∧ w'.cell? ⟨b, off + k * 5, none⟩ = some (.int .i64 x0) ∧ w'.cell? ⟨b, off + k * 5 + 1, none⟩ = some (.int .i64 x1) ∧ w'.cell? ⟨b, off + k * 5 + 2, none⟩ = some (.int .i64 x2) ∧ w'.cell? ⟨b, off + k * 5 + 3, none⟩ = some (.int .i64 x3) ∧ w'.cell? ⟨b, off + k * 5 + 4, none⟩ = some (.int .i64 x4)) (go_keep)
            (first | (go_at_call 28; refine (unhide HK _ ((Below.refl _ wr).drew)).mono ?_; rintro e w2 ⟨rfl, hc2⟩; have G2 : Below wr.heap.size wr w2 := ((Below.refl _ wr).drew).trans hc2; have t0 := cell_beh p_0 G2 (Nat.le_refl _); have t1 := cell_beh p_1 G2 (Nat.le_refl _); have t2 := cell_beh p_2 G2 (Nat.le_refl _); have t3 := cell_beh d1 G2 (Nat.le_refl _); have t4 := cell_beh g0 G2 (Nat.le_refl _); have t5 := cell_beh g1 G2 (Nat.le_refl _); have t6 := cell_beh g2 G2 (Nat.le_refl _); have t7 := cell_beh g3 G2 (Nat.le_refl _); have t8 := cell_beh g4 G2 (Nat.le_refl _)))
          have OW := hide (own_below HO.out G2)
          have OW0 := hide (own_below HO0.out G2)
          have y0 := (G2.frozen (p := ⟨xb, 0, none⟩) hxw).trans z_0
          have y1 := (G2.frozen (p := ⟨xb, 1, none⟩) hxw).trans z_1
          have y2 := (G2.frozen (p := ⟨xb, 2, none⟩) hxw).trans z_2
          have hb2 : Below xb W0 w2 := hbr.trans (G2.mono (Nat.le_of_lt hxw))
          have hx3 : xb < w2.heap.size := Nat.lt_of_lt_of_le hxw G2.size
          have hbx : b < w2.heap.size := cell_in t4
          clear HK hc2 G2 hbr hbw HO p_0 p_1 p_2 z_0 z_1 z_2 d0 d1 d2 hxw HO0 g0 g1 g2 g3 g4
          by_cases hG : G = 0
          · subst hG
            have HN := hide (HNX.out rfl)
            have hlim := HLIM.out rfl
            clear HNX HNk HLIM
            have own1 := hide ((OW.out.alloc (.cells #[.int .i64 x0, .int .i64 x1, .int .i64 x2, .int .i64 x3, .int .i64 x4] 33)).drew)
            have NEWS1 : Hid (∀ j u, [(.int .i64 x0 : Value), (.int .i64 x1 : Value), (.int .i64 x2 : Value), (.int .i64 x3 : Value), (.int .i64 x4 : Value)][j]? = some u → (w2.alloc (.cells #[.int .i64 x0, .int .i64 x1, .int .i64 x2, .int .i64 x3, .int .i64 x4] 33)).drew.cell? ((⟨w2.heap.size, 0, none⟩ : Addr).add j) = some u) := by
              intro j u hj
              rw [add_fl, Nat.zero_add]
              exact new_cell w2 _ rfl #[.int .i64 x0, .int .i64 x1, .int .i64 x2, .int .i64 x3, .int .i64 x4] _ j u (by simpa using hj)
            have base1 : xb + 1 ≤ (w2.alloc (.cells #[.int .i64 x0, .int .i64 x1, .int .i64 x2, .int .i64 x3, .int .i64 x4] 33)).drew.heap.size := by simp; omega
            have bel1 : Below (xb + 1) w2 (w2.alloc (.cells #[.int .i64 x0, .int .i64 x1, .int .i64 x2, .int .i64 x3, .int .i64 x4] 33)).drew := ((Below.refl _ w2).alloc (by omega) _).drew
            have hy1 : k + 1 ≤ maxLen := by unfold maxLen; omega
            have hy2 : (k + 1) * 40 ≤ 140737488355328 := by omega
            have hne1 : xb ≠ w.heap.size := by omega
            have hne2 : xb ≠ b := by omega
            have hnw : w.heap.size < w2.heap.size := by omega
            have p2a : (w2.alloc (.cells #[.int .i64 x0, .int .i64 x1, .int .i64 x2, .int .i64 x3, .int .i64 x4] 33)).drew.cell? ⟨xb, 1, none⟩ = some (.slice vo k vc) := (bel1.cell (p := ⟨xb, 1, none⟩) (show xb < xb + 1 by omega)).trans t1
            go_wp2_with fail
            go_region_law
              (first | (refine step_append_lies _ rfl (.tmp 49) (.tmp 55) 23 rfl (xb + 1) 33 iP _ 5 40 Try.underlying23 hiP zP0 zP1 zP2 rfl (by decide) _ _ _ rfl (unhide own1) ⟨w2.heap.size, 0, none⟩ 1 1 [.int .i64 x0, .int .i64 x1, .int .i64 x2, .int .i64 x3, .int .i64 x4] rfl rfl (unhide NEWS1) (all_one rfl) (by decide) hy1 hy2 base1 _ rfl ?_; intro g cap w4 ho4 hg4 hat _; have hb4 := bel1.grown hg4 base1 (own_ge (unhide own1)); have r0 := (hb4.cell (p := ⟨xb, 0, none⟩) (show xb < xb + 1 by omega)).trans t0; have r1 := (hb4.cell (p := ⟨xb, 1, none⟩) (show xb < xb + 1 by omega)).trans t1; have r2 := (hb4.cell (p := ⟨xb, 2, none⟩) (show xb < xb + 1 by omega)).trans t2; have f0 := (hb4.frozen (p := ⟨xb, 0, none⟩) (show xb < xb + 1 by omega)).trans y0; have f1 := (hb4.frozen (p := ⟨xb, 1, none⟩) (show xb < xb + 1 by omega)).trans y1; have f2 := (hb4.frozen (p := ⟨xb, 2, none⟩) (show xb < xb + 1 by omega)).trans y2))
            all_goals
              have HO4 := hide (ownsRow_setCell_below ho4 (a := ⟨xb, 1, none⟩) (show xb < xb + 1 by omega) (.slice (some ⟨g, 0, none⟩) (k + 1) cap))
              have hb5 : Below xb W0 (w4.setCell ⟨xb, 1, none⟩ (.slice (some ⟨g, 0, none⟩) (k + 1) cap)) := (hb2.trans (hb4.mono (Nat.le_succ _))).setCell (Nat.le_refl _) _
              have u0 := (World.cell?_setCell_other w4 ⟨xb, 1, none⟩ ⟨xb, 0, none⟩ (.slice (some ⟨g, 0, none⟩) (k + 1) cap) (by simp)).trans r0
              have l0 : (w4.setCell ⟨xb, 1, none⟩ (.slice (some ⟨g, 0, none⟩) (k + 1) cap)).frozen? ⟨xb, 0, none⟩ = false := by rw [World.frozen?_setCell]; exact f0
              have u1 := World.cell?_setCell_same w4 _ (.slice (some ⟨g, 0, none⟩) (k + 1) cap) r1
              have l1 : (w4.setCell ⟨xb, 1, none⟩ (.slice (some ⟨g, 0, none⟩) (k + 1) cap)).frozen? ⟨xb, 1, none⟩ = false := by rw [World.frozen?_setCell]; exact f1
              have u2 := (World.cell?_setCell_other w4 ⟨xb, 1, none⟩ ⟨xb, 2, none⟩ (.slice (some ⟨g, 0, none⟩) (k + 1) cap) (by simp)).trans r2
              have l2 : (w4.setCell ⟨xb, 1, none⟩ (.slice (some ⟨g, 0, none⟩) (k + 1) cap)).frozen? ⟨xb, 2, none⟩ = false := by rw [World.frozen?_setCell]; exact f2
              have HE : Hid ((w4.setCell ⟨xb, 1, none⟩ (.slice (some ⟨g, 0, none⟩) (k + 1) cap)).ownsRow (xb + 1) 33 5 (.slice (some ⟨g, 0, none⟩) (k + 1) cap) (k + 1) ((P.take (k + 1)).flatMap prC)) := by
                show World.ownsRow _ _ _ _ _ _ _
                rw [← HFL.out]; exact HO4.out
              have SP0 := sep_grown (m := k + 1) (cap := cap) OW0.out HS0.out (show (Value.slice vo k vc).ownBlock = some g ∨ g = (w2.alloc (.cells #[.int .i64 x0, .int .i64 x1, .int .i64 x2, .int .i64 x3, .int .i64 x4] 33)).drew.heap.size from hat) (by simp)
              have HE0 := hide (ownsRow_setCell_below ((((OW0.out.alloc _).drew).kept hg4 HS0.out)) (a := ⟨xb, 1, none⟩) (show xb < xb + 1 by omega) (.slice (some ⟨g, 0, none⟩) (k + 1) cap))
              clear HO4 HFL ho4 hg4 hat r0 r1 r2 f0 f1 f2 own1 NEWS1 base1 bel1 hy1 hy2 OW hb2 hb4 p2a hne1 hne2 hnw hbx t0 t1 t2 t3 t4 t5 t6 t7 t8 y0 y1 y2 OW0 HS0
              generalize (w4.setCell ⟨xb, 1, none⟩ (.slice (some ⟨g, 0, none⟩) (k + 1) cap)) = w5 at *
              go_wp2_with fail
              go_roundw
              case rel => exact ⟨k + 1, _, by omega, by omega, by go_num, u0, u1, u2, l0, l1, l2, HE, HE0, hide SP0, HN, hb5⟩
              case measure => simp [intOf]; omega
          · obtain rfl := HNk.out (by simpa using hG)
            clear HNX HNk HLIM HFL OW OW0 HS0
            go_wp2_with fail
            go_ret
            exact ⟨rfl, hb0.trans (hb2.mono (by omega))⟩
        · have hkl2 : k = P.length := by omega
          subst hkl2
          have HO1 : Hid (wr.ownsRow (xb + 1) 33 5 v P.length (P.flatMap prC)) := by
            have := HO.out
            rw [List.take_length] at this
            exact hide this
          have HM1 : Hid (prsMay S P = true) := range_yes HALL.out
          clear HO HALL
          obtain ⟨v1, hvn⟩ : ∃ z, z = v := ⟨_, rfl⟩
          subst hvn
          go_wp2_with fail
          clear d0 d1 d2
          rename World => W2
          clear HS0
          go_loopw [6] (fun i wr => ∃ (k : Nat) (v : Value), k ≤ A.length ∧ k ≤ 40 ∧ i = .int .i64 k ∧ wr.cell? ⟨xb, 0, none⟩ = some (v0) ∧ wr.cell? ⟨xb, 1, none⟩ = some (v1) ∧ wr.cell? ⟨xb, 2, none⟩ = some (v) ∧ wr.frozen? ⟨xb, 0, none⟩ = false ∧ wr.frozen? ⟨xb, 1, none⟩ = false ∧ wr.frozen? ⟨xb, 2, none⟩ = false ∧ Hid (wr.ownsRow (xb + 1) 35 9 v k ((A.take k).flatMap acC)) ∧ Hid (wr.ownsRow (xb + 1) 31 3 v0 S.length (S.flatMap swC)) ∧ Hid (v0.ownBlock = none ∨ v0.ownBlock ≠ v.ownBlock) ∧ Hid (wr.ownsRow (xb + 1) 33 5 v1 P.length (P.flatMap prC)) ∧ Hid (v1.ownBlock = none ∨ v1.ownBlock ≠ v.ownBlock) ∧ Hid (∀ j, j < k → (acFault S (A.take j) (A.getD j ac0) == 0) = true) ∧ Below xb W0 wr) (fun i _ => A.length - (intOf i).toNat)
          case atStart => exact ⟨0, _, by omega, by omega, rfl, p_0, p_1, p_2, z_0, z_1, z_2, hide ⟨by simp, .inl ⟨rfl, rfl⟩⟩, HO0, (sep_nil _), HO1, (sep_nil _), hide (fun j h => absurd h (by omega)), hbr⟩
          case round =>
            clear p_0 p_1 p_2 z_0 z_1 z_2 hbr HO0 HO1
            obtain ⟨k, v, hk, hkl, rfl, p_0, p_1, p_2, z_0, z_1, z_2, HO, HO0, HS0, HO1, HS1, HALL, hbr⟩ := hrel
            have hbw : Below w.heap.size w wr := hb0.trans (hbr.mono (by omega))
            have d0 : wr.cell? ⟨w.heap.size, 0, none⟩ = some (.slice s1 S.length s2) := (hbr.cell (p := ⟨w.heap.size, 0, none⟩) hx1).trans c0
            have d1 : wr.cell? ⟨w.heap.size, 1, none⟩ = some (.slice p1 P.length p2) := (hbr.cell (p := ⟨w.heap.size, 1, none⟩) hx1).trans c1
            have d2 : wr.cell? ⟨w.heap.size, 2, none⟩ = some (.slice a1 A.length a2) := (hbr.cell (p := ⟨w.heap.size, 2, none⟩) hx1).trans c2
            have hxw : xb < wr.heap.size := by have := hbr.size; omega
            by_cases hlt : k < A.length
            · obtain ⟨b, off, cap', e_1, hcap, hb, e0, e1, e2, e3, e4, e5, e6, e7, e8⟩ := ac_at HC.out.2.2 hlt
              have HLT := hide hlt
              have hlk : Hid ((A.take k).length = k) := by show _ = _; rw [List.length_take]; omega
              obtain ⟨vo, vc, hve⟩ := own_slc HO.out
              subst hve
              obtain ⟨vo0, vc0, hve⟩ := own_slc HO0.out
              subst hve
              obtain ⟨vo1, vc1, hve⟩ := own_slc HO1.out
              subst hve
              have HK : Hid (∀ W : World, Below wr.heap.size wr W → Calls Try.prog 29 #[.agg #[.slice vo0 S.length vc0, .slice vo1 P.length vc1, .slice vo k vc], .agg #[.int .i64 (A.getD k ac0).s, .int .i64 (A.getD k ac0).p, .bool (A.getD k ac0).n, .int .i64 (A.getD k ac0).src, .int .i64 (A.getD k ac0).sb, .int .i64 (A.getD k ac0).dst, .int .i64 (A.getD k ac0).db, .int .i64 (A.getD k ac0).o, .bool (A.getD k ac0).d]] W fun e w' => e = .returned (.int .i64 (acFault S (A.take k) (A.getD k ac0))) ∧ Below W.heap.size W w') := fun W hW => aclFault_any _ _ _ S P (A.take k) (A.getD k ac0) W ⟨RowAt.of_own swC_len (by omega) (own_below HO0.out hW), RowAt.of_own prC_len (by omega) (own_below HO1.out hW), RowAt.of_own acC_len (by omega) (by rw [hlk.out]; exact own_below HO.out hW)⟩ h1
              have HNk := hide (HN2.out k hlt)
              have HNX : Hid ((acFault S (A.take k) (A.getD k ac0) == 0) = true → ∀ j, j < k + 1 → (acFault S (A.take j) (A.getD j ac0) == 0) = true) := fun h j hj => by
                by_cases e : j = k
                · subst e; exact h
                · exact HALL.out j (by omega)
              have HLIM : Hid (acFault S (A.take k) (A.getD k ac0) = 0 → k < 40) := fun h => by have := acFault_small h; rw [hlk.out] at this; exact this
              have HFL : Hid ((A.take k).flatMap acC ++ [.int .i64 (A.getD k ac0).s, .int .i64 (A.getD k ac0).p, .bool (A.getD k ac0).n, .int .i64 (A.getD k ac0).src, .int .i64 (A.getD k ac0).sb, .int .i64 (A.getD k ac0).dst, .int .i64 (A.getD k ac0).db, .int .i64 (A.getD k ac0).o, .bool (A.getD k ac0).d] = (A.take (k + 1)).flatMap acC) := flat_next ac0 hlt
              simp only [Value.slice.injEq, true_and] at e_1
              obtain ⟨rfl, rfl⟩ := e_1
              have g0 := cell_beh e0 hbw (Nat.le_refl _)
              have g1 := cell_beh e1 hbw (Nat.le_refl _)
              have g2 := cell_beh e2 hbw (Nat.le_refl _)
              have g3 := cell_beh e3 hbw (Nat.le_refl _)
              have g4 := cell_beh e4 hbw (Nat.le_refl _)
              have g5 := cell_beh e5 hbw (Nat.le_refl _)
              have g6 := cell_beh e6 hbw (Nat.le_refl _)
              have g7 := cell_beh e7 hbw (Nat.le_refl _)
              have g8 := cell_beh e8 hbw (Nat.le_refl _)
              clear HALL e0 e1 e2 e3 e4 e5 e6 e7 e8
              generalize acFault S (A.take k) (A.getD k ac0) = G at HK HNk HNX HLIM
              generalize (A.getD k ac0).s = x0 at *
              generalize (A.getD k ac0).p = x1 at *
              generalize (A.getD k ac0).n = x2 at *
              generalize (A.getD k ac0).src = x3 at *
              generalize (A.getD k ac0).sb = x4 at *
              generalize (A.getD k ac0).dst = x5 at *
              generalize (A.getD k ac0).db = x6 at *
              generalize (A.getD k ac0).o = x7 at *
              generalize (A.getD k ac0).d = x8 at *
              have q3 : (0 : Int) ≤ (k : Int) := by omega
              have q4 : (k : Int) < (A.length : Int) := by omega
              go_wp2_with fail
              go_region_held3 (fun w' => w'.cell? ⟨xb, 0, none⟩ = some (.slice vo0 S.length vc0) ∧ w'.cell? ⟨xb, 1, none⟩ = some (.slice vo1 P.length vc1) ∧ w'.cell? ⟨xb, 2, none⟩ = some (.slice vo k vc) ∧ w'.cell? ⟨w.heap.size, 2, none⟩ = some (.slice (some ⟨b, off, none⟩) A.length a2) ∧ w'.cell? ⟨b, off + k * 9, none⟩ = some (.int .i64 x0) ∧ w'.cell? ⟨b, off + k * 9 + 1, none⟩ = some (.int .i64 x1) ∧ w'.cell? ⟨b, off + k * 9 + 2, none⟩ = some (.bool x2) ∧ w'.cell? ⟨b, off + k * 9 + 3, none⟩ = some (.int .i64 x3) ∧ w'.cell? ⟨b, off + k * 9 + 4, none⟩ = some (.int .i64 x4) ∧ w'.cell? ⟨b, off + k * 9 + 5, none⟩ = some (.int .i64 x5) ∧ w'.cell? ⟨b, off + k * 9 + 6, none⟩ = some (.int .i64 x6) ∧ w'.cell? ⟨b, off + k * 9 + 7, none⟩ = some (.int .i64 x7) ∧ w'.cell? ⟨b, off + k * 9 + 8, none⟩ = some (.bool x8)) (go_keep)
                (first | (go_at_call 29; refine (unhide HK _ ((Below.refl _ wr).drew)).mono ?_; rintro e w2 ⟨rfl, hc2⟩; have G2 : Below wr.heap.size wr w2 := ((Below.refl _ wr).drew).trans hc2; have t0 := cell_beh p_0 G2 (Nat.le_refl _); have t1 := cell_beh p_1 G2 (Nat.le_refl _); have t2 := cell_beh p_2 G2 (Nat.le_refl _); have t3 := cell_beh d2 G2 (Nat.le_refl _); have t4 := cell_beh g0 G2 (Nat.le_refl _); have t5 := cell_beh g1 G2 (Nat.le_refl _); have t6 := cell_beh g2 G2 (Nat.le_refl _); have t7 := cell_beh g3 G2 (Nat.le_refl _); have t8 := cell_beh g4 G2 (Nat.le_refl _); have t9 := cell_beh g5 G2 (Nat.le_refl _); have t10 := cell_beh g6 G2 (Nat.le_refl _); have t11 := cell_beh g7 G2 (Nat.le_refl _); have t12 := cell_beh g8 G2 (Nat.le_refl _)))
              have OW := hide (own_below HO.out G2)
              have OW0 := hide (own_below HO0.out G2)
              have OW1 := hide (own_below HO1.out G2)
              have y0 := (G2.frozen (p := ⟨xb, 0, none⟩) hxw).trans z_0
              have y1 := (G2.frozen (p := ⟨xb, 1, none⟩) hxw).trans z_1
              have y2 := (G2.frozen (p := ⟨xb, 2, none⟩) hxw).trans z_2
              have hb2 : Below xb W0 w2 := hbr.trans (G2.mono (Nat.le_of_lt hxw))
              have hx3 : xb < w2.heap.size := Nat.lt_of_lt_of_le hxw G2.size
              have hbx : b < w2.heap.size := cell_in t4
              clear HK hc2 G2 hbr hbw HO p_0 p_1 p_2 z_0 z_1 z_2 d0 d1 d2 hxw HO0 HO1 g0 g1 g2 g3 g4 g5 g6 g7 g8
              by_cases hG : G = 0
              · subst hG
                have HN := hide (HNX.out rfl)
                have hlim := HLIM.out rfl
                clear HNX HNk HLIM
                have own1 := hide ((OW.out.alloc (.cells #[.int .i64 x0, .int .i64 x1, .bool x2, .int .i64 x3, .int .i64 x4, .int .i64 x5, .int .i64 x6, .int .i64 x7, .bool x8] 35)).drew)
                have NEWS1 : Hid (∀ j u, [(.int .i64 x0 : Value), (.int .i64 x1 : Value), (.bool x2 : Value), (.int .i64 x3 : Value), (.int .i64 x4 : Value), (.int .i64 x5 : Value), (.int .i64 x6 : Value), (.int .i64 x7 : Value), (.bool x8 : Value)][j]? = some u → (w2.alloc (.cells #[.int .i64 x0, .int .i64 x1, .bool x2, .int .i64 x3, .int .i64 x4, .int .i64 x5, .int .i64 x6, .int .i64 x7, .bool x8] 35)).drew.cell? ((⟨w2.heap.size, 0, none⟩ : Addr).add j) = some u) := by
                  intro j u hj
                  rw [add_fl, Nat.zero_add]
                  exact new_cell w2 _ rfl #[.int .i64 x0, .int .i64 x1, .bool x2, .int .i64 x3, .int .i64 x4, .int .i64 x5, .int .i64 x6, .int .i64 x7, .bool x8] _ j u (by simpa using hj)
                have base1 : xb + 1 ≤ (w2.alloc (.cells #[.int .i64 x0, .int .i64 x1, .bool x2, .int .i64 x3, .int .i64 x4, .int .i64 x5, .int .i64 x6, .int .i64 x7, .bool x8] 35)).drew.heap.size := by simp; omega
                have bel1 : Below (xb + 1) w2 (w2.alloc (.cells #[.int .i64 x0, .int .i64 x1, .bool x2, .int .i64 x3, .int .i64 x4, .int .i64 x5, .int .i64 x6, .int .i64 x7, .bool x8] 35)).drew := ((Below.refl _ w2).alloc (by omega) _).drew
                have hy1 : k + 1 ≤ maxLen := by unfold maxLen; omega
                have hy2 : (k + 1) * 72 ≤ 140737488355328 := by omega
                have hne1 : xb ≠ w.heap.size := by omega
                have hne2 : xb ≠ b := by omega
                have hnw : w.heap.size < w2.heap.size := by omega
                have p2a : (w2.alloc (.cells #[.int .i64 x0, .int .i64 x1, .bool x2, .int .i64 x3, .int .i64 x4, .int .i64 x5, .int .i64 x6, .int .i64 x7, .bool x8] 35)).drew.cell? ⟨xb, 2, none⟩ = some (.slice vo k vc) := (bel1.cell (p := ⟨xb, 2, none⟩) (show xb < xb + 1 by omega)).trans t2
                go_wp2_with fail
                go_region_law
                  (first | (refine step_append_lies _ rfl (.tmp 74) (.tmp 80) 24 rfl (xb + 1) 35 iA _ 9 72 Try.underlying24 hiA zA0 zA1 zA2 rfl (by decide) _ _ _ rfl (unhide own1) ⟨w2.heap.size, 0, none⟩ 1 1 [.int .i64 x0, .int .i64 x1, .bool x2, .int .i64 x3, .int .i64 x4, .int .i64 x5, .int .i64 x6, .int .i64 x7, .bool x8] rfl rfl (unhide NEWS1) (all_one rfl) (by decide) hy1 hy2 base1 _ rfl ?_; intro g cap w4 ho4 hg4 hat _; have hb4 := bel1.grown hg4 base1 (own_ge (unhide own1)); have r0 := (hb4.cell (p := ⟨xb, 0, none⟩) (show xb < xb + 1 by omega)).trans t0; have r1 := (hb4.cell (p := ⟨xb, 1, none⟩) (show xb < xb + 1 by omega)).trans t1; have r2 := (hb4.cell (p := ⟨xb, 2, none⟩) (show xb < xb + 1 by omega)).trans t2; have f0 := (hb4.frozen (p := ⟨xb, 0, none⟩) (show xb < xb + 1 by omega)).trans y0; have f1 := (hb4.frozen (p := ⟨xb, 1, none⟩) (show xb < xb + 1 by omega)).trans y1; have f2 := (hb4.frozen (p := ⟨xb, 2, none⟩) (show xb < xb + 1 by omega)).trans y2))
                all_goals
                  have HO4 := hide (ownsRow_setCell_below ho4 (a := ⟨xb, 2, none⟩) (show xb < xb + 1 by omega) (.slice (some ⟨g, 0, none⟩) (k + 1) cap))
                  have hb5 : Below xb W0 (w4.setCell ⟨xb, 2, none⟩ (.slice (some ⟨g, 0, none⟩) (k + 1) cap)) := (hb2.trans (hb4.mono (Nat.le_succ _))).setCell (Nat.le_refl _) _
                  have u0 := (World.cell?_setCell_other w4 ⟨xb, 2, none⟩ ⟨xb, 0, none⟩ (.slice (some ⟨g, 0, none⟩) (k + 1) cap) (by simp)).trans r0
                  have l0 : (w4.setCell ⟨xb, 2, none⟩ (.slice (some ⟨g, 0, none⟩) (k + 1) cap)).frozen? ⟨xb, 0, none⟩ = false := by rw [World.frozen?_setCell]; exact f0
                  have u1 := (World.cell?_setCell_other w4 ⟨xb, 2, none⟩ ⟨xb, 1, none⟩ (.slice (some ⟨g, 0, none⟩) (k + 1) cap) (by simp)).trans r1
                  have l1 : (w4.setCell ⟨xb, 2, none⟩ (.slice (some ⟨g, 0, none⟩) (k + 1) cap)).frozen? ⟨xb, 1, none⟩ = false := by rw [World.frozen?_setCell]; exact f1
                  have u2 := World.cell?_setCell_same w4 _ (.slice (some ⟨g, 0, none⟩) (k + 1) cap) r2
                  have l2 : (w4.setCell ⟨xb, 2, none⟩ (.slice (some ⟨g, 0, none⟩) (k + 1) cap)).frozen? ⟨xb, 2, none⟩ = false := by rw [World.frozen?_setCell]; exact f2
                  have HE : Hid ((w4.setCell ⟨xb, 2, none⟩ (.slice (some ⟨g, 0, none⟩) (k + 1) cap)).ownsRow (xb + 1) 35 9 (.slice (some ⟨g, 0, none⟩) (k + 1) cap) (k + 1) ((A.take (k + 1)).flatMap acC)) := by
                    show World.ownsRow _ _ _ _ _ _ _
                    rw [← HFL.out]; exact HO4.out
                  have SP0 := sep_grown (m := k + 1) (cap := cap) OW0.out HS0.out (show (Value.slice vo k vc).ownBlock = some g ∨ g = (w2.alloc (.cells #[.int .i64 x0, .int .i64 x1, .bool x2, .int .i64 x3, .int .i64 x4, .int .i64 x5, .int .i64 x6, .int .i64 x7, .bool x8] 35)).drew.heap.size from hat) (by simp)
                  have HE0 := hide (ownsRow_setCell_below ((((OW0.out.alloc _).drew).kept hg4 HS0.out)) (a := ⟨xb, 2, none⟩) (show xb < xb + 1 by omega) (.slice (some ⟨g, 0, none⟩) (k + 1) cap))
                  have SP1 := sep_grown (m := k + 1) (cap := cap) OW1.out HS1.out (show (Value.slice vo k vc).ownBlock = some g ∨ g = (w2.alloc (.cells #[.int .i64 x0, .int .i64 x1, .bool x2, .int .i64 x3, .int .i64 x4, .int .i64 x5, .int .i64 x6, .int .i64 x7, .bool x8] 35)).drew.heap.size from hat) (by simp)
                  have HE1 := hide (ownsRow_setCell_below ((((OW1.out.alloc _).drew).kept hg4 HS1.out)) (a := ⟨xb, 2, none⟩) (show xb < xb + 1 by omega) (.slice (some ⟨g, 0, none⟩) (k + 1) cap))
                  clear HO4 HFL ho4 hg4 hat r0 r1 r2 f0 f1 f2 own1 NEWS1 base1 bel1 hy1 hy2 OW hb2 hb4 p2a hne1 hne2 hnw hbx t0 t1 t2 t3 t4 t5 t6 t7 t8 t9 t10 t11 t12 y0 y1 y2 OW0 HS0 OW1 HS1
                  generalize (w4.setCell ⟨xb, 2, none⟩ (.slice (some ⟨g, 0, none⟩) (k + 1) cap)) = w5 at *
                  go_wp2_with fail
                  go_roundw
                  case rel => exact ⟨k + 1, _, by omega, by omega, by go_num, u0, u1, u2, l0, l1, l2, HE, HE0, hide SP0, HE1, hide SP1, HN, hb5⟩
                  case measure => simp [intOf]; omega
              · obtain rfl := HNk.out (by simpa using hG)
                clear HNX HNk HLIM HFL OW OW0 HS0 OW1 HS1
                go_wp2_with fail
                go_ret
                exact ⟨rfl, hb0.trans (hb2.mono (by omega))⟩
            · have hkl2 : k = A.length := by omega
              subst hkl2
              have HO2 : Hid (wr.ownsRow (xb + 1) 35 9 v A.length (A.flatMap acC)) := by
                have := HO.out
                rw [List.take_length] at this
                exact hide this
              have HM2 : Hid (acsMay S A = true) := range_yes HALL.out
              obtain rfl := HYY.out HM0.out HM1.out HM2.out
              clear HO HALL
              go_wp2_with fail
              go_ret
              exact ⟨rfl, hbw⟩

end Go.Proofs.Ytonhfgdnkkkikad
