/- The law ConfsGood returns true at every list of raw numbers and at every raw number, and both read behind the call as they read before; no condition. -/
import Derived.Test.YtonhfgdnkkkikadKn
namespace Go.Proofs.Ytonhfgdnkkkikad
open Go.ChangeShapes Go.WideShapes Go.ChangeAt Go.RowKit
set_option linter.unusedVariables false
set_option maxRecDepth 100000

set_option maxHeartbeats 16000000 in
theorem confsGood_any (lv : Value) (l : List Rw) (r : Rw) (w : World) (hL : RowAt rwC 4 w lv l) :
    Calls Try.prog 5 #[lv, .agg #[.int .i64 r.k, .int .i64 r.a, .int .i64 r.b, .int .i64 r.c]] w fun e w' => e = .returned (.bool true) ∧ Below w.heap.size w w' := by
  have HL := hide (fun W (hW : Below w.heap.size w W) => conf_any l lv W (RowAt.below hL hW (Nat.le_refl _)))
  have HCX := hide (fun W => change_any (r.k, r.a, r.b, r.c) W r.ok.1 r.ok.2.1 r.ok.2.2.1 r.ok.2.2.2)
  have HAP2 : Hid (∀ (W : World) (a : Ax) (sv pv av : Value) (S : List Sw) (P : List Pr) (A : List Ac), a.si ≤ 6 → Fine S P A → CfAt W sv pv av S P A → Calls Try.prog 11 #[.agg #[sv, pv, av], actV a] W fun e w' => ∃ (su pu au : Value) (E : Int), e = .returned (.tuple #[.agg #[su, pu, au], .int .i64 E]) ∧ ∃ LS LP LA, CfAt w' su pu au LS LP LA ∧ ((E = 0 → may LS LP LA = true) ∧ (E ≠ 0 → LS = [] ∧ LP = [])) ∧ Below W.heap.size W w') := fun W a sv pv av S P A hs hf hC => by
    obtain ⟨q1, q2, q3⟩ := may_len hf.1
    refine (apply_any sv pv av S P A a W hC (by omega) (by omega) (by omega)).mono ?_
    rintro e w' ⟨su, pu, au, rfl, hc, hb⟩
    exact ⟨su, pu, au, _, rfl, _, _, _, hc, ⟨fun h => may_after hf.1 h, fun h => ⟨(ap_none h).1, (ap_none h).2.1⟩⟩, hb⟩
  have HAPS : Hid (∀ (W : World) (sv pv av : Value) (S : List Sw) (P : List Pr) (A : List Ac), Fine S P A → CfAt W sv pv av S P A → Calls Try.prog 11 #[.agg #[sv, pv, av], actV ⟨7, 0, 0, 0, 0, 0, 0, 0, 0, 0, 0, false, 0, 0, 0, 0, 0, false, 0, 0, 0, 0, 0, 0, 0, 0, 0, ⟨#[]⟩⟩] W fun e w' => ∃ (su pu au : Value), e = .returned (.tuple #[.agg #[su, pu, au], .int .i64 3]) ∧ CfAt w' su pu au [] [] [] ∧ Below W.heap.size W w') := fun W sv pv av S P A hf hC => by
    obtain ⟨q1, q2, q3⟩ := may_len hf.1
    have h3 : appE S P A ⟨7, 0, 0, 0, 0, 0, 0, 0, 0, 0, 0, false, 0, 0, 0, 0, 0, false, 0, 0, 0, 0, 0, 0, 0, 0, 0, ⟨#[]⟩⟩ = 3 := app_kind hf.1 rfl
    have hn := ap_none (S := S) (P := P) (A := A) (a := ⟨7, 0, 0, 0, 0, 0, 0, 0, 0, 0, 0, false, 0, 0, 0, 0, 0, false, 0, 0, 0, 0, 0, 0, 0, 0, 0, ⟨#[]⟩⟩) (by rw [h3]; decide)
    refine (apply_any sv pv av S P A ⟨7, 0, 0, 0, 0, 0, 0, 0, 0, 0, 0, false, 0, 0, 0, 0, 0, false, 0, 0, 0, 0, 0, 0, 0, 0, 0, ⟨#[]⟩⟩ W hC (by omega) (by omega) (by omega)).mono ?_
    rintro e w' ⟨su, pu, au, rfl, hc, hb⟩
    rw [hn.1, hn.2.1, hn.2.2] at hc
    rw [h3]
    exact ⟨su, pu, au, rfl, hc, hb⟩
  have HCK : Hid (∀ (W : World) (sv pv av : Value) (S : List Sw) (P : List Pr) (A : List Ac), may S P A = true → CfAt W sv pv av S P A → Calls Try.prog 15 #[.agg #[sv, pv, av]] W fun e w' => e = .returned (.int .i64 0) ∧ Below W.heap.size W w') := fun W sv pv av S P A hm hC => by
    obtain ⟨q1, q2, q3⟩ := may_len hm
    refine (confCheck_any sv pv av S P A W hC (by omega) (by omega) (by omega)).mono ?_
    rintro e w' ⟨rfl, hb⟩
    rw [if_pos hm]
    exact ⟨rfl, hb⟩
  have HCY : Hid (∀ (W : World) (sv pv av : Value) (S : List Sw) (P : List Pr) (A : List Ac), may S P A = true → CfAt W sv pv av S P A → Calls Try.prog 8 #[.agg #[sv, pv, av]] W fun e w' => ∃ (su pu au : Value), e = .returned (.agg #[su, pu, au]) ∧ CfAt w' su pu au S P A ∧ Below W.heap.size W w') := fun W sv pv av S P A hm hC => by
    obtain ⟨q1, q2, q3⟩ := may_len hm
    refine (copy_any sv pv av S P A W hC (by omega) (by omega) (by omega)).mono ?_
    rintro e w' ⟨su, pu, au, rfl, ho, hb⟩
    exact ⟨su, pu, au, rfl, ho.cf, hb⟩
  obtain ⟨la, lc, rfl⟩ := hL.slice
  clear hL
  generalize r.k = x0 at *
  generalize r.a = x1 at *
  generalize r.b = x2 at *
  generalize r.c = x3 at *
  go_enter Try.func5, Try.ntmps5
  go_wp2_with fail
  obtain ⟨W0, hW0⟩ : ∃ W0, W0 = w.alloc (.cells #[.int .i64 x0, .int .i64 x1, .int .i64 x2, .int .i64 x3] 46) := ⟨_, rfl⟩
  have k0 : Below w.heap.size w W0 := by rw [hW0]; exact (Below.refl _ w).alloc (Nat.le_refl _) _
  have g0 : W0.cell? ⟨w.heap.size, 0, none⟩ = some (.int .i64 x0) := by rw [hW0]; exact new_cell w _ rfl _ _ _ _ rfl
  have g1 : W0.cell? ⟨w.heap.size, 1, none⟩ = some (.int .i64 x1) := by rw [hW0]; exact new_cell w _ rfl _ _ _ _ rfl
  have g2 : W0.cell? ⟨w.heap.size, 2, none⟩ = some (.int .i64 x2) := by rw [hW0]; exact new_cell w _ rfl _ _ _ _ rfl
  have g3 : W0.cell? ⟨w.heap.size, 3, none⟩ = some (.int .i64 x3) := by rw [hW0]; exact new_cell w _ rfl _ _ _ _ rfl
  rw [← hW0]
  clear hW0
  refine (unhide HL _ k0).mono ?_
  rintro e w1 ⟨su, pu, au, rfl, S, P, A, hC, hF, hb1⟩
  have HC := hide hC
  have HF := hide hF
  clear hC hF HL
  obtain ⟨m1, m2, rfl⟩ := HC.out.1.slice
  obtain ⟨m3, m4, rfl⟩ := HC.out.2.1.slice
  obtain ⟨m5, m6, rfl⟩ := HC.out.2.2.slice
  replace g0 := cell_beh g0 hb1 (Nat.le_refl _)
  replace g1 := cell_beh g1 hb1 (Nat.le_refl _)
  replace g2 := cell_beh g2 hb1 (Nat.le_refl _)
  replace g3 := cell_beh g3 hb1 (Nat.le_refl _)
  replace k0 := k0.trans (hb1.mono k0.size)
  clear hb1
  go_wp2_with fail
  obtain ⟨W1, hW1⟩ : ∃ W1, W1 = w1.alloc (.cells #[.slice m1 S.length m2, .slice m3 P.length m4, .slice m5 A.length m6] 26) := ⟨_, rfl⟩
  obtain ⟨cb, hcb⟩ : ∃ cb, cb = w1.heap.size := ⟨_, rfl⟩
  have hbN : Below w1.heap.size w1 W1 := by rw [hW1]; exact (Below.refl _ _).alloc (Nat.le_refl _) _
  have c0 : W1.cell? ⟨cb, 0, none⟩ = some (.slice m1 S.length m2) := by rw [hW1, hcb]; exact new_cell w1 _ rfl _ _ _ _ rfl
  have c1 : W1.cell? ⟨cb, 1, none⟩ = some (.slice m3 P.length m4) := by rw [hW1, hcb]; exact new_cell w1 _ rfl _ _ _ _ rfl
  have c2 : W1.cell? ⟨cb, 2, none⟩ = some (.slice m5 A.length m6) := by rw [hW1, hcb]; exact new_cell w1 _ rfl _ _ _ _ rfl
  have hwc : w.heap.size < cb := by rw [hcb]; exact cell_in g0
  replace g0 := cell_beh g0 hbN (Nat.le_refl _)
  replace g1 := cell_beh g1 hbN (Nat.le_refl _)
  replace g2 := cell_beh g2 hbN (Nat.le_refl _)
  replace g3 := cell_beh g3 hbN (Nat.le_refl _)
  replace HC := hide (HC.out.below hbN (Nat.le_refl _))
  replace k0 := k0.trans (hbN.mono k0.size)
  rw [← hW1, ← hcb]
  clear hW1 hcb hbN
  refine wp_region_held_drew (S := (fun w' => w'.cell? ⟨cb, 0, none⟩ = some (.slice m1 S.length m2) ∧ w'.cell? ⟨cb, 1, none⟩ = some (.slice m3 P.length m4) ∧ w'.cell? ⟨cb, 2, none⟩ = some (.slice m5 A.length m6) ∧ w'.cell? ⟨w.heap.size, 0, none⟩ = some (.int .i64 x0) ∧ w'.cell? ⟨w.heap.size, 1, none⟩ = some (.int .i64 x1) ∧ w'.cell? ⟨w.heap.size, 2, none⟩ = some (.int .i64 x2) ∧ w'.cell? ⟨w.heap.size, 3, none⟩ = some (.int .i64 x3))) (by kernel_rfl) ⟨c0, c1, c2, g0, g1, g2, g3⟩ (fun hHeld => ?_)
  have HDW : Below W1.heap.size W1 W1.drew := (Below.refl _ _).drew
  replace c0 := cell_beh c0 HDW (Nat.le_refl _)
  replace c1 := cell_beh c1 HDW (Nat.le_refl _)
  replace c2 := cell_beh c2 HDW (Nat.le_refl _)
  replace g0 := cell_beh g0 HDW (Nat.le_refl _)
  replace g1 := cell_beh g1 HDW (Nat.le_refl _)
  replace g2 := cell_beh g2 HDW (Nat.le_refl _)
  replace g3 := cell_beh g3 HDW (Nat.le_refl _)
  replace HC := hide (HC.out.below HDW (Nat.le_refl _))
  replace k0 := k0.trans (HDW.mono k0.size)
  clear HDW
  generalize W1.drew = V0 at *
  refine wpAnyH_take (i := 0) (oi := ⟨some 13, _, _, _, _, _⟩) (v := ?v1) rfl (by kernel_rfl) (by kernel_rfl) (by kernel_rfl) (fun _ _ _ h => h) (Or.inl ⟨by rfl, ?h1⟩) (by assumption) ?r1
  case h1 => (intro w hSw; (try dsimp only at hSw); go_simp <;> with_reducible rfl)
  (try simp only [Act.put, List.setIfInBounds_toArray, List.set_cons_zero, List.set_cons_succ])
  refine wpAnyH_take (i := 1) (oi := ⟨some 14, _, _, _, _, _⟩) (v := ?v2) rfl (by kernel_rfl) (by kernel_rfl) (by kernel_rfl) (fun _ _ _ h => h) (Or.inl ⟨by rfl, ?h2⟩) (by assumption) ?r2
  case h2 => (intro w hSw; (try dsimp only at hSw); go_simp <;> with_reducible rfl)
  (try simp only [Act.put, List.setIfInBounds_toArray, List.set_cons_zero, List.set_cons_succ])
  refine wpAnyH_ready (rs := [2, 7]) (by kernel_rfl) (by simp) ?_
  refine (AllReadyH.cons (o := ⟨some 15, _, _, _, _, _⟩) rfl (fun K hK => ?_) (AllReadyH.cons (o := ⟨some 6, _, _, _, _, _⟩) rfl (fun K hK => ?_) AllReadyH.nil))
  · go_simp
    clear hHeld
    refine (unhide HCX _).mono ?_
    rintro e V1 ⟨ax, rfl, hsi, hbN⟩
    replace c0 := cell_beh c0 hbN (Nat.le_refl _)
    replace c1 := cell_beh c1 hbN (Nat.le_refl _)
    replace c2 := cell_beh c2 hbN (Nat.le_refl _)
    replace g0 := cell_beh g0 hbN (Nat.le_refl _)
    replace g1 := cell_beh g1 hbN (Nat.le_refl _)
    replace g2 := cell_beh g2 hbN (Nat.le_refl _)
    replace g3 := cell_beh g3 hbN (Nat.le_refl _)
    replace HC := hide (HC.out.below hbN (Nat.le_refl _))
    replace k0 := k0.trans (hbN.mono k0.size)
    clear hbN
    go_wp2_with fail
    refine hK.out _ _ ⟨c0, c1, c2, g0, g1, g2, g3⟩ (fun hHeld => ?_)
    clear hK K
    (try simp only [Act.put, List.setIfInBounds_toArray, List.set_cons_zero, List.set_cons_succ])
    refine wpAnyH_ready (rs := [3, 7]) (by kernel_rfl) (by simp) ?_
    refine (AllReadyH.cons (o := ⟨some 16, _, _, _, _, _⟩) rfl (fun K hK => ?_) (AllReadyH.cons (o := ⟨some 6, _, _, _, _, _⟩) rfl (fun K hK => ?_) AllReadyH.nil))
    · go_simp
      clear hHeld
      refine (unhide HAP2 _ _ _ _ _ _ _ _ hsi HF.out HC.out).mono ?_
      rintro e V2 ⟨su, pu, au, E, rfl, LS, LP, LA, hcN, hfN, hbN⟩
      replace c0 := cell_beh c0 hbN (Nat.le_refl _)
      replace c1 := cell_beh c1 hbN (Nat.le_refl _)
      replace c2 := cell_beh c2 hbN (Nat.le_refl _)
      replace g0 := cell_beh g0 hbN (Nat.le_refl _)
      replace g1 := cell_beh g1 hbN (Nat.le_refl _)
      replace g2 := cell_beh g2 hbN (Nat.le_refl _)
      replace g3 := cell_beh g3 hbN (Nat.le_refl _)
      replace HC := hide (HC.out.below hbN (Nat.le_refl _))
      replace k0 := k0.trans (hbN.mono k0.size)
      have HN := hide hcN
      have HFN := hide hfN
      clear hcN hbN hfN
      obtain ⟨t1, t2, rfl⟩ := HN.out.1.slice
      obtain ⟨t3, t4, rfl⟩ := HN.out.2.1.slice
      obtain ⟨t5, t6, rfl⟩ := HN.out.2.2.slice
      go_wp2_with fail
      refine hK.out _ _ ⟨c0, c1, c2, g0, g1, g2, g3⟩ (fun hHeld => ?_)
      clear hK K
      (try simp only [Act.put, List.setIfInBounds_toArray, List.set_cons_zero, List.set_cons_succ])
      refine wpAnyH_take (i := 4) (oi := ⟨some 12, _, _, _, _, _⟩) (v := ?v3) rfl (by kernel_rfl) (by kernel_rfl) (by kernel_rfl) (fun _ _ _ h => h) (Or.inl ⟨by rfl, ?h3⟩) (by assumption) ?r3
      case h3 => (intro w hSw; (try dsimp only at hSw); go_simp <;> with_reducible rfl)
      (try simp only [Act.put, List.setIfInBounds_toArray, List.set_cons_zero, List.set_cons_succ])
      refine wpAnyH_take (i := 5) (oi := ⟨some 17, _, _, _, _, _⟩) (v := ?v4) rfl (by kernel_rfl) (by kernel_rfl) (by kernel_rfl) (fun _ _ _ h => h) (Or.inl ⟨by rfl, ?h4⟩) (by assumption) ?r4
      case h4 => (intro w hSw; (try dsimp only at hSw); go_simp <;> with_reducible rfl)
      (try simp only [Act.put, List.setIfInBounds_toArray, List.set_cons_zero, List.set_cons_succ])
      refine wpAnyH_take (i := 6) (oi := ⟨some 18, _, _, _, _, _⟩) (v := ?v5) rfl (by kernel_rfl) (by kernel_rfl) (by kernel_rfl) (fun _ _ _ h => h) (Or.inl ⟨by rfl, ?h5⟩) (by assumption) ?r5
      case h5 => (intro w hSw; (try dsimp only at hSw); go_simp <;> with_reducible rfl)
      (try simp only [Act.put, List.setIfInBounds_toArray, List.set_cons_zero, List.set_cons_succ])
      refine wpAnyH_ready (rs := [7]) (by kernel_rfl) (by simp) ?_
      refine (AllReadyH.cons (o := ⟨some 6, _, _, _, _, _⟩) rfl (fun K hK => ?_) AllReadyH.nil)
      go_simp
      clear hHeld
      obtain ⟨V3, hV⟩ : ∃ V3, V3 = V2.alloc (.cells #[.slice none 0 0, .slice none 0 0, .slice none 0 0] 26) := ⟨_, rfl⟩
      obtain ⟨db, hdb⟩ : ∃ db, db = V2.heap.size := ⟨_, rfl⟩
      have hbN : Below V2.heap.size V2 V3 := by rw [hV]; exact (Below.refl _ _).alloc (Nat.le_refl _) _
      have d0 : V3.cell? ⟨db, 0, none⟩ = some (.slice none 0 0) := by rw [hV, hdb]; exact new_cell V2 _ rfl _ _ _ _ rfl
      have d1 : V3.cell? ⟨db, 1, none⟩ = some (.slice none 0 0) := by rw [hV, hdb]; exact new_cell V2 _ rfl _ _ _ _ rfl
      have d2 : V3.cell? ⟨db, 2, none⟩ = some (.slice none 0 0) := by rw [hV, hdb]; exact new_cell V2 _ rfl _ _ _ _ rfl
      have z0 : V3.frozen? ⟨db, 0, none⟩ = false := by rw [hV, hdb]; exact new_frozen V2 _ rfl _ _ _
      have z1 : V3.frozen? ⟨db, 1, none⟩ = false := by rw [hV, hdb]; exact new_frozen V2 _ rfl _ _ _
      have z2 : V3.frozen? ⟨db, 2, none⟩ = false := by rw [hV, hdb]; exact new_frozen V2 _ rfl _ _ _
      have hcd : cb < db := by rw [hdb]; exact cell_in c0
      have hwd : w.heap.size ≤ db := by rw [hdb]; exact k0.size
      replace c0 := cell_beh c0 hbN (Nat.le_refl _)
      replace c1 := cell_beh c1 hbN (Nat.le_refl _)
      replace c2 := cell_beh c2 hbN (Nat.le_refl _)
      replace g0 := cell_beh g0 hbN (Nat.le_refl _)
      replace g1 := cell_beh g1 hbN (Nat.le_refl _)
      replace g2 := cell_beh g2 hbN (Nat.le_refl _)
      replace g3 := cell_beh g3 hbN (Nat.le_refl _)
      replace HC := hide (HC.out.below hbN (Nat.le_refl _))
      replace HN := hide (HN.out.below hbN (Nat.le_refl _))
      replace k0 := k0.trans (hbN.mono k0.size)
      rw [← hV, ← hdb]
      clear hV hdb hbN
      refine hK.out _ _ ⟨c0, c1, c2, g0, g1, g2, g3⟩ (fun hHeld => ?_)
      clear hK K
      (try simp only [Act.put, List.setIfInBounds_toArray, List.set_cons_zero, List.set_cons_succ])
      refine wpAnyH_ready (rs := [8]) (by kernel_rfl) (by simp) ?_
      refine (AllReadyH.cons (o := ⟨none, _, _, _, _, _⟩) rfl (fun K hK => ?_) AllReadyH.nil)
      have hne1 : ¬ cb = db := by omega
      have hne2 : ¬ db = cb := by omega
      go_simp
      clear hHeld
      obtain ⟨e0, e1, e2⟩ := set3 d0 d1 d2 (.slice t1 LS.length t2) (.slice t3 LP.length t4) (.slice t5 LA.length t6)
      replace HC := hide (((HC.out.set_box d0 (.slice t1 LS.length t2)).set_box ((World.cell?_setCell_other _ _ _ _ (by simp)).trans d1) (.slice t3 LP.length t4)).set_box ((World.cell?_setCell_other _ _ _ _ (by simp)).trans ((World.cell?_setCell_other _ _ _ _ (by simp)).trans d2)) (.slice t5 LA.length t6))
      replace HN := hide (((HN.out.set_box d0 (.slice t1 LS.length t2)).set_box ((World.cell?_setCell_other _ _ _ _ (by simp)).trans d1) (.slice t3 LP.length t4)).set_box ((World.cell?_setCell_other _ _ _ _ (by simp)).trans ((World.cell?_setCell_other _ _ _ _ (by simp)).trans d2)) (.slice t5 LA.length t6))
      replace k0 := ((k0.setCell (p := ⟨db, 0, none⟩) (by show _ ≤ db; omega) (.slice t1 LS.length t2)).setCell (p := ⟨db, 1, none⟩) (by show _ ≤ db; omega) (.slice t3 LP.length t4)).setCell (p := ⟨db, 2, none⟩) (by show _ ≤ db; omega) (.slice t5 LA.length t6)
      replace c0 : (((V3.setCell ⟨db, 0, none⟩ (.slice t1 LS.length t2)).setCell ⟨db, 1, none⟩ (.slice t3 LP.length t4)).setCell ⟨db, 2, none⟩ (.slice t5 LA.length t6)).cell? ⟨cb, 0, none⟩ = some _ := ((World.cell?_setCell_other _ _ _ _ (by simp <;> omega)).trans ((World.cell?_setCell_other _ _ _ _ (by simp <;> omega)).trans ((World.cell?_setCell_other _ _ _ _ (by simp <;> omega)).trans c0)))
      replace c1 : (((V3.setCell ⟨db, 0, none⟩ (.slice t1 LS.length t2)).setCell ⟨db, 1, none⟩ (.slice t3 LP.length t4)).setCell ⟨db, 2, none⟩ (.slice t5 LA.length t6)).cell? ⟨cb, 1, none⟩ = some _ := ((World.cell?_setCell_other _ _ _ _ (by simp <;> omega)).trans ((World.cell?_setCell_other _ _ _ _ (by simp <;> omega)).trans ((World.cell?_setCell_other _ _ _ _ (by simp <;> omega)).trans c1)))
      replace c2 : (((V3.setCell ⟨db, 0, none⟩ (.slice t1 LS.length t2)).setCell ⟨db, 1, none⟩ (.slice t3 LP.length t4)).setCell ⟨db, 2, none⟩ (.slice t5 LA.length t6)).cell? ⟨cb, 2, none⟩ = some _ := ((World.cell?_setCell_other _ _ _ _ (by simp <;> omega)).trans ((World.cell?_setCell_other _ _ _ _ (by simp <;> omega)).trans ((World.cell?_setCell_other _ _ _ _ (by simp <;> omega)).trans c2)))
      replace g0 : (((V3.setCell ⟨db, 0, none⟩ (.slice t1 LS.length t2)).setCell ⟨db, 1, none⟩ (.slice t3 LP.length t4)).setCell ⟨db, 2, none⟩ (.slice t5 LA.length t6)).cell? ⟨w.heap.size, 0, none⟩ = some _ := ((World.cell?_setCell_other _ _ _ _ (by simp <;> omega)).trans ((World.cell?_setCell_other _ _ _ _ (by simp <;> omega)).trans ((World.cell?_setCell_other _ _ _ _ (by simp <;> omega)).trans g0)))
      replace g1 : (((V3.setCell ⟨db, 0, none⟩ (.slice t1 LS.length t2)).setCell ⟨db, 1, none⟩ (.slice t3 LP.length t4)).setCell ⟨db, 2, none⟩ (.slice t5 LA.length t6)).cell? ⟨w.heap.size, 1, none⟩ = some _ := ((World.cell?_setCell_other _ _ _ _ (by simp <;> omega)).trans ((World.cell?_setCell_other _ _ _ _ (by simp <;> omega)).trans ((World.cell?_setCell_other _ _ _ _ (by simp <;> omega)).trans g1)))
      replace g2 : (((V3.setCell ⟨db, 0, none⟩ (.slice t1 LS.length t2)).setCell ⟨db, 1, none⟩ (.slice t3 LP.length t4)).setCell ⟨db, 2, none⟩ (.slice t5 LA.length t6)).cell? ⟨w.heap.size, 2, none⟩ = some _ := ((World.cell?_setCell_other _ _ _ _ (by simp <;> omega)).trans ((World.cell?_setCell_other _ _ _ _ (by simp <;> omega)).trans ((World.cell?_setCell_other _ _ _ _ (by simp <;> omega)).trans g2)))
      replace g3 : (((V3.setCell ⟨db, 0, none⟩ (.slice t1 LS.length t2)).setCell ⟨db, 1, none⟩ (.slice t3 LP.length t4)).setCell ⟨db, 2, none⟩ (.slice t5 LA.length t6)).cell? ⟨w.heap.size, 3, none⟩ = some _ := ((World.cell?_setCell_other _ _ _ _ (by simp <;> omega)).trans ((World.cell?_setCell_other _ _ _ _ (by simp <;> omega)).trans ((World.cell?_setCell_other _ _ _ _ (by simp <;> omega)).trans g3)))
      clear d0 d1 d2 z0 z1 z2
      have d0 := e0
      have d1 := e1
      have d2 := e2
      clear e0 e1 e2
      generalize (((V3.setCell ⟨db, 0, none⟩ (.slice t1 LS.length t2)).setCell ⟨db, 1, none⟩ (.slice t3 LP.length t4)).setCell ⟨db, 2, none⟩ (.slice t5 LA.length t6)) = V at *
      refine hK.out _ _ ⟨c0, c1, c2, g0, g1, g2, g3⟩ (fun hHeld => ?_)
      clear hK K
      (try simp only [Act.put, List.setIfInBounds_toArray, List.set_cons_zero, List.set_cons_succ])
      refine wpAnyH_take (i := 9) (oi := ⟨some 7, _, _, _, _, _⟩) (v := ?v6) rfl (by kernel_rfl) (by kernel_rfl) (by kernel_rfl) (fun _ _ _ h => h) (Or.inl ⟨by rfl, ?h6⟩) (by assumption) ?r6
      case h6 => (intro w hSw; (try dsimp only at hSw); go_simp <;> with_reducible rfl)
      (try simp only [Act.put, List.setIfInBounds_toArray, List.set_cons_zero, List.set_cons_succ])
      refine wpAnyH_done (by kernel_rfl) ?_ _
      clear hHeld
      clear g0 g1 g2 g3 HAP2 HCX
      go_wp2_with fail
      refine (unhide HAPS _ _ _ _ _ _ _ HF.out HC.out).mono ?_
      rintro e w5 ⟨su, pu, au, rfl, hc5, hb5⟩
      replace c0 := cell_beh c0 hb5 (Nat.le_refl _)
      replace c1 := cell_beh c1 hb5 (Nat.le_refl _)
      replace c2 := cell_beh c2 hb5 (Nat.le_refl _)
      replace d0 := cell_beh d0 hb5 (Nat.le_refl _)
      replace d1 := cell_beh d1 hb5 (Nat.le_refl _)
      replace d2 := cell_beh d2 hb5 (Nat.le_refl _)
      replace HC := hide (HC.out.below hb5 (Nat.le_refl _))
      replace HN := hide (HN.out.below hb5 (Nat.le_refl _))
      replace k0 := k0.trans (hb5.mono k0.size)
      have HU := hide hc5
      clear hc5 hb5 HAPS
      obtain ⟨u1, u2, hu1⟩ := HU.out.1.slice
      obtain ⟨u3, u4, hu3⟩ := HU.out.2.1.slice
      obtain ⟨u5, u6, hu5⟩ := HU.out.2.2.slice
      simp only [List.length_nil] at hu1 hu3 hu5
      subst hu1 hu3 hu5
      clear HU
      have b5 : Below w5.heap.size w5 (w5.alloc (.cells #[.slice u1 0 u2, .slice u3 0 u4, .slice u5 0 u6] 26)) := (Below.refl _ _).alloc (Nat.le_refl _) _
      have l5 := cell_in c0
      have m5 := cell_in d0
      have n5 : ¬ cb = w5.heap.size := by omega
      have p5 : ¬ db = w5.heap.size := by omega
      by_cases hE : E = 0
      · subst hE
        have HM := hide (HFN.out.1 rfl)
        go_wp2_with fail
        refine (unhide HCK _ _ _ _ _ _ _ HF.out.1 (HC.out.below b5 (Nat.le_refl _))).mono ?_
        rintro e w6 ⟨rfl, hb6⟩
        replace c0 := cell_beh (cell_beh c0 b5 (Nat.le_refl _)) hb6 (Nat.le_refl _)
        replace c1 := cell_beh (cell_beh c1 b5 (Nat.le_refl _)) hb6 (Nat.le_refl _)
        replace c2 := cell_beh (cell_beh c2 b5 (Nat.le_refl _)) hb6 (Nat.le_refl _)
        replace d0 := cell_beh (cell_beh d0 b5 (Nat.le_refl _)) hb6 (Nat.le_refl _)
        replace d1 := cell_beh (cell_beh d1 b5 (Nat.le_refl _)) hb6 (Nat.le_refl _)
        replace d2 := cell_beh (cell_beh d2 b5 (Nat.le_refl _)) hb6 (Nat.le_refl _)
        replace HC := hide ((HC.out.below b5 (Nat.le_refl _)).below hb6 (Nat.le_refl _))
        replace HN := hide ((HN.out.below b5 (Nat.le_refl _)).below hb6 (Nat.le_refl _))
        replace k0 := (k0.trans (b5.mono k0.size)).trans (hb6.mono (k0.trans (b5.mono k0.size)).size)
        clear b5 hb6 n5 p5 l5 m5
        go_wp2_with fail
        refine (unhide HCK _ _ _ _ _ _ _ HM.out HN.out).mono ?_
        rintro e w7 ⟨rfl, hb7⟩
        replace c0 := cell_beh c0 hb7 (Nat.le_refl _)
        replace c1 := cell_beh c1 hb7 (Nat.le_refl _)
        replace c2 := cell_beh c2 hb7 (Nat.le_refl _)
        replace HC := hide (HC.out.below hb7 (Nat.le_refl _))
        replace k0 := k0.trans (hb7.mono k0.size)
        clear hb7 HN d0 d1 d2
        go_wp2_with fail
        refine (unhide HCY _ _ _ _ _ _ _ HF.out.1 HC.out).mono ?_
        rintro e w8 ⟨su, pu, au, rfl, hc8, hb8⟩
        replace k0 := k0.trans (hb8.mono k0.size)
        have HU := hide hc8
        clear hc8 hb8
        obtain ⟨v1, v2, rfl⟩ := HU.out.1.slice
        obtain ⟨v3, v4, rfl⟩ := HU.out.2.1.slice
        obtain ⟨v5, v6, rfl⟩ := HU.out.2.2.slice
        go_wp2_with fail
        refine (unhide HCK _ _ _ _ _ _ _ HF.out.1 HU.out).mono ?_
        rintro e w9 ⟨rfl, hb9⟩
        replace k0 := k0.trans (hb9.mono k0.size)
        clear hb9 HU
        go_wp2_with fail
        go_ret
        exact ⟨rfl, k0⟩
      · have hEb : (E == 0) = false := by simpa using hE
        obtain ⟨rfl, rfl⟩ := HFN.out.2 hE
        simp only [List.length_nil] at d0 d1
        go_wp2_with fail
        refine (unhide HCK _ _ _ _ _ _ _ HF.out.1 (HC.out.below b5 (Nat.le_refl _))).mono ?_
        rintro e w6 ⟨rfl, hb6⟩
        replace c0 := cell_beh (cell_beh c0 b5 (Nat.le_refl _)) hb6 (Nat.le_refl _)
        replace c1 := cell_beh (cell_beh c1 b5 (Nat.le_refl _)) hb6 (Nat.le_refl _)
        replace c2 := cell_beh (cell_beh c2 b5 (Nat.le_refl _)) hb6 (Nat.le_refl _)
        replace d0 := cell_beh (cell_beh d0 b5 (Nat.le_refl _)) hb6 (Nat.le_refl _)
        replace d1 := cell_beh (cell_beh d1 b5 (Nat.le_refl _)) hb6 (Nat.le_refl _)
        replace d2 := cell_beh (cell_beh d2 b5 (Nat.le_refl _)) hb6 (Nat.le_refl _)
        replace HC := hide ((HC.out.below b5 (Nat.le_refl _)).below hb6 (Nat.le_refl _))
        replace HN := hide ((HN.out.below b5 (Nat.le_refl _)).below hb6 (Nat.le_refl _))
        replace k0 := (k0.trans (b5.mono k0.size)).trans (hb6.mono (k0.trans (b5.mono k0.size)).size)
        clear b5 hb6 n5 p5 l5 m5
        go_wp2_with fail
        refine (unhide HCY _ _ _ _ _ _ _ HF.out.1 HC.out).mono ?_
        rintro e w8 ⟨su, pu, au, rfl, hc8, hb8⟩
        replace k0 := k0.trans (hb8.mono k0.size)
        have HU := hide hc8
        clear hc8 hb8
        obtain ⟨v1, v2, rfl⟩ := HU.out.1.slice
        obtain ⟨v3, v4, rfl⟩ := HU.out.2.1.slice
        obtain ⟨v5, v6, rfl⟩ := HU.out.2.2.slice
        go_wp2_with fail
        refine (unhide HCK _ _ _ _ _ _ _ HF.out.1 HU.out).mono ?_
        rintro e w9 ⟨rfl, hb9⟩
        replace k0 := k0.trans (hb9.mono k0.size)
        clear hb9 HU
        go_wp2_with fail
        go_ret
        exact ⟨rfl, k0⟩
    · go_simp
      clear hHeld
      obtain ⟨V2, hV⟩ : ∃ V2, V2 = V1.alloc (.cells #[.slice none 0 0, .slice none 0 0, .slice none 0 0] 26) := ⟨_, rfl⟩
      obtain ⟨db, hdb⟩ : ∃ db, db = V1.heap.size := ⟨_, rfl⟩
      have hbN : Below V1.heap.size V1 V2 := by rw [hV]; exact (Below.refl _ _).alloc (Nat.le_refl _) _
      have d0 : V2.cell? ⟨db, 0, none⟩ = some (.slice none 0 0) := by rw [hV, hdb]; exact new_cell V1 _ rfl _ _ _ _ rfl
      have d1 : V2.cell? ⟨db, 1, none⟩ = some (.slice none 0 0) := by rw [hV, hdb]; exact new_cell V1 _ rfl _ _ _ _ rfl
      have d2 : V2.cell? ⟨db, 2, none⟩ = some (.slice none 0 0) := by rw [hV, hdb]; exact new_cell V1 _ rfl _ _ _ _ rfl
      have z0 : V2.frozen? ⟨db, 0, none⟩ = false := by rw [hV, hdb]; exact new_frozen V1 _ rfl _ _ _
      have z1 : V2.frozen? ⟨db, 1, none⟩ = false := by rw [hV, hdb]; exact new_frozen V1 _ rfl _ _ _
      have z2 : V2.frozen? ⟨db, 2, none⟩ = false := by rw [hV, hdb]; exact new_frozen V1 _ rfl _ _ _
      have hcd : cb < db := by rw [hdb]; exact cell_in c0
      have hwd : w.heap.size ≤ db := by rw [hdb]; exact k0.size
      replace c0 := cell_beh c0 hbN (Nat.le_refl _)
      replace c1 := cell_beh c1 hbN (Nat.le_refl _)
      replace c2 := cell_beh c2 hbN (Nat.le_refl _)
      replace g0 := cell_beh g0 hbN (Nat.le_refl _)
      replace g1 := cell_beh g1 hbN (Nat.le_refl _)
      replace g2 := cell_beh g2 hbN (Nat.le_refl _)
      replace g3 := cell_beh g3 hbN (Nat.le_refl _)
      replace HC := hide (HC.out.below hbN (Nat.le_refl _))
      replace k0 := k0.trans (hbN.mono k0.size)
      rw [← hV, ← hdb]
      clear hV hdb hbN
      refine hK.out _ _ ⟨c0, c1, c2, g0, g1, g2, g3⟩ (fun hHeld => ?_)
      clear hK K
      (try simp only [Act.put, List.setIfInBounds_toArray, List.set_cons_zero, List.set_cons_succ])
      refine wpAnyH_ready (rs := [3]) (by kernel_rfl) (by simp) ?_
      refine (AllReadyH.cons (o := ⟨some 16, _, _, _, _, _⟩) rfl (fun K hK => ?_) AllReadyH.nil)
      go_simp
      clear hHeld
      refine (unhide HAP2 _ _ _ _ _ _ _ _ hsi HF.out HC.out).mono ?_
      rintro e V3 ⟨su, pu, au, E, rfl, LS, LP, LA, hcN, hfN, hbN⟩
      replace z0 := (hbN.frozen (p := ⟨db, 0, none⟩) (cell_in d0)).trans z0
      replace z1 := (hbN.frozen (p := ⟨db, 1, none⟩) (cell_in d1)).trans z1
      replace z2 := (hbN.frozen (p := ⟨db, 2, none⟩) (cell_in d2)).trans z2
      replace c0 := cell_beh c0 hbN (Nat.le_refl _)
      replace c1 := cell_beh c1 hbN (Nat.le_refl _)
      replace c2 := cell_beh c2 hbN (Nat.le_refl _)
      replace g0 := cell_beh g0 hbN (Nat.le_refl _)
      replace g1 := cell_beh g1 hbN (Nat.le_refl _)
      replace g2 := cell_beh g2 hbN (Nat.le_refl _)
      replace g3 := cell_beh g3 hbN (Nat.le_refl _)
      replace d0 := cell_beh d0 hbN (Nat.le_refl _)
      replace d1 := cell_beh d1 hbN (Nat.le_refl _)
      replace d2 := cell_beh d2 hbN (Nat.le_refl _)
      replace HC := hide (HC.out.below hbN (Nat.le_refl _))
      replace k0 := k0.trans (hbN.mono k0.size)
      have HN := hide hcN
      have HFN := hide hfN
      clear hcN hbN hfN
      obtain ⟨t1, t2, rfl⟩ := HN.out.1.slice
      obtain ⟨t3, t4, rfl⟩ := HN.out.2.1.slice
      obtain ⟨t5, t6, rfl⟩ := HN.out.2.2.slice
      go_wp2_with fail
      refine hK.out _ _ ⟨c0, c1, c2, g0, g1, g2, g3⟩ (fun hHeld => ?_)
      clear hK K
      (try simp only [Act.put, List.setIfInBounds_toArray, List.set_cons_zero, List.set_cons_succ])
      refine wpAnyH_take (i := 4) (oi := ⟨some 12, _, _, _, _, _⟩) (v := ?v7) rfl (by kernel_rfl) (by kernel_rfl) (by kernel_rfl) (fun _ _ _ h => h) (Or.inl ⟨by rfl, ?h7⟩) (by assumption) ?r7
      case h7 => (intro w hSw; (try dsimp only at hSw); go_simp <;> with_reducible rfl)
      (try simp only [Act.put, List.setIfInBounds_toArray, List.set_cons_zero, List.set_cons_succ])
      refine wpAnyH_take (i := 5) (oi := ⟨some 17, _, _, _, _, _⟩) (v := ?v8) rfl (by kernel_rfl) (by kernel_rfl) (by kernel_rfl) (fun _ _ _ h => h) (Or.inl ⟨by rfl, ?h8⟩) (by assumption) ?r8
      case h8 => (intro w hSw; (try dsimp only at hSw); go_simp <;> with_reducible rfl)
      (try simp only [Act.put, List.setIfInBounds_toArray, List.set_cons_zero, List.set_cons_succ])
      refine wpAnyH_take (i := 6) (oi := ⟨some 18, _, _, _, _, _⟩) (v := ?v9) rfl (by kernel_rfl) (by kernel_rfl) (by kernel_rfl) (fun _ _ _ h => h) (Or.inl ⟨by rfl, ?h9⟩) (by assumption) ?r9
      case h9 => (intro w hSw; (try dsimp only at hSw); go_simp <;> with_reducible rfl)
      (try simp only [Act.put, List.setIfInBounds_toArray, List.set_cons_zero, List.set_cons_succ])
      refine wpAnyH_ready (rs := [8]) (by kernel_rfl) (by simp) ?_
      refine (AllReadyH.cons (o := ⟨none, _, _, _, _, _⟩) rfl (fun K hK => ?_) AllReadyH.nil)
      have hne1 : ¬ cb = db := by omega
      have hne2 : ¬ db = cb := by omega
      go_simp
      clear hHeld
      obtain ⟨e0, e1, e2⟩ := set3 d0 d1 d2 (.slice t1 LS.length t2) (.slice t3 LP.length t4) (.slice t5 LA.length t6)
      replace HC := hide (((HC.out.set_box d0 (.slice t1 LS.length t2)).set_box ((World.cell?_setCell_other _ _ _ _ (by simp)).trans d1) (.slice t3 LP.length t4)).set_box ((World.cell?_setCell_other _ _ _ _ (by simp)).trans ((World.cell?_setCell_other _ _ _ _ (by simp)).trans d2)) (.slice t5 LA.length t6))
      replace HN := hide (((HN.out.set_box d0 (.slice t1 LS.length t2)).set_box ((World.cell?_setCell_other _ _ _ _ (by simp)).trans d1) (.slice t3 LP.length t4)).set_box ((World.cell?_setCell_other _ _ _ _ (by simp)).trans ((World.cell?_setCell_other _ _ _ _ (by simp)).trans d2)) (.slice t5 LA.length t6))
      replace k0 := ((k0.setCell (p := ⟨db, 0, none⟩) (by show _ ≤ db; omega) (.slice t1 LS.length t2)).setCell (p := ⟨db, 1, none⟩) (by show _ ≤ db; omega) (.slice t3 LP.length t4)).setCell (p := ⟨db, 2, none⟩) (by show _ ≤ db; omega) (.slice t5 LA.length t6)
      replace c0 : (((V3.setCell ⟨db, 0, none⟩ (.slice t1 LS.length t2)).setCell ⟨db, 1, none⟩ (.slice t3 LP.length t4)).setCell ⟨db, 2, none⟩ (.slice t5 LA.length t6)).cell? ⟨cb, 0, none⟩ = some _ := ((World.cell?_setCell_other _ _ _ _ (by simp <;> omega)).trans ((World.cell?_setCell_other _ _ _ _ (by simp <;> omega)).trans ((World.cell?_setCell_other _ _ _ _ (by simp <;> omega)).trans c0)))
      replace c1 : (((V3.setCell ⟨db, 0, none⟩ (.slice t1 LS.length t2)).setCell ⟨db, 1, none⟩ (.slice t3 LP.length t4)).setCell ⟨db, 2, none⟩ (.slice t5 LA.length t6)).cell? ⟨cb, 1, none⟩ = some _ := ((World.cell?_setCell_other _ _ _ _ (by simp <;> omega)).trans ((World.cell?_setCell_other _ _ _ _ (by simp <;> omega)).trans ((World.cell?_setCell_other _ _ _ _ (by simp <;> omega)).trans c1)))
      replace c2 : (((V3.setCell ⟨db, 0, none⟩ (.slice t1 LS.length t2)).setCell ⟨db, 1, none⟩ (.slice t3 LP.length t4)).setCell ⟨db, 2, none⟩ (.slice t5 LA.length t6)).cell? ⟨cb, 2, none⟩ = some _ := ((World.cell?_setCell_other _ _ _ _ (by simp <;> omega)).trans ((World.cell?_setCell_other _ _ _ _ (by simp <;> omega)).trans ((World.cell?_setCell_other _ _ _ _ (by simp <;> omega)).trans c2)))
      replace g0 : (((V3.setCell ⟨db, 0, none⟩ (.slice t1 LS.length t2)).setCell ⟨db, 1, none⟩ (.slice t3 LP.length t4)).setCell ⟨db, 2, none⟩ (.slice t5 LA.length t6)).cell? ⟨w.heap.size, 0, none⟩ = some _ := ((World.cell?_setCell_other _ _ _ _ (by simp <;> omega)).trans ((World.cell?_setCell_other _ _ _ _ (by simp <;> omega)).trans ((World.cell?_setCell_other _ _ _ _ (by simp <;> omega)).trans g0)))
      replace g1 : (((V3.setCell ⟨db, 0, none⟩ (.slice t1 LS.length t2)).setCell ⟨db, 1, none⟩ (.slice t3 LP.length t4)).setCell ⟨db, 2, none⟩ (.slice t5 LA.length t6)).cell? ⟨w.heap.size, 1, none⟩ = some _ := ((World.cell?_setCell_other _ _ _ _ (by simp <;> omega)).trans ((World.cell?_setCell_other _ _ _ _ (by simp <;> omega)).trans ((World.cell?_setCell_other _ _ _ _ (by simp <;> omega)).trans g1)))
      replace g2 : (((V3.setCell ⟨db, 0, none⟩ (.slice t1 LS.length t2)).setCell ⟨db, 1, none⟩ (.slice t3 LP.length t4)).setCell ⟨db, 2, none⟩ (.slice t5 LA.length t6)).cell? ⟨w.heap.size, 2, none⟩ = some _ := ((World.cell?_setCell_other _ _ _ _ (by simp <;> omega)).trans ((World.cell?_setCell_other _ _ _ _ (by simp <;> omega)).trans ((World.cell?_setCell_other _ _ _ _ (by simp <;> omega)).trans g2)))
      replace g3 : (((V3.setCell ⟨db, 0, none⟩ (.slice t1 LS.length t2)).setCell ⟨db, 1, none⟩ (.slice t3 LP.length t4)).setCell ⟨db, 2, none⟩ (.slice t5 LA.length t6)).cell? ⟨w.heap.size, 3, none⟩ = some _ := ((World.cell?_setCell_other _ _ _ _ (by simp <;> omega)).trans ((World.cell?_setCell_other _ _ _ _ (by simp <;> omega)).trans ((World.cell?_setCell_other _ _ _ _ (by simp <;> omega)).trans g3)))
      clear d0 d1 d2 z0 z1 z2
      have d0 := e0
      have d1 := e1
      have d2 := e2
      clear e0 e1 e2
      generalize (((V3.setCell ⟨db, 0, none⟩ (.slice t1 LS.length t2)).setCell ⟨db, 1, none⟩ (.slice t3 LP.length t4)).setCell ⟨db, 2, none⟩ (.slice t5 LA.length t6)) = V at *
      refine hK.out _ _ ⟨c0, c1, c2, g0, g1, g2, g3⟩ (fun hHeld => ?_)
      clear hK K
      (try simp only [Act.put, List.setIfInBounds_toArray, List.set_cons_zero, List.set_cons_succ])
      refine wpAnyH_take (i := 9) (oi := ⟨some 7, _, _, _, _, _⟩) (v := ?v10) rfl (by kernel_rfl) (by kernel_rfl) (by kernel_rfl) (fun _ _ _ h => h) (Or.inl ⟨by rfl, ?h10⟩) (by assumption) ?r10
      case h10 => (intro w hSw; (try dsimp only at hSw); go_simp <;> with_reducible rfl)
      (try simp only [Act.put, List.setIfInBounds_toArray, List.set_cons_zero, List.set_cons_succ])
      refine wpAnyH_done (by kernel_rfl) ?_ _
      clear hHeld
      clear g0 g1 g2 g3 HAP2 HCX
      go_wp2_with fail
      refine (unhide HAPS _ _ _ _ _ _ _ HF.out HC.out).mono ?_
      rintro e w5 ⟨su, pu, au, rfl, hc5, hb5⟩
      replace c0 := cell_beh c0 hb5 (Nat.le_refl _)
      replace c1 := cell_beh c1 hb5 (Nat.le_refl _)
      replace c2 := cell_beh c2 hb5 (Nat.le_refl _)
      replace d0 := cell_beh d0 hb5 (Nat.le_refl _)
      replace d1 := cell_beh d1 hb5 (Nat.le_refl _)
      replace d2 := cell_beh d2 hb5 (Nat.le_refl _)
      replace HC := hide (HC.out.below hb5 (Nat.le_refl _))
      replace HN := hide (HN.out.below hb5 (Nat.le_refl _))
      replace k0 := k0.trans (hb5.mono k0.size)
      have HU := hide hc5
      clear hc5 hb5 HAPS
      obtain ⟨u1, u2, hu1⟩ := HU.out.1.slice
      obtain ⟨u3, u4, hu3⟩ := HU.out.2.1.slice
      obtain ⟨u5, u6, hu5⟩ := HU.out.2.2.slice
      simp only [List.length_nil] at hu1 hu3 hu5
      subst hu1 hu3 hu5
      clear HU
      have b5 : Below w5.heap.size w5 (w5.alloc (.cells #[.slice u1 0 u2, .slice u3 0 u4, .slice u5 0 u6] 26)) := (Below.refl _ _).alloc (Nat.le_refl _) _
      have l5 := cell_in c0
      have m5 := cell_in d0
      have n5 : ¬ cb = w5.heap.size := by omega
      have p5 : ¬ db = w5.heap.size := by omega
      by_cases hE : E = 0
      · subst hE
        have HM := hide (HFN.out.1 rfl)
        go_wp2_with fail
        refine (unhide HCK _ _ _ _ _ _ _ HF.out.1 (HC.out.below b5 (Nat.le_refl _))).mono ?_
        rintro e w6 ⟨rfl, hb6⟩
        replace c0 := cell_beh (cell_beh c0 b5 (Nat.le_refl _)) hb6 (Nat.le_refl _)
        replace c1 := cell_beh (cell_beh c1 b5 (Nat.le_refl _)) hb6 (Nat.le_refl _)
        replace c2 := cell_beh (cell_beh c2 b5 (Nat.le_refl _)) hb6 (Nat.le_refl _)
        replace d0 := cell_beh (cell_beh d0 b5 (Nat.le_refl _)) hb6 (Nat.le_refl _)
        replace d1 := cell_beh (cell_beh d1 b5 (Nat.le_refl _)) hb6 (Nat.le_refl _)
        replace d2 := cell_beh (cell_beh d2 b5 (Nat.le_refl _)) hb6 (Nat.le_refl _)
        replace HC := hide ((HC.out.below b5 (Nat.le_refl _)).below hb6 (Nat.le_refl _))
        replace HN := hide ((HN.out.below b5 (Nat.le_refl _)).below hb6 (Nat.le_refl _))
        replace k0 := (k0.trans (b5.mono k0.size)).trans (hb6.mono (k0.trans (b5.mono k0.size)).size)
        clear b5 hb6 n5 p5 l5 m5
        go_wp2_with fail
        refine (unhide HCK _ _ _ _ _ _ _ HM.out HN.out).mono ?_
        rintro e w7 ⟨rfl, hb7⟩
        replace c0 := cell_beh c0 hb7 (Nat.le_refl _)
        replace c1 := cell_beh c1 hb7 (Nat.le_refl _)
        replace c2 := cell_beh c2 hb7 (Nat.le_refl _)
        replace HC := hide (HC.out.below hb7 (Nat.le_refl _))
        replace k0 := k0.trans (hb7.mono k0.size)
        clear hb7 HN d0 d1 d2
        go_wp2_with fail
        refine (unhide HCY _ _ _ _ _ _ _ HF.out.1 HC.out).mono ?_
        rintro e w8 ⟨su, pu, au, rfl, hc8, hb8⟩
        replace k0 := k0.trans (hb8.mono k0.size)
        have HU := hide hc8
        clear hc8 hb8
        obtain ⟨v1, v2, rfl⟩ := HU.out.1.slice
        obtain ⟨v3, v4, rfl⟩ := HU.out.2.1.slice
        obtain ⟨v5, v6, rfl⟩ := HU.out.2.2.slice
        go_wp2_with fail
        refine (unhide HCK _ _ _ _ _ _ _ HF.out.1 HU.out).mono ?_
        rintro e w9 ⟨rfl, hb9⟩
        replace k0 := k0.trans (hb9.mono k0.size)
        clear hb9 HU
        go_wp2_with fail
        go_ret
        exact ⟨rfl, k0⟩
      · have hEb : (E == 0) = false := by simpa using hE
        obtain ⟨rfl, rfl⟩ := HFN.out.2 hE
        simp only [List.length_nil] at d0 d1
        go_wp2_with fail
        refine (unhide HCK _ _ _ _ _ _ _ HF.out.1 (HC.out.below b5 (Nat.le_refl _))).mono ?_
        rintro e w6 ⟨rfl, hb6⟩
        replace c0 := cell_beh (cell_beh c0 b5 (Nat.le_refl _)) hb6 (Nat.le_refl _)
        replace c1 := cell_beh (cell_beh c1 b5 (Nat.le_refl _)) hb6 (Nat.le_refl _)
        replace c2 := cell_beh (cell_beh c2 b5 (Nat.le_refl _)) hb6 (Nat.le_refl _)
        replace d0 := cell_beh (cell_beh d0 b5 (Nat.le_refl _)) hb6 (Nat.le_refl _)
        replace d1 := cell_beh (cell_beh d1 b5 (Nat.le_refl _)) hb6 (Nat.le_refl _)
        replace d2 := cell_beh (cell_beh d2 b5 (Nat.le_refl _)) hb6 (Nat.le_refl _)
        replace HC := hide ((HC.out.below b5 (Nat.le_refl _)).below hb6 (Nat.le_refl _))
        replace HN := hide ((HN.out.below b5 (Nat.le_refl _)).below hb6 (Nat.le_refl _))
        replace k0 := (k0.trans (b5.mono k0.size)).trans (hb6.mono (k0.trans (b5.mono k0.size)).size)
        clear b5 hb6 n5 p5 l5 m5
        go_wp2_with fail
        refine (unhide HCY _ _ _ _ _ _ _ HF.out.1 HC.out).mono ?_
        rintro e w8 ⟨su, pu, au, rfl, hc8, hb8⟩
        replace k0 := k0.trans (hb8.mono k0.size)
        have HU := hide hc8
        clear hc8 hb8
        obtain ⟨v1, v2, rfl⟩ := HU.out.1.slice
        obtain ⟨v3, v4, rfl⟩ := HU.out.2.1.slice
        obtain ⟨v5, v6, rfl⟩ := HU.out.2.2.slice
        go_wp2_with fail
        refine (unhide HCK _ _ _ _ _ _ _ HF.out.1 HU.out).mono ?_
        rintro e w9 ⟨rfl, hb9⟩
        replace k0 := k0.trans (hb9.mono k0.size)
        clear hb9 HU
        go_wp2_with fail
        go_ret
        exact ⟨rfl, k0⟩
  · go_simp
    clear hHeld
    obtain ⟨V1, hV⟩ : ∃ V1, V1 = V0.alloc (.cells #[.slice none 0 0, .slice none 0 0, .slice none 0 0] 26) := ⟨_, rfl⟩
    obtain ⟨db, hdb⟩ : ∃ db, db = V0.heap.size := ⟨_, rfl⟩
    have hbN : Below V0.heap.size V0 V1 := by rw [hV]; exact (Below.refl _ _).alloc (Nat.le_refl _) _
    have d0 : V1.cell? ⟨db, 0, none⟩ = some (.slice none 0 0) := by rw [hV, hdb]; exact new_cell V0 _ rfl _ _ _ _ rfl
    have d1 : V1.cell? ⟨db, 1, none⟩ = some (.slice none 0 0) := by rw [hV, hdb]; exact new_cell V0 _ rfl _ _ _ _ rfl
    have d2 : V1.cell? ⟨db, 2, none⟩ = some (.slice none 0 0) := by rw [hV, hdb]; exact new_cell V0 _ rfl _ _ _ _ rfl
    have z0 : V1.frozen? ⟨db, 0, none⟩ = false := by rw [hV, hdb]; exact new_frozen V0 _ rfl _ _ _
    have z1 : V1.frozen? ⟨db, 1, none⟩ = false := by rw [hV, hdb]; exact new_frozen V0 _ rfl _ _ _
    have z2 : V1.frozen? ⟨db, 2, none⟩ = false := by rw [hV, hdb]; exact new_frozen V0 _ rfl _ _ _
    have hcd : cb < db := by rw [hdb]; exact cell_in c0
    have hwd : w.heap.size ≤ db := by rw [hdb]; exact k0.size
    replace c0 := cell_beh c0 hbN (Nat.le_refl _)
    replace c1 := cell_beh c1 hbN (Nat.le_refl _)
    replace c2 := cell_beh c2 hbN (Nat.le_refl _)
    replace g0 := cell_beh g0 hbN (Nat.le_refl _)
    replace g1 := cell_beh g1 hbN (Nat.le_refl _)
    replace g2 := cell_beh g2 hbN (Nat.le_refl _)
    replace g3 := cell_beh g3 hbN (Nat.le_refl _)
    replace HC := hide (HC.out.below hbN (Nat.le_refl _))
    replace k0 := k0.trans (hbN.mono k0.size)
    rw [← hV, ← hdb]
    clear hV hdb hbN
    refine hK.out _ _ ⟨c0, c1, c2, g0, g1, g2, g3⟩ (fun hHeld => ?_)
    clear hK K
    (try simp only [Act.put, List.setIfInBounds_toArray, List.set_cons_zero, List.set_cons_succ])
    refine wpAnyH_ready (rs := [2]) (by kernel_rfl) (by simp) ?_
    refine (AllReadyH.cons (o := ⟨some 15, _, _, _, _, _⟩) rfl (fun K hK => ?_) AllReadyH.nil)
    go_simp
    clear hHeld
    refine (unhide HCX _).mono ?_
    rintro e V2 ⟨ax, rfl, hsi, hbN⟩
    replace z0 := (hbN.frozen (p := ⟨db, 0, none⟩) (cell_in d0)).trans z0
    replace z1 := (hbN.frozen (p := ⟨db, 1, none⟩) (cell_in d1)).trans z1
    replace z2 := (hbN.frozen (p := ⟨db, 2, none⟩) (cell_in d2)).trans z2
    replace c0 := cell_beh c0 hbN (Nat.le_refl _)
    replace c1 := cell_beh c1 hbN (Nat.le_refl _)
    replace c2 := cell_beh c2 hbN (Nat.le_refl _)
    replace g0 := cell_beh g0 hbN (Nat.le_refl _)
    replace g1 := cell_beh g1 hbN (Nat.le_refl _)
    replace g2 := cell_beh g2 hbN (Nat.le_refl _)
    replace g3 := cell_beh g3 hbN (Nat.le_refl _)
    replace d0 := cell_beh d0 hbN (Nat.le_refl _)
    replace d1 := cell_beh d1 hbN (Nat.le_refl _)
    replace d2 := cell_beh d2 hbN (Nat.le_refl _)
    replace HC := hide (HC.out.below hbN (Nat.le_refl _))
    replace k0 := k0.trans (hbN.mono k0.size)
    clear hbN
    go_wp2_with fail
    refine hK.out _ _ ⟨c0, c1, c2, g0, g1, g2, g3⟩ (fun hHeld => ?_)
    clear hK K
    (try simp only [Act.put, List.setIfInBounds_toArray, List.set_cons_zero, List.set_cons_succ])
    refine wpAnyH_ready (rs := [3]) (by kernel_rfl) (by simp) ?_
    refine (AllReadyH.cons (o := ⟨some 16, _, _, _, _, _⟩) rfl (fun K hK => ?_) AllReadyH.nil)
    go_simp
    clear hHeld
    refine (unhide HAP2 _ _ _ _ _ _ _ _ hsi HF.out HC.out).mono ?_
    rintro e V3 ⟨su, pu, au, E, rfl, LS, LP, LA, hcN, hfN, hbN⟩
    replace z0 := (hbN.frozen (p := ⟨db, 0, none⟩) (cell_in d0)).trans z0
    replace z1 := (hbN.frozen (p := ⟨db, 1, none⟩) (cell_in d1)).trans z1
    replace z2 := (hbN.frozen (p := ⟨db, 2, none⟩) (cell_in d2)).trans z2
    replace c0 := cell_beh c0 hbN (Nat.le_refl _)
    replace c1 := cell_beh c1 hbN (Nat.le_refl _)
    replace c2 := cell_beh c2 hbN (Nat.le_refl _)
    replace g0 := cell_beh g0 hbN (Nat.le_refl _)
    replace g1 := cell_beh g1 hbN (Nat.le_refl _)
    replace g2 := cell_beh g2 hbN (Nat.le_refl _)
    replace g3 := cell_beh g3 hbN (Nat.le_refl _)
    replace d0 := cell_beh d0 hbN (Nat.le_refl _)
    replace d1 := cell_beh d1 hbN (Nat.le_refl _)
    replace d2 := cell_beh d2 hbN (Nat.le_refl _)
    replace HC := hide (HC.out.below hbN (Nat.le_refl _))
    replace k0 := k0.trans (hbN.mono k0.size)
    have HN := hide hcN
    have HFN := hide hfN
    clear hcN hbN hfN
    obtain ⟨t1, t2, rfl⟩ := HN.out.1.slice
    obtain ⟨t3, t4, rfl⟩ := HN.out.2.1.slice
    obtain ⟨t5, t6, rfl⟩ := HN.out.2.2.slice
    go_wp2_with fail
    refine hK.out _ _ ⟨c0, c1, c2, g0, g1, g2, g3⟩ (fun hHeld => ?_)
    clear hK K
    (try simp only [Act.put, List.setIfInBounds_toArray, List.set_cons_zero, List.set_cons_succ])
    refine wpAnyH_take (i := 4) (oi := ⟨some 12, _, _, _, _, _⟩) (v := ?v11) rfl (by kernel_rfl) (by kernel_rfl) (by kernel_rfl) (fun _ _ _ h => h) (Or.inl ⟨by rfl, ?h11⟩) (by assumption) ?r11
    case h11 => (intro w hSw; (try dsimp only at hSw); go_simp <;> with_reducible rfl)
    (try simp only [Act.put, List.setIfInBounds_toArray, List.set_cons_zero, List.set_cons_succ])
    refine wpAnyH_take (i := 5) (oi := ⟨some 17, _, _, _, _, _⟩) (v := ?v12) rfl (by kernel_rfl) (by kernel_rfl) (by kernel_rfl) (fun _ _ _ h => h) (Or.inl ⟨by rfl, ?h12⟩) (by assumption) ?r12
    case h12 => (intro w hSw; (try dsimp only at hSw); go_simp <;> with_reducible rfl)
    (try simp only [Act.put, List.setIfInBounds_toArray, List.set_cons_zero, List.set_cons_succ])
    refine wpAnyH_take (i := 6) (oi := ⟨some 18, _, _, _, _, _⟩) (v := ?v13) rfl (by kernel_rfl) (by kernel_rfl) (by kernel_rfl) (fun _ _ _ h => h) (Or.inl ⟨by rfl, ?h13⟩) (by assumption) ?r13
    case h13 => (intro w hSw; (try dsimp only at hSw); go_simp <;> with_reducible rfl)
    (try simp only [Act.put, List.setIfInBounds_toArray, List.set_cons_zero, List.set_cons_succ])
    refine wpAnyH_ready (rs := [8]) (by kernel_rfl) (by simp) ?_
    refine (AllReadyH.cons (o := ⟨none, _, _, _, _, _⟩) rfl (fun K hK => ?_) AllReadyH.nil)
    have hne1 : ¬ cb = db := by omega
    have hne2 : ¬ db = cb := by omega
    go_simp
    clear hHeld
    obtain ⟨e0, e1, e2⟩ := set3 d0 d1 d2 (.slice t1 LS.length t2) (.slice t3 LP.length t4) (.slice t5 LA.length t6)
    replace HC := hide (((HC.out.set_box d0 (.slice t1 LS.length t2)).set_box ((World.cell?_setCell_other _ _ _ _ (by simp)).trans d1) (.slice t3 LP.length t4)).set_box ((World.cell?_setCell_other _ _ _ _ (by simp)).trans ((World.cell?_setCell_other _ _ _ _ (by simp)).trans d2)) (.slice t5 LA.length t6))
    replace HN := hide (((HN.out.set_box d0 (.slice t1 LS.length t2)).set_box ((World.cell?_setCell_other _ _ _ _ (by simp)).trans d1) (.slice t3 LP.length t4)).set_box ((World.cell?_setCell_other _ _ _ _ (by simp)).trans ((World.cell?_setCell_other _ _ _ _ (by simp)).trans d2)) (.slice t5 LA.length t6))
    replace k0 := ((k0.setCell (p := ⟨db, 0, none⟩) (by show _ ≤ db; omega) (.slice t1 LS.length t2)).setCell (p := ⟨db, 1, none⟩) (by show _ ≤ db; omega) (.slice t3 LP.length t4)).setCell (p := ⟨db, 2, none⟩) (by show _ ≤ db; omega) (.slice t5 LA.length t6)
    replace c0 : (((V3.setCell ⟨db, 0, none⟩ (.slice t1 LS.length t2)).setCell ⟨db, 1, none⟩ (.slice t3 LP.length t4)).setCell ⟨db, 2, none⟩ (.slice t5 LA.length t6)).cell? ⟨cb, 0, none⟩ = some _ := ((World.cell?_setCell_other _ _ _ _ (by simp <;> omega)).trans ((World.cell?_setCell_other _ _ _ _ (by simp <;> omega)).trans ((World.cell?_setCell_other _ _ _ _ (by simp <;> omega)).trans c0)))
    replace c1 : (((V3.setCell ⟨db, 0, none⟩ (.slice t1 LS.length t2)).setCell ⟨db, 1, none⟩ (.slice t3 LP.length t4)).setCell ⟨db, 2, none⟩ (.slice t5 LA.length t6)).cell? ⟨cb, 1, none⟩ = some _ := ((World.cell?_setCell_other _ _ _ _ (by simp <;> omega)).trans ((World.cell?_setCell_other _ _ _ _ (by simp <;> omega)).trans ((World.cell?_setCell_other _ _ _ _ (by simp <;> omega)).trans c1)))
    replace c2 : (((V3.setCell ⟨db, 0, none⟩ (.slice t1 LS.length t2)).setCell ⟨db, 1, none⟩ (.slice t3 LP.length t4)).setCell ⟨db, 2, none⟩ (.slice t5 LA.length t6)).cell? ⟨cb, 2, none⟩ = some _ := ((World.cell?_setCell_other _ _ _ _ (by simp <;> omega)).trans ((World.cell?_setCell_other _ _ _ _ (by simp <;> omega)).trans ((World.cell?_setCell_other _ _ _ _ (by simp <;> omega)).trans c2)))
    replace g0 : (((V3.setCell ⟨db, 0, none⟩ (.slice t1 LS.length t2)).setCell ⟨db, 1, none⟩ (.slice t3 LP.length t4)).setCell ⟨db, 2, none⟩ (.slice t5 LA.length t6)).cell? ⟨w.heap.size, 0, none⟩ = some _ := ((World.cell?_setCell_other _ _ _ _ (by simp <;> omega)).trans ((World.cell?_setCell_other _ _ _ _ (by simp <;> omega)).trans ((World.cell?_setCell_other _ _ _ _ (by simp <;> omega)).trans g0)))
    replace g1 : (((V3.setCell ⟨db, 0, none⟩ (.slice t1 LS.length t2)).setCell ⟨db, 1, none⟩ (.slice t3 LP.length t4)).setCell ⟨db, 2, none⟩ (.slice t5 LA.length t6)).cell? ⟨w.heap.size, 1, none⟩ = some _ := ((World.cell?_setCell_other _ _ _ _ (by simp <;> omega)).trans ((World.cell?_setCell_other _ _ _ _ (by simp <;> omega)).trans ((World.cell?_setCell_other _ _ _ _ (by simp <;> omega)).trans g1)))
    replace g2 : (((V3.setCell ⟨db, 0, none⟩ (.slice t1 LS.length t2)).setCell ⟨db, 1, none⟩ (.slice t3 LP.length t4)).setCell ⟨db, 2, none⟩ (.slice t5 LA.length t6)).cell? ⟨w.heap.size, 2, none⟩ = some _ := ((World.cell?_setCell_other _ _ _ _ (by simp <;> omega)).trans ((World.cell?_setCell_other _ _ _ _ (by simp <;> omega)).trans ((World.cell?_setCell_other _ _ _ _ (by simp <;> omega)).trans g2)))
    replace g3 : (((V3.setCell ⟨db, 0, none⟩ (.slice t1 LS.length t2)).setCell ⟨db, 1, none⟩ (.slice t3 LP.length t4)).setCell ⟨db, 2, none⟩ (.slice t5 LA.length t6)).cell? ⟨w.heap.size, 3, none⟩ = some _ := ((World.cell?_setCell_other _ _ _ _ (by simp <;> omega)).trans ((World.cell?_setCell_other _ _ _ _ (by simp <;> omega)).trans ((World.cell?_setCell_other _ _ _ _ (by simp <;> omega)).trans g3)))
    clear d0 d1 d2 z0 z1 z2
    have d0 := e0
    have d1 := e1
    have d2 := e2
    clear e0 e1 e2
    generalize (((V3.setCell ⟨db, 0, none⟩ (.slice t1 LS.length t2)).setCell ⟨db, 1, none⟩ (.slice t3 LP.length t4)).setCell ⟨db, 2, none⟩ (.slice t5 LA.length t6)) = V at *
    refine hK.out _ _ ⟨c0, c1, c2, g0, g1, g2, g3⟩ (fun hHeld => ?_)
    clear hK K
    (try simp only [Act.put, List.setIfInBounds_toArray, List.set_cons_zero, List.set_cons_succ])
    refine wpAnyH_take (i := 9) (oi := ⟨some 7, _, _, _, _, _⟩) (v := ?v14) rfl (by kernel_rfl) (by kernel_rfl) (by kernel_rfl) (fun _ _ _ h => h) (Or.inl ⟨by rfl, ?h14⟩) (by assumption) ?r14
    case h14 => (intro w hSw; (try dsimp only at hSw); go_simp <;> with_reducible rfl)
    (try simp only [Act.put, List.setIfInBounds_toArray, List.set_cons_zero, List.set_cons_succ])
    refine wpAnyH_done (by kernel_rfl) ?_ _
    clear hHeld
    clear g0 g1 g2 g3 HAP2 HCX
    go_wp2_with fail
    refine (unhide HAPS _ _ _ _ _ _ _ HF.out HC.out).mono ?_
    rintro e w5 ⟨su, pu, au, rfl, hc5, hb5⟩
    replace c0 := cell_beh c0 hb5 (Nat.le_refl _)
    replace c1 := cell_beh c1 hb5 (Nat.le_refl _)
    replace c2 := cell_beh c2 hb5 (Nat.le_refl _)
    replace d0 := cell_beh d0 hb5 (Nat.le_refl _)
    replace d1 := cell_beh d1 hb5 (Nat.le_refl _)
    replace d2 := cell_beh d2 hb5 (Nat.le_refl _)
    replace HC := hide (HC.out.below hb5 (Nat.le_refl _))
    replace HN := hide (HN.out.below hb5 (Nat.le_refl _))
    replace k0 := k0.trans (hb5.mono k0.size)
    have HU := hide hc5
    clear hc5 hb5 HAPS
    obtain ⟨u1, u2, hu1⟩ := HU.out.1.slice
    obtain ⟨u3, u4, hu3⟩ := HU.out.2.1.slice
    obtain ⟨u5, u6, hu5⟩ := HU.out.2.2.slice
    simp only [List.length_nil] at hu1 hu3 hu5
    subst hu1 hu3 hu5
    clear HU
    have b5 : Below w5.heap.size w5 (w5.alloc (.cells #[.slice u1 0 u2, .slice u3 0 u4, .slice u5 0 u6] 26)) := (Below.refl _ _).alloc (Nat.le_refl _) _
    have l5 := cell_in c0
    have m5 := cell_in d0
    have n5 : ¬ cb = w5.heap.size := by omega
    have p5 : ¬ db = w5.heap.size := by omega
    by_cases hE : E = 0
    · subst hE
      have HM := hide (HFN.out.1 rfl)
      go_wp2_with fail
      refine (unhide HCK _ _ _ _ _ _ _ HF.out.1 (HC.out.below b5 (Nat.le_refl _))).mono ?_
      rintro e w6 ⟨rfl, hb6⟩
      replace c0 := cell_beh (cell_beh c0 b5 (Nat.le_refl _)) hb6 (Nat.le_refl _)
      replace c1 := cell_beh (cell_beh c1 b5 (Nat.le_refl _)) hb6 (Nat.le_refl _)
      replace c2 := cell_beh (cell_beh c2 b5 (Nat.le_refl _)) hb6 (Nat.le_refl _)
      replace d0 := cell_beh (cell_beh d0 b5 (Nat.le_refl _)) hb6 (Nat.le_refl _)
      replace d1 := cell_beh (cell_beh d1 b5 (Nat.le_refl _)) hb6 (Nat.le_refl _)
      replace d2 := cell_beh (cell_beh d2 b5 (Nat.le_refl _)) hb6 (Nat.le_refl _)
      replace HC := hide ((HC.out.below b5 (Nat.le_refl _)).below hb6 (Nat.le_refl _))
      replace HN := hide ((HN.out.below b5 (Nat.le_refl _)).below hb6 (Nat.le_refl _))
      replace k0 := (k0.trans (b5.mono k0.size)).trans (hb6.mono (k0.trans (b5.mono k0.size)).size)
      clear b5 hb6 n5 p5 l5 m5
      go_wp2_with fail
      refine (unhide HCK _ _ _ _ _ _ _ HM.out HN.out).mono ?_
      rintro e w7 ⟨rfl, hb7⟩
      replace c0 := cell_beh c0 hb7 (Nat.le_refl _)
      replace c1 := cell_beh c1 hb7 (Nat.le_refl _)
      replace c2 := cell_beh c2 hb7 (Nat.le_refl _)
      replace HC := hide (HC.out.below hb7 (Nat.le_refl _))
      replace k0 := k0.trans (hb7.mono k0.size)
      clear hb7 HN d0 d1 d2
      go_wp2_with fail
      refine (unhide HCY _ _ _ _ _ _ _ HF.out.1 HC.out).mono ?_
      rintro e w8 ⟨su, pu, au, rfl, hc8, hb8⟩
      replace k0 := k0.trans (hb8.mono k0.size)
      have HU := hide hc8
      clear hc8 hb8
      obtain ⟨v1, v2, rfl⟩ := HU.out.1.slice
      obtain ⟨v3, v4, rfl⟩ := HU.out.2.1.slice
      obtain ⟨v5, v6, rfl⟩ := HU.out.2.2.slice
      go_wp2_with fail
      refine (unhide HCK _ _ _ _ _ _ _ HF.out.1 HU.out).mono ?_
      rintro e w9 ⟨rfl, hb9⟩
      replace k0 := k0.trans (hb9.mono k0.size)
      clear hb9 HU
      go_wp2_with fail
      go_ret
      exact ⟨rfl, k0⟩
    · have hEb : (E == 0) = false := by simpa using hE
      obtain ⟨rfl, rfl⟩ := HFN.out.2 hE
      simp only [List.length_nil] at d0 d1
      go_wp2_with fail
      refine (unhide HCK _ _ _ _ _ _ _ HF.out.1 (HC.out.below b5 (Nat.le_refl _))).mono ?_
      rintro e w6 ⟨rfl, hb6⟩
      replace c0 := cell_beh (cell_beh c0 b5 (Nat.le_refl _)) hb6 (Nat.le_refl _)
      replace c1 := cell_beh (cell_beh c1 b5 (Nat.le_refl _)) hb6 (Nat.le_refl _)
      replace c2 := cell_beh (cell_beh c2 b5 (Nat.le_refl _)) hb6 (Nat.le_refl _)
      replace d0 := cell_beh (cell_beh d0 b5 (Nat.le_refl _)) hb6 (Nat.le_refl _)
      replace d1 := cell_beh (cell_beh d1 b5 (Nat.le_refl _)) hb6 (Nat.le_refl _)
      replace d2 := cell_beh (cell_beh d2 b5 (Nat.le_refl _)) hb6 (Nat.le_refl _)
      replace HC := hide ((HC.out.below b5 (Nat.le_refl _)).below hb6 (Nat.le_refl _))
      replace HN := hide ((HN.out.below b5 (Nat.le_refl _)).below hb6 (Nat.le_refl _))
      replace k0 := (k0.trans (b5.mono k0.size)).trans (hb6.mono (k0.trans (b5.mono k0.size)).size)
      clear b5 hb6 n5 p5 l5 m5
      go_wp2_with fail
      refine (unhide HCY _ _ _ _ _ _ _ HF.out.1 HC.out).mono ?_
      rintro e w8 ⟨su, pu, au, rfl, hc8, hb8⟩
      replace k0 := k0.trans (hb8.mono k0.size)
      have HU := hide hc8
      clear hc8 hb8
      obtain ⟨v1, v2, rfl⟩ := HU.out.1.slice
      obtain ⟨v3, v4, rfl⟩ := HU.out.2.1.slice
      obtain ⟨v5, v6, rfl⟩ := HU.out.2.2.slice
      go_wp2_with fail
      refine (unhide HCK _ _ _ _ _ _ _ HF.out.1 HU.out).mono ?_
      rintro e w9 ⟨rfl, hb9⟩
      replace k0 := k0.trans (hb9.mono k0.size)
      clear hb9 HU
      go_wp2_with fail
      go_ret
      exact ⟨rfl, k0⟩

set_option maxRecDepth 100000 in
theorem confsGood_lifted (os : Os) (started : os.Started) (H : Type) (enc : TypeId × Value → H) :
    ReturnsInHanded {} Try.checked os 5 .any (Rows.confsGoodSpec.pre6 enc Try.prog Try.f5 Rows.confsGoodRow.domain false) (Rows.confsGoodSpec.post enc Try.prog Try.f5 false true false false) := by
  refine returnsInHanded_of_change (C := Try.checked) own started (by kernel_rfl) Try.func5
    (ChangeSpec.witness6 (enc := enc) (C := Try.checked) false ⟨#[], #[.slice none 0 0, .agg #[.int .i64 0, .int .i64 0, .int .i64 0, .int .i64 0]], []⟩ 8 (by kernel_rfl) (by kernel_rfl) (by kernel_rfl) (by kernel_rfl)) ?_
  intro W base args ds gs before hval0 hW hcnd _
  have hval : ∀ (j : Nat) t v, Try.f5.params[j]? = some t → args[j]? = some v → Value.okWide Try.prog W .any base t v := hval0
  have hW' := hW
  obtain ⟨p, q, hA0, hV, rfl, hfz, hnd⟩ := hW
  have hA : DataW.TrodAll enc Try.prog W 0 (fun _ => true) true Try.f5.params.toList args.toList ds p := hA0
  rw [Try.params5] at hA hval
  obtain ⟨v0, vs0, d0, ds0, p0, q0, hargs, rfl, rfl, h0, r0⟩ := trodAll_cons hA
  obtain ⟨v1, vs1, d1, ds1, p1, q1, rfl, rfl, rfl, h1, r1⟩ := trodAll_cons r0
  obtain ⟨rfl, rfl, rfl⟩ := trodAll_nil r1
  obtain rfl : args = #[v0, v1] := by cases args; simp_all
  obtain ⟨rfl, rfl⟩ := trodVars_none hV
  have k0 := h0
  have lt0 : ∀ x ∈ p0, x.block < W.heap.size := by obtain ⟨m, hm⟩ := k0; exact DataW.trod_lt m _ _ _ hm
  obtain ⟨l0, hl0⟩ := open_raws (hval 0 44 v0 rfl rfl) h0
  have k1 := h1
  have lt1 : ∀ x ∈ p1, x.block < W.heap.size := by obtain ⟨m, hm⟩ := k1; exact DataW.trod_lt m _ _ _ hm
  obtain ⟨rk1, ra1, rb1, rc1, rfl, hk1, ha1, hb1, hc1⟩ := open_raw (hval 1 46 v1 rfl rfl) h1
  clear hA0 hval0
  refine (confsGood_any v0 l0 ⟨rk1, ra1, rb1, rc1, hk1, ha1, hb1, hc1⟩ W hl0).mono fun e W' ⟨he, bel⟩ => ?_
  subst he
  exact ⟨_, rfl, _, _, _, [], _, [], hW', trodAll_mk1 (shut_bool Try.underlying4 _), (trodAll_cons_mk (Below.trod laidOut (by kernel_rfl) (of_decide_eq_true (by kernel_rfl)) k0 bel lt0) (trodAll_cons_mk (Below.trod laidOut (by kernel_rfl) (of_decide_eq_true (by kernel_rfl)) k1 bel lt1) trodAll_mk0)), rfl, bel.frame _, fun h => by cases h⟩

theorem confsGood_holds : Rows.ConfsGoodSaid :=
  OpenClaim.holds_of_wide 5 Try.f5 rfl rfl rfl rfl rfl rfl rfl ⟨rfl, rfl, rfl, rfl, rfl⟩ rfl rfl rfl rfl rfl (by kernel_rfl) Try.func5 (by kernel_rfl)
    (of_decide_eq_true (by kernel_rfl)) (by unfold Func.isWrapper; first | (rw [if_pos (by decide +kernel)]; kernel_rfl) | (rw [if_neg (by decide +kernel)]; exact ⟨rfl, rfl⟩))
    (fun os started H enc _ => confsGood_lifted os started H enc)

end Go.Proofs.Ytonhfgdnkkkikad
