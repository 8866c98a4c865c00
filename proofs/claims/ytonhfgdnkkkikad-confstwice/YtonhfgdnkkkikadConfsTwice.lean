/- The law ConfsTwice returns true at every list of raw numbers and at every number, and both read behind the call as they read before; no condition. -/
import Derived.Test.YtonhfgdnkkkikadKn
namespace Go.Proofs.Ytonhfgdnkkkikad
open Go.ChangeShapes Go.WideShapes Go.ChangeAt Go.RowKit
set_option linter.unusedVariables false
set_option maxRecDepth 100000

set_option maxHeartbeats 16000000 in
theorem confsTwice_any (lv : Value) (l : List Rw) (n : Int) (w : World) (hL : RowAt rwC 4 w lv l) (hn0 : -9223372036854775808 ≤ n) (hn1 : n ≤ 9223372036854775807) :
    Calls Try.prog 6 #[lv, .int .i64 n] w fun e w' => e = .returned (.bool true) ∧ Below w.heap.size w w' := by
  have HL := hide (fun W (hW : Below w.heap.size w W) => conf_any l lv W (RowAt.below hL hW (Nat.le_refl _)))
  obtain ⟨p0, p1⟩ := pk_in n 50 (by omega)
  have u0 := wrap_i64_in (900 + pk n 50) (by omega) (by omega)
  have HPK := hide (fun W => picked_any n 50 W hn0 hn1 (by omega) (by omega))
  clear hn0 hn1
  have HSW : Hid (∀ (W : World) (sv pv av : Value) (S : List Sw) (P : List Pr) (A : List Ac), Fine S P A → CfAt W sv pv av S P A → Calls Try.prog 11 #[.agg #[sv, pv, av], actV ⟨1, 1, 9, 0, 0, 0, 0, 0, 0, 0, 0, false, 0, 0, 0, 0, 0, false, 0, 0, 0, 0, 0, 0, 0, 0, 0, ⟨#[]⟩⟩] W fun e w' => ∃ (su pu au : Value), e = .returned (.tuple #[.agg #[su, pu, au], .int .i64 7]) ∧ CfAt w' su pu au [] [] [] ∧ Below W.heap.size W w') := fun W sv pv av S P A hf hC => by
    obtain ⟨q1, q2, q3⟩ := may_len hf.1
    have h3 : appE S P A ⟨1, 1, 9, 0, 0, 0, 0, 0, 0, 0, 0, false, 0, 0, 0, 0, 0, false, 0, 0, 0, 0, 0, 0, 0, 0, 0, ⟨#[]⟩⟩ = 7 := switch_twice hf rfl rfl
    have hn := ap_none (S := S) (P := P) (A := A) (a := ⟨1, 1, 9, 0, 0, 0, 0, 0, 0, 0, 0, false, 0, 0, 0, 0, 0, false, 0, 0, 0, 0, 0, 0, 0, 0, 0, ⟨#[]⟩⟩) (by rw [h3]; decide)
    refine (apply_any sv pv av S P A ⟨1, 1, 9, 0, 0, 0, 0, 0, 0, 0, 0, false, 0, 0, 0, 0, 0, false, 0, 0, 0, 0, 0, 0, 0, 0, 0, ⟨#[]⟩⟩ W hC (by omega) (by omega) (by omega)).mono ?_
    rintro e w' ⟨su, pu, au, rfl, hc, hb⟩
    rw [hn.1, hn.2.1, hn.2.2] at hc
    rw [h3]
    exact ⟨su, pu, au, rfl, hc, hb⟩
  have HPO : Hid (∀ (W : World) (sv pv av : Value) (S : List Sw) (P : List Pr) (A : List Ac), Fine S P A → CfAt W sv pv av S P A → Calls Try.prog 11 #[.agg #[sv, pv, av], actV ⟨2, 0, 0, 0, 999, 400, 1, 1, 0, 0, 0, false, 0, 0, 0, 0, 0, false, 0, 0, 0, 0, 0, 0, 0, 0, 0, ⟨#[]⟩⟩] W fun e w' => ∃ (su pu au : Value), e = .returned (.tuple #[.agg #[su, pu, au], .int .i64 6]) ∧ CfAt w' su pu au [] [] [] ∧ Below W.heap.size W w') := fun W sv pv av S P A hf hC => by
    obtain ⟨q1, q2, q3⟩ := may_len hf.1
    have h3 : appE S P A ⟨2, 0, 0, 0, 999, 400, 1, 1, 0, 0, 0, false, 0, 0, 0, 0, 0, false, 0, 0, 0, 0, 0, 0, 0, 0, 0, ⟨#[]⟩⟩ = 6 := port_nowhere hf rfl rfl
    have hn := ap_none (S := S) (P := P) (A := A) (a := ⟨2, 0, 0, 0, 999, 400, 1, 1, 0, 0, 0, false, 0, 0, 0, 0, 0, false, 0, 0, 0, 0, 0, 0, 0, 0, 0, ⟨#[]⟩⟩) (by rw [h3]; decide)
    refine (apply_any sv pv av S P A ⟨2, 0, 0, 0, 999, 400, 1, 1, 0, 0, 0, false, 0, 0, 0, 0, 0, false, 0, 0, 0, 0, 0, 0, 0, 0, 0, ⟨#[]⟩⟩ W hC (by omega) (by omega) (by omega)).mono ?_
    rintro e w' ⟨su, pu, au, rfl, hc, hb⟩
    rw [hn.1, hn.2.1, hn.2.2] at hc
    rw [h3]
    exact ⟨su, pu, au, rfl, hc, hb⟩
  have HAP : Hid (∀ (W : World) (sv pv av : Value) (S : List Sw) (P : List Pr) (A : List Ac) (i s m p c : Int), may S P A = true → prFault S P ⟨i, s, m, p, c⟩ = 7 → CfAt W sv pv av S P A → Calls Try.prog 11 #[.agg #[sv, pv, av], actV ⟨2, 0, 0, 0, i, s, m, p, c, 0, 0, false, 0, 0, 0, 0, 0, false, 0, 0, 0, 0, 0, 0, 0, 0, 0, ⟨#[]⟩⟩] W fun e w' => ∃ (su pu au : Value), e = .returned (.tuple #[.agg #[su, pu, au], .int .i64 7]) ∧ CfAt w' su pu au [] [] [] ∧ Below W.heap.size W w') := fun W sv pv av S P A i s m p c hf hx hC => by
    obtain ⟨q1, q2, q3⟩ := may_len hf
    have h3 : appE S P A ⟨2, 0, 0, 0, i, s, m, p, c, 0, 0, false, 0, 0, 0, 0, 0, false, 0, 0, 0, 0, 0, 0, 0, 0, 0, ⟨#[]⟩⟩ = 7 := (app_port hf rfl).trans hx
    have hn := ap_none (S := S) (P := P) (A := A) (a := ⟨2, 0, 0, 0, i, s, m, p, c, 0, 0, false, 0, 0, 0, 0, 0, false, 0, 0, 0, 0, 0, 0, 0, 0, 0, ⟨#[]⟩⟩) (by rw [h3]; decide)
    refine (apply_any sv pv av S P A ⟨2, 0, 0, 0, i, s, m, p, c, 0, 0, false, 0, 0, 0, 0, 0, false, 0, 0, 0, 0, 0, 0, 0, 0, 0, ⟨#[]⟩⟩ W hC (by omega) (by omega) (by omega)).mono ?_
    rintro e w' ⟨su, pu, au, rfl, hc, hb⟩
    rw [hn.1, hn.2.1, hn.2.2] at hc
    rw [h3]
    exact ⟨su, pu, au, rfl, hc, hb⟩
  obtain ⟨la, lc, rfl⟩ := hL.slice
  clear hL
  generalize pk n 50 = nn at *
  go_enter Try.func6, Try.ntmps6
  go_wp2_with fail
  refine (unhide HL _ (Below.refl _ _)).mono ?_
  rintro e w1 ⟨su, pu, au, rfl, S, P, A, hC, hF, k0⟩
  have HC := hide hC
  have HF := hide hF
  clear hC hF HL
  obtain ⟨m1, m2, rfl⟩ := HC.out.1.slice
  obtain ⟨m3, m4, rfl⟩ := HC.out.2.1.slice
  obtain ⟨m5, m6, rfl⟩ := HC.out.2.2.slice
  obtain ⟨W1, hW1⟩ : ∃ W1, W1 = w1.alloc (.cells #[.slice m1 S.length m2, .slice m3 P.length m4, .slice m5 A.length m6] 26) := ⟨_, rfl⟩
  obtain ⟨cb, hcb⟩ : ∃ cb, cb = w1.heap.size := ⟨_, rfl⟩
  have hbN : Below w1.heap.size w1 W1 := by rw [hW1]; exact (Below.refl _ _).alloc (Nat.le_refl _) _
  have c0 : W1.cell? ⟨cb, 0, none⟩ = some (.slice m1 S.length m2) := by rw [hW1, hcb]; exact new_cell w1 _ rfl _ _ _ _ rfl
  have c1 : W1.cell? ⟨cb, 1, none⟩ = some (.slice m3 P.length m4) := by rw [hW1, hcb]; exact new_cell w1 _ rfl _ _ _ _ rfl
  have c2 : W1.cell? ⟨cb, 2, none⟩ = some (.slice m5 A.length m6) := by rw [hW1, hcb]; exact new_cell w1 _ rfl _ _ _ _ rfl
  replace HC := hide (HC.out.below hbN (Nat.le_refl _))
  replace k0 := k0.trans (hbN.mono k0.size)
  have HPL : Hid (P.length ≤ 40) := (may_len HF.out.1).2.1
  go_wp2_with fail
  rw [← hW1, ← hcb]
  clear hW1 hcb hbN
  go_loopw [24] (fun i wr => ∃ (k : Nat), k ≤ P.length ∧ i = .int .i64 k ∧ wr.cell? ⟨cb, 0, none⟩ = some (.slice m1 S.length m2) ∧ wr.cell? ⟨cb, 1, none⟩ = some (.slice m3 P.length m4) ∧ wr.cell? ⟨cb, 2, none⟩ = some (.slice m5 A.length m6) ∧ Hid (CfAt wr (.slice m1 S.length m2) (.slice m3 P.length m4) (.slice m5 A.length m6) S P A) ∧ Below w.heap.size w wr) (fun i _ => P.length - (intOf i).toNat)
  case atStart => exact ⟨0, by omega, rfl, c0, c1, c2, HC, k0⟩
  case round =>
    clear c0 c1 c2 HC k0
    obtain ⟨k, hk, rfl, c0, c1, c2, HC, k0⟩ := hrel
    by_cases hlt : k < P.length
    · have hP40 := HPL.out
      obtain ⟨b, off, cap', e1, hcap, hb, g0, g1, g2, g3, g4⟩ := pr_at HC.out.2.1 hlt
      simp only [Value.slice.injEq, true_and] at e1
      obtain ⟨rfl, rfl⟩ := e1
      have hmem : P.getD k pr0 ∈ P := by simp [List.getD, List.getElem?_eq_getElem hlt]
      have HM := hide HF.out.1
      have HX : Hid (∀ id m, (id = (P.getD k pr0).i ∨ 900 ≤ id ∧ id ≤ 949) → (m = (P.getD k pr0).m ∨ m = 5000) → prFault S P ⟨id, (P.getD k pr0).s, m, (P.getD k pr0).p, (P.getD k pr0).c⟩ = 7) := fun id m h1 h2 => port_twice HF.out.1 hmem id m h1 h2
      clear hmem
      generalize (P.getD k pr0).i = x0 at *
      generalize (P.getD k pr0).s = x1 at *
      generalize (P.getD k pr0).m = x2 at *
      generalize (P.getD k pr0).p = x3 at *
      generalize (P.getD k pr0).c = x4 at *
      have HX1 := hide (HX.out x0 x2 (.inl rfl) (.inl rfl))
      have HX2 := hide (HX.out (900 + nn) x2 (.inr (by omega)) (.inl rfl))
      have HX3 := hide (HX.out (900 + nn) 5000 (.inr (by omega)) (.inr rfl))
      clear HX
      have q3 : (0 : Int) ≤ (k : Int) := by omega
      have q4 : (k : Int) < (P.length : Int) := by omega
      have lc := cell_in c0
      have nc : ¬ cb = wr.heap.size := by omega
      have nb : ¬ cb = wr.heap.size + 1 := by omega
      go_wp2_with fail
      refine (unhide HPK _).mono ?_
      rintro e w2 ⟨rfl, rfl⟩
      go_wp2_with fail
      obtain ⟨W2, hW2⟩ : ∃ W2, W2 = ((wr.alloc (.cells #[.int .i64 x0, .int .i64 x1, .int .i64 x2, .int .i64 x3, .int .i64 x4] 33)).alloc (.cells #[.int .i64 (900 + nn), .int .i64 x1, .int .i64 x2, .int .i64 x3, .int .i64 x4] 33)) := ⟨_, rfl⟩
      rw [← hW2]
      have HB : Below wr.heap.size wr W2 := by rw [hW2]; exact ((Below.refl _ _).alloc (Nat.le_refl _) _).alloc (by simp) _
      have q0 : W2.cell? ⟨wr.heap.size + 1, 0, none⟩ = some (.int .i64 (900 + nn)) := by rw [hW2]; exact new_cell _ _ (by simp) _ _ _ _ rfl
      have q1 : W2.cell? ⟨wr.heap.size + 1, 1, none⟩ = some (.int .i64 x1) := by rw [hW2]; exact new_cell _ _ (by simp) _ _ _ _ rfl
      have q2 : W2.cell? ⟨wr.heap.size + 1, 2, none⟩ = some (.int .i64 x2) := by rw [hW2]; exact new_cell _ _ (by simp) _ _ _ _ rfl
      have q3 : W2.cell? ⟨wr.heap.size + 1, 3, none⟩ = some (.int .i64 x3) := by rw [hW2]; exact new_cell _ _ (by simp) _ _ _ _ rfl
      have q4 : W2.cell? ⟨wr.heap.size + 1, 4, none⟩ = some (.int .i64 x4) := by rw [hW2]; exact new_cell _ _ (by simp) _ _ _ _ rfl
      have z2 : W2.frozen? ⟨wr.heap.size + 1, 2, none⟩ = false := by rw [hW2]; exact new_frozen _ _ (by simp) _ _ _
      clear hW2 g0 g1 g2 g3 g4 nc nb HPK hb
      refine (unhide HAP _ _ _ _ _ _ _ _ _ _ _ _ HM.out HX1.out (HC.out.below HB (Nat.le_refl _))).mono ?_
      rintro e w3 ⟨su, pu, au, rfl, hc5, hb5⟩
      replace z2 := (hb5.frozen (p := ⟨wr.heap.size + 1, 2, none⟩) (cell_in q0)).trans z2
      replace q0 := cell_beh q0 hb5 (Nat.le_refl _)
      replace q1 := cell_beh q1 hb5 (Nat.le_refl _)
      replace q2 := cell_beh q2 hb5 (Nat.le_refl _)
      replace q3 := cell_beh q3 hb5 (Nat.le_refl _)
      replace q4 := cell_beh q4 hb5 (Nat.le_refl _)
      replace HB := HB.trans (hb5.mono HB.size)
      have HU := hide hc5
      clear hc5 hb5
      obtain ⟨t1, t2, hu1⟩ := HU.out.1.slice
      obtain ⟨t3, t4, hu3⟩ := HU.out.2.1.slice
      obtain ⟨t5, t6, hu5⟩ := HU.out.2.2.slice
      simp only [List.length_nil] at hu1 hu3 hu5
      subst hu1 hu3 hu5
      clear HU
      have f0 := cell_beh c0 HB (Nat.le_refl _)
      have f1 := cell_beh c1 HB (Nat.le_refl _)
      have f2 := cell_beh c2 HB (Nat.le_refl _)
      have l5 := cell_in f0
      have n5 : ¬ cb = w3.heap.size := by omega
      have l6 := cell_in q0
      have n6 : ¬ wr.heap.size + 1 = w3.heap.size := by omega
      go_wp2_with fail
      obtain ⟨W3, hW⟩ : ∃ W3, W3 = w3.alloc (.cells #[.slice t1 0 t2, .slice t3 0 t4, .slice t5 0 t6] 26) := ⟨_, rfl⟩
      rw [← hW]
      have b5 : Below w3.heap.size w3 W3 := by rw [hW]; exact (Below.refl _ _).alloc (Nat.le_refl _) _
      replace z2 := (b5.frozen (p := ⟨wr.heap.size + 1, 2, none⟩) l6).trans z2
      replace q0 := cell_beh q0 b5 (Nat.le_refl _)
      replace q1 := cell_beh q1 b5 (Nat.le_refl _)
      replace q2 := cell_beh q2 b5 (Nat.le_refl _)
      replace q3 := cell_beh q3 b5 (Nat.le_refl _)
      replace q4 := cell_beh q4 b5 (Nat.le_refl _)
      replace HB := HB.trans (b5.mono HB.size)
      clear hW b5 n5 n6 l5 l6 f0 f1 f2
      refine (unhide HAP _ _ _ _ _ _ _ _ _ _ _ _ HM.out HX2.out (HC.out.below HB (Nat.le_refl _))).mono ?_
      rintro e w4 ⟨su, pu, au, rfl, hc5, hb5⟩
      replace z2 := (hb5.frozen (p := ⟨wr.heap.size + 1, 2, none⟩) (cell_in q0)).trans z2
      replace q0 := cell_beh q0 hb5 (Nat.le_refl _)
      replace q1 := cell_beh q1 hb5 (Nat.le_refl _)
      replace q2 := cell_beh q2 hb5 (Nat.le_refl _)
      replace q3 := cell_beh q3 hb5 (Nat.le_refl _)
      replace q4 := cell_beh q4 hb5 (Nat.le_refl _)
      replace HB := HB.trans (hb5.mono HB.size)
      have HU := hide hc5
      clear hc5 hb5
      obtain ⟨v1, v2, hu1⟩ := HU.out.1.slice
      obtain ⟨v3, v4, hu3⟩ := HU.out.2.1.slice
      obtain ⟨v5, v6, hu5⟩ := HU.out.2.2.slice
      simp only [List.length_nil] at hu1 hu3 hu5
      subst hu1 hu3 hu5
      clear HU
      have f0 := cell_beh c0 HB (Nat.le_refl _)
      have f1 := cell_beh c1 HB (Nat.le_refl _)
      have f2 := cell_beh c2 HB (Nat.le_refl _)
      have l5 := cell_in f0
      have n5 : ¬ cb = w4.heap.size := by omega
      have l6 := cell_in q0
      have n6 : ¬ wr.heap.size + 1 = w4.heap.size := by omega
      go_wp2_with fail
      replace HB := HB.setCell (p := ⟨wr.heap.size + 1, 2, none⟩) (Nat.le_succ _) (.int .i64 5000)
      replace HB := HB.alloc HB.size (.cells #[.slice v1 0 v2, .slice v3 0 v4, .slice v5 0 v6] 26)
      clear q0 q1 q2 q3 q4 z2 n5 n6 l5 l6 f0 f1 f2
      generalize (w4.setCell ⟨wr.heap.size + 1, 2, none⟩ (.int .i64 5000)).alloc (.cells #[.slice v1 0 v2, .slice v3 0 v4, .slice v5 0 v6] 26) = W5 at *
      refine (unhide HAP _ _ _ _ _ _ _ _ _ _ _ _ HM.out HX3.out (HC.out.below HB (Nat.le_refl _))).mono ?_
      rintro e w6 ⟨su, pu, au, rfl, hc5, hb5⟩
      replace HB := HB.trans (hb5.mono HB.size)
      have HU := hide hc5
      clear hc5 hb5
      obtain ⟨y1, y2, hu1⟩ := HU.out.1.slice
      obtain ⟨y3, y4, hu3⟩ := HU.out.2.1.slice
      obtain ⟨y5, y6, hu5⟩ := HU.out.2.2.slice
      simp only [List.length_nil] at hu1 hu3 hu5
      subst hu1 hu3 hu5
      clear HU
      have f0 := cell_beh c0 HB (Nat.le_refl _)
      have f1 := cell_beh c1 HB (Nat.le_refl _)
      have f2 := cell_beh c2 HB (Nat.le_refl _)
      have l5 := cell_in f0
      have n5 : ¬ cb = w6.heap.size := by omega
      go_wp2_with fail
      have b6 := HB.alloc HB.size (.cells #[.slice y1 0 y2, .slice y3 0 y4, .slice y5 0 y6] 26)
      go_roundw
      case rel => exact ⟨k + 1, by omega, by go_num, cell_beh c0 b6 (Nat.le_refl _), cell_beh c1 b6 (Nat.le_refl _), cell_beh c2 b6 (Nat.le_refl _), hide (HC.out.below b6 (Nat.le_refl _)), k0.trans (b6.mono k0.size)⟩
      case measure => simp [intOf]; omega
    · have HB : Below wr.heap.size wr wr := Below.refl _ _
      go_wp2_with fail
      refine (unhide HSW _ _ _ _ _ _ _ HF.out (HC.out.below HB (Nat.le_refl _))).mono ?_
      rintro e w3 ⟨su, pu, au, rfl, hc5, hb5⟩
      replace HB := HB.trans (hb5.mono HB.size)
      have HU := hide hc5
      clear hc5 hb5
      obtain ⟨t1, t2, hu1⟩ := HU.out.1.slice
      obtain ⟨t3, t4, hu3⟩ := HU.out.2.1.slice
      obtain ⟨t5, t6, hu5⟩ := HU.out.2.2.slice
      simp only [List.length_nil] at hu1 hu3 hu5
      subst hu1 hu3 hu5
      clear HU
      have f0 := cell_beh c0 HB (Nat.le_refl _)
      have f1 := cell_beh c1 HB (Nat.le_refl _)
      have f2 := cell_beh c2 HB (Nat.le_refl _)
      have l5 := cell_in f0
      have n5 : ¬ cb = w3.heap.size := by omega
      go_wp2_with fail
      replace HB := HB.alloc HB.size (.cells #[.slice t1 0 t2, .slice t3 0 t4, .slice t5 0 t6] 26)
      clear n5 l5 f0 f1 f2
      refine (unhide HPO _ _ _ _ _ _ _ HF.out (HC.out.below HB (Nat.le_refl _))).mono ?_
      rintro e w4 ⟨su, pu, au, rfl, hc5, hb5⟩
      replace HB := HB.trans (hb5.mono HB.size)
      have HU := hide hc5
      clear hc5 hb5
      obtain ⟨v1, v2, hu1⟩ := HU.out.1.slice
      obtain ⟨v3, v4, hu3⟩ := HU.out.2.1.slice
      obtain ⟨v5, v6, hu5⟩ := HU.out.2.2.slice
      simp only [List.length_nil] at hu1 hu3 hu5
      subst hu1 hu3 hu5
      clear HU
      have f0 := cell_beh c0 HB (Nat.le_refl _)
      have f1 := cell_beh c1 HB (Nat.le_refl _)
      have f2 := cell_beh c2 HB (Nat.le_refl _)
      have l5 := cell_in f0
      have n5 : ¬ cb = w4.heap.size := by omega
      go_wp2_with fail
      replace HB := HB.alloc HB.size (.cells #[.slice v1 0 v2, .slice v3 0 v4, .slice v5 0 v6] 26)
      clear n5 l5 f0 f1 f2
      go_ret
      exact ⟨rfl, k0.trans (HB.mono k0.size)⟩

set_option maxRecDepth 100000 in
theorem confsTwice_lifted (os : Os) (started : os.Started) (H : Type) (enc : TypeId × Value → H) :
    ReturnsInHanded {} Try.checked os 6 .any (Rows.confsTwiceSpec.pre6 enc Try.prog Try.f6 Rows.confsTwiceRow.domain false) (Rows.confsTwiceSpec.post enc Try.prog Try.f6 false true false false) := by
  refine returnsInHanded_of_change (C := Try.checked) own started (by kernel_rfl) Try.func6
    (ChangeSpec.witness6 (enc := enc) (C := Try.checked) false ⟨#[], #[.slice none 0 0, .int .i64 0], []⟩ 8 (by kernel_rfl) (by kernel_rfl) (by kernel_rfl) (by kernel_rfl)) ?_
  intro W base args ds gs before hval0 hW hcnd _
  have hval : ∀ (j : Nat) t v, Try.f6.params[j]? = some t → args[j]? = some v → Value.okWide Try.prog W .any base t v := hval0
  have hW' := hW
  obtain ⟨p, q, hA0, hV, rfl, hfz, hnd⟩ := hW
  have hA : DataW.TrodAll enc Try.prog W 0 (fun _ => true) true Try.f6.params.toList args.toList ds p := hA0
  rw [Try.params6] at hA hval
  obtain ⟨v0, vs0, d0, ds0, p0, q0, hargs, rfl, rfl, h0, r0⟩ := trodAll_cons hA
  obtain ⟨v1, vs1, d1, ds1, p1, q1, rfl, rfl, rfl, h1, r1⟩ := trodAll_cons r0
  obtain ⟨rfl, rfl, rfl⟩ := trodAll_nil r1
  obtain rfl : args = #[v0, v1] := by cases args; simp_all
  obtain ⟨rfl, rfl⟩ := trodVars_none hV
  have k0 := h0
  have lt0 : ∀ x ∈ p0, x.block < W.heap.size := by obtain ⟨m, hm⟩ := k0; exact DataW.trod_lt m _ _ _ hm
  obtain ⟨l0, hl0⟩ := open_raws (hval 0 44 v0 rfl rfl) h0
  obtain ⟨x1, rfl, rfl, rfl, wx1⟩ := open_int Try.underlying3 (hval 1 3 v1 rfl rfl) h1
  clear hA0 hval0
  refine (confsTwice_any v0 l0 x1 W hl0 (i64_in wx1).1 (i64_in wx1).2).mono fun e W' ⟨he, bel⟩ => ?_
  subst he
  exact ⟨_, rfl, _, _, _, [], _, [], hW', trodAll_mk1 (shut_bool Try.underlying4 _), (trodAll_cons_mk (Below.trod laidOut (by kernel_rfl) (of_decide_eq_true (by kernel_rfl)) k0 bel lt0) (trodAll_cons_mk (shut_int Try.underlying3 wx1) trodAll_mk0)), rfl, bel.frame _, fun h => by cases h⟩

theorem confsTwice_holds : Rows.ConfsTwiceSaid :=
  OpenClaim.holds_of_wide 6 Try.f6 rfl rfl rfl rfl rfl rfl rfl ⟨rfl, rfl, rfl, rfl, rfl⟩ rfl rfl rfl rfl rfl (by kernel_rfl) Try.func6 (by kernel_rfl)
    (of_decide_eq_true (by kernel_rfl)) (by unfold Func.isWrapper; first | (rw [if_pos (by decide +kernel)]; kernel_rfl) | (rw [if_neg (by decide +kernel)]; exact ⟨rfl, rfl⟩))
    (fun os started H enc _ => confsTwice_lifted os started H enc)

end Go.Proofs.Ytonhfgdnkkkikad
