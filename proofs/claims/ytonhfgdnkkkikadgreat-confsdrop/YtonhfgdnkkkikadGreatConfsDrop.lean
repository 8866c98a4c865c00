/- The law ConfsDrop returns true at every list of raw numbers and at any two numbers, and all read behind the call as they read before; no condition. -/
import Derived.Test.YtonhfgdnkkkikadGreatKn
import Derived.Test.YtonhfgdnkkkikadGreatCap3
import Derived.Test.YtonhfgdnkkkikadGreatCe
import Derived.Test.YtonhfgdnkkkikadGreatKb
import Derived.Test.YtonhfgdnkkkikadGreatPo
namespace Go.Proofs.YtonhfgdnkkkikadGreat
open Go.ChangeShapes Go.WideShapes Go.ChangeAt Go.RowKit
set_option linter.unusedVariables false
set_option maxRecDepth 100000

theorem cf_far {w : World} {sv pv av : Value} {S : List Sw} {P : List Pr} {A : List Ac} (h : CfAt w sv pv av S P A) {B b : Nat} (hh : Hi3 B sv pv av) (hb : b < B) (o : Nat) (x : Value) : CfAt (w.setCell ⟨b, o, none⟩ x) sv pv av S P A :=
  ⟨RowAt.set_far h.1 (fun e => by have := hh.1 b e; omega) o x, RowAt.set_far h.2.1 (fun e => by have := hh.2.1 b e; omega) o x, RowAt.set_far h.2.2 (fun e => by have := hh.2.2 b e; omega) o x⟩

theorem set_getD {P : List Pr} {k : Nat} (h : k < P.length) (z : Pr) : (P.set k z).getD k pr0 = z := by
  rw [List.getD, List.getElem?_set_self h]
  rfl

set_option maxHeartbeats 16000000 in
theorem confsDrop_any (lv : Value) (l : List Rw) (n m : Int) (w : World) (hL : RowAt rwC 4 w lv l) (hn0 : -9223372036854775808 ≤ n) (hn1 : n ≤ 9223372036854775807) (hm0 : -9223372036854775808 ≤ m) (hm1 : m ≤ 9223372036854775807) :
    Calls Tryz.prog 3 #[lv, .int .i64 n, .int .i64 m] w fun e w' => e = .returned (.bool true) ∧ Below w.heap.size w w' := by
  have HL := hide (fun W (hW : Below w.heap.size w W) => conf_any l lv W (RowAt.below hL hW (Nat.le_refl _)))
  have HFT := hide (fun W => frameTells_any patchOne_any W)
  obtain ⟨t0, t1⟩ := pk_in m 7 (by omega)
  have u0 := wrap_i64_in (pk m 7 - 1) (by omega) (by omega)
  have HPM := hide (fun W => picked_any m 7 W hm0 hm1 (by omega) (by omega))
  clear hm0 hm1
  generalize pk m 7 = mk7 at *
  obtain ⟨la, lc, rfl⟩ := hL.slice
  clear hL
  go_enter Tryz.func3, Tryz.ntmps3
  go_wp2_with fail
  refine (unhide HFT _).mono ?_
  rintro e w0 ⟨rfl, hb0⟩
  clear HFT
  go_wp2_with fail
  refine (unhide HL _ hb0).mono ?_
  rintro e w1 ⟨su, pu, au, rfl, S, P, A, hC, hF, hb1⟩
  have k0 := hb0.trans (hb1.mono hb0.size)
  have HC := hide hC
  have HF := hide hF
  clear hC hF HL hb0 hb1
  obtain ⟨m1, m2, rfl⟩ := HC.out.1.slice
  obtain ⟨m3, m4, rfl⟩ := HC.out.2.1.slice
  obtain ⟨m5, m6, rfl⟩ := HC.out.2.2.slice
  obtain ⟨W1, hW1⟩ : ∃ W1, W1 = w1.alloc (.cells #[.slice m1 S.length m2, .slice m3 P.length m4, .slice m5 A.length m6] 28) := ⟨_, rfl⟩
  obtain ⟨cb, hcb⟩ : ∃ cb, cb = w1.heap.size := ⟨_, rfl⟩
  have hbN : Below w1.heap.size w1 W1 := by rw [hW1]; exact (Below.refl _ _).alloc (Nat.le_refl _) _
  have c0 : W1.cell? ⟨cb, 0, none⟩ = some (.slice m1 S.length m2) := by rw [hW1, hcb]; exact new_cell w1 _ rfl _ _ _ _ rfl
  have c1 : W1.cell? ⟨cb, 1, none⟩ = some (.slice m3 P.length m4) := by rw [hW1, hcb]; exact new_cell w1 _ rfl _ _ _ _ rfl
  have c2 : W1.cell? ⟨cb, 2, none⟩ = some (.slice m5 A.length m6) := by rw [hW1, hcb]; exact new_cell w1 _ rfl _ _ _ _ rfl
  replace HC := hide (HC.out.below hbN (Nat.le_refl _))
  replace k0 := k0.trans (hbN.mono k0.size)
  have HPL : Hid (P.length ≤ 40 ∧ S.length ≤ 12 ∧ A.length ≤ 40) := ⟨(may_len HF.out.1).2.1, (may_len HF.out.1).1, (may_len HF.out.1).2.2⟩
  by_cases hP0 : P.length = 0
  · go_wp2_with fail
    rw [hP0] at hW1
    rw [← hW1]
    go_ret
    exact ⟨rfl, k0⟩
  · have hz : ((P.length : Int) == 0) = false := by rw [beq_eq_false_iff_ne]; omega
    have hP40 := HPL.out.1
    obtain ⟨s0, s1⟩ := pk_in n P.length (by omega)
    have HPN := hide (fun W => picked_any n P.length W hn0 hn1 (by omega) (by omega))
    clear hn0 hn1
    obtain ⟨k, hk⟩ : ∃ k : Nat, pk n P.length = (k : Int) := ⟨(pk n P.length).toNat, by omega⟩
    rw [hk] at HPN s0 s1
    clear hk
    have hlt : k < P.length := by omega
    obtain ⟨D, hD⟩ : ∃ D, D = P.eraseIdx k := ⟨_, rfl⟩
    obtain ⟨Q, hQ⟩ : ∃ Q, Q = P.set k ⟨(P.getD k pr0).i, (P.getD k pr0).s, (P.getD k pr0).m, (P.getD k pr0).p, mk7 - 1⟩ := ⟨_, rfl⟩
    have HDR : Hid (∀ (W : World) (sv pv av : Value), CfAt W sv pv av S P A → Calls Tryz.prog 7 #[.agg #[sv, pv, av], actV ⟨4, 0, 0, 0, 0, 0, 0, 0, 0, 0, 0, false, 0, 0, 0, 0, 0, false, (P.getD k pr0).i, 0, 0, 0, 0, 0, 0, 0, 0, ⟨#[]⟩⟩] W fun e w' => ∃ (su pu au : Value), e = .returned (.tuple #[.agg #[su, pu, au], .int .i64 0]) ∧ CfAt w' su pu au S D A ∧ Below W.heap.size W w' ∧ Hi3 W.heap.size su pu au) := fun W sv pv av hC => by
      obtain ⟨q1, q2, q3, q4⟩ := drop_there (a := ⟨4, 0, 0, 0, 0, 0, 0, 0, 0, 0, 0, false, 0, 0, 0, 0, 0, false, (P.getD k pr0).i, 0, 0, 0, 0, 0, 0, 0, 0, ⟨#[]⟩⟩) HF.out.1 hlt rfl rfl
      have hq := HPL.out
      have := apply_own sv pv av S P A ⟨4, 0, 0, 0, 0, 0, 0, 0, 0, 0, 0, false, 0, 0, 0, 0, 0, false, (P.getD k pr0).i, 0, 0, 0, 0, 0, 0, 0, 0, ⟨#[]⟩⟩ W hC (by omega) (by omega) (by omega)
      rw [q1, q2, q3, q4, ← hD] at this
      exact this
    have HBI : Hid (∀ (W : World) (sv pv av : Value), CfAt W sv pv av S P A → Calls Tryz.prog 7 #[.agg #[sv, pv, av], actV ⟨6, 0, 0, 0, 0, 0, 0, 0, 0, 0, 0, false, 0, 0, 0, 0, 0, false, (P.getD k pr0).i, mk7 - 1, 0, 0, 0, 0, 0, 0, 0, ⟨#[]⟩⟩] W fun e w' => ∃ (su pu au : Value), e = .returned (.tuple #[.agg #[su, pu, au], .int .i64 0]) ∧ CfAt w' su pu au S Q A ∧ Below W.heap.size W w' ∧ Hi3 W.heap.size su pu au) := fun W sv pv av hC => by
      obtain ⟨q1, q2, q3, q4⟩ := bind_there (a := ⟨6, 0, 0, 0, 0, 0, 0, 0, 0, 0, 0, false, 0, 0, 0, 0, 0, false, (P.getD k pr0).i, mk7 - 1, 0, 0, 0, 0, 0, 0, 0, ⟨#[]⟩⟩) HF.out.1 hlt rfl rfl ⟨by simp; omega, by simp; omega⟩
      have hq := HPL.out
      have := apply_own sv pv av S P A ⟨6, 0, 0, 0, 0, 0, 0, 0, 0, 0, 0, false, 0, 0, 0, 0, 0, false, (P.getD k pr0).i, mk7 - 1, 0, 0, 0, 0, 0, 0, 0, ⟨#[]⟩⟩ W hC (by omega) (by omega) (by omega)
      rw [q1, q2, q3, q4] at this
      rw [hQ]
      exact this
    have HGO : Hid (∀ (W : World) (sv pv av : Value), CfAt W sv pv av S D A → Calls Tryz.prog 7 #[.agg #[sv, pv, av], actV ⟨6, 0, 0, 0, 0, 0, 0, 0, 0, 0, 0, false, 0, 0, 0, 0, 0, false, (P.getD k pr0).i, 0, 0, 0, 0, 0, 0, 0, 0, ⟨#[]⟩⟩] W fun e w' => ∃ (su pu au : Value), e = .returned (.tuple #[.agg #[su, pu, au], .int .i64 6]) ∧ CfAt w' su pu au [] [] [] ∧ Below W.heap.size W w') := fun W sv pv av hC => by
      have h3 : appE S D A ⟨6, 0, 0, 0, 0, 0, 0, 0, 0, 0, 0, false, 0, 0, 0, 0, 0, false, (P.getD k pr0).i, 0, 0, 0, 0, 0, 0, 0, 0, ⟨#[]⟩⟩ = 6 := by rw [hD]; exact bind_gone (a := ⟨6, 0, 0, 0, 0, 0, 0, 0, 0, 0, 0, false, 0, 0, 0, 0, 0, false, (P.getD k pr0).i, 0, 0, 0, 0, 0, 0, 0, 0, ⟨#[]⟩⟩) HF.out.1 hlt rfl rfl
      have hn := ap_none (S := S) (P := D) (A := A) (a := ⟨6, 0, 0, 0, 0, 0, 0, 0, 0, 0, 0, false, 0, 0, 0, 0, 0, false, (P.getD k pr0).i, 0, 0, 0, 0, 0, 0, 0, 0, ⟨#[]⟩⟩) (by rw [h3]; decide)
      have hq := HPL.out
      have hdl : D.length ≤ P.length := by rw [hD]; exact List.length_eraseIdx_le _ _
      refine (apply_any sv pv av S D A ⟨6, 0, 0, 0, 0, 0, 0, 0, 0, 0, 0, false, 0, 0, 0, 0, 0, false, (P.getD k pr0).i, 0, 0, 0, 0, 0, 0, 0, 0, ⟨#[]⟩⟩ W hC (by omega) (by omega) (by omega)).mono ?_
      rintro e w' ⟨su, pu, au, rfl, hc, hb⟩
      rw [hn.1, hn.2.1, hn.2.2] at hc
      rw [h3]
      exact ⟨su, pu, au, rfl, hc, hb⟩
    have HDL : Hid (D.length = P.length - 1) := by rw [hD]; exact List.length_eraseIdx_of_lt hlt
    have hdl : ((D.length : Int) == (P.length : Int) - 1) = true := by rw [beq_iff_eq, HDL.out]; omega
    have HQL : Hid (Q.length = P.length) := by rw [hQ]; exact List.length_set ..
    have hqk : k < Q.length := by rw [HQL.out]; exact hlt
    have HQK : Hid (Q.getD k pr0 = ⟨(P.getD k pr0).i, (P.getD k pr0).s, (P.getD k pr0).m, (P.getD k pr0).p, mk7 - 1⟩) := by rw [hQ]; exact set_getD hlt _
    have HDE := hide hD
    clear hD hQ
    have u1 := wrap_i64_in ((P.length : Int) - 1) (by omega) (by omega)
    have u2 := wrap_i64_in ((k : Int) + 1) (by omega) (by omega)
    obtain ⟨b, off, cap', e1, hcap, hb, g0, g1, g2, g3, g4⟩ := pr_at HC.out.2.1 hlt
    simp only [Value.slice.injEq, true_and] at e1
    obtain ⟨rfl, rfl⟩ := e1
    generalize (P.getD k pr0).i = x0 at *
    generalize (P.getD k pr0).s = x1 at *
    generalize (P.getD k pr0).m = x2 at *
    generalize (P.getD k pr0).p = x3 at *
    generalize (P.getD k pr0).c = x4 at *
    have q4 : (k : Int) < (P.length : Int) := by omega
    have hcW := cell_in c0
    have nc : ¬ cb = W1.heap.size := by omega
    rw [hW1] at c0 c1 c2 g0 g1 g2 g3 g4 hcW nc
    rw [hW1] at hb
    go_wp2_with fail
    rw [← hW1] at c0 c1 c2 g0 g1 g2 g3 g4 hcW nc hb
    clear nc
    refine (unhide HPN _).mono ?_
    rintro e w2 ⟨rfl, rfl⟩
    clear HPN
    rw [← hW1, ← hcb]
    clear hW1 hcb hbN
    have nc : ¬ cb = W1.heap.size := by omega
    have nb : ¬ b = W1.heap.size := by omega
    go_wp2_with fail
    obtain ⟨W2, hW2⟩ : ∃ W2, W2 = W1.alloc (.cells #[.int .i64 x0, .int .i64 x1, .int .i64 x2, .int .i64 x3, .int .i64 x4] 32) := ⟨_, rfl⟩
    obtain ⟨pb, hpb⟩ : ∃ pb, pb = W1.heap.size := ⟨_, rfl⟩
    rw [← hW2, ← hpb]
    have kb : Below W1.heap.size W1 W2 := by rw [hW2]; exact (Below.refl _ _).alloc (Nat.le_refl _) _
    have p0 : W2.cell? ⟨pb, 0, none⟩ = some (.int .i64 x0) := by rw [hW2, hpb]; exact new_cell W1 _ rfl _ _ _ _ rfl
    have p1 : W2.cell? ⟨pb, 1, none⟩ = some (.int .i64 x1) := by rw [hW2, hpb]; exact new_cell W1 _ rfl _ _ _ _ rfl
    have p2 : W2.cell? ⟨pb, 2, none⟩ = some (.int .i64 x2) := by rw [hW2, hpb]; exact new_cell W1 _ rfl _ _ _ _ rfl
    have p3 : W2.cell? ⟨pb, 3, none⟩ = some (.int .i64 x3) := by rw [hW2, hpb]; exact new_cell W1 _ rfl _ _ _ _ rfl
    have p4 : W2.cell? ⟨pb, 4, none⟩ = some (.int .i64 x4) := by rw [hW2, hpb]; exact new_cell W1 _ rfl _ _ _ _ rfl
    have zp : W2.frozen? ⟨pb, 4, none⟩ = false := by rw [hW2, hpb]; exact new_frozen W1 _ rfl _ _ _
    have hcp : cb < pb := by rw [hpb]; exact hcW
    have hpe : W1.heap.size ≤ pb := by omega
    have hwp : w.heap.size ≤ pb := by rw [hpb]; exact k0.size
    have H1 := hide HC.out
    replace c0 := cell_beh c0 kb (Nat.le_refl _)
    replace c1 := cell_beh c1 kb (Nat.le_refl _)
    replace c2 := cell_beh c2 kb (Nat.le_refl _)
    replace HC := hide (HC.out.below kb (Nat.le_refl _))
    replace k0 := k0.trans (kb.mono k0.size)
    clear hW2 hpb g0 g1 g2 g3 g4 hb nc nb hcW
    refine (unhide HDR _ _ _ _ HC.out).mono ?_
    rintro e w3 ⟨su, pu, au, rfl, hc3, hb3, hi3⟩
    have HH1 := hide (hi3.mono (show pb + 1 ≤ W2.heap.size from cell_in p0))
    replace zp := (hb3.frozen (p := ⟨pb, 4, none⟩) (cell_in p4)).trans zp
    replace c0 := cell_beh c0 hb3 (Nat.le_refl _)
    replace c1 := cell_beh c1 hb3 (Nat.le_refl _)
    replace c2 := cell_beh c2 hb3 (Nat.le_refl _)
    replace p0 := cell_beh p0 hb3 (Nat.le_refl _)
    replace p1 := cell_beh p1 hb3 (Nat.le_refl _)
    replace p2 := cell_beh p2 hb3 (Nat.le_refl _)
    replace p3 := cell_beh p3 hb3 (Nat.le_refl _)
    replace p4 := cell_beh p4 hb3 (Nat.le_refl _)
    replace HC := hide (HC.out.below hb3 (Nat.le_refl _))
    replace k0 := k0.trans (hb3.mono k0.size)
    replace kb := kb.trans (hb3.mono kb.size)
    have HD1 := hide hc3
    clear hc3 hb3 hi3 HDR
    obtain ⟨f1, f2, rfl⟩ := HD1.out.1.slice
    obtain ⟨f3, f4, rfl⟩ := HD1.out.2.1.slice
    obtain ⟨f5, f6, rfl⟩ := HD1.out.2.2.slice
    have l3 := cell_in c0
    have l4 := cell_in p0
    have n3 : ¬ cb = w3.heap.size := by omega
    have n4 : ¬ pb = w3.heap.size := by omega
    go_wp2_with fail
    obtain ⟨W3, hW3⟩ : ∃ W3, W3 = w3.alloc (.cells #[.slice f1 S.length f2, .slice f3 D.length f4, .slice f5 A.length f6] 28) := ⟨_, rfl⟩
    obtain ⟨fb, hfb⟩ : ∃ fb, fb = w3.heap.size := ⟨_, rfl⟩
    rw [← hW3, ← hfb]
    have b3 : Below w3.heap.size w3 W3 := by rw [hW3]; exact (Below.refl _ _).alloc (Nat.le_refl _) _
    have fx0 : W3.cell? ⟨fb, 0, none⟩ = some (.slice f1 S.length f2) := by rw [hW3, hfb]; exact new_cell w3 _ rfl _ _ _ _ rfl
    have fx1 : W3.cell? ⟨fb, 1, none⟩ = some (.slice f3 D.length f4) := by rw [hW3, hfb]; exact new_cell w3 _ rfl _ _ _ _ rfl
    have fx2 : W3.cell? ⟨fb, 2, none⟩ = some (.slice f5 A.length f6) := by rw [hW3, hfb]; exact new_cell w3 _ rfl _ _ _ _ rfl
    replace zp := (b3.frozen (p := ⟨pb, 4, none⟩) (cell_in p4)).trans zp
    replace c0 := cell_beh c0 b3 (Nat.le_refl _)
    replace c1 := cell_beh c1 b3 (Nat.le_refl _)
    replace c2 := cell_beh c2 b3 (Nat.le_refl _)
    replace p0 := cell_beh p0 b3 (Nat.le_refl _)
    replace p1 := cell_beh p1 b3 (Nat.le_refl _)
    replace p2 := cell_beh p2 b3 (Nat.le_refl _)
    replace p3 := cell_beh p3 b3 (Nat.le_refl _)
    replace p4 := cell_beh p4 b3 (Nat.le_refl _)
    replace HC := hide (HC.out.below b3 (Nat.le_refl _))
    replace HD1 := hide (HD1.out.below b3 (Nat.le_refl _))
    replace k0 := k0.trans (b3.mono k0.size)
    replace kb := kb.trans (b3.mono kb.size)
    have hpf : pb < fb := by omega
    clear hW3 hfb b3 l3 l4 n3 n4
    refine wp_region_held_drew (S := (fun w' => w'.cell? ⟨cb, 0, none⟩ = some (.slice m1 S.length m2) ∧ w'.cell? ⟨cb, 1, none⟩ = some (.slice (some ⟨b, off, none⟩) P.length m4) ∧ w'.cell? ⟨cb, 2, none⟩ = some (.slice m5 A.length m6) ∧ w'.cell? ⟨pb, 0, none⟩ = some (.int .i64 x0))) (by kernel_rfl) ⟨c0, c1, c2, p0⟩ (fun hHeld => ?_)
    have HDW : Below W3.heap.size W3 W3.drew := (Below.refl _ _).drew
    replace zp := (HDW.frozen (p := ⟨pb, 4, none⟩) (cell_in p4)).trans zp
    replace p0 := cell_beh p0 HDW (Nat.le_refl _)
    replace p1 := cell_beh p1 HDW (Nat.le_refl _)
    replace p2 := cell_beh p2 HDW (Nat.le_refl _)
    replace p3 := cell_beh p3 HDW (Nat.le_refl _)
    replace p4 := cell_beh p4 HDW (Nat.le_refl _)
    replace c0 := cell_beh c0 HDW (Nat.le_refl _)
    replace c1 := cell_beh c1 HDW (Nat.le_refl _)
    replace c2 := cell_beh c2 HDW (Nat.le_refl _)
    replace fx0 := cell_beh fx0 HDW (Nat.le_refl _)
    replace fx1 := cell_beh fx1 HDW (Nat.le_refl _)
    replace fx2 := cell_beh fx2 HDW (Nat.le_refl _)
    replace HC := hide (HC.out.below HDW (Nat.le_refl _))
    replace HD1 := hide (HD1.out.below HDW (Nat.le_refl _))
    replace k0 := k0.trans (HDW.mono k0.size)
    replace kb := kb.trans (HDW.mono kb.size)
    clear HDW
    generalize W3.drew = V0 at *
    refine wpAnyH_take (i := 0) (oi := ⟨some 43, _, _, _, _, _⟩) (v := ?v1) rfl (by kernel_rfl) (by kernel_rfl) (by kernel_rfl) (fun _ _ _ h => h) (Or.inl ⟨by rfl, ?h1⟩) (by assumption) ?r1
    case h1 => (intro w hSw; (try dsimp only at hSw); go_simp <;> with_reducible rfl)
    (try simp only [Act.put, List.setIfInBounds_toArray, List.set_cons_zero, List.set_cons_succ])
    refine wpAnyH_take (i := 1) (oi := ⟨some 44, _, _, _, _, _⟩) (v := ?v2) rfl (by kernel_rfl) (by kernel_rfl) (by kernel_rfl) (fun _ _ _ h => h) (Or.inl ⟨by rfl, ?h2⟩) (by assumption) ?r2
    case h2 => (intro w hSw; (try dsimp only at hSw); go_simp <;> with_reducible rfl)
    (try simp only [Act.put, List.setIfInBounds_toArray, List.set_cons_zero, List.set_cons_succ])
    refine wpAnyH_take (i := 2) (oi := ⟨some 45, _, _, _, _, _⟩) (v := ?v3) rfl (by kernel_rfl) (by kernel_rfl) (by kernel_rfl) (fun _ _ _ h => h) (Or.inl ⟨by rfl, ?h3⟩) (by assumption) ?r3
    case h3 => (intro w hSw; (try dsimp only at hSw); go_simp <;> with_reducible rfl)
    (try simp only [Act.put, List.setIfInBounds_toArray, List.set_cons_zero, List.set_cons_succ])
    refine wpAnyH_take (i := 3) (oi := ⟨some 46, _, _, _, _, _⟩) (v := ?v4) rfl (by kernel_rfl) (by kernel_rfl) (by kernel_rfl) (fun _ _ _ h => h) (Or.inl ⟨by rfl, ?h4⟩) (by assumption) ?r4
    case h4 => (intro w hSw; (try dsimp only at hSw); go_simp <;> with_reducible rfl)
    (try simp only [Act.put, List.setIfInBounds_toArray, List.set_cons_zero, List.set_cons_succ])
    refine wpAnyH_ready (rs := [4, 11]) (by kernel_rfl) (by simp) ?_
    refine (AllReadyH.cons (o := ⟨some 47, _, _, _, _, _⟩) rfl (fun K hK => ?_) (AllReadyH.cons (o := ⟨some 12, _, _, _, _, _⟩) rfl (fun K hK => ?_) AllReadyH.nil))
    · go_simp
      clear hHeld
      refine (unhide HPM _).mono ?_
      rintro e w9 ⟨rfl, rfl⟩
      refine hK.out _ _ ⟨c0, c1, c2, p0⟩ (fun hHeld => ?_)
      clear hK K
      (try simp only [Act.put, List.setIfInBounds_toArray, List.set_cons_zero, List.set_cons_succ])
      refine wpAnyH_take (i := 5) (oi := ⟨some 48, _, _, _, _, _⟩) (v := ?v5) rfl (by kernel_rfl) (by kernel_rfl) (by kernel_rfl) (fun _ _ _ h => h) (Or.inl ⟨by rfl, ?h5⟩) (by assumption) ?r5
      case h5 => (intro w hSw; (try dsimp only at hSw); go_simp <;> with_reducible rfl)
      (try simp only [Act.put, List.setIfInBounds_toArray, List.set_cons_zero, List.set_cons_succ])
      refine wpAnyH_take (i := 6) (oi := ⟨some 49, _, _, _, _, _⟩) (v := ?v6) rfl (by kernel_rfl) (by kernel_rfl) (by kernel_rfl) (fun _ _ _ h => h) (Or.inl ⟨by rfl, ?h6⟩) (by assumption) ?r6
      case h6 => (intro w hSw; (try dsimp only at hSw); go_simp <;> with_reducible rfl)
      (try simp only [Act.put, List.setIfInBounds_toArray, List.set_cons_zero, List.set_cons_succ])
      refine wpAnyH_ready (rs := [7, 11]) (by kernel_rfl) (by simp) ?_
      refine (AllReadyH.cons (o := ⟨some 50, _, _, _, _, _⟩) rfl (fun K hK => ?_) (AllReadyH.cons (o := ⟨some 12, _, _, _, _, _⟩) rfl (fun K hK => ?_) AllReadyH.nil))
      · go_simp
        clear hHeld
        refine (unhide HBI _ _ _ _ HC.out).mono ?_
        rintro e V2 ⟨su, pu, au, rfl, hcN, hbN, hiN⟩
        have HH2 := hide (hiN.mono (show pb + 1 ≤ w9.heap.size from cell_in p0))
        replace zp := (hbN.frozen (p := ⟨pb, 4, none⟩) (cell_in p4)).trans zp
        replace p0 := cell_beh p0 hbN (Nat.le_refl _)
        replace p1 := cell_beh p1 hbN (Nat.le_refl _)
        replace p2 := cell_beh p2 hbN (Nat.le_refl _)
        replace p3 := cell_beh p3 hbN (Nat.le_refl _)
        replace p4 := cell_beh p4 hbN (Nat.le_refl _)
        replace c0 := cell_beh c0 hbN (Nat.le_refl _)
        replace c1 := cell_beh c1 hbN (Nat.le_refl _)
        replace c2 := cell_beh c2 hbN (Nat.le_refl _)
        replace fx0 := cell_beh fx0 hbN (Nat.le_refl _)
        replace fx1 := cell_beh fx1 hbN (Nat.le_refl _)
        replace fx2 := cell_beh fx2 hbN (Nat.le_refl _)
        replace HC := hide (HC.out.below hbN (Nat.le_refl _))
        replace HD1 := hide (HD1.out.below hbN (Nat.le_refl _))
        replace k0 := k0.trans (hbN.mono k0.size)
        replace kb := kb.trans (hbN.mono kb.size)
        have HN := hide hcN
        clear hcN hbN hiN
        obtain ⟨t1, t2, rfl⟩ := HN.out.1.slice
        obtain ⟨t3, t4, rfl⟩ := HN.out.2.1.slice
        obtain ⟨t5, t6, rfl⟩ := HN.out.2.2.slice
        go_wp2_with fail
        refine hK.out _ _ ⟨c0, c1, c2, p0⟩ (fun hHeld => ?_)
        clear hK K
        (try simp only [Act.put, List.setIfInBounds_toArray, List.set_cons_zero, List.set_cons_succ])
        refine wpAnyH_take (i := 8) (oi := ⟨some 42, _, _, _, _, _⟩) (v := ?v7) rfl (by kernel_rfl) (by kernel_rfl) (by kernel_rfl) (fun _ _ _ h => h) (Or.inl ⟨by rfl, ?h7⟩) (by assumption) ?r7
        case h7 => (intro w hSw; (try dsimp only at hSw); go_simp <;> with_reducible rfl)
        (try simp only [Act.put, List.setIfInBounds_toArray, List.set_cons_zero, List.set_cons_succ])
        refine wpAnyH_take (i := 9) (oi := ⟨some 51, _, _, _, _, _⟩) (v := ?v8) rfl (by kernel_rfl) (by kernel_rfl) (by kernel_rfl) (fun _ _ _ h => h) (Or.inl ⟨by rfl, ?h8⟩) (by assumption) ?r8
        case h8 => (intro w hSw; (try dsimp only at hSw); go_simp <;> with_reducible rfl)
        (try simp only [Act.put, List.setIfInBounds_toArray, List.set_cons_zero, List.set_cons_succ])
        refine wpAnyH_take (i := 10) (oi := ⟨some 52, _, _, _, _, _⟩) (v := ?v9) rfl (by kernel_rfl) (by kernel_rfl) (by kernel_rfl) (fun _ _ _ h => h) (Or.inl ⟨by rfl, ?h9⟩) (by assumption) ?r9
        case h9 => (intro w hSw; (try dsimp only at hSw); go_simp <;> with_reducible rfl)
        (try simp only [Act.put, List.setIfInBounds_toArray, List.set_cons_zero, List.set_cons_succ])
        refine wpAnyH_ready (rs := [11]) (by kernel_rfl) (by simp) ?_
        refine (AllReadyH.cons (o := ⟨some 12, _, _, _, _, _⟩) rfl (fun K hK => ?_) AllReadyH.nil)
        go_simp
        clear hHeld
        obtain ⟨V3, hV⟩ : ∃ V3, V3 = V2.alloc (.cells #[.slice none 0 0, .slice none 0 0, .slice none 0 0] 28) := ⟨_, rfl⟩
        obtain ⟨db, hdb⟩ : ∃ db, db = V2.heap.size := ⟨_, rfl⟩
        have hbN : Below V2.heap.size V2 V3 := by rw [hV]; exact (Below.refl _ _).alloc (Nat.le_refl _) _
        have d0 : V3.cell? ⟨db, 0, none⟩ = some (.slice none 0 0) := by rw [hV, hdb]; exact new_cell V2 _ rfl _ _ _ _ rfl
        have d1 : V3.cell? ⟨db, 1, none⟩ = some (.slice none 0 0) := by rw [hV, hdb]; exact new_cell V2 _ rfl _ _ _ _ rfl
        have d2 : V3.cell? ⟨db, 2, none⟩ = some (.slice none 0 0) := by rw [hV, hdb]; exact new_cell V2 _ rfl _ _ _ _ rfl
        have z0 : V3.frozen? ⟨db, 0, none⟩ = false := by rw [hV, hdb]; exact new_frozen V2 _ rfl _ _ _
        have z1 : V3.frozen? ⟨db, 1, none⟩ = false := by rw [hV, hdb]; exact new_frozen V2 _ rfl _ _ _
        have z2 : V3.frozen? ⟨db, 2, none⟩ = false := by rw [hV, hdb]; exact new_frozen V2 _ rfl _ _ _
        have hfd : fb < db := by rw [hdb]; exact cell_in fx0
        have hcd : pb < db := by rw [hdb]; exact cell_in p0
        have hwd : w.heap.size ≤ db := by rw [hdb]; exact k0.size
        replace zp := (hbN.frozen (p := ⟨pb, 4, none⟩) (cell_in p4)).trans zp
        replace p0 := cell_beh p0 hbN (Nat.le_refl _)
        replace p1 := cell_beh p1 hbN (Nat.le_refl _)
        replace p2 := cell_beh p2 hbN (Nat.le_refl _)
        replace p3 := cell_beh p3 hbN (Nat.le_refl _)
        replace p4 := cell_beh p4 hbN (Nat.le_refl _)
        replace c0 := cell_beh c0 hbN (Nat.le_refl _)
        replace c1 := cell_beh c1 hbN (Nat.le_refl _)
        replace c2 := cell_beh c2 hbN (Nat.le_refl _)
        replace fx0 := cell_beh fx0 hbN (Nat.le_refl _)
        replace fx1 := cell_beh fx1 hbN (Nat.le_refl _)
        replace fx2 := cell_beh fx2 hbN (Nat.le_refl _)
        replace HC := hide (HC.out.below hbN (Nat.le_refl _))
        replace HD1 := hide (HD1.out.below hbN (Nat.le_refl _))
        replace HN := hide (HN.out.below hbN (Nat.le_refl _))
        replace k0 := k0.trans (hbN.mono k0.size)
        replace kb := kb.trans (hbN.mono kb.size)
        rw [← hV, ← hdb]
        clear hV hdb hbN
        refine hK.out _ _ ⟨c0, c1, c2, p0⟩ (fun hHeld => ?_)
        clear hK K
        (try simp only [Act.put, List.setIfInBounds_toArray, List.set_cons_zero, List.set_cons_succ])
        refine wpAnyH_ready (rs := [12]) (by kernel_rfl) (by simp) ?_
        refine (AllReadyH.cons (o := ⟨none, _, _, _, _, _⟩) rfl (fun K hK => ?_) AllReadyH.nil)
        have hne1 : ¬ pb = db := by omega
        have hne2 : ¬ db = pb := by omega
        go_simp
        clear hHeld
        obtain ⟨e0, e1, e2⟩ := set3 d0 d1 d2 (.slice t1 S.length t2) (.slice t3 Q.length t4) (.slice t5 A.length t6)
        replace HC := hide (((HC.out.set_box d0 (.slice t1 S.length t2)).set_box ((World.cell?_setCell_other _ _ _ _ (by simp)).trans d1) (.slice t3 Q.length t4)).set_box ((World.cell?_setCell_other _ _ _ _ (by simp)).trans ((World.cell?_setCell_other _ _ _ _ (by simp)).trans d2)) (.slice t5 A.length t6))
        replace HD1 := hide (((HD1.out.set_box d0 (.slice t1 S.length t2)).set_box ((World.cell?_setCell_other _ _ _ _ (by simp)).trans d1) (.slice t3 Q.length t4)).set_box ((World.cell?_setCell_other _ _ _ _ (by simp)).trans ((World.cell?_setCell_other _ _ _ _ (by simp)).trans d2)) (.slice t5 A.length t6))
        replace HN := hide (((HN.out.set_box d0 (.slice t1 S.length t2)).set_box ((World.cell?_setCell_other _ _ _ _ (by simp)).trans d1) (.slice t3 Q.length t4)).set_box ((World.cell?_setCell_other _ _ _ _ (by simp)).trans ((World.cell?_setCell_other _ _ _ _ (by simp)).trans d2)) (.slice t5 A.length t6))
        replace k0 := ((k0.setCell (p := ⟨db, 0, none⟩) (by show _ ≤ db; omega) (.slice t1 S.length t2)).setCell (p := ⟨db, 1, none⟩) (by show _ ≤ db; omega) (.slice t3 Q.length t4)).setCell (p := ⟨db, 2, none⟩) (by show _ ≤ db; omega) (.slice t5 A.length t6)
        replace kb := ((kb.setCell (p := ⟨db, 0, none⟩) (by show _ ≤ db; omega) (.slice t1 S.length t2)).setCell (p := ⟨db, 1, none⟩) (by show _ ≤ db; omega) (.slice t3 Q.length t4)).setCell (p := ⟨db, 2, none⟩) (by show _ ≤ db; omega) (.slice t5 A.length t6)
        replace p0 : (((V3.setCell ⟨db, 0, none⟩ (.slice t1 S.length t2)).setCell ⟨db, 1, none⟩ (.slice t3 Q.length t4)).setCell ⟨db, 2, none⟩ (.slice t5 A.length t6)).cell? ⟨pb, 0, none⟩ = some _ := ((World.cell?_setCell_other _ _ _ _ (by simp <;> omega)).trans ((World.cell?_setCell_other _ _ _ _ (by simp <;> omega)).trans ((World.cell?_setCell_other _ _ _ _ (by simp <;> omega)).trans p0)))
        replace p1 : (((V3.setCell ⟨db, 0, none⟩ (.slice t1 S.length t2)).setCell ⟨db, 1, none⟩ (.slice t3 Q.length t4)).setCell ⟨db, 2, none⟩ (.slice t5 A.length t6)).cell? ⟨pb, 1, none⟩ = some _ := ((World.cell?_setCell_other _ _ _ _ (by simp <;> omega)).trans ((World.cell?_setCell_other _ _ _ _ (by simp <;> omega)).trans ((World.cell?_setCell_other _ _ _ _ (by simp <;> omega)).trans p1)))
        replace p2 : (((V3.setCell ⟨db, 0, none⟩ (.slice t1 S.length t2)).setCell ⟨db, 1, none⟩ (.slice t3 Q.length t4)).setCell ⟨db, 2, none⟩ (.slice t5 A.length t6)).cell? ⟨pb, 2, none⟩ = some _ := ((World.cell?_setCell_other _ _ _ _ (by simp <;> omega)).trans ((World.cell?_setCell_other _ _ _ _ (by simp <;> omega)).trans ((World.cell?_setCell_other _ _ _ _ (by simp <;> omega)).trans p2)))
        replace p3 : (((V3.setCell ⟨db, 0, none⟩ (.slice t1 S.length t2)).setCell ⟨db, 1, none⟩ (.slice t3 Q.length t4)).setCell ⟨db, 2, none⟩ (.slice t5 A.length t6)).cell? ⟨pb, 3, none⟩ = some _ := ((World.cell?_setCell_other _ _ _ _ (by simp <;> omega)).trans ((World.cell?_setCell_other _ _ _ _ (by simp <;> omega)).trans ((World.cell?_setCell_other _ _ _ _ (by simp <;> omega)).trans p3)))
        replace p4 : (((V3.setCell ⟨db, 0, none⟩ (.slice t1 S.length t2)).setCell ⟨db, 1, none⟩ (.slice t3 Q.length t4)).setCell ⟨db, 2, none⟩ (.slice t5 A.length t6)).cell? ⟨pb, 4, none⟩ = some _ := ((World.cell?_setCell_other _ _ _ _ (by simp <;> omega)).trans ((World.cell?_setCell_other _ _ _ _ (by simp <;> omega)).trans ((World.cell?_setCell_other _ _ _ _ (by simp <;> omega)).trans p4)))
        replace c0 : (((V3.setCell ⟨db, 0, none⟩ (.slice t1 S.length t2)).setCell ⟨db, 1, none⟩ (.slice t3 Q.length t4)).setCell ⟨db, 2, none⟩ (.slice t5 A.length t6)).cell? ⟨cb, 0, none⟩ = some _ := ((World.cell?_setCell_other _ _ _ _ (by simp <;> omega)).trans ((World.cell?_setCell_other _ _ _ _ (by simp <;> omega)).trans ((World.cell?_setCell_other _ _ _ _ (by simp <;> omega)).trans c0)))
        replace c1 : (((V3.setCell ⟨db, 0, none⟩ (.slice t1 S.length t2)).setCell ⟨db, 1, none⟩ (.slice t3 Q.length t4)).setCell ⟨db, 2, none⟩ (.slice t5 A.length t6)).cell? ⟨cb, 1, none⟩ = some _ := ((World.cell?_setCell_other _ _ _ _ (by simp <;> omega)).trans ((World.cell?_setCell_other _ _ _ _ (by simp <;> omega)).trans ((World.cell?_setCell_other _ _ _ _ (by simp <;> omega)).trans c1)))
        replace c2 : (((V3.setCell ⟨db, 0, none⟩ (.slice t1 S.length t2)).setCell ⟨db, 1, none⟩ (.slice t3 Q.length t4)).setCell ⟨db, 2, none⟩ (.slice t5 A.length t6)).cell? ⟨cb, 2, none⟩ = some _ := ((World.cell?_setCell_other _ _ _ _ (by simp <;> omega)).trans ((World.cell?_setCell_other _ _ _ _ (by simp <;> omega)).trans ((World.cell?_setCell_other _ _ _ _ (by simp <;> omega)).trans c2)))
        replace fx0 : (((V3.setCell ⟨db, 0, none⟩ (.slice t1 S.length t2)).setCell ⟨db, 1, none⟩ (.slice t3 Q.length t4)).setCell ⟨db, 2, none⟩ (.slice t5 A.length t6)).cell? ⟨fb, 0, none⟩ = some _ := ((World.cell?_setCell_other _ _ _ _ (by simp <;> omega)).trans ((World.cell?_setCell_other _ _ _ _ (by simp <;> omega)).trans ((World.cell?_setCell_other _ _ _ _ (by simp <;> omega)).trans fx0)))
        replace fx1 : (((V3.setCell ⟨db, 0, none⟩ (.slice t1 S.length t2)).setCell ⟨db, 1, none⟩ (.slice t3 Q.length t4)).setCell ⟨db, 2, none⟩ (.slice t5 A.length t6)).cell? ⟨fb, 1, none⟩ = some _ := ((World.cell?_setCell_other _ _ _ _ (by simp <;> omega)).trans ((World.cell?_setCell_other _ _ _ _ (by simp <;> omega)).trans ((World.cell?_setCell_other _ _ _ _ (by simp <;> omega)).trans fx1)))
        replace fx2 : (((V3.setCell ⟨db, 0, none⟩ (.slice t1 S.length t2)).setCell ⟨db, 1, none⟩ (.slice t3 Q.length t4)).setCell ⟨db, 2, none⟩ (.slice t5 A.length t6)).cell? ⟨fb, 2, none⟩ = some _ := ((World.cell?_setCell_other _ _ _ _ (by simp <;> omega)).trans ((World.cell?_setCell_other _ _ _ _ (by simp <;> omega)).trans ((World.cell?_setCell_other _ _ _ _ (by simp <;> omega)).trans fx2)))
        replace zp : (((V3.setCell ⟨db, 0, none⟩ (.slice t1 S.length t2)).setCell ⟨db, 1, none⟩ (.slice t3 Q.length t4)).setCell ⟨db, 2, none⟩ (.slice t5 A.length t6)).frozen? ⟨pb, 4, none⟩ = false := by rw [World.frozen?_setCell, World.frozen?_setCell, World.frozen?_setCell]; exact zp
        clear d0 d1 d2 z0 z1 z2
        have d0 := e0
        have d1 := e1
        have d2 := e2
        clear e0 e1 e2
        generalize (((V3.setCell ⟨db, 0, none⟩ (.slice t1 S.length t2)).setCell ⟨db, 1, none⟩ (.slice t3 Q.length t4)).setCell ⟨db, 2, none⟩ (.slice t5 A.length t6)) = V at *
        refine hK.out _ _ ⟨c0, c1, c2, p0⟩ (fun hHeld => ?_)
        clear hK K
        (try simp only [Act.put, List.setIfInBounds_toArray, List.set_cons_zero, List.set_cons_succ])
        refine wpAnyH_take (i := 13) (oi := ⟨some 13, _, _, _, _, _⟩) (v := ?v10) rfl (by kernel_rfl) (by kernel_rfl) (by kernel_rfl) (fun _ _ _ h => h) (Or.inl ⟨by rfl, ?h10⟩) (by assumption) ?r10
        case h10 => (intro w hSw; (try dsimp only at hSw); go_simp <;> with_reducible rfl)
        (try simp only [Act.put, List.setIfInBounds_toArray, List.set_cons_zero, List.set_cons_succ])
        refine wpAnyH_done (by kernel_rfl) ?_ _
        clear hHeld
        clear HBI
        go_wp2_with fail
        refine (unhide HGO _ _ _ _ HD1.out).mono ?_
        rintro e w5 ⟨su, pu, au, rfl, hc5, hb5⟩
        replace zp := (hb5.frozen (p := ⟨pb, 4, none⟩) (cell_in p4)).trans zp
        replace c0 := cell_beh c0 hb5 (Nat.le_refl _)
        replace c1 := cell_beh c1 hb5 (Nat.le_refl _)
        replace c2 := cell_beh c2 hb5 (Nat.le_refl _)
        replace p0 := cell_beh p0 hb5 (Nat.le_refl _)
        replace p1 := cell_beh p1 hb5 (Nat.le_refl _)
        replace p2 := cell_beh p2 hb5 (Nat.le_refl _)
        replace p3 := cell_beh p3 hb5 (Nat.le_refl _)
        replace p4 := cell_beh p4 hb5 (Nat.le_refl _)
        replace fx0 := cell_beh fx0 hb5 (Nat.le_refl _)
        replace fx1 := cell_beh fx1 hb5 (Nat.le_refl _)
        replace fx2 := cell_beh fx2 hb5 (Nat.le_refl _)
        replace d0 := cell_beh d0 hb5 (Nat.le_refl _)
        replace d1 := cell_beh d1 hb5 (Nat.le_refl _)
        replace d2 := cell_beh d2 hb5 (Nat.le_refl _)
        replace HC := hide (HC.out.below hb5 (Nat.le_refl _))
        replace HD1 := hide (HD1.out.below hb5 (Nat.le_refl _))
        replace HN := hide (HN.out.below hb5 (Nat.le_refl _))
        replace k0 := k0.trans (hb5.mono k0.size)
        replace kb := kb.trans (hb5.mono kb.size)
        have HU := hide hc5
        clear hc5 hb5 HGO
        obtain ⟨u1, u2, hu1⟩ := HU.out.1.slice
        obtain ⟨u3, u4, hu3⟩ := HU.out.2.1.slice
        obtain ⟨u5, u6, hu5⟩ := HU.out.2.2.slice
        simp only [List.length_nil] at hu1 hu3 hu5
        subst hu1 hu3 hu5
        clear HU
        have l5 := cell_in d0
        have l6 := cell_in fx0
        have l7 := cell_in p0
        have l8 := cell_in c0
        have n0 : ¬ cb = w5.heap.size := by omega
        have n1 : ¬ pb = w5.heap.size := by omega
        have n2 : ¬ fb = w5.heap.size := by omega
        have n3 : ¬ db = w5.heap.size := by omega
        have n4 : ¬ cb = pb := by omega
        have n5 : ¬ fb = pb := by omega
        have n6 : ¬ db = pb := by omega
        go_wp2_with fail
        refine (unhide HPM _).mono ?_
        rintro e w6 ⟨rfl, rfl⟩
        obtain ⟨qb, qo, qc, e1, hqc, hqb, y0, y1, y2, y3, y4⟩ := pr_at HN.out.2.1 hqk
        rw [HQK.out] at y0 y1 y2 y3 y4
        simp only at y0 y1 y2 y3 y4
        simp only [Value.slice.injEq, true_and] at e1
        obtain ⟨rfl, rfl⟩ := e1
        have hqp : pb + 1 ≤ qb := HH2.out.2.1 qb rfl
        have n7 : ¬ qb = pb := by omega
        have n8 : ¬ qb = w5.heap.size := by omega
        have q6 : (k : Int) < (Q.length : Int) := by omega
        go_wp2_with fail
        have heq := qqPr x0 x1 x2 x3 (mk7 - 1)
        have hgd := qgPr
        have b4 : Below pb w5 (w5.setCell ⟨pb, 4, none⟩ (.int .i64 (mk7 - 1))) := (Below.refl _ w5).setCell (p := ⟨pb, 4, none⟩) (Nat.le_refl _) (.int .i64 (mk7 - 1))
        have kb6 : Below pb w5 ((w5.setCell ⟨pb, 4, none⟩ (.int .i64 (mk7 - 1))).alloc (.cells #[.slice u1 0 u2, .slice u3 0 u4, .slice u5 0 u6] 28)) := b4.alloc (Nat.le_trans (Nat.le_of_lt l7) b4.size) (.cells #[.slice u1 0 u2, .slice u3 0 u4, .slice u5 0 u6] 28)
        clear b4
        replace c0 : ((w5.setCell ⟨pb, 4, none⟩ (.int .i64 (mk7 - 1))).alloc (.cells #[.slice u1 0 u2, .slice u3 0 u4, .slice u5 0 u6] 28)).cell? ⟨cb, 0, none⟩ = some _ := old_cell ((World.cell?_setCell_other _ _ _ _ (by simp <;> omega)).trans c0) _
        replace c1 : ((w5.setCell ⟨pb, 4, none⟩ (.int .i64 (mk7 - 1))).alloc (.cells #[.slice u1 0 u2, .slice u3 0 u4, .slice u5 0 u6] 28)).cell? ⟨cb, 1, none⟩ = some _ := old_cell ((World.cell?_setCell_other _ _ _ _ (by simp <;> omega)).trans c1) _
        replace c2 : ((w5.setCell ⟨pb, 4, none⟩ (.int .i64 (mk7 - 1))).alloc (.cells #[.slice u1 0 u2, .slice u3 0 u4, .slice u5 0 u6] 28)).cell? ⟨cb, 2, none⟩ = some _ := old_cell ((World.cell?_setCell_other _ _ _ _ (by simp <;> omega)).trans c2) _
        replace fx0 : ((w5.setCell ⟨pb, 4, none⟩ (.int .i64 (mk7 - 1))).alloc (.cells #[.slice u1 0 u2, .slice u3 0 u4, .slice u5 0 u6] 28)).cell? ⟨fb, 0, none⟩ = some _ := old_cell ((World.cell?_setCell_other _ _ _ _ (by simp <;> omega)).trans fx0) _
        replace fx1 : ((w5.setCell ⟨pb, 4, none⟩ (.int .i64 (mk7 - 1))).alloc (.cells #[.slice u1 0 u2, .slice u3 0 u4, .slice u5 0 u6] 28)).cell? ⟨fb, 1, none⟩ = some _ := old_cell ((World.cell?_setCell_other _ _ _ _ (by simp <;> omega)).trans fx1) _
        replace fx2 : ((w5.setCell ⟨pb, 4, none⟩ (.int .i64 (mk7 - 1))).alloc (.cells #[.slice u1 0 u2, .slice u3 0 u4, .slice u5 0 u6] 28)).cell? ⟨fb, 2, none⟩ = some _ := old_cell ((World.cell?_setCell_other _ _ _ _ (by simp <;> omega)).trans fx2) _
        replace d0 : ((w5.setCell ⟨pb, 4, none⟩ (.int .i64 (mk7 - 1))).alloc (.cells #[.slice u1 0 u2, .slice u3 0 u4, .slice u5 0 u6] 28)).cell? ⟨db, 0, none⟩ = some _ := old_cell ((World.cell?_setCell_other _ _ _ _ (by simp <;> omega)).trans d0) _
        replace d1 : ((w5.setCell ⟨pb, 4, none⟩ (.int .i64 (mk7 - 1))).alloc (.cells #[.slice u1 0 u2, .slice u3 0 u4, .slice u5 0 u6] 28)).cell? ⟨db, 1, none⟩ = some _ := old_cell ((World.cell?_setCell_other _ _ _ _ (by simp <;> omega)).trans d1) _
        replace d2 : ((w5.setCell ⟨pb, 4, none⟩ (.int .i64 (mk7 - 1))).alloc (.cells #[.slice u1 0 u2, .slice u3 0 u4, .slice u5 0 u6] 28)).cell? ⟨db, 2, none⟩ = some _ := old_cell ((World.cell?_setCell_other _ _ _ _ (by simp <;> omega)).trans d2) _
        replace p0 : ((w5.setCell ⟨pb, 4, none⟩ (.int .i64 (mk7 - 1))).alloc (.cells #[.slice u1 0 u2, .slice u3 0 u4, .slice u5 0 u6] 28)).cell? ⟨pb, 0, none⟩ = some _ := old_cell ((World.cell?_setCell_other _ _ _ _ (by simp <;> omega)).trans p0) _
        replace p1 : ((w5.setCell ⟨pb, 4, none⟩ (.int .i64 (mk7 - 1))).alloc (.cells #[.slice u1 0 u2, .slice u3 0 u4, .slice u5 0 u6] 28)).cell? ⟨pb, 1, none⟩ = some _ := old_cell ((World.cell?_setCell_other _ _ _ _ (by simp <;> omega)).trans p1) _
        replace p2 : ((w5.setCell ⟨pb, 4, none⟩ (.int .i64 (mk7 - 1))).alloc (.cells #[.slice u1 0 u2, .slice u3 0 u4, .slice u5 0 u6] 28)).cell? ⟨pb, 2, none⟩ = some _ := old_cell ((World.cell?_setCell_other _ _ _ _ (by simp <;> omega)).trans p2) _
        replace p3 : ((w5.setCell ⟨pb, 4, none⟩ (.int .i64 (mk7 - 1))).alloc (.cells #[.slice u1 0 u2, .slice u3 0 u4, .slice u5 0 u6] 28)).cell? ⟨pb, 3, none⟩ = some _ := old_cell ((World.cell?_setCell_other _ _ _ _ (by simp <;> omega)).trans p3) _
        replace p4 : ((w5.setCell ⟨pb, 4, none⟩ (.int .i64 (mk7 - 1))).alloc (.cells #[.slice u1 0 u2, .slice u3 0 u4, .slice u5 0 u6] 28)).cell? ⟨pb, 4, none⟩ = some (.int .i64 (mk7 - 1)) := old_cell (World.cell?_setCell_same _ _ _ p4) _
        replace y0 : ((w5.setCell ⟨pb, 4, none⟩ (.int .i64 (mk7 - 1))).alloc (.cells #[.slice u1 0 u2, .slice u3 0 u4, .slice u5 0 u6] 28)).cell? ⟨qb, qo + k * 5, none⟩ = some _ := old_cell ((World.cell?_setCell_other _ _ _ _ (by simp <;> omega)).trans y0) _
        replace y1 : ((w5.setCell ⟨pb, 4, none⟩ (.int .i64 (mk7 - 1))).alloc (.cells #[.slice u1 0 u2, .slice u3 0 u4, .slice u5 0 u6] 28)).cell? ⟨qb, qo + k * 5 + 1, none⟩ = some _ := old_cell ((World.cell?_setCell_other _ _ _ _ (by simp <;> omega)).trans y1) _
        replace y2 : ((w5.setCell ⟨pb, 4, none⟩ (.int .i64 (mk7 - 1))).alloc (.cells #[.slice u1 0 u2, .slice u3 0 u4, .slice u5 0 u6] 28)).cell? ⟨qb, qo + k * 5 + 2, none⟩ = some _ := old_cell ((World.cell?_setCell_other _ _ _ _ (by simp <;> omega)).trans y2) _
        replace y3 : ((w5.setCell ⟨pb, 4, none⟩ (.int .i64 (mk7 - 1))).alloc (.cells #[.slice u1 0 u2, .slice u3 0 u4, .slice u5 0 u6] 28)).cell? ⟨qb, qo + k * 5 + 3, none⟩ = some _ := old_cell ((World.cell?_setCell_other _ _ _ _ (by simp <;> omega)).trans y3) _
        replace y4 : ((w5.setCell ⟨pb, 4, none⟩ (.int .i64 (mk7 - 1))).alloc (.cells #[.slice u1 0 u2, .slice u3 0 u4, .slice u5 0 u6] 28)).cell? ⟨qb, qo + k * 5 + 4, none⟩ = some _ := old_cell ((World.cell?_setCell_other _ _ _ _ (by simp <;> omega)).trans y4) _
        have a6 : Below (w5.setCell ⟨pb, 4, none⟩ (.int .i64 (mk7 - 1))).heap.size (w5.setCell ⟨pb, 4, none⟩ (.int .i64 (mk7 - 1))) ((w5.setCell ⟨pb, 4, none⟩ (.int .i64 (mk7 - 1))).alloc (.cells #[.slice u1 0 u2, .slice u3 0 u4, .slice u5 0 u6] 28)) := (Below.refl _ _).alloc (Nat.le_refl _) _
        replace HD1 := hide ((cf_far HD1.out HH1.out (Nat.lt_succ_self _) 4 (.int .i64 (mk7 - 1))).below a6 (Nat.le_refl _))
        replace HN := hide ((cf_far HN.out HH2.out (Nat.lt_succ_self _) 4 (.int .i64 (mk7 - 1))).below a6 (Nat.le_refl _))
        replace kb := kb.trans (kb6.mono hpe)
        replace k0 := k0.trans (kb6.mono hwp)
        replace HC := hide (H1.out.below kb (Nat.le_refl _))
        clear a6 kb6 zp kb H1 HH1 HH2 n0 n1 n2 n3 n4 n5 n6 n7 n8 l5 l6 l7 l8 hqb hqp hpe hwp hcp hpf
        have hS := HPL.out
        generalize ((w5.setCell ⟨pb, 4, none⟩ (.int .i64 (mk7 - 1))).alloc (.cells #[.slice u1 0 u2, .slice u3 0 u4, .slice u5 0 u6] 28)) = V6 at *
        refine wp_region_held_drew (S := (fun w' => w'.cell? ⟨cb, 0, none⟩ = some (.slice m1 S.length m2) ∧ w'.cell? ⟨cb, 1, none⟩ = some (.slice (some ⟨b, off, none⟩) P.length m4) ∧ w'.cell? ⟨cb, 2, none⟩ = some (.slice m5 A.length m6) ∧ w'.cell? ⟨fb, 1, none⟩ = some (.slice f3 D.length f4) ∧ w'.cell? ⟨db, 0, none⟩ = some (.slice t1 S.length t2) ∧ w'.cell? ⟨db, 1, none⟩ = some (.slice (some ⟨qb, qo, none⟩) Q.length t4) ∧ w'.cell? ⟨db, 2, none⟩ = some (.slice t5 A.length t6) ∧ w'.cell? ⟨qb, qo + k * 5, none⟩ = some (.int .i64 x0) ∧ w'.cell? ⟨qb, qo + k * 5 + 1, none⟩ = some (.int .i64 x1) ∧ w'.cell? ⟨qb, qo + k * 5 + 2, none⟩ = some (.int .i64 x2) ∧ w'.cell? ⟨qb, qo + k * 5 + 3, none⟩ = some (.int .i64 x3) ∧ w'.cell? ⟨qb, qo + k * 5 + 4, none⟩ = some (.int .i64 (mk7 - 1)) ∧ w'.cell? ⟨pb, 0, none⟩ = some (.int .i64 x0) ∧ w'.cell? ⟨pb, 1, none⟩ = some (.int .i64 x1) ∧ w'.cell? ⟨pb, 2, none⟩ = some (.int .i64 x2) ∧ w'.cell? ⟨pb, 3, none⟩ = some (.int .i64 x3) ∧ w'.cell? ⟨pb, 4, none⟩ = some (.int .i64 (mk7 - 1)))) (by kernel_rfl) ⟨c0, c1, c2, fx1, d0, d1, d2, y0, y1, y2, y3, y4, p0, p1, p2, p3, p4⟩ (fun hHeld => ?_)
        have HDW : Below V6.heap.size V6 V6.drew := (Below.refl _ _).drew
        replace c0 := cell_beh c0 HDW (Nat.le_refl _)
        replace c1 := cell_beh c1 HDW (Nat.le_refl _)
        replace c2 := cell_beh c2 HDW (Nat.le_refl _)
        replace fx1 := cell_beh fx1 HDW (Nat.le_refl _)
        replace d0 := cell_beh d0 HDW (Nat.le_refl _)
        replace d1 := cell_beh d1 HDW (Nat.le_refl _)
        replace d2 := cell_beh d2 HDW (Nat.le_refl _)
        replace y0 := cell_beh y0 HDW (Nat.le_refl _)
        replace y1 := cell_beh y1 HDW (Nat.le_refl _)
        replace y2 := cell_beh y2 HDW (Nat.le_refl _)
        replace y3 := cell_beh y3 HDW (Nat.le_refl _)
        replace y4 := cell_beh y4 HDW (Nat.le_refl _)
        replace p0 := cell_beh p0 HDW (Nat.le_refl _)
        replace p1 := cell_beh p1 HDW (Nat.le_refl _)
        replace p2 := cell_beh p2 HDW (Nat.le_refl _)
        replace p3 := cell_beh p3 HDW (Nat.le_refl _)
        replace p4 := cell_beh p4 HDW (Nat.le_refl _)
        replace HC := hide (HC.out.below HDW (Nat.le_refl _))
        replace HD1 := hide (HD1.out.below HDW (Nat.le_refl _))
        replace HN := hide (HN.out.below HDW (Nat.le_refl _))
        replace k0 := k0.trans (HDW.mono k0.size)
        clear HDW
        generalize V6.drew = V0 at *
        refine wpAnyH_take (i := 0) (oi := ⟨some 65, _, _, _, _, _⟩) (v := ?v11) rfl (by kernel_rfl) (by kernel_rfl) (by kernel_rfl) (fun _ _ _ h => h) (Or.inl ⟨by rfl, ?h11⟩) (by assumption) ?r11
        case h11 => (intro w hSw; (try dsimp only at hSw); go_simp <;> with_reducible rfl)
        (try simp only [Act.put, List.setIfInBounds_toArray, List.set_cons_zero, List.set_cons_succ])
        refine wpAnyH_take (i := 1) (oi := ⟨some 66, _, _, _, _, _⟩) (v := ?v12) rfl (by kernel_rfl) (by kernel_rfl) (by kernel_rfl) (fun _ _ _ h => h) (Or.inl ⟨by rfl, ?h12⟩) (by assumption) ?r12
        case h12 => (intro w hSw; (try dsimp only at hSw); go_simp <;> with_reducible rfl)
        (try simp only [Act.put, List.setIfInBounds_toArray, List.set_cons_zero, List.set_cons_succ])
        refine wpAnyH_take (i := 2) (oi := ⟨some 67, _, _, _, _, _⟩) (v := ?v13) rfl (by kernel_rfl) (by kernel_rfl) (by kernel_rfl) (fun _ _ _ h => h) (Or.inl ⟨by rfl, ?h13⟩) (by assumption) ?r13
        case h13 => (intro w hSw; (try dsimp only at hSw); go_simp <;> with_reducible rfl)
        (try simp only [Act.put, List.setIfInBounds_toArray, List.set_cons_zero, List.set_cons_succ])
        refine wpAnyH_take (i := 3) (oi := ⟨some 68, _, _, _, _, _⟩) (v := ?v14) rfl (by kernel_rfl) (by kernel_rfl) (by kernel_rfl) (fun _ _ _ h => h) (Or.inl ⟨by rfl, ?h14⟩) (by assumption) ?r14
        case h14 => (intro w hSw; (try dsimp only at hSw); go_simp <;> with_reducible rfl)
        (try simp only [Act.put, List.setIfInBounds_toArray, List.set_cons_zero, List.set_cons_succ])
        refine wpAnyH_take (i := 4) (oi := ⟨some 69, _, _, _, _, _⟩) (v := ?v15) rfl (by kernel_rfl) (by kernel_rfl) (by kernel_rfl) (fun _ _ _ h => h) (Or.inl ⟨by rfl, ?h15⟩) (by assumption) ?r15
        case h15 => (intro w hSw; (try dsimp only at hSw); go_simp <;> with_reducible rfl)
        (try simp only [Act.put, List.setIfInBounds_toArray, List.set_cons_zero, List.set_cons_succ])
        refine wpAnyH_take (i := 5) (oi := ⟨some 70, _, _, _, _, _⟩) (v := ?v16) rfl (by kernel_rfl) (by kernel_rfl) (by kernel_rfl) (fun _ _ _ h => h) (Or.inl ⟨by rfl, ?h16⟩) (by assumption) ?r16
        case h16 => (intro w hSw; (try dsimp only at hSw); go_simp <;> with_reducible rfl)
        (try simp only [Act.put, List.setIfInBounds_toArray, List.set_cons_zero, List.set_cons_succ])
        refine wpAnyH_take (i := 6) (oi := ⟨some 71, _, _, _, _, _⟩) (v := ?v17) rfl (by kernel_rfl) (by kernel_rfl) (by kernel_rfl) (fun _ _ _ h => h) (Or.inl ⟨by rfl, ?h17⟩) (by assumption) ?r17
        case h17 => (intro w hSw; (try dsimp only at hSw); go_simp <;> with_reducible rfl)
        (try simp only [Act.put, List.setIfInBounds_toArray, List.set_cons_zero, List.set_cons_succ])
        refine wpAnyH_take (i := 7) (oi := ⟨some 72, _, _, _, _, _⟩) (v := ?v18) rfl (by kernel_rfl) (by kernel_rfl) (by kernel_rfl) (fun _ _ _ h => h) (Or.inl ⟨by rfl, ?h18⟩) (by assumption) ?r18
        case h18 => (intro w hSw; (try dsimp only at hSw); go_simp <;> with_reducible rfl)
        (try simp only [Act.put, List.setIfInBounds_toArray, List.set_cons_zero, List.set_cons_succ])
        refine wpAnyH_take (i := 8) (oi := ⟨some 73, _, _, _, _, _⟩) (v := ?v19) rfl (by kernel_rfl) (by kernel_rfl) (by kernel_rfl) (fun _ _ _ h => h) (Or.inl ⟨by rfl, ?h19⟩) (by assumption) ?r19
        case h19 => (intro w hSw; (try dsimp only at hSw); go_simp <;> with_reducible rfl)
        (try simp only [Act.put, List.setIfInBounds_toArray, List.set_cons_zero, List.set_cons_succ])
        refine wpAnyH_take (i := 9) (oi := ⟨some 74, _, _, _, _, _⟩) (v := ?v20) rfl (by kernel_rfl) (by kernel_rfl) (by kernel_rfl) (fun _ _ _ h => h) (Or.inl ⟨by rfl, ?h20⟩) (by assumption) ?r20
        case h20 => (intro w hSw; (try dsimp only at hSw); go_simp <;> with_reducible rfl)
        (try simp only [Act.put, List.setIfInBounds_toArray, List.set_cons_zero, List.set_cons_succ])
        refine wpAnyH_take (i := 10) (oi := ⟨some 75, _, _, _, _, _⟩) (v := ?v21) rfl (by kernel_rfl) (by kernel_rfl) (by kernel_rfl) (fun _ _ _ h => h) (Or.inl ⟨by rfl, ?h21⟩) (by assumption) ?r21
        case h21 => (intro w hSw; (try dsimp only at hSw); go_simp <;> with_reducible rfl)
        (try simp only [Act.put, List.setIfInBounds_toArray, List.set_cons_zero, List.set_cons_succ])
        refine wpAnyH_take (i := 11) (oi := ⟨some 76, _, _, _, _, _⟩) (v := ?v22) rfl (by kernel_rfl) (by kernel_rfl) (by kernel_rfl) (fun _ _ _ h => h) (Or.inl ⟨by rfl, ?h22⟩) (by assumption) ?r22
        case h22 => (intro w hSw; (try dsimp only at hSw); go_simp <;> with_reducible rfl)
        (try simp only [Act.put, List.setIfInBounds_toArray, List.set_cons_zero, List.set_cons_succ])
        refine wpAnyH_take (i := 12) (oi := ⟨some 77, _, _, _, _, _⟩) (v := ?v23) rfl (by kernel_rfl) (by kernel_rfl) (by kernel_rfl) (fun _ _ _ h => h) (Or.inl ⟨by rfl, ?h23⟩) (by assumption) ?r23
        case h23 => (intro w hSw; (try dsimp only at hSw); go_simp <;> with_reducible rfl)
        (try simp only [Act.put, List.setIfInBounds_toArray, List.set_cons_zero, List.set_cons_succ])
        refine wpAnyH_take (i := 13) (oi := ⟨some 78, _, _, _, _, _⟩) (v := ?v24) rfl (by kernel_rfl) (by kernel_rfl) (by kernel_rfl) (fun _ _ _ h => h) (Or.inl ⟨by rfl, ?h24⟩) (by assumption) ?r24
        case h24 => (intro w hSw; (try dsimp only at hSw); go_simp <;> with_reducible rfl)
        (try simp only [Act.put, List.setIfInBounds_toArray, List.set_cons_zero, List.set_cons_succ])
        refine wpAnyH_take (i := 14) (oi := ⟨some 79, _, _, _, _, _⟩) (v := ?v25) rfl (by kernel_rfl) (by kernel_rfl) (by kernel_rfl) (fun _ _ _ h => h) (Or.inl ⟨by rfl, ?h25⟩) (by assumption) ?r25
        case h25 => (intro w hSw; (try dsimp only at hSw); go_simp <;> with_reducible rfl)
        (try simp only [Act.put, List.setIfInBounds_toArray, List.set_cons_zero, List.set_cons_succ])
        refine wpAnyH_take (i := 15) (oi := ⟨some 80, _, _, _, _, _⟩) (v := ?v26) rfl (by kernel_rfl) (by kernel_rfl) (by kernel_rfl) (fun _ _ _ h => h) (Or.inl ⟨by rfl, ?h26⟩) (by assumption) ?r26
        case h26 => (intro w hSw; (try dsimp only at hSw); go_simp <;> with_reducible rfl)
        (try simp only [Act.put, List.setIfInBounds_toArray, List.set_cons_zero, List.set_cons_succ])
        refine wpAnyH_take (i := 16) (oi := ⟨some 81, _, _, _, _, _⟩) (v := ?v27) rfl (by kernel_rfl) (by kernel_rfl) (by kernel_rfl) (fun _ _ _ h => h) (Or.inl ⟨by rfl, ?h27⟩) (by assumption) ?r27
        case h27 => (intro w hSw; (try dsimp only at hSw); go_simp <;> with_reducible rfl)
        (try simp only [Act.put, List.setIfInBounds_toArray, List.set_cons_zero, List.set_cons_succ])
        refine wpAnyH_take (i := 17) (oi := ⟨some 82, _, _, _, _, _⟩) (v := ?v28) rfl (by kernel_rfl) (by kernel_rfl) (by kernel_rfl) (fun _ _ _ h => h) (Or.inl ⟨by rfl, ?h28⟩) (by assumption) ?r28
        case h28 => (intro w hSw; (try dsimp only at hSw); go_simp <;> with_reducible rfl)
        (try simp only [Act.put, List.setIfInBounds_toArray, List.set_cons_zero, List.set_cons_succ])
        refine wpAnyH_take (i := 18) (oi := ⟨some 83, _, _, _, _, _⟩) (v := ?v29) rfl (by kernel_rfl) (by kernel_rfl) (by kernel_rfl) (fun _ _ _ h => h) (Or.inl ⟨by rfl, ?h29⟩) (by assumption) ?r29
        case h29 => (intro w hSw; (try dsimp only at hSw); go_simp <;> with_reducible rfl)
        (try simp only [Act.put, List.setIfInBounds_toArray, List.set_cons_zero, List.set_cons_succ])
        refine wpAnyH_take (i := 19) (oi := ⟨some 84, _, _, _, _, _⟩) (v := ?v30) rfl (by kernel_rfl) (by kernel_rfl) (by kernel_rfl) (fun _ _ _ h => h) (Or.inl ⟨by rfl, ?h30⟩) (by assumption) ?r30
        case h30 => (intro w hSw; (try dsimp only at hSw); go_simp <;> with_reducible rfl)
        (try simp only [Act.put, List.setIfInBounds_toArray, List.set_cons_zero, List.set_cons_succ])
        refine wpAnyH_take (i := 20) (oi := ⟨some 85, _, _, _, _, _⟩) (v := ?v31) rfl (by kernel_rfl) (by kernel_rfl) (by kernel_rfl) (fun _ _ _ h => h) (Or.inl ⟨by rfl, ?h31⟩) (by assumption) ?r31
        case h31 => (intro w hSw; (try dsimp only at hSw); go_simp <;> with_reducible rfl)
        (try simp only [Act.put, List.setIfInBounds_toArray, List.set_cons_zero, List.set_cons_succ])
        refine wpAnyH_take (i := 21) (oi := ⟨some 86, _, _, _, _, _⟩) (v := ?v32) rfl (by kernel_rfl) (by kernel_rfl) (by kernel_rfl) (fun _ _ _ h => h) (Or.inl ⟨by rfl, ?h32⟩) (by assumption) ?r32
        case h32 => (intro w hSw; (try dsimp only at hSw); go_simp <;> with_reducible rfl)
        (try simp only [Act.put, List.setIfInBounds_toArray, List.set_cons_zero, List.set_cons_succ])
        refine wpAnyH_take (i := 22) (oi := ⟨some 87, _, _, _, _, _⟩) (v := ?v33) rfl (by kernel_rfl) (by kernel_rfl) (by kernel_rfl) (fun _ _ _ h => h) (Or.inl ⟨by rfl, ?h33⟩) (by assumption) ?r33
        case h33 => (intro w hSw; (try dsimp only at hSw); go_simp <;> with_reducible rfl)
        (try simp only [Act.put, List.setIfInBounds_toArray, List.set_cons_zero, List.set_cons_succ])
        refine wpAnyH_take (i := 23) (oi := ⟨some 88, _, _, _, _, _⟩) (v := ?v34) rfl (by kernel_rfl) (by kernel_rfl) (by kernel_rfl) (fun _ _ _ h => h) (Or.inl ⟨by rfl, ?h34⟩) (by assumption) ?r34
        case h34 => (intro w hSw; (try dsimp only at hSw); go_simp <;> with_reducible rfl)
        (try simp only [Act.put, List.setIfInBounds_toArray, List.set_cons_zero, List.set_cons_succ])
        refine wpAnyH_take (i := 24) (oi := ⟨some 89, _, _, _, _, _⟩) (v := ?v35) rfl (by kernel_rfl) (by kernel_rfl) (by kernel_rfl) (fun _ _ _ h => h) (Or.inl ⟨by rfl, ?h35⟩) (by assumption) ?r35
        case h35 => (intro w hSw; (try dsimp only at hSw); go_simp <;> with_reducible rfl)
        (try simp only [Act.put, List.setIfInBounds_toArray, List.set_cons_zero, List.set_cons_succ])
        refine wpAnyH_take (i := 25) (oi := ⟨some 90, _, _, _, _, _⟩) (v := ?v36) rfl (by kernel_rfl) (by kernel_rfl) (by kernel_rfl) (fun _ _ _ h => h) (Or.inl ⟨by rfl, ?h36⟩) (by assumption) ?r36
        case h36 => (intro w hSw; (try dsimp only at hSw); go_simp <;> with_reducible rfl)
        (try simp only [Act.put, List.setIfInBounds_toArray, List.set_cons_zero, List.set_cons_succ])
        refine wpAnyH_take (i := 26) (oi := ⟨some 91, _, _, _, _, _⟩) (v := ?v37) rfl (by kernel_rfl) (by kernel_rfl) (by kernel_rfl) (fun _ _ _ h => h) (Or.inl ⟨by rfl, ?h37⟩) (by assumption) ?r37
        case h37 => (intro w hSw; (try dsimp only at hSw); go_simp <;> with_reducible rfl)
        (try simp only [Act.put, List.setIfInBounds_toArray, List.set_cons_zero, List.set_cons_succ])
        refine wpAnyH_take (i := 27) (oi := ⟨some 92, _, _, _, _, _⟩) (v := ?v38) rfl (by kernel_rfl) (by kernel_rfl) (by kernel_rfl) (fun _ _ _ h => h) (Or.inl ⟨by rfl, ?h38⟩) (by assumption) ?r38
        case h38 => (intro w hSw; (try dsimp only at hSw); go_simp <;> with_reducible rfl)
        (try simp only [Act.put, List.setIfInBounds_toArray, List.set_cons_zero, List.set_cons_succ])
        refine wpAnyH_take (i := 28) (oi := ⟨some 93, _, _, _, _, _⟩) (v := ?v39) rfl (by kernel_rfl) (by kernel_rfl) (by kernel_rfl) (fun _ _ _ h => h) (Or.inl ⟨by rfl, ?h39⟩) (by assumption) ?r39
        case h39 => (intro w hSw; (try dsimp only at hSw); go_simp <;> with_reducible rfl)
        (try simp only [Act.put, List.setIfInBounds_toArray, List.set_cons_zero, List.set_cons_succ])
        refine wpAnyH_take (i := 29) (oi := ⟨some 94, _, _, _, _, _⟩) (v := ?v40) rfl (by kernel_rfl) (by kernel_rfl) (by kernel_rfl) (fun _ _ _ h => h) (Or.inl ⟨by rfl, ?h40⟩) (by assumption) ?r40
        case h40 => (intro w hSw; (try dsimp only at hSw); go_simp <;> with_reducible rfl)
        (try simp only [Act.put, List.setIfInBounds_toArray, List.set_cons_zero, List.set_cons_succ])
        refine wpAnyH_take (i := 30) (oi := ⟨some 95, _, _, _, _, _⟩) (v := ?v41) rfl (by kernel_rfl) (by kernel_rfl) (by kernel_rfl) (fun _ _ _ h => h) (Or.inl ⟨by rfl, ?h41⟩) (by assumption) ?r41
        case h41 => (intro w hSw; (try dsimp only at hSw); go_simp <;> with_reducible rfl)
        (try simp only [Act.put, List.setIfInBounds_toArray, List.set_cons_zero, List.set_cons_succ])
        refine wpAnyH_take (i := 31) (oi := ⟨some 96, _, _, _, _, _⟩) (v := ?v42) rfl (by kernel_rfl) (by kernel_rfl) (by kernel_rfl) (fun _ _ _ h => h) (Or.inl ⟨by rfl, ?h42⟩) (by assumption) ?r42
        case h42 => (intro w hSw; (try dsimp only at hSw); go_simp <;> with_reducible rfl)
        (try simp only [Act.put, List.setIfInBounds_toArray, List.set_cons_zero, List.set_cons_succ])
        refine wpAnyH_take (i := 32) (oi := ⟨some 97, _, _, _, _, _⟩) (v := ?v43) rfl (by kernel_rfl) (by kernel_rfl) (by kernel_rfl) (fun _ _ _ h => h) (Or.inl ⟨by rfl, ?h43⟩) (by assumption) ?r43
        case h43 => (intro w hSw; (try dsimp only at hSw); go_simp <;> with_reducible rfl)
        (try simp only [Act.put, List.setIfInBounds_toArray, List.set_cons_zero, List.set_cons_succ])
        refine wpAnyH_take (i := 33) (oi := ⟨some 98, _, _, _, _, _⟩) (v := ?v44) rfl (by kernel_rfl) (by kernel_rfl) (by kernel_rfl) (fun _ _ _ h => h) (Or.inl ⟨by rfl, ?h44⟩) (by assumption) ?r44
        case h44 => (intro w hSw; (try dsimp only at hSw); go_simp <;> with_reducible rfl)
        (try simp only [Act.put, List.setIfInBounds_toArray, List.set_cons_zero, List.set_cons_succ])
        refine wpAnyH_ready (rs := [34]) (by kernel_rfl) (by simp) ?_
        refine (AllReadyH.cons (o := ⟨some 99, _, _, _, _, _⟩) rfl (fun K hK => ?_) AllReadyH.nil)
        go_simp
        clear hHeld
        refine (equalSw_any _ _ S _ HN.out.1 HC.out.1 (by omega)).mono ?_
        rintro e U1 ⟨rfl, hbN⟩
        replace c0 := cell_beh c0 hbN (Nat.le_refl _)
        replace c1 := cell_beh c1 hbN (Nat.le_refl _)
        replace c2 := cell_beh c2 hbN (Nat.le_refl _)
        replace fx1 := cell_beh fx1 hbN (Nat.le_refl _)
        replace d0 := cell_beh d0 hbN (Nat.le_refl _)
        replace d1 := cell_beh d1 hbN (Nat.le_refl _)
        replace d2 := cell_beh d2 hbN (Nat.le_refl _)
        replace y0 := cell_beh y0 hbN (Nat.le_refl _)
        replace y1 := cell_beh y1 hbN (Nat.le_refl _)
        replace y2 := cell_beh y2 hbN (Nat.le_refl _)
        replace y3 := cell_beh y3 hbN (Nat.le_refl _)
        replace y4 := cell_beh y4 hbN (Nat.le_refl _)
        replace p0 := cell_beh p0 hbN (Nat.le_refl _)
        replace p1 := cell_beh p1 hbN (Nat.le_refl _)
        replace p2 := cell_beh p2 hbN (Nat.le_refl _)
        replace p3 := cell_beh p3 hbN (Nat.le_refl _)
        replace p4 := cell_beh p4 hbN (Nat.le_refl _)
        replace HC := hide (HC.out.below hbN (Nat.le_refl _))
        replace HD1 := hide (HD1.out.below hbN (Nat.le_refl _))
        replace HN := hide (HN.out.below hbN (Nat.le_refl _))
        replace k0 := k0.trans (hbN.mono k0.size)
        clear hbN
        refine hK.out _ _ ⟨c0, c1, c2, fx1, d0, d1, d2, y0, y1, y2, y3, y4, p0, p1, p2, p3, p4⟩ (fun hHeld => ?_)
        clear hK K
        (try simp only [Act.put, List.setIfInBounds_toArray, List.set_cons_zero, List.set_cons_succ])
        refine wpAnyH_take (i := 35) (oi := ⟨some 100, _, _, _, _, _⟩) (v := ?v45) rfl (by kernel_rfl) (by kernel_rfl) (by kernel_rfl) (fun _ _ _ h => h) (Or.inl ⟨by rfl, ?h45⟩) (by assumption) ?r45
        case h45 => (intro w hSw; (try dsimp only at hSw); go_simp <;> with_reducible rfl)
        (try simp only [Act.put, List.setIfInBounds_toArray, List.set_cons_zero, List.set_cons_succ])
        refine wpAnyH_take (i := 36) (oi := ⟨some 101, _, _, _, _, _⟩) (v := ?v46) rfl (by kernel_rfl) (by kernel_rfl) (by kernel_rfl) (fun _ _ _ h => h) (Or.inl ⟨by rfl, ?h46⟩) (by assumption) ?r46
        case h46 => (intro w hSw; (try dsimp only at hSw); go_simp <;> with_reducible rfl)
        (try simp only [Act.put, List.setIfInBounds_toArray, List.set_cons_zero, List.set_cons_succ])
        refine wpAnyH_take (i := 37) (oi := ⟨some 102, _, _, _, _, _⟩) (v := ?v47) rfl (by kernel_rfl) (by kernel_rfl) (by kernel_rfl) (fun _ _ _ h => h) (Or.inl ⟨by rfl, ?h47⟩) (by assumption) ?r47
        case h47 => (intro w hSw; (try dsimp only at hSw); go_simp <;> with_reducible rfl)
        (try simp only [Act.put, List.setIfInBounds_toArray, List.set_cons_zero, List.set_cons_succ])
        refine wpAnyH_take (i := 38) (oi := ⟨some 103, _, _, _, _, _⟩) (v := ?v48) rfl (by kernel_rfl) (by kernel_rfl) (by kernel_rfl) (fun _ _ _ h => h) (Or.inl ⟨by rfl, ?h48⟩) (by assumption) ?r48
        case h48 => (intro w hSw; (try dsimp only at hSw); go_simp <;> with_reducible rfl)
        (try simp only [Act.put, List.setIfInBounds_toArray, List.set_cons_zero, List.set_cons_succ])
        refine wpAnyH_take (i := 39) (oi := ⟨some 104, _, _, _, _, _⟩) (v := ?v49) rfl (by kernel_rfl) (by kernel_rfl) (by kernel_rfl) (fun _ _ _ h => h) (Or.inl ⟨by rfl, ?h49⟩) (by assumption) ?r49
        case h49 => (intro w hSw; (try dsimp only at hSw); go_simp <;> with_reducible rfl)
        (try simp only [Act.put, List.setIfInBounds_toArray, List.set_cons_zero, List.set_cons_succ])
        refine wpAnyH_take (i := 40) (oi := ⟨some 105, _, _, _, _, _⟩) (v := ?v50) rfl (by kernel_rfl) (by kernel_rfl) (by kernel_rfl) (fun _ _ _ h => h) (Or.inl ⟨by rfl, ?h50⟩) (by assumption) ?r50
        case h50 => (intro w hSw; (try dsimp only at hSw); go_simp <;> with_reducible rfl)
        (try simp only [Act.put, List.setIfInBounds_toArray, List.set_cons_zero, List.set_cons_succ])
        refine wpAnyH_ready (rs := [41]) (by kernel_rfl) (by simp) ?_
        refine (AllReadyH.cons (o := ⟨some 106, _, _, _, _, _⟩) rfl (fun K hK => ?_) AllReadyH.nil)
        go_simp
        clear hHeld
        refine (equalAc_any _ _ A _ HN.out.2.2 HC.out.2.2 (by omega)).mono ?_
        rintro e U2 ⟨rfl, hbN⟩
        replace c0 := cell_beh c0 hbN (Nat.le_refl _)
        replace c1 := cell_beh c1 hbN (Nat.le_refl _)
        replace c2 := cell_beh c2 hbN (Nat.le_refl _)
        replace fx1 := cell_beh fx1 hbN (Nat.le_refl _)
        replace d0 := cell_beh d0 hbN (Nat.le_refl _)
        replace d1 := cell_beh d1 hbN (Nat.le_refl _)
        replace d2 := cell_beh d2 hbN (Nat.le_refl _)
        replace y0 := cell_beh y0 hbN (Nat.le_refl _)
        replace y1 := cell_beh y1 hbN (Nat.le_refl _)
        replace y2 := cell_beh y2 hbN (Nat.le_refl _)
        replace y3 := cell_beh y3 hbN (Nat.le_refl _)
        replace y4 := cell_beh y4 hbN (Nat.le_refl _)
        replace p0 := cell_beh p0 hbN (Nat.le_refl _)
        replace p1 := cell_beh p1 hbN (Nat.le_refl _)
        replace p2 := cell_beh p2 hbN (Nat.le_refl _)
        replace p3 := cell_beh p3 hbN (Nat.le_refl _)
        replace p4 := cell_beh p4 hbN (Nat.le_refl _)
        replace HC := hide (HC.out.below hbN (Nat.le_refl _))
        replace HD1 := hide (HD1.out.below hbN (Nat.le_refl _))
        replace HN := hide (HN.out.below hbN (Nat.le_refl _))
        replace k0 := k0.trans (hbN.mono k0.size)
        clear hbN
        refine hK.out _ _ ⟨c0, c1, c2, fx1, d0, d1, d2, y0, y1, y2, y3, y4, p0, p1, p2, p3, p4⟩ (fun hHeld => ?_)
        clear hK K
        (try simp only [Act.put, List.setIfInBounds_toArray, List.set_cons_zero, List.set_cons_succ])
        refine wpAnyH_take (i := 42) (oi := ⟨some 107, _, _, _, _, _⟩) (v := ?v51) rfl (by kernel_rfl) (by kernel_rfl) (by kernel_rfl) (fun _ _ _ h => h) (Or.inl ⟨by rfl, ?h51⟩) (by assumption) ?r51
        case h51 => (intro w hSw; (try dsimp only at hSw); go_simp <;> with_reducible rfl)
        (try simp only [Act.put, List.setIfInBounds_toArray, List.set_cons_zero, List.set_cons_succ])
        refine wpAnyH_take (i := 43) (oi := ⟨some 108, _, _, _, _, _⟩) (v := ?v52) rfl (by kernel_rfl) (by kernel_rfl) (by kernel_rfl) (fun _ _ _ h => h) (Or.inl ⟨by rfl, ?h52⟩) (by assumption) ?r52
        case h52 => (intro w hSw; (try dsimp only at hSw); go_simp <;> with_reducible rfl)
        (try simp only [Act.put, List.setIfInBounds_toArray, List.set_cons_zero, List.set_cons_succ])
        refine wpAnyH_take (i := 44) (oi := ⟨some 109, _, _, _, _, _⟩) (v := ?v53) rfl (by kernel_rfl) (by kernel_rfl) (by kernel_rfl) (fun _ _ _ h => h) (Or.inl ⟨by rfl, ?h53⟩) (by assumption) ?r53
        case h53 => (intro w hSw; (try dsimp only at hSw); go_simp <;> with_reducible rfl)
        (try simp only [Act.put, List.setIfInBounds_toArray, List.set_cons_zero, List.set_cons_succ])
        refine wpAnyH_take (i := 45) (oi := ⟨some 110, _, _, _, _, _⟩) (v := ?v54) rfl (by kernel_rfl) (by kernel_rfl) (by kernel_rfl) (fun _ _ _ h => h) (Or.inl ⟨by rfl, ?h54⟩) (by assumption) ?r54
        case h54 => (intro w hSw; (try dsimp only at hSw); go_simp <;> with_reducible rfl)
        (try simp only [Act.put, List.setIfInBounds_toArray, List.set_cons_zero, List.set_cons_succ])
        refine wpAnyH_take (i := 47) (oi := ⟨some 112, _, _, _, _, _⟩) (v := ?v55) rfl (by kernel_rfl) (by kernel_rfl) (by kernel_rfl) (fun _ _ _ h => h) (Or.inl ⟨by rfl, ?h55⟩) (by assumption) ?r55
        case h55 => (intro w hSw; (try dsimp only at hSw); go_simp <;> with_reducible rfl)
        (try simp only [Act.put, List.setIfInBounds_toArray, List.set_cons_zero, List.set_cons_succ])
        refine wpAnyH_take (i := 48) (oi := ⟨some 113, _, _, _, _, _⟩) (v := ?v56) rfl (by kernel_rfl) (by kernel_rfl) (by kernel_rfl) (fun _ _ _ h => h) (Or.inl ⟨by rfl, ?h56⟩) (by assumption) ?r56
        case h56 => (intro w hSw; (try dsimp only at hSw); go_simp <;> with_reducible rfl)
        (try simp only [Act.put, List.setIfInBounds_toArray, List.set_cons_zero, List.set_cons_succ])
        refine wpAnyH_take (i := 49) (oi := ⟨some 114, _, _, _, _, _⟩) (v := ?v57) rfl (by kernel_rfl) (by kernel_rfl) (by kernel_rfl) (fun _ _ _ h => h) (Or.inl ⟨by rfl, ?h57⟩) (by assumption) ?r57
        case h57 => (intro w hSw; (try dsimp only at hSw); go_simp <;> with_reducible rfl)
        (try simp only [Act.put, List.setIfInBounds_toArray, List.set_cons_zero, List.set_cons_succ])
        refine wpAnyH_take (i := 51) (oi := ⟨some 116, _, _, _, _, _⟩) (v := ?v58) rfl (by kernel_rfl) (by kernel_rfl) (by kernel_rfl) (fun _ _ _ h => h) (Or.inl ⟨by rfl, ?h58⟩) (by assumption) ?r58
        case h58 => (intro w hSw; (try dsimp only at hSw); go_simp <;> with_reducible rfl)
        (try simp only [Act.put, List.setIfInBounds_toArray, List.set_cons_zero, List.set_cons_succ])
        refine wpAnyH_take (i := 52) (oi := ⟨some 117, _, _, _, _, _⟩) (v := ?v59) rfl (by kernel_rfl) (by kernel_rfl) (by kernel_rfl) (fun _ _ _ h => h) (Or.inl ⟨by rfl, ?h59⟩) (by assumption) ?r59
        case h59 => (intro w hSw; (try dsimp only at hSw); go_simp <;> with_reducible rfl)
        (try simp only [Act.put, List.setIfInBounds_toArray, List.set_cons_zero, List.set_cons_succ])
        refine wpAnyH_ready (rs := [46]) (by kernel_rfl) (by simp) ?_
        refine (AllReadyH.cons (o := ⟨some 111, _, _, _, _, _⟩) rfl (fun K hK => ?_) AllReadyH.nil)
        have kc : Below U2.heap.size U2 U2 := Below.refl _ _
        have sv_c0 := c0
        have sv_c1 := c1
        have sv_c2 := c2
        have sv_fx1 := fx1
        have sv_d0 := d0
        have sv_d1 := d1
        have sv_d2 := d2
        have sv_y0 := y0
        have sv_y1 := y1
        have sv_y2 := y2
        have sv_y3 := y3
        have sv_y4 := y4
        have sv_p0 := p0
        have sv_p1 := p1
        have sv_p2 := p2
        have sv_p3 := p3
        have sv_p4 := p4
        have sv_HC := HC
        have sv_HD1 := HD1
        have sv_HN := HN
        have sv_k0 := k0
        go_simp
        clear hHeld
        refine (clonePr_any _ P _ HC.out.2.1 (by omega) (by omega)).mono ?_
        rintro e U3 ⟨uo, rfl, ho9, hbN⟩
        replace c0 := cell_beh c0 hbN (Nat.le_refl _)
        replace c1 := cell_beh c1 hbN (Nat.le_refl _)
        replace c2 := cell_beh c2 hbN (Nat.le_refl _)
        replace fx1 := cell_beh fx1 hbN (Nat.le_refl _)
        replace d0 := cell_beh d0 hbN (Nat.le_refl _)
        replace d1 := cell_beh d1 hbN (Nat.le_refl _)
        replace d2 := cell_beh d2 hbN (Nat.le_refl _)
        replace y0 := cell_beh y0 hbN (Nat.le_refl _)
        replace y1 := cell_beh y1 hbN (Nat.le_refl _)
        replace y2 := cell_beh y2 hbN (Nat.le_refl _)
        replace y3 := cell_beh y3 hbN (Nat.le_refl _)
        replace y4 := cell_beh y4 hbN (Nat.le_refl _)
        replace p0 := cell_beh p0 hbN (Nat.le_refl _)
        replace p1 := cell_beh p1 hbN (Nat.le_refl _)
        replace p2 := cell_beh p2 hbN (Nat.le_refl _)
        replace p3 := cell_beh p3 hbN (Nat.le_refl _)
        replace p4 := cell_beh p4 hbN (Nat.le_refl _)
        replace HC := hide (HC.out.below hbN (Nat.le_refl _))
        replace HD1 := hide (HD1.out.below hbN (Nat.le_refl _))
        replace HN := hide (HN.out.below hbN (Nat.le_refl _))
        replace k0 := k0.trans (hbN.mono k0.size)
        replace kc := kc.trans (hbN.mono kc.size)
        have hge := own_ge ho9
        have HO9 := hide ho9
        obtain ⟨gg, cg, rfl, _, hgl⟩ := ho9.form (by omega)
        clear ho9 hbN
        refine hK.out _ _ ⟨c0, c1, c2, fx1, d0, d1, d2, y0, y1, y2, y3, y4, p0, p1, p2, p3, p4⟩ (fun hHeld => ?_)
        clear hK K
        (try simp only [Act.put, List.setIfInBounds_toArray, List.set_cons_zero, List.set_cons_succ])
        refine wpAnyH_ready (rs := [50]) (by kernel_rfl) (by simp) ?_
        refine (AllReadyH.cons (o := ⟨some 115, _, _, _, _, _⟩) rfl (fun K hK => ?_) AllReadyH.nil)
        go_simp
        clear hHeld
        refine (deletePr_any P _ gg cg k _ HO9.out hlt (by omega)).mono ?_
        rintro e U4 ⟨rfl, ho10, hg10⟩
        have hbX := kc.grown hg10 kc.size hge
        have HO10 := hide ho10
        clear ho10 hg10 kc HO9
        replace c0 := cell_beh sv_c0 hbX (Nat.le_refl _)
        clear sv_c0
        replace c1 := cell_beh sv_c1 hbX (Nat.le_refl _)
        clear sv_c1
        replace c2 := cell_beh sv_c2 hbX (Nat.le_refl _)
        clear sv_c2
        replace fx1 := cell_beh sv_fx1 hbX (Nat.le_refl _)
        clear sv_fx1
        replace d0 := cell_beh sv_d0 hbX (Nat.le_refl _)
        clear sv_d0
        replace d1 := cell_beh sv_d1 hbX (Nat.le_refl _)
        clear sv_d1
        replace d2 := cell_beh sv_d2 hbX (Nat.le_refl _)
        clear sv_d2
        replace y0 := cell_beh sv_y0 hbX (Nat.le_refl _)
        clear sv_y0
        replace y1 := cell_beh sv_y1 hbX (Nat.le_refl _)
        clear sv_y1
        replace y2 := cell_beh sv_y2 hbX (Nat.le_refl _)
        clear sv_y2
        replace y3 := cell_beh sv_y3 hbX (Nat.le_refl _)
        clear sv_y3
        replace y4 := cell_beh sv_y4 hbX (Nat.le_refl _)
        clear sv_y4
        replace p0 := cell_beh sv_p0 hbX (Nat.le_refl _)
        clear sv_p0
        replace p1 := cell_beh sv_p1 hbX (Nat.le_refl _)
        clear sv_p1
        replace p2 := cell_beh sv_p2 hbX (Nat.le_refl _)
        clear sv_p2
        replace p3 := cell_beh sv_p3 hbX (Nat.le_refl _)
        clear sv_p3
        replace p4 := cell_beh sv_p4 hbX (Nat.le_refl _)
        clear sv_p4
        replace HC := hide (sv_HC.out.below hbX (Nat.le_refl _))
        clear sv_HC
        replace HD1 := hide (sv_HD1.out.below hbX (Nat.le_refl _))
        clear sv_HD1
        replace HN := hide (sv_HN.out.below hbX (Nat.le_refl _))
        clear sv_HN
        replace k0 := sv_k0.trans (hbX.mono sv_k0.size)
        clear sv_k0 hbX
        refine hK.out _ _ ⟨c0, c1, c2, fx1, d0, d1, d2, y0, y1, y2, y3, y4, p0, p1, p2, p3, p4⟩ (fun hHeld => ?_)
        clear hK K
        (try simp only [Act.put, List.setIfInBounds_toArray, List.set_cons_zero, List.set_cons_succ])
        refine wpAnyH_ready (rs := [53]) (by kernel_rfl) (by simp) ?_
        refine (AllReadyH.cons (o := ⟨some 118, _, _, _, _, _⟩) rfl (fun K hK => ?_) AllReadyH.nil)
        go_simp
        clear hHeld
        refine (equalPr_any _ _ D _ (RowAt.of_own prC_len (by omega) (l := D) (by rw [HDL.out, HDE.out]; exact HO10.out)) HD1.out.2.1 (by have := HDL.out; omega)).mono ?_
        rintro e U5 ⟨rfl, hbN⟩
        replace c0 := cell_beh c0 hbN (Nat.le_refl _)
        replace c1 := cell_beh c1 hbN (Nat.le_refl _)
        replace c2 := cell_beh c2 hbN (Nat.le_refl _)
        replace fx1 := cell_beh fx1 hbN (Nat.le_refl _)
        replace d0 := cell_beh d0 hbN (Nat.le_refl _)
        replace d1 := cell_beh d1 hbN (Nat.le_refl _)
        replace d2 := cell_beh d2 hbN (Nat.le_refl _)
        replace y0 := cell_beh y0 hbN (Nat.le_refl _)
        replace y1 := cell_beh y1 hbN (Nat.le_refl _)
        replace y2 := cell_beh y2 hbN (Nat.le_refl _)
        replace y3 := cell_beh y3 hbN (Nat.le_refl _)
        replace y4 := cell_beh y4 hbN (Nat.le_refl _)
        replace p0 := cell_beh p0 hbN (Nat.le_refl _)
        replace p1 := cell_beh p1 hbN (Nat.le_refl _)
        replace p2 := cell_beh p2 hbN (Nat.le_refl _)
        replace p3 := cell_beh p3 hbN (Nat.le_refl _)
        replace p4 := cell_beh p4 hbN (Nat.le_refl _)
        replace HC := hide (HC.out.below hbN (Nat.le_refl _))
        replace HD1 := hide (HD1.out.below hbN (Nat.le_refl _))
        replace HN := hide (HN.out.below hbN (Nat.le_refl _))
        replace k0 := k0.trans (hbN.mono k0.size)
        clear hbN
        refine hK.out _ _ ⟨c0, c1, c2, fx1, d0, d1, d2, y0, y1, y2, y3, y4, p0, p1, p2, p3, p4⟩ (fun hHeld => ?_)
        clear hK K
        (try simp only [Act.put, List.setIfInBounds_toArray, List.set_cons_zero, List.set_cons_succ])
        refine wpAnyH_take (i := 54) (oi := ⟨some 119, _, _, _, _, _⟩) (v := ?v60) rfl (by kernel_rfl) (by kernel_rfl) (by kernel_rfl) (fun _ _ _ h => h) (Or.inl ⟨by rfl, ?h60⟩) (by assumption) ?r60
        case h60 => (intro w hSw; (try dsimp only at hSw); go_simp <;> with_reducible rfl)
        (try simp only [Act.put, List.setIfInBounds_toArray, List.set_cons_zero, List.set_cons_succ])
        refine wpAnyH_take (i := 55) (oi := ⟨some 6, _, _, _, _, _⟩) (v := ?v61) rfl (by kernel_rfl) (by kernel_rfl) (by kernel_rfl) (fun _ _ _ h => h) (Or.inl ⟨by rfl, ?h61⟩) (by assumption) ?r61
        case h61 => (intro w hSw; (try dsimp only at hSw); go_simp <;> with_reducible rfl)
        (try simp only [Act.put, List.setIfInBounds_toArray, List.set_cons_zero, List.set_cons_succ])
        refine wpAnyH_done (by kernel_rfl) ?_ _
        clear hHeld
        go_wp2_with fail
        go_ret
        exact ⟨rfl, k0⟩
      · go_simp
        clear hHeld
        obtain ⟨V2, hV⟩ : ∃ V2, V2 = w9.alloc (.cells #[.slice none 0 0, .slice none 0 0, .slice none 0 0] 28) := ⟨_, rfl⟩
        obtain ⟨db, hdb⟩ : ∃ db, db = w9.heap.size := ⟨_, rfl⟩
        have hbN : Below w9.heap.size w9 V2 := by rw [hV]; exact (Below.refl _ _).alloc (Nat.le_refl _) _
        have d0 : V2.cell? ⟨db, 0, none⟩ = some (.slice none 0 0) := by rw [hV, hdb]; exact new_cell w9 _ rfl _ _ _ _ rfl
        have d1 : V2.cell? ⟨db, 1, none⟩ = some (.slice none 0 0) := by rw [hV, hdb]; exact new_cell w9 _ rfl _ _ _ _ rfl
        have d2 : V2.cell? ⟨db, 2, none⟩ = some (.slice none 0 0) := by rw [hV, hdb]; exact new_cell w9 _ rfl _ _ _ _ rfl
        have z0 : V2.frozen? ⟨db, 0, none⟩ = false := by rw [hV, hdb]; exact new_frozen w9 _ rfl _ _ _
        have z1 : V2.frozen? ⟨db, 1, none⟩ = false := by rw [hV, hdb]; exact new_frozen w9 _ rfl _ _ _
        have z2 : V2.frozen? ⟨db, 2, none⟩ = false := by rw [hV, hdb]; exact new_frozen w9 _ rfl _ _ _
        have hfd : fb < db := by rw [hdb]; exact cell_in fx0
        have hcd : pb < db := by rw [hdb]; exact cell_in p0
        have hwd : w.heap.size ≤ db := by rw [hdb]; exact k0.size
        replace zp := (hbN.frozen (p := ⟨pb, 4, none⟩) (cell_in p4)).trans zp
        replace p0 := cell_beh p0 hbN (Nat.le_refl _)
        replace p1 := cell_beh p1 hbN (Nat.le_refl _)
        replace p2 := cell_beh p2 hbN (Nat.le_refl _)
        replace p3 := cell_beh p3 hbN (Nat.le_refl _)
        replace p4 := cell_beh p4 hbN (Nat.le_refl _)
        replace c0 := cell_beh c0 hbN (Nat.le_refl _)
        replace c1 := cell_beh c1 hbN (Nat.le_refl _)
        replace c2 := cell_beh c2 hbN (Nat.le_refl _)
        replace fx0 := cell_beh fx0 hbN (Nat.le_refl _)
        replace fx1 := cell_beh fx1 hbN (Nat.le_refl _)
        replace fx2 := cell_beh fx2 hbN (Nat.le_refl _)
        replace HC := hide (HC.out.below hbN (Nat.le_refl _))
        replace HD1 := hide (HD1.out.below hbN (Nat.le_refl _))
        replace k0 := k0.trans (hbN.mono k0.size)
        replace kb := kb.trans (hbN.mono kb.size)
        rw [← hV, ← hdb]
        clear hV hdb hbN
        refine hK.out _ _ ⟨c0, c1, c2, p0⟩ (fun hHeld => ?_)
        clear hK K
        (try simp only [Act.put, List.setIfInBounds_toArray, List.set_cons_zero, List.set_cons_succ])
        refine wpAnyH_ready (rs := [7]) (by kernel_rfl) (by simp) ?_
        refine (AllReadyH.cons (o := ⟨some 50, _, _, _, _, _⟩) rfl (fun K hK => ?_) AllReadyH.nil)
        go_simp
        clear hHeld
        refine (unhide HBI _ _ _ _ HC.out).mono ?_
        rintro e V3 ⟨su, pu, au, rfl, hcN, hbN, hiN⟩
        have HH2 := hide (hiN.mono (show pb + 1 ≤ V2.heap.size from cell_in p0))
        replace zp := (hbN.frozen (p := ⟨pb, 4, none⟩) (cell_in p4)).trans zp
        replace z0 := (hbN.frozen (p := ⟨db, 0, none⟩) (cell_in d0)).trans z0
        replace z1 := (hbN.frozen (p := ⟨db, 1, none⟩) (cell_in d1)).trans z1
        replace z2 := (hbN.frozen (p := ⟨db, 2, none⟩) (cell_in d2)).trans z2
        replace p0 := cell_beh p0 hbN (Nat.le_refl _)
        replace p1 := cell_beh p1 hbN (Nat.le_refl _)
        replace p2 := cell_beh p2 hbN (Nat.le_refl _)
        replace p3 := cell_beh p3 hbN (Nat.le_refl _)
        replace p4 := cell_beh p4 hbN (Nat.le_refl _)
        replace c0 := cell_beh c0 hbN (Nat.le_refl _)
        replace c1 := cell_beh c1 hbN (Nat.le_refl _)
        replace c2 := cell_beh c2 hbN (Nat.le_refl _)
        replace fx0 := cell_beh fx0 hbN (Nat.le_refl _)
        replace fx1 := cell_beh fx1 hbN (Nat.le_refl _)
        replace fx2 := cell_beh fx2 hbN (Nat.le_refl _)
        replace d0 := cell_beh d0 hbN (Nat.le_refl _)
        replace d1 := cell_beh d1 hbN (Nat.le_refl _)
        replace d2 := cell_beh d2 hbN (Nat.le_refl _)
        replace HC := hide (HC.out.below hbN (Nat.le_refl _))
        replace HD1 := hide (HD1.out.below hbN (Nat.le_refl _))
        replace k0 := k0.trans (hbN.mono k0.size)
        replace kb := kb.trans (hbN.mono kb.size)
        have HN := hide hcN
        clear hcN hbN hiN
        obtain ⟨t1, t2, rfl⟩ := HN.out.1.slice
        obtain ⟨t3, t4, rfl⟩ := HN.out.2.1.slice
        obtain ⟨t5, t6, rfl⟩ := HN.out.2.2.slice
        go_wp2_with fail
        refine hK.out _ _ ⟨c0, c1, c2, p0⟩ (fun hHeld => ?_)
        clear hK K
        (try simp only [Act.put, List.setIfInBounds_toArray, List.set_cons_zero, List.set_cons_succ])
        refine wpAnyH_take (i := 8) (oi := ⟨some 42, _, _, _, _, _⟩) (v := ?v62) rfl (by kernel_rfl) (by kernel_rfl) (by kernel_rfl) (fun _ _ _ h => h) (Or.inl ⟨by rfl, ?h62⟩) (by assumption) ?r62
        case h62 => (intro w hSw; (try dsimp only at hSw); go_simp <;> with_reducible rfl)
        (try simp only [Act.put, List.setIfInBounds_toArray, List.set_cons_zero, List.set_cons_succ])
        refine wpAnyH_take (i := 9) (oi := ⟨some 51, _, _, _, _, _⟩) (v := ?v63) rfl (by kernel_rfl) (by kernel_rfl) (by kernel_rfl) (fun _ _ _ h => h) (Or.inl ⟨by rfl, ?h63⟩) (by assumption) ?r63
        case h63 => (intro w hSw; (try dsimp only at hSw); go_simp <;> with_reducible rfl)
        (try simp only [Act.put, List.setIfInBounds_toArray, List.set_cons_zero, List.set_cons_succ])
        refine wpAnyH_take (i := 10) (oi := ⟨some 52, _, _, _, _, _⟩) (v := ?v64) rfl (by kernel_rfl) (by kernel_rfl) (by kernel_rfl) (fun _ _ _ h => h) (Or.inl ⟨by rfl, ?h64⟩) (by assumption) ?r64
        case h64 => (intro w hSw; (try dsimp only at hSw); go_simp <;> with_reducible rfl)
        (try simp only [Act.put, List.setIfInBounds_toArray, List.set_cons_zero, List.set_cons_succ])
        refine wpAnyH_ready (rs := [12]) (by kernel_rfl) (by simp) ?_
        refine (AllReadyH.cons (o := ⟨none, _, _, _, _, _⟩) rfl (fun K hK => ?_) AllReadyH.nil)
        have hne1 : ¬ pb = db := by omega
        have hne2 : ¬ db = pb := by omega
        go_simp
        clear hHeld
        obtain ⟨e0, e1, e2⟩ := set3 d0 d1 d2 (.slice t1 S.length t2) (.slice t3 Q.length t4) (.slice t5 A.length t6)
        replace HC := hide (((HC.out.set_box d0 (.slice t1 S.length t2)).set_box ((World.cell?_setCell_other _ _ _ _ (by simp)).trans d1) (.slice t3 Q.length t4)).set_box ((World.cell?_setCell_other _ _ _ _ (by simp)).trans ((World.cell?_setCell_other _ _ _ _ (by simp)).trans d2)) (.slice t5 A.length t6))
        replace HD1 := hide (((HD1.out.set_box d0 (.slice t1 S.length t2)).set_box ((World.cell?_setCell_other _ _ _ _ (by simp)).trans d1) (.slice t3 Q.length t4)).set_box ((World.cell?_setCell_other _ _ _ _ (by simp)).trans ((World.cell?_setCell_other _ _ _ _ (by simp)).trans d2)) (.slice t5 A.length t6))
        replace HN := hide (((HN.out.set_box d0 (.slice t1 S.length t2)).set_box ((World.cell?_setCell_other _ _ _ _ (by simp)).trans d1) (.slice t3 Q.length t4)).set_box ((World.cell?_setCell_other _ _ _ _ (by simp)).trans ((World.cell?_setCell_other _ _ _ _ (by simp)).trans d2)) (.slice t5 A.length t6))
        replace k0 := ((k0.setCell (p := ⟨db, 0, none⟩) (by show _ ≤ db; omega) (.slice t1 S.length t2)).setCell (p := ⟨db, 1, none⟩) (by show _ ≤ db; omega) (.slice t3 Q.length t4)).setCell (p := ⟨db, 2, none⟩) (by show _ ≤ db; omega) (.slice t5 A.length t6)
        replace kb := ((kb.setCell (p := ⟨db, 0, none⟩) (by show _ ≤ db; omega) (.slice t1 S.length t2)).setCell (p := ⟨db, 1, none⟩) (by show _ ≤ db; omega) (.slice t3 Q.length t4)).setCell (p := ⟨db, 2, none⟩) (by show _ ≤ db; omega) (.slice t5 A.length t6)
        replace p0 : (((V3.setCell ⟨db, 0, none⟩ (.slice t1 S.length t2)).setCell ⟨db, 1, none⟩ (.slice t3 Q.length t4)).setCell ⟨db, 2, none⟩ (.slice t5 A.length t6)).cell? ⟨pb, 0, none⟩ = some _ := ((World.cell?_setCell_other _ _ _ _ (by simp <;> omega)).trans ((World.cell?_setCell_other _ _ _ _ (by simp <;> omega)).trans ((World.cell?_setCell_other _ _ _ _ (by simp <;> omega)).trans p0)))
        replace p1 : (((V3.setCell ⟨db, 0, none⟩ (.slice t1 S.length t2)).setCell ⟨db, 1, none⟩ (.slice t3 Q.length t4)).setCell ⟨db, 2, none⟩ (.slice t5 A.length t6)).cell? ⟨pb, 1, none⟩ = some _ := ((World.cell?_setCell_other _ _ _ _ (by simp <;> omega)).trans ((World.cell?_setCell_other _ _ _ _ (by simp <;> omega)).trans ((World.cell?_setCell_other _ _ _ _ (by simp <;> omega)).trans p1)))
        replace p2 : (((V3.setCell ⟨db, 0, none⟩ (.slice t1 S.length t2)).setCell ⟨db, 1, none⟩ (.slice t3 Q.length t4)).setCell ⟨db, 2, none⟩ (.slice t5 A.length t6)).cell? ⟨pb, 2, none⟩ = some _ := ((World.cell?_setCell_other _ _ _ _ (by simp <;> omega)).trans ((World.cell?_setCell_other _ _ _ _ (by simp <;> omega)).trans ((World.cell?_setCell_other _ _ _ _ (by simp <;> omega)).trans p2)))
        replace p3 : (((V3.setCell ⟨db, 0, none⟩ (.slice t1 S.length t2)).setCell ⟨db, 1, none⟩ (.slice t3 Q.length t4)).setCell ⟨db, 2, none⟩ (.slice t5 A.length t6)).cell? ⟨pb, 3, none⟩ = some _ := ((World.cell?_setCell_other _ _ _ _ (by simp <;> omega)).trans ((World.cell?_setCell_other _ _ _ _ (by simp <;> omega)).trans ((World.cell?_setCell_other _ _ _ _ (by simp <;> omega)).trans p3)))
        replace p4 : (((V3.setCell ⟨db, 0, none⟩ (.slice t1 S.length t2)).setCell ⟨db, 1, none⟩ (.slice t3 Q.length t4)).setCell ⟨db, 2, none⟩ (.slice t5 A.length t6)).cell? ⟨pb, 4, none⟩ = some _ := ((World.cell?_setCell_other _ _ _ _ (by simp <;> omega)).trans ((World.cell?_setCell_other _ _ _ _ (by simp <;> omega)).trans ((World.cell?_setCell_other _ _ _ _ (by simp <;> omega)).trans p4)))
        replace c0 : (((V3.setCell ⟨db, 0, none⟩ (.slice t1 S.length t2)).setCell ⟨db, 1, none⟩ (.slice t3 Q.length t4)).setCell ⟨db, 2, none⟩ (.slice t5 A.length t6)).cell? ⟨cb, 0, none⟩ = some _ := ((World.cell?_setCell_other _ _ _ _ (by simp <;> omega)).trans ((World.cell?_setCell_other _ _ _ _ (by simp <;> omega)).trans ((World.cell?_setCell_other _ _ _ _ (by simp <;> omega)).trans c0)))
        replace c1 : (((V3.setCell ⟨db, 0, none⟩ (.slice t1 S.length t2)).setCell ⟨db, 1, none⟩ (.slice t3 Q.length t4)).setCell ⟨db, 2, none⟩ (.slice t5 A.length t6)).cell? ⟨cb, 1, none⟩ = some _ := ((World.cell?_setCell_other _ _ _ _ (by simp <;> omega)).trans ((World.cell?_setCell_other _ _ _ _ (by simp <;> omega)).trans ((World.cell?_setCell_other _ _ _ _ (by simp <;> omega)).trans c1)))
        replace c2 : (((V3.setCell ⟨db, 0, none⟩ (.slice t1 S.length t2)).setCell ⟨db, 1, none⟩ (.slice t3 Q.length t4)).setCell ⟨db, 2, none⟩ (.slice t5 A.length t6)).cell? ⟨cb, 2, none⟩ = some _ := ((World.cell?_setCell_other _ _ _ _ (by simp <;> omega)).trans ((World.cell?_setCell_other _ _ _ _ (by simp <;> omega)).trans ((World.cell?_setCell_other _ _ _ _ (by simp <;> omega)).trans c2)))
        replace fx0 : (((V3.setCell ⟨db, 0, none⟩ (.slice t1 S.length t2)).setCell ⟨db, 1, none⟩ (.slice t3 Q.length t4)).setCell ⟨db, 2, none⟩ (.slice t5 A.length t6)).cell? ⟨fb, 0, none⟩ = some _ := ((World.cell?_setCell_other _ _ _ _ (by simp <;> omega)).trans ((World.cell?_setCell_other _ _ _ _ (by simp <;> omega)).trans ((World.cell?_setCell_other _ _ _ _ (by simp <;> omega)).trans fx0)))
        replace fx1 : (((V3.setCell ⟨db, 0, none⟩ (.slice t1 S.length t2)).setCell ⟨db, 1, none⟩ (.slice t3 Q.length t4)).setCell ⟨db, 2, none⟩ (.slice t5 A.length t6)).cell? ⟨fb, 1, none⟩ = some _ := ((World.cell?_setCell_other _ _ _ _ (by simp <;> omega)).trans ((World.cell?_setCell_other _ _ _ _ (by simp <;> omega)).trans ((World.cell?_setCell_other _ _ _ _ (by simp <;> omega)).trans fx1)))
        replace fx2 : (((V3.setCell ⟨db, 0, none⟩ (.slice t1 S.length t2)).setCell ⟨db, 1, none⟩ (.slice t3 Q.length t4)).setCell ⟨db, 2, none⟩ (.slice t5 A.length t6)).cell? ⟨fb, 2, none⟩ = some _ := ((World.cell?_setCell_other _ _ _ _ (by simp <;> omega)).trans ((World.cell?_setCell_other _ _ _ _ (by simp <;> omega)).trans ((World.cell?_setCell_other _ _ _ _ (by simp <;> omega)).trans fx2)))
        replace zp : (((V3.setCell ⟨db, 0, none⟩ (.slice t1 S.length t2)).setCell ⟨db, 1, none⟩ (.slice t3 Q.length t4)).setCell ⟨db, 2, none⟩ (.slice t5 A.length t6)).frozen? ⟨pb, 4, none⟩ = false := by rw [World.frozen?_setCell, World.frozen?_setCell, World.frozen?_setCell]; exact zp
        clear d0 d1 d2 z0 z1 z2
        have d0 := e0
        have d1 := e1
        have d2 := e2
        clear e0 e1 e2
        generalize (((V3.setCell ⟨db, 0, none⟩ (.slice t1 S.length t2)).setCell ⟨db, 1, none⟩ (.slice t3 Q.length t4)).setCell ⟨db, 2, none⟩ (.slice t5 A.length t6)) = V at *
        refine hK.out _ _ ⟨c0, c1, c2, p0⟩ (fun hHeld => ?_)
        clear hK K
        (try simp only [Act.put, List.setIfInBounds_toArray, List.set_cons_zero, List.set_cons_succ])
        refine wpAnyH_take (i := 13) (oi := ⟨some 13, _, _, _, _, _⟩) (v := ?v65) rfl (by kernel_rfl) (by kernel_rfl) (by kernel_rfl) (fun _ _ _ h => h) (Or.inl ⟨by rfl, ?h65⟩) (by assumption) ?r65
        case h65 => (intro w hSw; (try dsimp only at hSw); go_simp <;> with_reducible rfl)
        (try simp only [Act.put, List.setIfInBounds_toArray, List.set_cons_zero, List.set_cons_succ])
        refine wpAnyH_done (by kernel_rfl) ?_ _
        clear hHeld
        clear HBI
        go_wp2_with fail
        refine (unhide HGO _ _ _ _ HD1.out).mono ?_
        rintro e w5 ⟨su, pu, au, rfl, hc5, hb5⟩
        replace zp := (hb5.frozen (p := ⟨pb, 4, none⟩) (cell_in p4)).trans zp
        replace c0 := cell_beh c0 hb5 (Nat.le_refl _)
        replace c1 := cell_beh c1 hb5 (Nat.le_refl _)
        replace c2 := cell_beh c2 hb5 (Nat.le_refl _)
        replace p0 := cell_beh p0 hb5 (Nat.le_refl _)
        replace p1 := cell_beh p1 hb5 (Nat.le_refl _)
        replace p2 := cell_beh p2 hb5 (Nat.le_refl _)
        replace p3 := cell_beh p3 hb5 (Nat.le_refl _)
        replace p4 := cell_beh p4 hb5 (Nat.le_refl _)
        replace fx0 := cell_beh fx0 hb5 (Nat.le_refl _)
        replace fx1 := cell_beh fx1 hb5 (Nat.le_refl _)
        replace fx2 := cell_beh fx2 hb5 (Nat.le_refl _)
        replace d0 := cell_beh d0 hb5 (Nat.le_refl _)
        replace d1 := cell_beh d1 hb5 (Nat.le_refl _)
        replace d2 := cell_beh d2 hb5 (Nat.le_refl _)
        replace HC := hide (HC.out.below hb5 (Nat.le_refl _))
        replace HD1 := hide (HD1.out.below hb5 (Nat.le_refl _))
        replace HN := hide (HN.out.below hb5 (Nat.le_refl _))
        replace k0 := k0.trans (hb5.mono k0.size)
        replace kb := kb.trans (hb5.mono kb.size)
        have HU := hide hc5
        clear hc5 hb5 HGO
        obtain ⟨u1, u2, hu1⟩ := HU.out.1.slice
        obtain ⟨u3, u4, hu3⟩ := HU.out.2.1.slice
        obtain ⟨u5, u6, hu5⟩ := HU.out.2.2.slice
        simp only [List.length_nil] at hu1 hu3 hu5
        subst hu1 hu3 hu5
        clear HU
        have l5 := cell_in d0
        have l6 := cell_in fx0
        have l7 := cell_in p0
        have l8 := cell_in c0
        have n0 : ¬ cb = w5.heap.size := by omega
        have n1 : ¬ pb = w5.heap.size := by omega
        have n2 : ¬ fb = w5.heap.size := by omega
        have n3 : ¬ db = w5.heap.size := by omega
        have n4 : ¬ cb = pb := by omega
        have n5 : ¬ fb = pb := by omega
        have n6 : ¬ db = pb := by omega
        go_wp2_with fail
        refine (unhide HPM _).mono ?_
        rintro e w6 ⟨rfl, rfl⟩
        obtain ⟨qb, qo, qc, e1, hqc, hqb, y0, y1, y2, y3, y4⟩ := pr_at HN.out.2.1 hqk
        rw [HQK.out] at y0 y1 y2 y3 y4
        simp only at y0 y1 y2 y3 y4
        simp only [Value.slice.injEq, true_and] at e1
        obtain ⟨rfl, rfl⟩ := e1
        have hqp : pb + 1 ≤ qb := HH2.out.2.1 qb rfl
        have n7 : ¬ qb = pb := by omega
        have n8 : ¬ qb = w5.heap.size := by omega
        have q6 : (k : Int) < (Q.length : Int) := by omega
        go_wp2_with fail
        have heq := qqPr x0 x1 x2 x3 (mk7 - 1)
        have hgd := qgPr
        have b4 : Below pb w5 (w5.setCell ⟨pb, 4, none⟩ (.int .i64 (mk7 - 1))) := (Below.refl _ w5).setCell (p := ⟨pb, 4, none⟩) (Nat.le_refl _) (.int .i64 (mk7 - 1))
        have kb6 : Below pb w5 ((w5.setCell ⟨pb, 4, none⟩ (.int .i64 (mk7 - 1))).alloc (.cells #[.slice u1 0 u2, .slice u3 0 u4, .slice u5 0 u6] 28)) := b4.alloc (Nat.le_trans (Nat.le_of_lt l7) b4.size) (.cells #[.slice u1 0 u2, .slice u3 0 u4, .slice u5 0 u6] 28)
        clear b4
        replace c0 : ((w5.setCell ⟨pb, 4, none⟩ (.int .i64 (mk7 - 1))).alloc (.cells #[.slice u1 0 u2, .slice u3 0 u4, .slice u5 0 u6] 28)).cell? ⟨cb, 0, none⟩ = some _ := old_cell ((World.cell?_setCell_other _ _ _ _ (by simp <;> omega)).trans c0) _
        replace c1 : ((w5.setCell ⟨pb, 4, none⟩ (.int .i64 (mk7 - 1))).alloc (.cells #[.slice u1 0 u2, .slice u3 0 u4, .slice u5 0 u6] 28)).cell? ⟨cb, 1, none⟩ = some _ := old_cell ((World.cell?_setCell_other _ _ _ _ (by simp <;> omega)).trans c1) _
        replace c2 : ((w5.setCell ⟨pb, 4, none⟩ (.int .i64 (mk7 - 1))).alloc (.cells #[.slice u1 0 u2, .slice u3 0 u4, .slice u5 0 u6] 28)).cell? ⟨cb, 2, none⟩ = some _ := old_cell ((World.cell?_setCell_other _ _ _ _ (by simp <;> omega)).trans c2) _
        replace fx0 : ((w5.setCell ⟨pb, 4, none⟩ (.int .i64 (mk7 - 1))).alloc (.cells #[.slice u1 0 u2, .slice u3 0 u4, .slice u5 0 u6] 28)).cell? ⟨fb, 0, none⟩ = some _ := old_cell ((World.cell?_setCell_other _ _ _ _ (by simp <;> omega)).trans fx0) _
        replace fx1 : ((w5.setCell ⟨pb, 4, none⟩ (.int .i64 (mk7 - 1))).alloc (.cells #[.slice u1 0 u2, .slice u3 0 u4, .slice u5 0 u6] 28)).cell? ⟨fb, 1, none⟩ = some _ := old_cell ((World.cell?_setCell_other _ _ _ _ (by simp <;> omega)).trans fx1) _
        replace fx2 : ((w5.setCell ⟨pb, 4, none⟩ (.int .i64 (mk7 - 1))).alloc (.cells #[.slice u1 0 u2, .slice u3 0 u4, .slice u5 0 u6] 28)).cell? ⟨fb, 2, none⟩ = some _ := old_cell ((World.cell?_setCell_other _ _ _ _ (by simp <;> omega)).trans fx2) _
        replace d0 : ((w5.setCell ⟨pb, 4, none⟩ (.int .i64 (mk7 - 1))).alloc (.cells #[.slice u1 0 u2, .slice u3 0 u4, .slice u5 0 u6] 28)).cell? ⟨db, 0, none⟩ = some _ := old_cell ((World.cell?_setCell_other _ _ _ _ (by simp <;> omega)).trans d0) _
        replace d1 : ((w5.setCell ⟨pb, 4, none⟩ (.int .i64 (mk7 - 1))).alloc (.cells #[.slice u1 0 u2, .slice u3 0 u4, .slice u5 0 u6] 28)).cell? ⟨db, 1, none⟩ = some _ := old_cell ((World.cell?_setCell_other _ _ _ _ (by simp <;> omega)).trans d1) _
        replace d2 : ((w5.setCell ⟨pb, 4, none⟩ (.int .i64 (mk7 - 1))).alloc (.cells #[.slice u1 0 u2, .slice u3 0 u4, .slice u5 0 u6] 28)).cell? ⟨db, 2, none⟩ = some _ := old_cell ((World.cell?_setCell_other _ _ _ _ (by simp <;> omega)).trans d2) _
        replace p0 : ((w5.setCell ⟨pb, 4, none⟩ (.int .i64 (mk7 - 1))).alloc (.cells #[.slice u1 0 u2, .slice u3 0 u4, .slice u5 0 u6] 28)).cell? ⟨pb, 0, none⟩ = some _ := old_cell ((World.cell?_setCell_other _ _ _ _ (by simp <;> omega)).trans p0) _
        replace p1 : ((w5.setCell ⟨pb, 4, none⟩ (.int .i64 (mk7 - 1))).alloc (.cells #[.slice u1 0 u2, .slice u3 0 u4, .slice u5 0 u6] 28)).cell? ⟨pb, 1, none⟩ = some _ := old_cell ((World.cell?_setCell_other _ _ _ _ (by simp <;> omega)).trans p1) _
        replace p2 : ((w5.setCell ⟨pb, 4, none⟩ (.int .i64 (mk7 - 1))).alloc (.cells #[.slice u1 0 u2, .slice u3 0 u4, .slice u5 0 u6] 28)).cell? ⟨pb, 2, none⟩ = some _ := old_cell ((World.cell?_setCell_other _ _ _ _ (by simp <;> omega)).trans p2) _
        replace p3 : ((w5.setCell ⟨pb, 4, none⟩ (.int .i64 (mk7 - 1))).alloc (.cells #[.slice u1 0 u2, .slice u3 0 u4, .slice u5 0 u6] 28)).cell? ⟨pb, 3, none⟩ = some _ := old_cell ((World.cell?_setCell_other _ _ _ _ (by simp <;> omega)).trans p3) _
        replace p4 : ((w5.setCell ⟨pb, 4, none⟩ (.int .i64 (mk7 - 1))).alloc (.cells #[.slice u1 0 u2, .slice u3 0 u4, .slice u5 0 u6] 28)).cell? ⟨pb, 4, none⟩ = some (.int .i64 (mk7 - 1)) := old_cell (World.cell?_setCell_same _ _ _ p4) _
        replace y0 : ((w5.setCell ⟨pb, 4, none⟩ (.int .i64 (mk7 - 1))).alloc (.cells #[.slice u1 0 u2, .slice u3 0 u4, .slice u5 0 u6] 28)).cell? ⟨qb, qo + k * 5, none⟩ = some _ := old_cell ((World.cell?_setCell_other _ _ _ _ (by simp <;> omega)).trans y0) _
        replace y1 : ((w5.setCell ⟨pb, 4, none⟩ (.int .i64 (mk7 - 1))).alloc (.cells #[.slice u1 0 u2, .slice u3 0 u4, .slice u5 0 u6] 28)).cell? ⟨qb, qo + k * 5 + 1, none⟩ = some _ := old_cell ((World.cell?_setCell_other _ _ _ _ (by simp <;> omega)).trans y1) _
        replace y2 : ((w5.setCell ⟨pb, 4, none⟩ (.int .i64 (mk7 - 1))).alloc (.cells #[.slice u1 0 u2, .slice u3 0 u4, .slice u5 0 u6] 28)).cell? ⟨qb, qo + k * 5 + 2, none⟩ = some _ := old_cell ((World.cell?_setCell_other _ _ _ _ (by simp <;> omega)).trans y2) _
        replace y3 : ((w5.setCell ⟨pb, 4, none⟩ (.int .i64 (mk7 - 1))).alloc (.cells #[.slice u1 0 u2, .slice u3 0 u4, .slice u5 0 u6] 28)).cell? ⟨qb, qo + k * 5 + 3, none⟩ = some _ := old_cell ((World.cell?_setCell_other _ _ _ _ (by simp <;> omega)).trans y3) _
        replace y4 : ((w5.setCell ⟨pb, 4, none⟩ (.int .i64 (mk7 - 1))).alloc (.cells #[.slice u1 0 u2, .slice u3 0 u4, .slice u5 0 u6] 28)).cell? ⟨qb, qo + k * 5 + 4, none⟩ = some _ := old_cell ((World.cell?_setCell_other _ _ _ _ (by simp <;> omega)).trans y4) _
        have a6 : Below (w5.setCell ⟨pb, 4, none⟩ (.int .i64 (mk7 - 1))).heap.size (w5.setCell ⟨pb, 4, none⟩ (.int .i64 (mk7 - 1))) ((w5.setCell ⟨pb, 4, none⟩ (.int .i64 (mk7 - 1))).alloc (.cells #[.slice u1 0 u2, .slice u3 0 u4, .slice u5 0 u6] 28)) := (Below.refl _ _).alloc (Nat.le_refl _) _
        replace HD1 := hide ((cf_far HD1.out HH1.out (Nat.lt_succ_self _) 4 (.int .i64 (mk7 - 1))).below a6 (Nat.le_refl _))
        replace HN := hide ((cf_far HN.out HH2.out (Nat.lt_succ_self _) 4 (.int .i64 (mk7 - 1))).below a6 (Nat.le_refl _))
        replace kb := kb.trans (kb6.mono hpe)
        replace k0 := k0.trans (kb6.mono hwp)
        replace HC := hide (H1.out.below kb (Nat.le_refl _))
        clear a6 kb6 zp kb H1 HH1 HH2 n0 n1 n2 n3 n4 n5 n6 n7 n8 l5 l6 l7 l8 hqb hqp hpe hwp hcp hpf
        have hS := HPL.out
        generalize ((w5.setCell ⟨pb, 4, none⟩ (.int .i64 (mk7 - 1))).alloc (.cells #[.slice u1 0 u2, .slice u3 0 u4, .slice u5 0 u6] 28)) = V6 at *
        refine wp_region_held_drew (S := (fun w' => w'.cell? ⟨cb, 0, none⟩ = some (.slice m1 S.length m2) ∧ w'.cell? ⟨cb, 1, none⟩ = some (.slice (some ⟨b, off, none⟩) P.length m4) ∧ w'.cell? ⟨cb, 2, none⟩ = some (.slice m5 A.length m6) ∧ w'.cell? ⟨fb, 1, none⟩ = some (.slice f3 D.length f4) ∧ w'.cell? ⟨db, 0, none⟩ = some (.slice t1 S.length t2) ∧ w'.cell? ⟨db, 1, none⟩ = some (.slice (some ⟨qb, qo, none⟩) Q.length t4) ∧ w'.cell? ⟨db, 2, none⟩ = some (.slice t5 A.length t6) ∧ w'.cell? ⟨qb, qo + k * 5, none⟩ = some (.int .i64 x0) ∧ w'.cell? ⟨qb, qo + k * 5 + 1, none⟩ = some (.int .i64 x1) ∧ w'.cell? ⟨qb, qo + k * 5 + 2, none⟩ = some (.int .i64 x2) ∧ w'.cell? ⟨qb, qo + k * 5 + 3, none⟩ = some (.int .i64 x3) ∧ w'.cell? ⟨qb, qo + k * 5 + 4, none⟩ = some (.int .i64 (mk7 - 1)) ∧ w'.cell? ⟨pb, 0, none⟩ = some (.int .i64 x0) ∧ w'.cell? ⟨pb, 1, none⟩ = some (.int .i64 x1) ∧ w'.cell? ⟨pb, 2, none⟩ = some (.int .i64 x2) ∧ w'.cell? ⟨pb, 3, none⟩ = some (.int .i64 x3) ∧ w'.cell? ⟨pb, 4, none⟩ = some (.int .i64 (mk7 - 1)))) (by kernel_rfl) ⟨c0, c1, c2, fx1, d0, d1, d2, y0, y1, y2, y3, y4, p0, p1, p2, p3, p4⟩ (fun hHeld => ?_)
        have HDW : Below V6.heap.size V6 V6.drew := (Below.refl _ _).drew
        replace c0 := cell_beh c0 HDW (Nat.le_refl _)
        replace c1 := cell_beh c1 HDW (Nat.le_refl _)
        replace c2 := cell_beh c2 HDW (Nat.le_refl _)
        replace fx1 := cell_beh fx1 HDW (Nat.le_refl _)
        replace d0 := cell_beh d0 HDW (Nat.le_refl _)
        replace d1 := cell_beh d1 HDW (Nat.le_refl _)
        replace d2 := cell_beh d2 HDW (Nat.le_refl _)
        replace y0 := cell_beh y0 HDW (Nat.le_refl _)
        replace y1 := cell_beh y1 HDW (Nat.le_refl _)
        replace y2 := cell_beh y2 HDW (Nat.le_refl _)
        replace y3 := cell_beh y3 HDW (Nat.le_refl _)
        replace y4 := cell_beh y4 HDW (Nat.le_refl _)
        replace p0 := cell_beh p0 HDW (Nat.le_refl _)
        replace p1 := cell_beh p1 HDW (Nat.le_refl _)
        replace p2 := cell_beh p2 HDW (Nat.le_refl _)
        replace p3 := cell_beh p3 HDW (Nat.le_refl _)
        replace p4 := cell_beh p4 HDW (Nat.le_refl _)
        replace HC := hide (HC.out.below HDW (Nat.le_refl _))
        replace HD1 := hide (HD1.out.below HDW (Nat.le_refl _))
        replace HN := hide (HN.out.below HDW (Nat.le_refl _))
        replace k0 := k0.trans (HDW.mono k0.size)
        clear HDW
        generalize V6.drew = V0 at *
        refine wpAnyH_take (i := 0) (oi := ⟨some 65, _, _, _, _, _⟩) (v := ?v66) rfl (by kernel_rfl) (by kernel_rfl) (by kernel_rfl) (fun _ _ _ h => h) (Or.inl ⟨by rfl, ?h66⟩) (by assumption) ?r66
        case h66 => (intro w hSw; (try dsimp only at hSw); go_simp <;> with_reducible rfl)
        (try simp only [Act.put, List.setIfInBounds_toArray, List.set_cons_zero, List.set_cons_succ])
        refine wpAnyH_take (i := 1) (oi := ⟨some 66, _, _, _, _, _⟩) (v := ?v67) rfl (by kernel_rfl) (by kernel_rfl) (by kernel_rfl) (fun _ _ _ h => h) (Or.inl ⟨by rfl, ?h67⟩) (by assumption) ?r67
        case h67 => (intro w hSw; (try dsimp only at hSw); go_simp <;> with_reducible rfl)
        (try simp only [Act.put, List.setIfInBounds_toArray, List.set_cons_zero, List.set_cons_succ])
        refine wpAnyH_take (i := 2) (oi := ⟨some 67, _, _, _, _, _⟩) (v := ?v68) rfl (by kernel_rfl) (by kernel_rfl) (by kernel_rfl) (fun _ _ _ h => h) (Or.inl ⟨by rfl, ?h68⟩) (by assumption) ?r68
        case h68 => (intro w hSw; (try dsimp only at hSw); go_simp <;> with_reducible rfl)
        (try simp only [Act.put, List.setIfInBounds_toArray, List.set_cons_zero, List.set_cons_succ])
        refine wpAnyH_take (i := 3) (oi := ⟨some 68, _, _, _, _, _⟩) (v := ?v69) rfl (by kernel_rfl) (by kernel_rfl) (by kernel_rfl) (fun _ _ _ h => h) (Or.inl ⟨by rfl, ?h69⟩) (by assumption) ?r69
        case h69 => (intro w hSw; (try dsimp only at hSw); go_simp <;> with_reducible rfl)
        (try simp only [Act.put, List.setIfInBounds_toArray, List.set_cons_zero, List.set_cons_succ])
        refine wpAnyH_take (i := 4) (oi := ⟨some 69, _, _, _, _, _⟩) (v := ?v70) rfl (by kernel_rfl) (by kernel_rfl) (by kernel_rfl) (fun _ _ _ h => h) (Or.inl ⟨by rfl, ?h70⟩) (by assumption) ?r70
        case h70 => (intro w hSw; (try dsimp only at hSw); go_simp <;> with_reducible rfl)
        (try simp only [Act.put, List.setIfInBounds_toArray, List.set_cons_zero, List.set_cons_succ])
        refine wpAnyH_take (i := 5) (oi := ⟨some 70, _, _, _, _, _⟩) (v := ?v71) rfl (by kernel_rfl) (by kernel_rfl) (by kernel_rfl) (fun _ _ _ h => h) (Or.inl ⟨by rfl, ?h71⟩) (by assumption) ?r71
        case h71 => (intro w hSw; (try dsimp only at hSw); go_simp <;> with_reducible rfl)
        (try simp only [Act.put, List.setIfInBounds_toArray, List.set_cons_zero, List.set_cons_succ])
        refine wpAnyH_take (i := 6) (oi := ⟨some 71, _, _, _, _, _⟩) (v := ?v72) rfl (by kernel_rfl) (by kernel_rfl) (by kernel_rfl) (fun _ _ _ h => h) (Or.inl ⟨by rfl, ?h72⟩) (by assumption) ?r72
        case h72 => (intro w hSw; (try dsimp only at hSw); go_simp <;> with_reducible rfl)
        (try simp only [Act.put, List.setIfInBounds_toArray, List.set_cons_zero, List.set_cons_succ])
        refine wpAnyH_take (i := 7) (oi := ⟨some 72, _, _, _, _, _⟩) (v := ?v73) rfl (by kernel_rfl) (by kernel_rfl) (by kernel_rfl) (fun _ _ _ h => h) (Or.inl ⟨by rfl, ?h73⟩) (by assumption) ?r73
        case h73 => (intro w hSw; (try dsimp only at hSw); go_simp <;> with_reducible rfl)
        (try simp only [Act.put, List.setIfInBounds_toArray, List.set_cons_zero, List.set_cons_succ])
        refine wpAnyH_take (i := 8) (oi := ⟨some 73, _, _, _, _, _⟩) (v := ?v74) rfl (by kernel_rfl) (by kernel_rfl) (by kernel_rfl) (fun _ _ _ h => h) (Or.inl ⟨by rfl, ?h74⟩) (by assumption) ?r74
        case h74 => (intro w hSw; (try dsimp only at hSw); go_simp <;> with_reducible rfl)
        (try simp only [Act.put, List.setIfInBounds_toArray, List.set_cons_zero, List.set_cons_succ])
        refine wpAnyH_take (i := 9) (oi := ⟨some 74, _, _, _, _, _⟩) (v := ?v75) rfl (by kernel_rfl) (by kernel_rfl) (by kernel_rfl) (fun _ _ _ h => h) (Or.inl ⟨by rfl, ?h75⟩) (by assumption) ?r75
        case h75 => (intro w hSw; (try dsimp only at hSw); go_simp <;> with_reducible rfl)
        (try simp only [Act.put, List.setIfInBounds_toArray, List.set_cons_zero, List.set_cons_succ])
        refine wpAnyH_take (i := 10) (oi := ⟨some 75, _, _, _, _, _⟩) (v := ?v76) rfl (by kernel_rfl) (by kernel_rfl) (by kernel_rfl) (fun _ _ _ h => h) (Or.inl ⟨by rfl, ?h76⟩) (by assumption) ?r76
        case h76 => (intro w hSw; (try dsimp only at hSw); go_simp <;> with_reducible rfl)
        (try simp only [Act.put, List.setIfInBounds_toArray, List.set_cons_zero, List.set_cons_succ])
        refine wpAnyH_take (i := 11) (oi := ⟨some 76, _, _, _, _, _⟩) (v := ?v77) rfl (by kernel_rfl) (by kernel_rfl) (by kernel_rfl) (fun _ _ _ h => h) (Or.inl ⟨by rfl, ?h77⟩) (by assumption) ?r77
        case h77 => (intro w hSw; (try dsimp only at hSw); go_simp <;> with_reducible rfl)
        (try simp only [Act.put, List.setIfInBounds_toArray, List.set_cons_zero, List.set_cons_succ])
        refine wpAnyH_take (i := 12) (oi := ⟨some 77, _, _, _, _, _⟩) (v := ?v78) rfl (by kernel_rfl) (by kernel_rfl) (by kernel_rfl) (fun _ _ _ h => h) (Or.inl ⟨by rfl, ?h78⟩) (by assumption) ?r78
        case h78 => (intro w hSw; (try dsimp only at hSw); go_simp <;> with_reducible rfl)
        (try simp only [Act.put, List.setIfInBounds_toArray, List.set_cons_zero, List.set_cons_succ])
        refine wpAnyH_take (i := 13) (oi := ⟨some 78, _, _, _, _, _⟩) (v := ?v79) rfl (by kernel_rfl) (by kernel_rfl) (by kernel_rfl) (fun _ _ _ h => h) (Or.inl ⟨by rfl, ?h79⟩) (by assumption) ?r79
        case h79 => (intro w hSw; (try dsimp only at hSw); go_simp <;> with_reducible rfl)
        (try simp only [Act.put, List.setIfInBounds_toArray, List.set_cons_zero, List.set_cons_succ])
        refine wpAnyH_take (i := 14) (oi := ⟨some 79, _, _, _, _, _⟩) (v := ?v80) rfl (by kernel_rfl) (by kernel_rfl) (by kernel_rfl) (fun _ _ _ h => h) (Or.inl ⟨by rfl, ?h80⟩) (by assumption) ?r80
        case h80 => (intro w hSw; (try dsimp only at hSw); go_simp <;> with_reducible rfl)
        (try simp only [Act.put, List.setIfInBounds_toArray, List.set_cons_zero, List.set_cons_succ])
        refine wpAnyH_take (i := 15) (oi := ⟨some 80, _, _, _, _, _⟩) (v := ?v81) rfl (by kernel_rfl) (by kernel_rfl) (by kernel_rfl) (fun _ _ _ h => h) (Or.inl ⟨by rfl, ?h81⟩) (by assumption) ?r81
        case h81 => (intro w hSw; (try dsimp only at hSw); go_simp <;> with_reducible rfl)
        (try simp only [Act.put, List.setIfInBounds_toArray, List.set_cons_zero, List.set_cons_succ])
        refine wpAnyH_take (i := 16) (oi := ⟨some 81, _, _, _, _, _⟩) (v := ?v82) rfl (by kernel_rfl) (by kernel_rfl) (by kernel_rfl) (fun _ _ _ h => h) (Or.inl ⟨by rfl, ?h82⟩) (by assumption) ?r82
        case h82 => (intro w hSw; (try dsimp only at hSw); go_simp <;> with_reducible rfl)
        (try simp only [Act.put, List.setIfInBounds_toArray, List.set_cons_zero, List.set_cons_succ])
        refine wpAnyH_take (i := 17) (oi := ⟨some 82, _, _, _, _, _⟩) (v := ?v83) rfl (by kernel_rfl) (by kernel_rfl) (by kernel_rfl) (fun _ _ _ h => h) (Or.inl ⟨by rfl, ?h83⟩) (by assumption) ?r83
        case h83 => (intro w hSw; (try dsimp only at hSw); go_simp <;> with_reducible rfl)
        (try simp only [Act.put, List.setIfInBounds_toArray, List.set_cons_zero, List.set_cons_succ])
        refine wpAnyH_take (i := 18) (oi := ⟨some 83, _, _, _, _, _⟩) (v := ?v84) rfl (by kernel_rfl) (by kernel_rfl) (by kernel_rfl) (fun _ _ _ h => h) (Or.inl ⟨by rfl, ?h84⟩) (by assumption) ?r84
        case h84 => (intro w hSw; (try dsimp only at hSw); go_simp <;> with_reducible rfl)
        (try simp only [Act.put, List.setIfInBounds_toArray, List.set_cons_zero, List.set_cons_succ])
        refine wpAnyH_take (i := 19) (oi := ⟨some 84, _, _, _, _, _⟩) (v := ?v85) rfl (by kernel_rfl) (by kernel_rfl) (by kernel_rfl) (fun _ _ _ h => h) (Or.inl ⟨by rfl, ?h85⟩) (by assumption) ?r85
        case h85 => (intro w hSw; (try dsimp only at hSw); go_simp <;> with_reducible rfl)
        (try simp only [Act.put, List.setIfInBounds_toArray, List.set_cons_zero, List.set_cons_succ])
        refine wpAnyH_take (i := 20) (oi := ⟨some 85, _, _, _, _, _⟩) (v := ?v86) rfl (by kernel_rfl) (by kernel_rfl) (by kernel_rfl) (fun _ _ _ h => h) (Or.inl ⟨by rfl, ?h86⟩) (by assumption) ?r86
        case h86 => (intro w hSw; (try dsimp only at hSw); go_simp <;> with_reducible rfl)
        (try simp only [Act.put, List.setIfInBounds_toArray, List.set_cons_zero, List.set_cons_succ])
        refine wpAnyH_take (i := 21) (oi := ⟨some 86, _, _, _, _, _⟩) (v := ?v87) rfl (by kernel_rfl) (by kernel_rfl) (by kernel_rfl) (fun _ _ _ h => h) (Or.inl ⟨by rfl, ?h87⟩) (by assumption) ?r87
        case h87 => (intro w hSw; (try dsimp only at hSw); go_simp <;> with_reducible rfl)
        (try simp only [Act.put, List.setIfInBounds_toArray, List.set_cons_zero, List.set_cons_succ])
        refine wpAnyH_take (i := 22) (oi := ⟨some 87, _, _, _, _, _⟩) (v := ?v88) rfl (by kernel_rfl) (by kernel_rfl) (by kernel_rfl) (fun _ _ _ h => h) (Or.inl ⟨by rfl, ?h88⟩) (by assumption) ?r88
        case h88 => (intro w hSw; (try dsimp only at hSw); go_simp <;> with_reducible rfl)
        (try simp only [Act.put, List.setIfInBounds_toArray, List.set_cons_zero, List.set_cons_succ])
        refine wpAnyH_take (i := 23) (oi := ⟨some 88, _, _, _, _, _⟩) (v := ?v89) rfl (by kernel_rfl) (by kernel_rfl) (by kernel_rfl) (fun _ _ _ h => h) (Or.inl ⟨by rfl, ?h89⟩) (by assumption) ?r89
        case h89 => (intro w hSw; (try dsimp only at hSw); go_simp <;> with_reducible rfl)
        (try simp only [Act.put, List.setIfInBounds_toArray, List.set_cons_zero, List.set_cons_succ])
        refine wpAnyH_take (i := 24) (oi := ⟨some 89, _, _, _, _, _⟩) (v := ?v90) rfl (by kernel_rfl) (by kernel_rfl) (by kernel_rfl) (fun _ _ _ h => h) (Or.inl ⟨by rfl, ?h90⟩) (by assumption) ?r90
        case h90 => (intro w hSw; (try dsimp only at hSw); go_simp <;> with_reducible rfl)
        (try simp only [Act.put, List.setIfInBounds_toArray, List.set_cons_zero, List.set_cons_succ])
        refine wpAnyH_take (i := 25) (oi := ⟨some 90, _, _, _, _, _⟩) (v := ?v91) rfl (by kernel_rfl) (by kernel_rfl) (by kernel_rfl) (fun _ _ _ h => h) (Or.inl ⟨by rfl, ?h91⟩) (by assumption) ?r91
        case h91 => (intro w hSw; (try dsimp only at hSw); go_simp <;> with_reducible rfl)
        (try simp only [Act.put, List.setIfInBounds_toArray, List.set_cons_zero, List.set_cons_succ])
        refine wpAnyH_take (i := 26) (oi := ⟨some 91, _, _, _, _, _⟩) (v := ?v92) rfl (by kernel_rfl) (by kernel_rfl) (by kernel_rfl) (fun _ _ _ h => h) (Or.inl ⟨by rfl, ?h92⟩) (by assumption) ?r92
        case h92 => (intro w hSw; (try dsimp only at hSw); go_simp <;> with_reducible rfl)
        (try simp only [Act.put, List.setIfInBounds_toArray, List.set_cons_zero, List.set_cons_succ])
        refine wpAnyH_take (i := 27) (oi := ⟨some 92, _, _, _, _, _⟩) (v := ?v93) rfl (by kernel_rfl) (by kernel_rfl) (by kernel_rfl) (fun _ _ _ h => h) (Or.inl ⟨by rfl, ?h93⟩) (by assumption) ?r93
        case h93 => (intro w hSw; (try dsimp only at hSw); go_simp <;> with_reducible rfl)
        (try simp only [Act.put, List.setIfInBounds_toArray, List.set_cons_zero, List.set_cons_succ])
        refine wpAnyH_take (i := 28) (oi := ⟨some 93, _, _, _, _, _⟩) (v := ?v94) rfl (by kernel_rfl) (by kernel_rfl) (by kernel_rfl) (fun _ _ _ h => h) (Or.inl ⟨by rfl, ?h94⟩) (by assumption) ?r94
        case h94 => (intro w hSw; (try dsimp only at hSw); go_simp <;> with_reducible rfl)
        (try simp only [Act.put, List.setIfInBounds_toArray, List.set_cons_zero, List.set_cons_succ])
        refine wpAnyH_take (i := 29) (oi := ⟨some 94, _, _, _, _, _⟩) (v := ?v95) rfl (by kernel_rfl) (by kernel_rfl) (by kernel_rfl) (fun _ _ _ h => h) (Or.inl ⟨by rfl, ?h95⟩) (by assumption) ?r95
        case h95 => (intro w hSw; (try dsimp only at hSw); go_simp <;> with_reducible rfl)
        (try simp only [Act.put, List.setIfInBounds_toArray, List.set_cons_zero, List.set_cons_succ])
        refine wpAnyH_take (i := 30) (oi := ⟨some 95, _, _, _, _, _⟩) (v := ?v96) rfl (by kernel_rfl) (by kernel_rfl) (by kernel_rfl) (fun _ _ _ h => h) (Or.inl ⟨by rfl, ?h96⟩) (by assumption) ?r96
        case h96 => (intro w hSw; (try dsimp only at hSw); go_simp <;> with_reducible rfl)
        (try simp only [Act.put, List.setIfInBounds_toArray, List.set_cons_zero, List.set_cons_succ])
        refine wpAnyH_take (i := 31) (oi := ⟨some 96, _, _, _, _, _⟩) (v := ?v97) rfl (by kernel_rfl) (by kernel_rfl) (by kernel_rfl) (fun _ _ _ h => h) (Or.inl ⟨by rfl, ?h97⟩) (by assumption) ?r97
        case h97 => (intro w hSw; (try dsimp only at hSw); go_simp <;> with_reducible rfl)
        (try simp only [Act.put, List.setIfInBounds_toArray, List.set_cons_zero, List.set_cons_succ])
        refine wpAnyH_take (i := 32) (oi := ⟨some 97, _, _, _, _, _⟩) (v := ?v98) rfl (by kernel_rfl) (by kernel_rfl) (by kernel_rfl) (fun _ _ _ h => h) (Or.inl ⟨by rfl, ?h98⟩) (by assumption) ?r98
        case h98 => (intro w hSw; (try dsimp only at hSw); go_simp <;> with_reducible rfl)
        (try simp only [Act.put, List.setIfInBounds_toArray, List.set_cons_zero, List.set_cons_succ])
        refine wpAnyH_take (i := 33) (oi := ⟨some 98, _, _, _, _, _⟩) (v := ?v99) rfl (by kernel_rfl) (by kernel_rfl) (by kernel_rfl) (fun _ _ _ h => h) (Or.inl ⟨by rfl, ?h99⟩) (by assumption) ?r99
        case h99 => (intro w hSw; (try dsimp only at hSw); go_simp <;> with_reducible rfl)
        (try simp only [Act.put, List.setIfInBounds_toArray, List.set_cons_zero, List.set_cons_succ])
        refine wpAnyH_ready (rs := [34]) (by kernel_rfl) (by simp) ?_
        refine (AllReadyH.cons (o := ⟨some 99, _, _, _, _, _⟩) rfl (fun K hK => ?_) AllReadyH.nil)
        go_simp
        clear hHeld
        refine (equalSw_any _ _ S _ HN.out.1 HC.out.1 (by omega)).mono ?_
        rintro e U1 ⟨rfl, hbN⟩
        replace c0 := cell_beh c0 hbN (Nat.le_refl _)
        replace c1 := cell_beh c1 hbN (Nat.le_refl _)
        replace c2 := cell_beh c2 hbN (Nat.le_refl _)
        replace fx1 := cell_beh fx1 hbN (Nat.le_refl _)
        replace d0 := cell_beh d0 hbN (Nat.le_refl _)
        replace d1 := cell_beh d1 hbN (Nat.le_refl _)
        replace d2 := cell_beh d2 hbN (Nat.le_refl _)
        replace y0 := cell_beh y0 hbN (Nat.le_refl _)
        replace y1 := cell_beh y1 hbN (Nat.le_refl _)
        replace y2 := cell_beh y2 hbN (Nat.le_refl _)
        replace y3 := cell_beh y3 hbN (Nat.le_refl _)
        replace y4 := cell_beh y4 hbN (Nat.le_refl _)
        replace p0 := cell_beh p0 hbN (Nat.le_refl _)
        replace p1 := cell_beh p1 hbN (Nat.le_refl _)
        replace p2 := cell_beh p2 hbN (Nat.le_refl _)
        replace p3 := cell_beh p3 hbN (Nat.le_refl _)
        replace p4 := cell_beh p4 hbN (Nat.le_refl _)
        replace HC := hide (HC.out.below hbN (Nat.le_refl _))
        replace HD1 := hide (HD1.out.below hbN (Nat.le_refl _))
        replace HN := hide (HN.out.below hbN (Nat.le_refl _))
        replace k0 := k0.trans (hbN.mono k0.size)
        clear hbN
        refine hK.out _ _ ⟨c0, c1, c2, fx1, d0, d1, d2, y0, y1, y2, y3, y4, p0, p1, p2, p3, p4⟩ (fun hHeld => ?_)
        clear hK K
        (try simp only [Act.put, List.setIfInBounds_toArray, List.set_cons_zero, List.set_cons_succ])
        refine wpAnyH_take (i := 35) (oi := ⟨some 100, _, _, _, _, _⟩) (v := ?v100) rfl (by kernel_rfl) (by kernel_rfl) (by kernel_rfl) (fun _ _ _ h => h) (Or.inl ⟨by rfl, ?h100⟩) (by assumption) ?r100
        case h100 => (intro w hSw; (try dsimp only at hSw); go_simp <;> with_reducible rfl)
        (try simp only [Act.put, List.setIfInBounds_toArray, List.set_cons_zero, List.set_cons_succ])
        refine wpAnyH_take (i := 36) (oi := ⟨some 101, _, _, _, _, _⟩) (v := ?v101) rfl (by kernel_rfl) (by kernel_rfl) (by kernel_rfl) (fun _ _ _ h => h) (Or.inl ⟨by rfl, ?h101⟩) (by assumption) ?r101
        case h101 => (intro w hSw; (try dsimp only at hSw); go_simp <;> with_reducible rfl)
        (try simp only [Act.put, List.setIfInBounds_toArray, List.set_cons_zero, List.set_cons_succ])
        refine wpAnyH_take (i := 37) (oi := ⟨some 102, _, _, _, _, _⟩) (v := ?v102) rfl (by kernel_rfl) (by kernel_rfl) (by kernel_rfl) (fun _ _ _ h => h) (Or.inl ⟨by rfl, ?h102⟩) (by assumption) ?r102
        case h102 => (intro w hSw; (try dsimp only at hSw); go_simp <;> with_reducible rfl)
        (try simp only [Act.put, List.setIfInBounds_toArray, List.set_cons_zero, List.set_cons_succ])
        refine wpAnyH_take (i := 38) (oi := ⟨some 103, _, _, _, _, _⟩) (v := ?v103) rfl (by kernel_rfl) (by kernel_rfl) (by kernel_rfl) (fun _ _ _ h => h) (Or.inl ⟨by rfl, ?h103⟩) (by assumption) ?r103
        case h103 => (intro w hSw; (try dsimp only at hSw); go_simp <;> with_reducible rfl)
        (try simp only [Act.put, List.setIfInBounds_toArray, List.set_cons_zero, List.set_cons_succ])
        refine wpAnyH_take (i := 39) (oi := ⟨some 104, _, _, _, _, _⟩) (v := ?v104) rfl (by kernel_rfl) (by kernel_rfl) (by kernel_rfl) (fun _ _ _ h => h) (Or.inl ⟨by rfl, ?h104⟩) (by assumption) ?r104
        case h104 => (intro w hSw; (try dsimp only at hSw); go_simp <;> with_reducible rfl)
        (try simp only [Act.put, List.setIfInBounds_toArray, List.set_cons_zero, List.set_cons_succ])
        refine wpAnyH_take (i := 40) (oi := ⟨some 105, _, _, _, _, _⟩) (v := ?v105) rfl (by kernel_rfl) (by kernel_rfl) (by kernel_rfl) (fun _ _ _ h => h) (Or.inl ⟨by rfl, ?h105⟩) (by assumption) ?r105
        case h105 => (intro w hSw; (try dsimp only at hSw); go_simp <;> with_reducible rfl)
        (try simp only [Act.put, List.setIfInBounds_toArray, List.set_cons_zero, List.set_cons_succ])
        refine wpAnyH_ready (rs := [41]) (by kernel_rfl) (by simp) ?_
        refine (AllReadyH.cons (o := ⟨some 106, _, _, _, _, _⟩) rfl (fun K hK => ?_) AllReadyH.nil)
        go_simp
        clear hHeld
        refine (equalAc_any _ _ A _ HN.out.2.2 HC.out.2.2 (by omega)).mono ?_
        rintro e U2 ⟨rfl, hbN⟩
        replace c0 := cell_beh c0 hbN (Nat.le_refl _)
        replace c1 := cell_beh c1 hbN (Nat.le_refl _)
        replace c2 := cell_beh c2 hbN (Nat.le_refl _)
        replace fx1 := cell_beh fx1 hbN (Nat.le_refl _)
        replace d0 := cell_beh d0 hbN (Nat.le_refl _)
        replace d1 := cell_beh d1 hbN (Nat.le_refl _)
        replace d2 := cell_beh d2 hbN (Nat.le_refl _)
        replace y0 := cell_beh y0 hbN (Nat.le_refl _)
        replace y1 := cell_beh y1 hbN (Nat.le_refl _)
        replace y2 := cell_beh y2 hbN (Nat.le_refl _)
        replace y3 := cell_beh y3 hbN (Nat.le_refl _)
        replace y4 := cell_beh y4 hbN (Nat.le_refl _)
        replace p0 := cell_beh p0 hbN (Nat.le_refl _)
        replace p1 := cell_beh p1 hbN (Nat.le_refl _)
        replace p2 := cell_beh p2 hbN (Nat.le_refl _)
        replace p3 := cell_beh p3 hbN (Nat.le_refl _)
        replace p4 := cell_beh p4 hbN (Nat.le_refl _)
        replace HC := hide (HC.out.below hbN (Nat.le_refl _))
        replace HD1 := hide (HD1.out.below hbN (Nat.le_refl _))
        replace HN := hide (HN.out.below hbN (Nat.le_refl _))
        replace k0 := k0.trans (hbN.mono k0.size)
        clear hbN
        refine hK.out _ _ ⟨c0, c1, c2, fx1, d0, d1, d2, y0, y1, y2, y3, y4, p0, p1, p2, p3, p4⟩ (fun hHeld => ?_)
        clear hK K
        (try simp only [Act.put, List.setIfInBounds_toArray, List.set_cons_zero, List.set_cons_succ])
        refine wpAnyH_take (i := 42) (oi := ⟨some 107, _, _, _, _, _⟩) (v := ?v106) rfl (by kernel_rfl) (by kernel_rfl) (by kernel_rfl) (fun _ _ _ h => h) (Or.inl ⟨by rfl, ?h106⟩) (by assumption) ?r106
        case h106 => (intro w hSw; (try dsimp only at hSw); go_simp <;> with_reducible rfl)
        (try simp only [Act.put, List.setIfInBounds_toArray, List.set_cons_zero, List.set_cons_succ])
        refine wpAnyH_take (i := 43) (oi := ⟨some 108, _, _, _, _, _⟩) (v := ?v107) rfl (by kernel_rfl) (by kernel_rfl) (by kernel_rfl) (fun _ _ _ h => h) (Or.inl ⟨by rfl, ?h107⟩) (by assumption) ?r107
        case h107 => (intro w hSw; (try dsimp only at hSw); go_simp <;> with_reducible rfl)
        (try simp only [Act.put, List.setIfInBounds_toArray, List.set_cons_zero, List.set_cons_succ])
        refine wpAnyH_take (i := 44) (oi := ⟨some 109, _, _, _, _, _⟩) (v := ?v108) rfl (by kernel_rfl) (by kernel_rfl) (by kernel_rfl) (fun _ _ _ h => h) (Or.inl ⟨by rfl, ?h108⟩) (by assumption) ?r108
        case h108 => (intro w hSw; (try dsimp only at hSw); go_simp <;> with_reducible rfl)
        (try simp only [Act.put, List.setIfInBounds_toArray, List.set_cons_zero, List.set_cons_succ])
        refine wpAnyH_take (i := 45) (oi := ⟨some 110, _, _, _, _, _⟩) (v := ?v109) rfl (by kernel_rfl) (by kernel_rfl) (by kernel_rfl) (fun _ _ _ h => h) (Or.inl ⟨by rfl, ?h109⟩) (by assumption) ?r109
        case h109 => (intro w hSw; (try dsimp only at hSw); go_simp <;> with_reducible rfl)
        (try simp only [Act.put, List.setIfInBounds_toArray, List.set_cons_zero, List.set_cons_succ])
        refine wpAnyH_take (i := 47) (oi := ⟨some 112, _, _, _, _, _⟩) (v := ?v110) rfl (by kernel_rfl) (by kernel_rfl) (by kernel_rfl) (fun _ _ _ h => h) (Or.inl ⟨by rfl, ?h110⟩) (by assumption) ?r110
        case h110 => (intro w hSw; (try dsimp only at hSw); go_simp <;> with_reducible rfl)
        (try simp only [Act.put, List.setIfInBounds_toArray, List.set_cons_zero, List.set_cons_succ])
        refine wpAnyH_take (i := 48) (oi := ⟨some 113, _, _, _, _, _⟩) (v := ?v111) rfl (by kernel_rfl) (by kernel_rfl) (by kernel_rfl) (fun _ _ _ h => h) (Or.inl ⟨by rfl, ?h111⟩) (by assumption) ?r111
        case h111 => (intro w hSw; (try dsimp only at hSw); go_simp <;> with_reducible rfl)
        (try simp only [Act.put, List.setIfInBounds_toArray, List.set_cons_zero, List.set_cons_succ])
        refine wpAnyH_take (i := 49) (oi := ⟨some 114, _, _, _, _, _⟩) (v := ?v112) rfl (by kernel_rfl) (by kernel_rfl) (by kernel_rfl) (fun _ _ _ h => h) (Or.inl ⟨by rfl, ?h112⟩) (by assumption) ?r112
        case h112 => (intro w hSw; (try dsimp only at hSw); go_simp <;> with_reducible rfl)
        (try simp only [Act.put, List.setIfInBounds_toArray, List.set_cons_zero, List.set_cons_succ])
        refine wpAnyH_take (i := 51) (oi := ⟨some 116, _, _, _, _, _⟩) (v := ?v113) rfl (by kernel_rfl) (by kernel_rfl) (by kernel_rfl) (fun _ _ _ h => h) (Or.inl ⟨by rfl, ?h113⟩) (by assumption) ?r113
        case h113 => (intro w hSw; (try dsimp only at hSw); go_simp <;> with_reducible rfl)
        (try simp only [Act.put, List.setIfInBounds_toArray, List.set_cons_zero, List.set_cons_succ])
        refine wpAnyH_take (i := 52) (oi := ⟨some 117, _, _, _, _, _⟩) (v := ?v114) rfl (by kernel_rfl) (by kernel_rfl) (by kernel_rfl) (fun _ _ _ h => h) (Or.inl ⟨by rfl, ?h114⟩) (by assumption) ?r114
        case h114 => (intro w hSw; (try dsimp only at hSw); go_simp <;> with_reducible rfl)
        (try simp only [Act.put, List.setIfInBounds_toArray, List.set_cons_zero, List.set_cons_succ])
        refine wpAnyH_ready (rs := [46]) (by kernel_rfl) (by simp) ?_
        refine (AllReadyH.cons (o := ⟨some 111, _, _, _, _, _⟩) rfl (fun K hK => ?_) AllReadyH.nil)
        have kc : Below U2.heap.size U2 U2 := Below.refl _ _
        have sv_c0 := c0
        have sv_c1 := c1
        have sv_c2 := c2
        have sv_fx1 := fx1
        have sv_d0 := d0
        have sv_d1 := d1
        have sv_d2 := d2
        have sv_y0 := y0
        have sv_y1 := y1
        have sv_y2 := y2
        have sv_y3 := y3
        have sv_y4 := y4
        have sv_p0 := p0
        have sv_p1 := p1
        have sv_p2 := p2
        have sv_p3 := p3
        have sv_p4 := p4
        have sv_HC := HC
        have sv_HD1 := HD1
        have sv_HN := HN
        have sv_k0 := k0
        go_simp
        clear hHeld
        refine (clonePr_any _ P _ HC.out.2.1 (by omega) (by omega)).mono ?_
        rintro e U3 ⟨uo, rfl, ho9, hbN⟩
        replace c0 := cell_beh c0 hbN (Nat.le_refl _)
        replace c1 := cell_beh c1 hbN (Nat.le_refl _)
        replace c2 := cell_beh c2 hbN (Nat.le_refl _)
        replace fx1 := cell_beh fx1 hbN (Nat.le_refl _)
        replace d0 := cell_beh d0 hbN (Nat.le_refl _)
        replace d1 := cell_beh d1 hbN (Nat.le_refl _)
        replace d2 := cell_beh d2 hbN (Nat.le_refl _)
        replace y0 := cell_beh y0 hbN (Nat.le_refl _)
        replace y1 := cell_beh y1 hbN (Nat.le_refl _)
        replace y2 := cell_beh y2 hbN (Nat.le_refl _)
        replace y3 := cell_beh y3 hbN (Nat.le_refl _)
        replace y4 := cell_beh y4 hbN (Nat.le_refl _)
        replace p0 := cell_beh p0 hbN (Nat.le_refl _)
        replace p1 := cell_beh p1 hbN (Nat.le_refl _)
        replace p2 := cell_beh p2 hbN (Nat.le_refl _)
        replace p3 := cell_beh p3 hbN (Nat.le_refl _)
        replace p4 := cell_beh p4 hbN (Nat.le_refl _)
        replace HC := hide (HC.out.below hbN (Nat.le_refl _))
        replace HD1 := hide (HD1.out.below hbN (Nat.le_refl _))
        replace HN := hide (HN.out.below hbN (Nat.le_refl _))
        replace k0 := k0.trans (hbN.mono k0.size)
        replace kc := kc.trans (hbN.mono kc.size)
        have hge := own_ge ho9
        have HO9 := hide ho9
        obtain ⟨gg, cg, rfl, _, hgl⟩ := ho9.form (by omega)
        clear ho9 hbN
        refine hK.out _ _ ⟨c0, c1, c2, fx1, d0, d1, d2, y0, y1, y2, y3, y4, p0, p1, p2, p3, p4⟩ (fun hHeld => ?_)
        clear hK K
        (try simp only [Act.put, List.setIfInBounds_toArray, List.set_cons_zero, List.set_cons_succ])
        refine wpAnyH_ready (rs := [50]) (by kernel_rfl) (by simp) ?_
        refine (AllReadyH.cons (o := ⟨some 115, _, _, _, _, _⟩) rfl (fun K hK => ?_) AllReadyH.nil)
        go_simp
        clear hHeld
        refine (deletePr_any P _ gg cg k _ HO9.out hlt (by omega)).mono ?_
        rintro e U4 ⟨rfl, ho10, hg10⟩
        have hbX := kc.grown hg10 kc.size hge
        have HO10 := hide ho10
        clear ho10 hg10 kc HO9
        replace c0 := cell_beh sv_c0 hbX (Nat.le_refl _)
        clear sv_c0
        replace c1 := cell_beh sv_c1 hbX (Nat.le_refl _)
        clear sv_c1
        replace c2 := cell_beh sv_c2 hbX (Nat.le_refl _)
        clear sv_c2
        replace fx1 := cell_beh sv_fx1 hbX (Nat.le_refl _)
        clear sv_fx1
        replace d0 := cell_beh sv_d0 hbX (Nat.le_refl _)
        clear sv_d0
        replace d1 := cell_beh sv_d1 hbX (Nat.le_refl _)
        clear sv_d1
        replace d2 := cell_beh sv_d2 hbX (Nat.le_refl _)
        clear sv_d2
        replace y0 := cell_beh sv_y0 hbX (Nat.le_refl _)
        clear sv_y0
        replace y1 := cell_beh sv_y1 hbX (Nat.le_refl _)
        clear sv_y1
        replace y2 := cell_beh sv_y2 hbX (Nat.le_refl _)
        clear sv_y2
        replace y3 := cell_beh sv_y3 hbX (Nat.le_refl _)
        clear sv_y3
        replace y4 := cell_beh sv_y4 hbX (Nat.le_refl _)
        clear sv_y4
        replace p0 := cell_beh sv_p0 hbX (Nat.le_refl _)
        clear sv_p0
        replace p1 := cell_beh sv_p1 hbX (Nat.le_refl _)
        clear sv_p1
        replace p2 := cell_beh sv_p2 hbX (Nat.le_refl _)
        clear sv_p2
        replace p3 := cell_beh sv_p3 hbX (Nat.le_refl _)
        clear sv_p3
        replace p4 := cell_beh sv_p4 hbX (Nat.le_refl _)
        clear sv_p4
        replace HC := hide (sv_HC.out.below hbX (Nat.le_refl _))
        clear sv_HC
        replace HD1 := hide (sv_HD1.out.below hbX (Nat.le_refl _))
        clear sv_HD1
        replace HN := hide (sv_HN.out.below hbX (Nat.le_refl _))
        clear sv_HN
        replace k0 := sv_k0.trans (hbX.mono sv_k0.size)
        clear sv_k0 hbX
        refine hK.out _ _ ⟨c0, c1, c2, fx1, d0, d1, d2, y0, y1, y2, y3, y4, p0, p1, p2, p3, p4⟩ (fun hHeld => ?_)
        clear hK K
        (try simp only [Act.put, List.setIfInBounds_toArray, List.set_cons_zero, List.set_cons_succ])
        refine wpAnyH_ready (rs := [53]) (by kernel_rfl) (by simp) ?_
        refine (AllReadyH.cons (o := ⟨some 118, _, _, _, _, _⟩) rfl (fun K hK => ?_) AllReadyH.nil)
        go_simp
        clear hHeld
        refine (equalPr_any _ _ D _ (RowAt.of_own prC_len (by omega) (l := D) (by rw [HDL.out, HDE.out]; exact HO10.out)) HD1.out.2.1 (by have := HDL.out; omega)).mono ?_
        rintro e U5 ⟨rfl, hbN⟩
        replace c0 := cell_beh c0 hbN (Nat.le_refl _)
        replace c1 := cell_beh c1 hbN (Nat.le_refl _)
        replace c2 := cell_beh c2 hbN (Nat.le_refl _)
        replace fx1 := cell_beh fx1 hbN (Nat.le_refl _)
        replace d0 := cell_beh d0 hbN (Nat.le_refl _)
        replace d1 := cell_beh d1 hbN (Nat.le_refl _)
        replace d2 := cell_beh d2 hbN (Nat.le_refl _)
        replace y0 := cell_beh y0 hbN (Nat.le_refl _)
        replace y1 := cell_beh y1 hbN (Nat.le_refl _)
        replace y2 := cell_beh y2 hbN (Nat.le_refl _)
        replace y3 := cell_beh y3 hbN (Nat.le_refl _)
        replace y4 := cell_beh y4 hbN (Nat.le_refl _)
        replace p0 := cell_beh p0 hbN (Nat.le_refl _)
        replace p1 := cell_beh p1 hbN (Nat.le_refl _)
        replace p2 := cell_beh p2 hbN (Nat.le_refl _)
        replace p3 := cell_beh p3 hbN (Nat.le_refl _)
        replace p4 := cell_beh p4 hbN (Nat.le_refl _)
        replace HC := hide (HC.out.below hbN (Nat.le_refl _))
        replace HD1 := hide (HD1.out.below hbN (Nat.le_refl _))
        replace HN := hide (HN.out.below hbN (Nat.le_refl _))
        replace k0 := k0.trans (hbN.mono k0.size)
        clear hbN
        refine hK.out _ _ ⟨c0, c1, c2, fx1, d0, d1, d2, y0, y1, y2, y3, y4, p0, p1, p2, p3, p4⟩ (fun hHeld => ?_)
        clear hK K
        (try simp only [Act.put, List.setIfInBounds_toArray, List.set_cons_zero, List.set_cons_succ])
        refine wpAnyH_take (i := 54) (oi := ⟨some 119, _, _, _, _, _⟩) (v := ?v115) rfl (by kernel_rfl) (by kernel_rfl) (by kernel_rfl) (fun _ _ _ h => h) (Or.inl ⟨by rfl, ?h115⟩) (by assumption) ?r115
        case h115 => (intro w hSw; (try dsimp only at hSw); go_simp <;> with_reducible rfl)
        (try simp only [Act.put, List.setIfInBounds_toArray, List.set_cons_zero, List.set_cons_succ])
        refine wpAnyH_take (i := 55) (oi := ⟨some 6, _, _, _, _, _⟩) (v := ?v116) rfl (by kernel_rfl) (by kernel_rfl) (by kernel_rfl) (fun _ _ _ h => h) (Or.inl ⟨by rfl, ?h116⟩) (by assumption) ?r116
        case h116 => (intro w hSw; (try dsimp only at hSw); go_simp <;> with_reducible rfl)
        (try simp only [Act.put, List.setIfInBounds_toArray, List.set_cons_zero, List.set_cons_succ])
        refine wpAnyH_done (by kernel_rfl) ?_ _
        clear hHeld
        go_wp2_with fail
        go_ret
        exact ⟨rfl, k0⟩
    · go_simp
      clear hHeld
      obtain ⟨V1, hV⟩ : ∃ V1, V1 = V0.alloc (.cells #[.slice none 0 0, .slice none 0 0, .slice none 0 0] 28) := ⟨_, rfl⟩
      obtain ⟨db, hdb⟩ : ∃ db, db = V0.heap.size := ⟨_, rfl⟩
      have hbN : Below V0.heap.size V0 V1 := by rw [hV]; exact (Below.refl _ _).alloc (Nat.le_refl _) _
      have d0 : V1.cell? ⟨db, 0, none⟩ = some (.slice none 0 0) := by rw [hV, hdb]; exact new_cell V0 _ rfl _ _ _ _ rfl
      have d1 : V1.cell? ⟨db, 1, none⟩ = some (.slice none 0 0) := by rw [hV, hdb]; exact new_cell V0 _ rfl _ _ _ _ rfl
      have d2 : V1.cell? ⟨db, 2, none⟩ = some (.slice none 0 0) := by rw [hV, hdb]; exact new_cell V0 _ rfl _ _ _ _ rfl
      have z0 : V1.frozen? ⟨db, 0, none⟩ = false := by rw [hV, hdb]; exact new_frozen V0 _ rfl _ _ _
      have z1 : V1.frozen? ⟨db, 1, none⟩ = false := by rw [hV, hdb]; exact new_frozen V0 _ rfl _ _ _
      have z2 : V1.frozen? ⟨db, 2, none⟩ = false := by rw [hV, hdb]; exact new_frozen V0 _ rfl _ _ _
      have hfd : fb < db := by rw [hdb]; exact cell_in fx0
      have hcd : pb < db := by rw [hdb]; exact cell_in p0
      have hwd : w.heap.size ≤ db := by rw [hdb]; exact k0.size
      replace zp := (hbN.frozen (p := ⟨pb, 4, none⟩) (cell_in p4)).trans zp
      replace p0 := cell_beh p0 hbN (Nat.le_refl _)
      replace p1 := cell_beh p1 hbN (Nat.le_refl _)
      replace p2 := cell_beh p2 hbN (Nat.le_refl _)
      replace p3 := cell_beh p3 hbN (Nat.le_refl _)
      replace p4 := cell_beh p4 hbN (Nat.le_refl _)
      replace c0 := cell_beh c0 hbN (Nat.le_refl _)
      replace c1 := cell_beh c1 hbN (Nat.le_refl _)
      replace c2 := cell_beh c2 hbN (Nat.le_refl _)
      replace fx0 := cell_beh fx0 hbN (Nat.le_refl _)
      replace fx1 := cell_beh fx1 hbN (Nat.le_refl _)
      replace fx2 := cell_beh fx2 hbN (Nat.le_refl _)
      replace HC := hide (HC.out.below hbN (Nat.le_refl _))
      replace HD1 := hide (HD1.out.below hbN (Nat.le_refl _))
      replace k0 := k0.trans (hbN.mono k0.size)
      replace kb := kb.trans (hbN.mono kb.size)
      rw [← hV, ← hdb]
      clear hV hdb hbN
      refine hK.out _ _ ⟨c0, c1, c2, p0⟩ (fun hHeld => ?_)
      clear hK K
      (try simp only [Act.put, List.setIfInBounds_toArray, List.set_cons_zero, List.set_cons_succ])
      refine wpAnyH_ready (rs := [4]) (by kernel_rfl) (by simp) ?_
      refine (AllReadyH.cons (o := ⟨some 47, _, _, _, _, _⟩) rfl (fun K hK => ?_) AllReadyH.nil)
      go_simp
      clear hHeld
      refine (unhide HPM _).mono ?_
      rintro e w9 ⟨rfl, rfl⟩
      refine hK.out _ _ ⟨c0, c1, c2, p0⟩ (fun hHeld => ?_)
      clear hK K
      (try simp only [Act.put, List.setIfInBounds_toArray, List.set_cons_zero, List.set_cons_succ])
      refine wpAnyH_take (i := 5) (oi := ⟨some 48, _, _, _, _, _⟩) (v := ?v117) rfl (by kernel_rfl) (by kernel_rfl) (by kernel_rfl) (fun _ _ _ h => h) (Or.inl ⟨by rfl, ?h117⟩) (by assumption) ?r117
      case h117 => (intro w hSw; (try dsimp only at hSw); go_simp <;> with_reducible rfl)
      (try simp only [Act.put, List.setIfInBounds_toArray, List.set_cons_zero, List.set_cons_succ])
      refine wpAnyH_take (i := 6) (oi := ⟨some 49, _, _, _, _, _⟩) (v := ?v118) rfl (by kernel_rfl) (by kernel_rfl) (by kernel_rfl) (fun _ _ _ h => h) (Or.inl ⟨by rfl, ?h118⟩) (by assumption) ?r118
      case h118 => (intro w hSw; (try dsimp only at hSw); go_simp <;> with_reducible rfl)
      (try simp only [Act.put, List.setIfInBounds_toArray, List.set_cons_zero, List.set_cons_succ])
      refine wpAnyH_ready (rs := [7]) (by kernel_rfl) (by simp) ?_
      refine (AllReadyH.cons (o := ⟨some 50, _, _, _, _, _⟩) rfl (fun K hK => ?_) AllReadyH.nil)
      go_simp
      clear hHeld
      refine (unhide HBI _ _ _ _ HC.out).mono ?_
      rintro e V3 ⟨su, pu, au, rfl, hcN, hbN, hiN⟩
      have HH2 := hide (hiN.mono (show pb + 1 ≤ w9.heap.size from cell_in p0))
      replace zp := (hbN.frozen (p := ⟨pb, 4, none⟩) (cell_in p4)).trans zp
      replace z0 := (hbN.frozen (p := ⟨db, 0, none⟩) (cell_in d0)).trans z0
      replace z1 := (hbN.frozen (p := ⟨db, 1, none⟩) (cell_in d1)).trans z1
      replace z2 := (hbN.frozen (p := ⟨db, 2, none⟩) (cell_in d2)).trans z2
      replace p0 := cell_beh p0 hbN (Nat.le_refl _)
      replace p1 := cell_beh p1 hbN (Nat.le_refl _)
      replace p2 := cell_beh p2 hbN (Nat.le_refl _)
      replace p3 := cell_beh p3 hbN (Nat.le_refl _)
      replace p4 := cell_beh p4 hbN (Nat.le_refl _)
      replace c0 := cell_beh c0 hbN (Nat.le_refl _)
      replace c1 := cell_beh c1 hbN (Nat.le_refl _)
      replace c2 := cell_beh c2 hbN (Nat.le_refl _)
      replace fx0 := cell_beh fx0 hbN (Nat.le_refl _)
      replace fx1 := cell_beh fx1 hbN (Nat.le_refl _)
      replace fx2 := cell_beh fx2 hbN (Nat.le_refl _)
      replace d0 := cell_beh d0 hbN (Nat.le_refl _)
      replace d1 := cell_beh d1 hbN (Nat.le_refl _)
      replace d2 := cell_beh d2 hbN (Nat.le_refl _)
      replace HC := hide (HC.out.below hbN (Nat.le_refl _))
      replace HD1 := hide (HD1.out.below hbN (Nat.le_refl _))
      replace k0 := k0.trans (hbN.mono k0.size)
      replace kb := kb.trans (hbN.mono kb.size)
      have HN := hide hcN
      clear hcN hbN hiN
      obtain ⟨t1, t2, rfl⟩ := HN.out.1.slice
      obtain ⟨t3, t4, rfl⟩ := HN.out.2.1.slice
      obtain ⟨t5, t6, rfl⟩ := HN.out.2.2.slice
      go_wp2_with fail
      refine hK.out _ _ ⟨c0, c1, c2, p0⟩ (fun hHeld => ?_)
      clear hK K
      (try simp only [Act.put, List.setIfInBounds_toArray, List.set_cons_zero, List.set_cons_succ])
      refine wpAnyH_take (i := 8) (oi := ⟨some 42, _, _, _, _, _⟩) (v := ?v119) rfl (by kernel_rfl) (by kernel_rfl) (by kernel_rfl) (fun _ _ _ h => h) (Or.inl ⟨by rfl, ?h119⟩) (by assumption) ?r119
      case h119 => (intro w hSw; (try dsimp only at hSw); go_simp <;> with_reducible rfl)
      (try simp only [Act.put, List.setIfInBounds_toArray, List.set_cons_zero, List.set_cons_succ])
      refine wpAnyH_take (i := 9) (oi := ⟨some 51, _, _, _, _, _⟩) (v := ?v120) rfl (by kernel_rfl) (by kernel_rfl) (by kernel_rfl) (fun _ _ _ h => h) (Or.inl ⟨by rfl, ?h120⟩) (by assumption) ?r120
      case h120 => (intro w hSw; (try dsimp only at hSw); go_simp <;> with_reducible rfl)
      (try simp only [Act.put, List.setIfInBounds_toArray, List.set_cons_zero, List.set_cons_succ])
      refine wpAnyH_take (i := 10) (oi := ⟨some 52, _, _, _, _, _⟩) (v := ?v121) rfl (by kernel_rfl) (by kernel_rfl) (by kernel_rfl) (fun _ _ _ h => h) (Or.inl ⟨by rfl, ?h121⟩) (by assumption) ?r121
      case h121 => (intro w hSw; (try dsimp only at hSw); go_simp <;> with_reducible rfl)
      (try simp only [Act.put, List.setIfInBounds_toArray, List.set_cons_zero, List.set_cons_succ])
      refine wpAnyH_ready (rs := [12]) (by kernel_rfl) (by simp) ?_
      refine (AllReadyH.cons (o := ⟨none, _, _, _, _, _⟩) rfl (fun K hK => ?_) AllReadyH.nil)
      have hne1 : ¬ pb = db := by omega
      have hne2 : ¬ db = pb := by omega
      go_simp
      clear hHeld
      obtain ⟨e0, e1, e2⟩ := set3 d0 d1 d2 (.slice t1 S.length t2) (.slice t3 Q.length t4) (.slice t5 A.length t6)
      replace HC := hide (((HC.out.set_box d0 (.slice t1 S.length t2)).set_box ((World.cell?_setCell_other _ _ _ _ (by simp)).trans d1) (.slice t3 Q.length t4)).set_box ((World.cell?_setCell_other _ _ _ _ (by simp)).trans ((World.cell?_setCell_other _ _ _ _ (by simp)).trans d2)) (.slice t5 A.length t6))
      replace HD1 := hide (((HD1.out.set_box d0 (.slice t1 S.length t2)).set_box ((World.cell?_setCell_other _ _ _ _ (by simp)).trans d1) (.slice t3 Q.length t4)).set_box ((World.cell?_setCell_other _ _ _ _ (by simp)).trans ((World.cell?_setCell_other _ _ _ _ (by simp)).trans d2)) (.slice t5 A.length t6))
      replace HN := hide (((HN.out.set_box d0 (.slice t1 S.length t2)).set_box ((World.cell?_setCell_other _ _ _ _ (by simp)).trans d1) (.slice t3 Q.length t4)).set_box ((World.cell?_setCell_other _ _ _ _ (by simp)).trans ((World.cell?_setCell_other _ _ _ _ (by simp)).trans d2)) (.slice t5 A.length t6))
      replace k0 := ((k0.setCell (p := ⟨db, 0, none⟩) (by show _ ≤ db; omega) (.slice t1 S.length t2)).setCell (p := ⟨db, 1, none⟩) (by show _ ≤ db; omega) (.slice t3 Q.length t4)).setCell (p := ⟨db, 2, none⟩) (by show _ ≤ db; omega) (.slice t5 A.length t6)
      replace kb := ((kb.setCell (p := ⟨db, 0, none⟩) (by show _ ≤ db; omega) (.slice t1 S.length t2)).setCell (p := ⟨db, 1, none⟩) (by show _ ≤ db; omega) (.slice t3 Q.length t4)).setCell (p := ⟨db, 2, none⟩) (by show _ ≤ db; omega) (.slice t5 A.length t6)
      replace p0 : (((V3.setCell ⟨db, 0, none⟩ (.slice t1 S.length t2)).setCell ⟨db, 1, none⟩ (.slice t3 Q.length t4)).setCell ⟨db, 2, none⟩ (.slice t5 A.length t6)).cell? ⟨pb, 0, none⟩ = some _ := ((World.cell?_setCell_other _ _ _ _ (by simp <;> omega)).trans ((World.cell?_setCell_other _ _ _ _ (by simp <;> omega)).trans ((World.cell?_setCell_other _ _ _ _ (by simp <;> omega)).trans p0)))
      replace p1 : (((V3.setCell ⟨db, 0, none⟩ (.slice t1 S.length t2)).setCell ⟨db, 1, none⟩ (.slice t3 Q.length t4)).setCell ⟨db, 2, none⟩ (.slice t5 A.length t6)).cell? ⟨pb, 1, none⟩ = some _ := ((World.cell?_setCell_other _ _ _ _ (by simp <;> omega)).trans ((World.cell?_setCell_other _ _ _ _ (by simp <;> omega)).trans ((World.cell?_setCell_other _ _ _ _ (by simp <;> omega)).trans p1)))
      replace p2 : (((V3.setCell ⟨db, 0, none⟩ (.slice t1 S.length t2)).setCell ⟨db, 1, none⟩ (.slice t3 Q.length t4)).setCell ⟨db, 2, none⟩ (.slice t5 A.length t6)).cell? ⟨pb, 2, none⟩ = some _ := ((World.cell?_setCell_other _ _ _ _ (by simp <;> omega)).trans ((World.cell?_setCell_other _ _ _ _ (by simp <;> omega)).trans ((World.cell?_setCell_other _ _ _ _ (by simp <;> omega)).trans p2)))
      replace p3 : (((V3.setCell ⟨db, 0, none⟩ (.slice t1 S.length t2)).setCell ⟨db, 1, none⟩ (.slice t3 Q.length t4)).setCell ⟨db, 2, none⟩ (.slice t5 A.length t6)).cell? ⟨pb, 3, none⟩ = some _ := ((World.cell?_setCell_other _ _ _ _ (by simp <;> omega)).trans ((World.cell?_setCell_other _ _ _ _ (by simp <;> omega)).trans ((World.cell?_setCell_other _ _ _ _ (by simp <;> omega)).trans p3)))
      replace p4 : (((V3.setCell ⟨db, 0, none⟩ (.slice t1 S.length t2)).setCell ⟨db, 1, none⟩ (.slice t3 Q.length t4)).setCell ⟨db, 2, none⟩ (.slice t5 A.length t6)).cell? ⟨pb, 4, none⟩ = some _ := ((World.cell?_setCell_other _ _ _ _ (by simp <;> omega)).trans ((World.cell?_setCell_other _ _ _ _ (by simp <;> omega)).trans ((World.cell?_setCell_other _ _ _ _ (by simp <;> omega)).trans p4)))
      replace c0 : (((V3.setCell ⟨db, 0, none⟩ (.slice t1 S.length t2)).setCell ⟨db, 1, none⟩ (.slice t3 Q.length t4)).setCell ⟨db, 2, none⟩ (.slice t5 A.length t6)).cell? ⟨cb, 0, none⟩ = some _ := ((World.cell?_setCell_other _ _ _ _ (by simp <;> omega)).trans ((World.cell?_setCell_other _ _ _ _ (by simp <;> omega)).trans ((World.cell?_setCell_other _ _ _ _ (by simp <;> omega)).trans c0)))
      replace c1 : (((V3.setCell ⟨db, 0, none⟩ (.slice t1 S.length t2)).setCell ⟨db, 1, none⟩ (.slice t3 Q.length t4)).setCell ⟨db, 2, none⟩ (.slice t5 A.length t6)).cell? ⟨cb, 1, none⟩ = some _ := ((World.cell?_setCell_other _ _ _ _ (by simp <;> omega)).trans ((World.cell?_setCell_other _ _ _ _ (by simp <;> omega)).trans ((World.cell?_setCell_other _ _ _ _ (by simp <;> omega)).trans c1)))
      replace c2 : (((V3.setCell ⟨db, 0, none⟩ (.slice t1 S.length t2)).setCell ⟨db, 1, none⟩ (.slice t3 Q.length t4)).setCell ⟨db, 2, none⟩ (.slice t5 A.length t6)).cell? ⟨cb, 2, none⟩ = some _ := ((World.cell?_setCell_other _ _ _ _ (by simp <;> omega)).trans ((World.cell?_setCell_other _ _ _ _ (by simp <;> omega)).trans ((World.cell?_setCell_other _ _ _ _ (by simp <;> omega)).trans c2)))
      replace fx0 : (((V3.setCell ⟨db, 0, none⟩ (.slice t1 S.length t2)).setCell ⟨db, 1, none⟩ (.slice t3 Q.length t4)).setCell ⟨db, 2, none⟩ (.slice t5 A.length t6)).cell? ⟨fb, 0, none⟩ = some _ := ((World.cell?_setCell_other _ _ _ _ (by simp <;> omega)).trans ((World.cell?_setCell_other _ _ _ _ (by simp <;> omega)).trans ((World.cell?_setCell_other _ _ _ _ (by simp <;> omega)).trans fx0)))
      replace fx1 : (((V3.setCell ⟨db, 0, none⟩ (.slice t1 S.length t2)).setCell ⟨db, 1, none⟩ (.slice t3 Q.length t4)).setCell ⟨db, 2, none⟩ (.slice t5 A.length t6)).cell? ⟨fb, 1, none⟩ = some _ := ((World.cell?_setCell_other _ _ _ _ (by simp <;> omega)).trans ((World.cell?_setCell_other _ _ _ _ (by simp <;> omega)).trans ((World.cell?_setCell_other _ _ _ _ (by simp <;> omega)).trans fx1)))
      replace fx2 : (((V3.setCell ⟨db, 0, none⟩ (.slice t1 S.length t2)).setCell ⟨db, 1, none⟩ (.slice t3 Q.length t4)).setCell ⟨db, 2, none⟩ (.slice t5 A.length t6)).cell? ⟨fb, 2, none⟩ = some _ := ((World.cell?_setCell_other _ _ _ _ (by simp <;> omega)).trans ((World.cell?_setCell_other _ _ _ _ (by simp <;> omega)).trans ((World.cell?_setCell_other _ _ _ _ (by simp <;> omega)).trans fx2)))
      replace zp : (((V3.setCell ⟨db, 0, none⟩ (.slice t1 S.length t2)).setCell ⟨db, 1, none⟩ (.slice t3 Q.length t4)).setCell ⟨db, 2, none⟩ (.slice t5 A.length t6)).frozen? ⟨pb, 4, none⟩ = false := by rw [World.frozen?_setCell, World.frozen?_setCell, World.frozen?_setCell]; exact zp
      clear d0 d1 d2 z0 z1 z2
      have d0 := e0
      have d1 := e1
      have d2 := e2
      clear e0 e1 e2
      generalize (((V3.setCell ⟨db, 0, none⟩ (.slice t1 S.length t2)).setCell ⟨db, 1, none⟩ (.slice t3 Q.length t4)).setCell ⟨db, 2, none⟩ (.slice t5 A.length t6)) = V at *
      refine hK.out _ _ ⟨c0, c1, c2, p0⟩ (fun hHeld => ?_)
      clear hK K
      (try simp only [Act.put, List.setIfInBounds_toArray, List.set_cons_zero, List.set_cons_succ])
      refine wpAnyH_take (i := 13) (oi := ⟨some 13, _, _, _, _, _⟩) (v := ?v122) rfl (by kernel_rfl) (by kernel_rfl) (by kernel_rfl) (fun _ _ _ h => h) (Or.inl ⟨by rfl, ?h122⟩) (by assumption) ?r122
      case h122 => (intro w hSw; (try dsimp only at hSw); go_simp <;> with_reducible rfl)
      (try simp only [Act.put, List.setIfInBounds_toArray, List.set_cons_zero, List.set_cons_succ])
      refine wpAnyH_done (by kernel_rfl) ?_ _
      clear hHeld
      clear HBI
      go_wp2_with fail
      refine (unhide HGO _ _ _ _ HD1.out).mono ?_
      rintro e w5 ⟨su, pu, au, rfl, hc5, hb5⟩
      replace zp := (hb5.frozen (p := ⟨pb, 4, none⟩) (cell_in p4)).trans zp
      replace c0 := cell_beh c0 hb5 (Nat.le_refl _)
      replace c1 := cell_beh c1 hb5 (Nat.le_refl _)
      replace c2 := cell_beh c2 hb5 (Nat.le_refl _)
      replace p0 := cell_beh p0 hb5 (Nat.le_refl _)
      replace p1 := cell_beh p1 hb5 (Nat.le_refl _)
      replace p2 := cell_beh p2 hb5 (Nat.le_refl _)
      replace p3 := cell_beh p3 hb5 (Nat.le_refl _)
      replace p4 := cell_beh p4 hb5 (Nat.le_refl _)
      replace fx0 := cell_beh fx0 hb5 (Nat.le_refl _)
      replace fx1 := cell_beh fx1 hb5 (Nat.le_refl _)
      replace fx2 := cell_beh fx2 hb5 (Nat.le_refl _)
      replace d0 := cell_beh d0 hb5 (Nat.le_refl _)
      replace d1 := cell_beh d1 hb5 (Nat.le_refl _)
      replace d2 := cell_beh d2 hb5 (Nat.le_refl _)
      replace HC := hide (HC.out.below hb5 (Nat.le_refl _))
      replace HD1 := hide (HD1.out.below hb5 (Nat.le_refl _))
      replace HN := hide (HN.out.below hb5 (Nat.le_refl _))
      replace k0 := k0.trans (hb5.mono k0.size)
      replace kb := kb.trans (hb5.mono kb.size)
      have HU := hide hc5
      clear hc5 hb5 HGO
      obtain ⟨u1, u2, hu1⟩ := HU.out.1.slice
      obtain ⟨u3, u4, hu3⟩ := HU.out.2.1.slice
      obtain ⟨u5, u6, hu5⟩ := HU.out.2.2.slice
      simp only [List.length_nil] at hu1 hu3 hu5
      subst hu1 hu3 hu5
      clear HU
      have l5 := cell_in d0
      have l6 := cell_in fx0
      have l7 := cell_in p0
      have l8 := cell_in c0
      have n0 : ¬ cb = w5.heap.size := by omega
      have n1 : ¬ pb = w5.heap.size := by omega
      have n2 : ¬ fb = w5.heap.size := by omega
      have n3 : ¬ db = w5.heap.size := by omega
      have n4 : ¬ cb = pb := by omega
      have n5 : ¬ fb = pb := by omega
      have n6 : ¬ db = pb := by omega
      go_wp2_with fail
      refine (unhide HPM _).mono ?_
      rintro e w6 ⟨rfl, rfl⟩
      obtain ⟨qb, qo, qc, e1, hqc, hqb, y0, y1, y2, y3, y4⟩ := pr_at HN.out.2.1 hqk
      rw [HQK.out] at y0 y1 y2 y3 y4
      simp only at y0 y1 y2 y3 y4
      simp only [Value.slice.injEq, true_and] at e1
      obtain ⟨rfl, rfl⟩ := e1
      have hqp : pb + 1 ≤ qb := HH2.out.2.1 qb rfl
      have n7 : ¬ qb = pb := by omega
      have n8 : ¬ qb = w5.heap.size := by omega
      have q6 : (k : Int) < (Q.length : Int) := by omega
      go_wp2_with fail
      have heq := qqPr x0 x1 x2 x3 (mk7 - 1)
      have hgd := qgPr
      have b4 : Below pb w5 (w5.setCell ⟨pb, 4, none⟩ (.int .i64 (mk7 - 1))) := (Below.refl _ w5).setCell (p := ⟨pb, 4, none⟩) (Nat.le_refl _) (.int .i64 (mk7 - 1))
      have kb6 : Below pb w5 ((w5.setCell ⟨pb, 4, none⟩ (.int .i64 (mk7 - 1))).alloc (.cells #[.slice u1 0 u2, .slice u3 0 u4, .slice u5 0 u6] 28)) := b4.alloc (Nat.le_trans (Nat.le_of_lt l7) b4.size) (.cells #[.slice u1 0 u2, .slice u3 0 u4, .slice u5 0 u6] 28)
      clear b4
      replace c0 : ((w5.setCell ⟨pb, 4, none⟩ (.int .i64 (mk7 - 1))).alloc (.cells #[.slice u1 0 u2, .slice u3 0 u4, .slice u5 0 u6] 28)).cell? ⟨cb, 0, none⟩ = some _ := old_cell ((World.cell?_setCell_other _ _ _ _ (by simp <;> omega)).trans c0) _
      replace c1 : ((w5.setCell ⟨pb, 4, none⟩ (.int .i64 (mk7 - 1))).alloc (.cells #[.slice u1 0 u2, .slice u3 0 u4, .slice u5 0 u6] 28)).cell? ⟨cb, 1, none⟩ = some _ := old_cell ((World.cell?_setCell_other _ _ _ _ (by simp <;> omega)).trans c1) _
      replace c2 : ((w5.setCell ⟨pb, 4, none⟩ (.int .i64 (mk7 - 1))).alloc (.cells #[.slice u1 0 u2, .slice u3 0 u4, .slice u5 0 u6] 28)).cell? ⟨cb, 2, none⟩ = some _ := old_cell ((World.cell?_setCell_other _ _ _ _ (by simp <;> omega)).trans c2) _
      replace fx0 : ((w5.setCell ⟨pb, 4, none⟩ (.int .i64 (mk7 - 1))).alloc (.cells #[.slice u1 0 u2, .slice u3 0 u4, .slice u5 0 u6] 28)).cell? ⟨fb, 0, none⟩ = some _ := old_cell ((World.cell?_setCell_other _ _ _ _ (by simp <;> omega)).trans fx0) _
      replace fx1 : ((w5.setCell ⟨pb, 4, none⟩ (.int .i64 (mk7 - 1))).alloc (.cells #[.slice u1 0 u2, .slice u3 0 u4, .slice u5 0 u6] 28)).cell? ⟨fb, 1, none⟩ = some _ := old_cell ((World.cell?_setCell_other _ _ _ _ (by simp <;> omega)).trans fx1) _
      replace fx2 : ((w5.setCell ⟨pb, 4, none⟩ (.int .i64 (mk7 - 1))).alloc (.cells #[.slice u1 0 u2, .slice u3 0 u4, .slice u5 0 u6] 28)).cell? ⟨fb, 2, none⟩ = some _ := old_cell ((World.cell?_setCell_other _ _ _ _ (by simp <;> omega)).trans fx2) _
      replace d0 : ((w5.setCell ⟨pb, 4, none⟩ (.int .i64 (mk7 - 1))).alloc (.cells #[.slice u1 0 u2, .slice u3 0 u4, .slice u5 0 u6] 28)).cell? ⟨db, 0, none⟩ = some _ := old_cell ((World.cell?_setCell_other _ _ _ _ (by simp <;> omega)).trans d0) _
      replace d1 : ((w5.setCell ⟨pb, 4, none⟩ (.int .i64 (mk7 - 1))).alloc (.cells #[.slice u1 0 u2, .slice u3 0 u4, .slice u5 0 u6] 28)).cell? ⟨db, 1, none⟩ = some _ := old_cell ((World.cell?_setCell_other _ _ _ _ (by simp <;> omega)).trans d1) _
      replace d2 : ((w5.setCell ⟨pb, 4, none⟩ (.int .i64 (mk7 - 1))).alloc (.cells #[.slice u1 0 u2, .slice u3 0 u4, .slice u5 0 u6] 28)).cell? ⟨db, 2, none⟩ = some _ := old_cell ((World.cell?_setCell_other _ _ _ _ (by simp <;> omega)).trans d2) _
      replace p0 : ((w5.setCell ⟨pb, 4, none⟩ (.int .i64 (mk7 - 1))).alloc (.cells #[.slice u1 0 u2, .slice u3 0 u4, .slice u5 0 u6] 28)).cell? ⟨pb, 0, none⟩ = some _ := old_cell ((World.cell?_setCell_other _ _ _ _ (by simp <;> omega)).trans p0) _
      replace p1 : ((w5.setCell ⟨pb, 4, none⟩ (.int .i64 (mk7 - 1))).alloc (.cells #[.slice u1 0 u2, .slice u3 0 u4, .slice u5 0 u6] 28)).cell? ⟨pb, 1, none⟩ = some _ := old_cell ((World.cell?_setCell_other _ _ _ _ (by simp <;> omega)).trans p1) _
      replace p2 : ((w5.setCell ⟨pb, 4, none⟩ (.int .i64 (mk7 - 1))).alloc (.cells #[.slice u1 0 u2, .slice u3 0 u4, .slice u5 0 u6] 28)).cell? ⟨pb, 2, none⟩ = some _ := old_cell ((World.cell?_setCell_other _ _ _ _ (by simp <;> omega)).trans p2) _
      replace p3 : ((w5.setCell ⟨pb, 4, none⟩ (.int .i64 (mk7 - 1))).alloc (.cells #[.slice u1 0 u2, .slice u3 0 u4, .slice u5 0 u6] 28)).cell? ⟨pb, 3, none⟩ = some _ := old_cell ((World.cell?_setCell_other _ _ _ _ (by simp <;> omega)).trans p3) _
      replace p4 : ((w5.setCell ⟨pb, 4, none⟩ (.int .i64 (mk7 - 1))).alloc (.cells #[.slice u1 0 u2, .slice u3 0 u4, .slice u5 0 u6] 28)).cell? ⟨pb, 4, none⟩ = some (.int .i64 (mk7 - 1)) := old_cell (World.cell?_setCell_same _ _ _ p4) _
      replace y0 : ((w5.setCell ⟨pb, 4, none⟩ (.int .i64 (mk7 - 1))).alloc (.cells #[.slice u1 0 u2, .slice u3 0 u4, .slice u5 0 u6] 28)).cell? ⟨qb, qo + k * 5, none⟩ = some _ := old_cell ((World.cell?_setCell_other _ _ _ _ (by simp <;> omega)).trans y0) _
      replace y1 : ((w5.setCell ⟨pb, 4, none⟩ (.int .i64 (mk7 - 1))).alloc (.cells #[.slice u1 0 u2, .slice u3 0 u4, .slice u5 0 u6] 28)).cell? ⟨qb, qo + k * 5 + 1, none⟩ = some _ := old_cell ((World.cell?_setCell_other _ _ _ _ (by simp <;> omega)).trans y1) _
      replace y2 : ((w5.setCell ⟨pb, 4, none⟩ (.int .i64 (mk7 - 1))).alloc (.cells #[.slice u1 0 u2, .slice u3 0 u4, .slice u5 0 u6] 28)).cell? ⟨qb, qo + k * 5 + 2, none⟩ = some _ := old_cell ((World.cell?_setCell_other _ _ _ _ (by simp <;> omega)).trans y2) _
      replace y3 : ((w5.setCell ⟨pb, 4, none⟩ (.int .i64 (mk7 - 1))).alloc (.cells #[.slice u1 0 u2, .slice u3 0 u4, .slice u5 0 u6] 28)).cell? ⟨qb, qo + k * 5 + 3, none⟩ = some _ := old_cell ((World.cell?_setCell_other _ _ _ _ (by simp <;> omega)).trans y3) _
      replace y4 : ((w5.setCell ⟨pb, 4, none⟩ (.int .i64 (mk7 - 1))).alloc (.cells #[.slice u1 0 u2, .slice u3 0 u4, .slice u5 0 u6] 28)).cell? ⟨qb, qo + k * 5 + 4, none⟩ = some _ := old_cell ((World.cell?_setCell_other _ _ _ _ (by simp <;> omega)).trans y4) _
      have a6 : Below (w5.setCell ⟨pb, 4, none⟩ (.int .i64 (mk7 - 1))).heap.size (w5.setCell ⟨pb, 4, none⟩ (.int .i64 (mk7 - 1))) ((w5.setCell ⟨pb, 4, none⟩ (.int .i64 (mk7 - 1))).alloc (.cells #[.slice u1 0 u2, .slice u3 0 u4, .slice u5 0 u6] 28)) := (Below.refl _ _).alloc (Nat.le_refl _) _
      replace HD1 := hide ((cf_far HD1.out HH1.out (Nat.lt_succ_self _) 4 (.int .i64 (mk7 - 1))).below a6 (Nat.le_refl _))
      replace HN := hide ((cf_far HN.out HH2.out (Nat.lt_succ_self _) 4 (.int .i64 (mk7 - 1))).below a6 (Nat.le_refl _))
      replace kb := kb.trans (kb6.mono hpe)
      replace k0 := k0.trans (kb6.mono hwp)
      replace HC := hide (H1.out.below kb (Nat.le_refl _))
      clear a6 kb6 zp kb H1 HH1 HH2 n0 n1 n2 n3 n4 n5 n6 n7 n8 l5 l6 l7 l8 hqb hqp hpe hwp hcp hpf
      have hS := HPL.out
      generalize ((w5.setCell ⟨pb, 4, none⟩ (.int .i64 (mk7 - 1))).alloc (.cells #[.slice u1 0 u2, .slice u3 0 u4, .slice u5 0 u6] 28)) = V6 at *
      refine wp_region_held_drew (S := (fun w' => w'.cell? ⟨cb, 0, none⟩ = some (.slice m1 S.length m2) ∧ w'.cell? ⟨cb, 1, none⟩ = some (.slice (some ⟨b, off, none⟩) P.length m4) ∧ w'.cell? ⟨cb, 2, none⟩ = some (.slice m5 A.length m6) ∧ w'.cell? ⟨fb, 1, none⟩ = some (.slice f3 D.length f4) ∧ w'.cell? ⟨db, 0, none⟩ = some (.slice t1 S.length t2) ∧ w'.cell? ⟨db, 1, none⟩ = some (.slice (some ⟨qb, qo, none⟩) Q.length t4) ∧ w'.cell? ⟨db, 2, none⟩ = some (.slice t5 A.length t6) ∧ w'.cell? ⟨qb, qo + k * 5, none⟩ = some (.int .i64 x0) ∧ w'.cell? ⟨qb, qo + k * 5 + 1, none⟩ = some (.int .i64 x1) ∧ w'.cell? ⟨qb, qo + k * 5 + 2, none⟩ = some (.int .i64 x2) ∧ w'.cell? ⟨qb, qo + k * 5 + 3, none⟩ = some (.int .i64 x3) ∧ w'.cell? ⟨qb, qo + k * 5 + 4, none⟩ = some (.int .i64 (mk7 - 1)) ∧ w'.cell? ⟨pb, 0, none⟩ = some (.int .i64 x0) ∧ w'.cell? ⟨pb, 1, none⟩ = some (.int .i64 x1) ∧ w'.cell? ⟨pb, 2, none⟩ = some (.int .i64 x2) ∧ w'.cell? ⟨pb, 3, none⟩ = some (.int .i64 x3) ∧ w'.cell? ⟨pb, 4, none⟩ = some (.int .i64 (mk7 - 1)))) (by kernel_rfl) ⟨c0, c1, c2, fx1, d0, d1, d2, y0, y1, y2, y3, y4, p0, p1, p2, p3, p4⟩ (fun hHeld => ?_)
      have HDW : Below V6.heap.size V6 V6.drew := (Below.refl _ _).drew
      replace c0 := cell_beh c0 HDW (Nat.le_refl _)
      replace c1 := cell_beh c1 HDW (Nat.le_refl _)
      replace c2 := cell_beh c2 HDW (Nat.le_refl _)
      replace fx1 := cell_beh fx1 HDW (Nat.le_refl _)
      replace d0 := cell_beh d0 HDW (Nat.le_refl _)
      replace d1 := cell_beh d1 HDW (Nat.le_refl _)
      replace d2 := cell_beh d2 HDW (Nat.le_refl _)
      replace y0 := cell_beh y0 HDW (Nat.le_refl _)
      replace y1 := cell_beh y1 HDW (Nat.le_refl _)
      replace y2 := cell_beh y2 HDW (Nat.le_refl _)
      replace y3 := cell_beh y3 HDW (Nat.le_refl _)
      replace y4 := cell_beh y4 HDW (Nat.le_refl _)
      replace p0 := cell_beh p0 HDW (Nat.le_refl _)
      replace p1 := cell_beh p1 HDW (Nat.le_refl _)
      replace p2 := cell_beh p2 HDW (Nat.le_refl _)
      replace p3 := cell_beh p3 HDW (Nat.le_refl _)
      replace p4 := cell_beh p4 HDW (Nat.le_refl _)
      replace HC := hide (HC.out.below HDW (Nat.le_refl _))
      replace HD1 := hide (HD1.out.below HDW (Nat.le_refl _))
      replace HN := hide (HN.out.below HDW (Nat.le_refl _))
      replace k0 := k0.trans (HDW.mono k0.size)
      clear HDW
      generalize V6.drew = V0 at *
      refine wpAnyH_take (i := 0) (oi := ⟨some 65, _, _, _, _, _⟩) (v := ?v123) rfl (by kernel_rfl) (by kernel_rfl) (by kernel_rfl) (fun _ _ _ h => h) (Or.inl ⟨by rfl, ?h123⟩) (by assumption) ?r123
      case h123 => (intro w hSw; (try dsimp only at hSw); go_simp <;> with_reducible rfl)
      (try simp only [Act.put, List.setIfInBounds_toArray, List.set_cons_zero, List.set_cons_succ])
      refine wpAnyH_take (i := 1) (oi := ⟨some 66, _, _, _, _, _⟩) (v := ?v124) rfl (by kernel_rfl) (by kernel_rfl) (by kernel_rfl) (fun _ _ _ h => h) (Or.inl ⟨by rfl, ?h124⟩) (by assumption) ?r124
      case h124 => (intro w hSw; (try dsimp only at hSw); go_simp <;> with_reducible rfl)
      (try simp only [Act.put, List.setIfInBounds_toArray, List.set_cons_zero, List.set_cons_succ])
      refine wpAnyH_take (i := 2) (oi := ⟨some 67, _, _, _, _, _⟩) (v := ?v125) rfl (by kernel_rfl) (by kernel_rfl) (by kernel_rfl) (fun _ _ _ h => h) (Or.inl ⟨by rfl, ?h125⟩) (by assumption) ?r125
      case h125 => (intro w hSw; (try dsimp only at hSw); go_simp <;> with_reducible rfl)
      (try simp only [Act.put, List.setIfInBounds_toArray, List.set_cons_zero, List.set_cons_succ])
      refine wpAnyH_take (i := 3) (oi := ⟨some 68, _, _, _, _, _⟩) (v := ?v126) rfl (by kernel_rfl) (by kernel_rfl) (by kernel_rfl) (fun _ _ _ h => h) (Or.inl ⟨by rfl, ?h126⟩) (by assumption) ?r126
      case h126 => (intro w hSw; (try dsimp only at hSw); go_simp <;> with_reducible rfl)
      (try simp only [Act.put, List.setIfInBounds_toArray, List.set_cons_zero, List.set_cons_succ])
      refine wpAnyH_take (i := 4) (oi := ⟨some 69, _, _, _, _, _⟩) (v := ?v127) rfl (by kernel_rfl) (by kernel_rfl) (by kernel_rfl) (fun _ _ _ h => h) (Or.inl ⟨by rfl, ?h127⟩) (by assumption) ?r127
      case h127 => (intro w hSw; (try dsimp only at hSw); go_simp <;> with_reducible rfl)
      (try simp only [Act.put, List.setIfInBounds_toArray, List.set_cons_zero, List.set_cons_succ])
      refine wpAnyH_take (i := 5) (oi := ⟨some 70, _, _, _, _, _⟩) (v := ?v128) rfl (by kernel_rfl) (by kernel_rfl) (by kernel_rfl) (fun _ _ _ h => h) (Or.inl ⟨by rfl, ?h128⟩) (by assumption) ?r128
      case h128 => (intro w hSw; (try dsimp only at hSw); go_simp <;> with_reducible rfl)
      (try simp only [Act.put, List.setIfInBounds_toArray, List.set_cons_zero, List.set_cons_succ])
      refine wpAnyH_take (i := 6) (oi := ⟨some 71, _, _, _, _, _⟩) (v := ?v129) rfl (by kernel_rfl) (by kernel_rfl) (by kernel_rfl) (fun _ _ _ h => h) (Or.inl ⟨by rfl, ?h129⟩) (by assumption) ?r129
      case h129 => (intro w hSw; (try dsimp only at hSw); go_simp <;> with_reducible rfl)
      (try simp only [Act.put, List.setIfInBounds_toArray, List.set_cons_zero, List.set_cons_succ])
      refine wpAnyH_take (i := 7) (oi := ⟨some 72, _, _, _, _, _⟩) (v := ?v130) rfl (by kernel_rfl) (by kernel_rfl) (by kernel_rfl) (fun _ _ _ h => h) (Or.inl ⟨by rfl, ?h130⟩) (by assumption) ?r130
      case h130 => (intro w hSw; (try dsimp only at hSw); go_simp <;> with_reducible rfl)
      (try simp only [Act.put, List.setIfInBounds_toArray, List.set_cons_zero, List.set_cons_succ])
      refine wpAnyH_take (i := 8) (oi := ⟨some 73, _, _, _, _, _⟩) (v := ?v131) rfl (by kernel_rfl) (by kernel_rfl) (by kernel_rfl) (fun _ _ _ h => h) (Or.inl ⟨by rfl, ?h131⟩) (by assumption) ?r131
      case h131 => (intro w hSw; (try dsimp only at hSw); go_simp <;> with_reducible rfl)
      (try simp only [Act.put, List.setIfInBounds_toArray, List.set_cons_zero, List.set_cons_succ])
      refine wpAnyH_take (i := 9) (oi := ⟨some 74, _, _, _, _, _⟩) (v := ?v132) rfl (by kernel_rfl) (by kernel_rfl) (by kernel_rfl) (fun _ _ _ h => h) (Or.inl ⟨by rfl, ?h132⟩) (by assumption) ?r132
      case h132 => (intro w hSw; (try dsimp only at hSw); go_simp <;> with_reducible rfl)
      (try simp only [Act.put, List.setIfInBounds_toArray, List.set_cons_zero, List.set_cons_succ])
      refine wpAnyH_take (i := 10) (oi := ⟨some 75, _, _, _, _, _⟩) (v := ?v133) rfl (by kernel_rfl) (by kernel_rfl) (by kernel_rfl) (fun _ _ _ h => h) (Or.inl ⟨by rfl, ?h133⟩) (by assumption) ?r133
      case h133 => (intro w hSw; (try dsimp only at hSw); go_simp <;> with_reducible rfl)
      (try simp only [Act.put, List.setIfInBounds_toArray, List.set_cons_zero, List.set_cons_succ])
      refine wpAnyH_take (i := 11) (oi := ⟨some 76, _, _, _, _, _⟩) (v := ?v134) rfl (by kernel_rfl) (by kernel_rfl) (by kernel_rfl) (fun _ _ _ h => h) (Or.inl ⟨by rfl, ?h134⟩) (by assumption) ?r134
      case h134 => (intro w hSw; (try dsimp only at hSw); go_simp <;> with_reducible rfl)
      (try simp only [Act.put, List.setIfInBounds_toArray, List.set_cons_zero, List.set_cons_succ])
      refine wpAnyH_take (i := 12) (oi := ⟨some 77, _, _, _, _, _⟩) (v := ?v135) rfl (by kernel_rfl) (by kernel_rfl) (by kernel_rfl) (fun _ _ _ h => h) (Or.inl ⟨by rfl, ?h135⟩) (by assumption) ?r135
      case h135 => (intro w hSw; (try dsimp only at hSw); go_simp <;> with_reducible rfl)
      (try simp only [Act.put, List.setIfInBounds_toArray, List.set_cons_zero, List.set_cons_succ])
      refine wpAnyH_take (i := 13) (oi := ⟨some 78, _, _, _, _, _⟩) (v := ?v136) rfl (by kernel_rfl) (by kernel_rfl) (by kernel_rfl) (fun _ _ _ h => h) (Or.inl ⟨by rfl, ?h136⟩) (by assumption) ?r136
      case h136 => (intro w hSw; (try dsimp only at hSw); go_simp <;> with_reducible rfl)
      (try simp only [Act.put, List.setIfInBounds_toArray, List.set_cons_zero, List.set_cons_succ])
      refine wpAnyH_take (i := 14) (oi := ⟨some 79, _, _, _, _, _⟩) (v := ?v137) rfl (by kernel_rfl) (by kernel_rfl) (by kernel_rfl) (fun _ _ _ h => h) (Or.inl ⟨by rfl, ?h137⟩) (by assumption) ?r137
      case h137 => (intro w hSw; (try dsimp only at hSw); go_simp <;> with_reducible rfl)
      (try simp only [Act.put, List.setIfInBounds_toArray, List.set_cons_zero, List.set_cons_succ])
      refine wpAnyH_take (i := 15) (oi := ⟨some 80, _, _, _, _, _⟩) (v := ?v138) rfl (by kernel_rfl) (by kernel_rfl) (by kernel_rfl) (fun _ _ _ h => h) (Or.inl ⟨by rfl, ?h138⟩) (by assumption) ?r138
      case h138 => (intro w hSw; (try dsimp only at hSw); go_simp <;> with_reducible rfl)
      (try simp only [Act.put, List.setIfInBounds_toArray, List.set_cons_zero, List.set_cons_succ])
      refine wpAnyH_take (i := 16) (oi := ⟨some 81, _, _, _, _, _⟩) (v := ?v139) rfl (by kernel_rfl) (by kernel_rfl) (by kernel_rfl) (fun _ _ _ h => h) (Or.inl ⟨by rfl, ?h139⟩) (by assumption) ?r139
      case h139 => (intro w hSw; (try dsimp only at hSw); go_simp <;> with_reducible rfl)
      (try simp only [Act.put, List.setIfInBounds_toArray, List.set_cons_zero, List.set_cons_succ])
      refine wpAnyH_take (i := 17) (oi := ⟨some 82, _, _, _, _, _⟩) (v := ?v140) rfl (by kernel_rfl) (by kernel_rfl) (by kernel_rfl) (fun _ _ _ h => h) (Or.inl ⟨by rfl, ?h140⟩) (by assumption) ?r140
      case h140 => (intro w hSw; (try dsimp only at hSw); go_simp <;> with_reducible rfl)
      (try simp only [Act.put, List.setIfInBounds_toArray, List.set_cons_zero, List.set_cons_succ])
      refine wpAnyH_take (i := 18) (oi := ⟨some 83, _, _, _, _, _⟩) (v := ?v141) rfl (by kernel_rfl) (by kernel_rfl) (by kernel_rfl) (fun _ _ _ h => h) (Or.inl ⟨by rfl, ?h141⟩) (by assumption) ?r141
      case h141 => (intro w hSw; (try dsimp only at hSw); go_simp <;> with_reducible rfl)
      (try simp only [Act.put, List.setIfInBounds_toArray, List.set_cons_zero, List.set_cons_succ])
      refine wpAnyH_take (i := 19) (oi := ⟨some 84, _, _, _, _, _⟩) (v := ?v142) rfl (by kernel_rfl) (by kernel_rfl) (by kernel_rfl) (fun _ _ _ h => h) (Or.inl ⟨by rfl, ?h142⟩) (by assumption) ?r142
      case h142 => (intro w hSw; (try dsimp only at hSw); go_simp <;> with_reducible rfl)
      (try simp only [Act.put, List.setIfInBounds_toArray, List.set_cons_zero, List.set_cons_succ])
      refine wpAnyH_take (i := 20) (oi := ⟨some 85, _, _, _, _, _⟩) (v := ?v143) rfl (by kernel_rfl) (by kernel_rfl) (by kernel_rfl) (fun _ _ _ h => h) (Or.inl ⟨by rfl, ?h143⟩) (by assumption) ?r143
      case h143 => (intro w hSw; (try dsimp only at hSw); go_simp <;> with_reducible rfl)
      (try simp only [Act.put, List.setIfInBounds_toArray, List.set_cons_zero, List.set_cons_succ])
      refine wpAnyH_take (i := 21) (oi := ⟨some 86, _, _, _, _, _⟩) (v := ?v144) rfl (by kernel_rfl) (by kernel_rfl) (by kernel_rfl) (fun _ _ _ h => h) (Or.inl ⟨by rfl, ?h144⟩) (by assumption) ?r144
      case h144 => (intro w hSw; (try dsimp only at hSw); go_simp <;> with_reducible rfl)
      (try simp only [Act.put, List.setIfInBounds_toArray, List.set_cons_zero, List.set_cons_succ])
      refine wpAnyH_take (i := 22) (oi := ⟨some 87, _, _, _, _, _⟩) (v := ?v145) rfl (by kernel_rfl) (by kernel_rfl) (by kernel_rfl) (fun _ _ _ h => h) (Or.inl ⟨by rfl, ?h145⟩) (by assumption) ?r145
      case h145 => (intro w hSw; (try dsimp only at hSw); go_simp <;> with_reducible rfl)
      (try simp only [Act.put, List.setIfInBounds_toArray, List.set_cons_zero, List.set_cons_succ])
      refine wpAnyH_take (i := 23) (oi := ⟨some 88, _, _, _, _, _⟩) (v := ?v146) rfl (by kernel_rfl) (by kernel_rfl) (by kernel_rfl) (fun _ _ _ h => h) (Or.inl ⟨by rfl, ?h146⟩) (by assumption) ?r146
      case h146 => (intro w hSw; (try dsimp only at hSw); go_simp <;> with_reducible rfl)
      (try simp only [Act.put, List.setIfInBounds_toArray, List.set_cons_zero, List.set_cons_succ])
      refine wpAnyH_take (i := 24) (oi := ⟨some 89, _, _, _, _, _⟩) (v := ?v147) rfl (by kernel_rfl) (by kernel_rfl) (by kernel_rfl) (fun _ _ _ h => h) (Or.inl ⟨by rfl, ?h147⟩) (by assumption) ?r147
      case h147 => (intro w hSw; (try dsimp only at hSw); go_simp <;> with_reducible rfl)
      (try simp only [Act.put, List.setIfInBounds_toArray, List.set_cons_zero, List.set_cons_succ])
      refine wpAnyH_take (i := 25) (oi := ⟨some 90, _, _, _, _, _⟩) (v := ?v148) rfl (by kernel_rfl) (by kernel_rfl) (by kernel_rfl) (fun _ _ _ h => h) (Or.inl ⟨by rfl, ?h148⟩) (by assumption) ?r148
      case h148 => (intro w hSw; (try dsimp only at hSw); go_simp <;> with_reducible rfl)
      (try simp only [Act.put, List.setIfInBounds_toArray, List.set_cons_zero, List.set_cons_succ])
      refine wpAnyH_take (i := 26) (oi := ⟨some 91, _, _, _, _, _⟩) (v := ?v149) rfl (by kernel_rfl) (by kernel_rfl) (by kernel_rfl) (fun _ _ _ h => h) (Or.inl ⟨by rfl, ?h149⟩) (by assumption) ?r149
      case h149 => (intro w hSw; (try dsimp only at hSw); go_simp <;> with_reducible rfl)
      (try simp only [Act.put, List.setIfInBounds_toArray, List.set_cons_zero, List.set_cons_succ])
      refine wpAnyH_take (i := 27) (oi := ⟨some 92, _, _, _, _, _⟩) (v := ?v150) rfl (by kernel_rfl) (by kernel_rfl) (by kernel_rfl) (fun _ _ _ h => h) (Or.inl ⟨by rfl, ?h150⟩) (by assumption) ?r150
      case h150 => (intro w hSw; (try dsimp only at hSw); go_simp <;> with_reducible rfl)
      (try simp only [Act.put, List.setIfInBounds_toArray, List.set_cons_zero, List.set_cons_succ])
      refine wpAnyH_take (i := 28) (oi := ⟨some 93, _, _, _, _, _⟩) (v := ?v151) rfl (by kernel_rfl) (by kernel_rfl) (by kernel_rfl) (fun _ _ _ h => h) (Or.inl ⟨by rfl, ?h151⟩) (by assumption) ?r151
      case h151 => (intro w hSw; (try dsimp only at hSw); go_simp <;> with_reducible rfl)
      (try simp only [Act.put, List.setIfInBounds_toArray, List.set_cons_zero, List.set_cons_succ])
      refine wpAnyH_take (i := 29) (oi := ⟨some 94, _, _, _, _, _⟩) (v := ?v152) rfl (by kernel_rfl) (by kernel_rfl) (by kernel_rfl) (fun _ _ _ h => h) (Or.inl ⟨by rfl, ?h152⟩) (by assumption) ?r152
      case h152 => (intro w hSw; (try dsimp only at hSw); go_simp <;> with_reducible rfl)
      (try simp only [Act.put, List.setIfInBounds_toArray, List.set_cons_zero, List.set_cons_succ])
      refine wpAnyH_take (i := 30) (oi := ⟨some 95, _, _, _, _, _⟩) (v := ?v153) rfl (by kernel_rfl) (by kernel_rfl) (by kernel_rfl) (fun _ _ _ h => h) (Or.inl ⟨by rfl, ?h153⟩) (by assumption) ?r153
      case h153 => (intro w hSw; (try dsimp only at hSw); go_simp <;> with_reducible rfl)
      (try simp only [Act.put, List.setIfInBounds_toArray, List.set_cons_zero, List.set_cons_succ])
      refine wpAnyH_take (i := 31) (oi := ⟨some 96, _, _, _, _, _⟩) (v := ?v154) rfl (by kernel_rfl) (by kernel_rfl) (by kernel_rfl) (fun _ _ _ h => h) (Or.inl ⟨by rfl, ?h154⟩) (by assumption) ?r154
      case h154 => (intro w hSw; (try dsimp only at hSw); go_simp <;> with_reducible rfl)
      (try simp only [Act.put, List.setIfInBounds_toArray, List.set_cons_zero, List.set_cons_succ])
      refine wpAnyH_take (i := 32) (oi := ⟨some 97, _, _, _, _, _⟩) (v := ?v155) rfl (by kernel_rfl) (by kernel_rfl) (by kernel_rfl) (fun _ _ _ h => h) (Or.inl ⟨by rfl, ?h155⟩) (by assumption) ?r155
      case h155 => (intro w hSw; (try dsimp only at hSw); go_simp <;> with_reducible rfl)
      (try simp only [Act.put, List.setIfInBounds_toArray, List.set_cons_zero, List.set_cons_succ])
      refine wpAnyH_take (i := 33) (oi := ⟨some 98, _, _, _, _, _⟩) (v := ?v156) rfl (by kernel_rfl) (by kernel_rfl) (by kernel_rfl) (fun _ _ _ h => h) (Or.inl ⟨by rfl, ?h156⟩) (by assumption) ?r156
      case h156 => (intro w hSw; (try dsimp only at hSw); go_simp <;> with_reducible rfl)
      (try simp only [Act.put, List.setIfInBounds_toArray, List.set_cons_zero, List.set_cons_succ])
      refine wpAnyH_ready (rs := [34]) (by kernel_rfl) (by simp) ?_
      refine (AllReadyH.cons (o := ⟨some 99, _, _, _, _, _⟩) rfl (fun K hK => ?_) AllReadyH.nil)
      go_simp
      clear hHeld
      refine (equalSw_any _ _ S _ HN.out.1 HC.out.1 (by omega)).mono ?_
      rintro e U1 ⟨rfl, hbN⟩
      replace c0 := cell_beh c0 hbN (Nat.le_refl _)
      replace c1 := cell_beh c1 hbN (Nat.le_refl _)
      replace c2 := cell_beh c2 hbN (Nat.le_refl _)
      replace fx1 := cell_beh fx1 hbN (Nat.le_refl _)
      replace d0 := cell_beh d0 hbN (Nat.le_refl _)
      replace d1 := cell_beh d1 hbN (Nat.le_refl _)
      replace d2 := cell_beh d2 hbN (Nat.le_refl _)
      replace y0 := cell_beh y0 hbN (Nat.le_refl _)
      replace y1 := cell_beh y1 hbN (Nat.le_refl _)
      replace y2 := cell_beh y2 hbN (Nat.le_refl _)
      replace y3 := cell_beh y3 hbN (Nat.le_refl _)
      replace y4 := cell_beh y4 hbN (Nat.le_refl _)
      replace p0 := cell_beh p0 hbN (Nat.le_refl _)
      replace p1 := cell_beh p1 hbN (Nat.le_refl _)
      replace p2 := cell_beh p2 hbN (Nat.le_refl _)
      replace p3 := cell_beh p3 hbN (Nat.le_refl _)
      replace p4 := cell_beh p4 hbN (Nat.le_refl _)
      replace HC := hide (HC.out.below hbN (Nat.le_refl _))
      replace HD1 := hide (HD1.out.below hbN (Nat.le_refl _))
      replace HN := hide (HN.out.below hbN (Nat.le_refl _))
      replace k0 := k0.trans (hbN.mono k0.size)
      clear hbN
      refine hK.out _ _ ⟨c0, c1, c2, fx1, d0, d1, d2, y0, y1, y2, y3, y4, p0, p1, p2, p3, p4⟩ (fun hHeld => ?_)
      clear hK K
      (try simp only [Act.put, List.setIfInBounds_toArray, List.set_cons_zero, List.set_cons_succ])
      refine wpAnyH_take (i := 35) (oi := ⟨some 100, _, _, _, _, _⟩) (v := ?v157) rfl (by kernel_rfl) (by kernel_rfl) (by kernel_rfl) (fun _ _ _ h => h) (Or.inl ⟨by rfl, ?h157⟩) (by assumption) ?r157
      case h157 => (intro w hSw; (try dsimp only at hSw); go_simp <;> with_reducible rfl)
      (try simp only [Act.put, List.setIfInBounds_toArray, List.set_cons_zero, List.set_cons_succ])
      refine wpAnyH_take (i := 36) (oi := ⟨some 101, _, _, _, _, _⟩) (v := ?v158) rfl (by kernel_rfl) (by kernel_rfl) (by kernel_rfl) (fun _ _ _ h => h) (Or.inl ⟨by rfl, ?h158⟩) (by assumption) ?r158
      case h158 => (intro w hSw; (try dsimp only at hSw); go_simp <;> with_reducible rfl)
      (try simp only [Act.put, List.setIfInBounds_toArray, List.set_cons_zero, List.set_cons_succ])
      refine wpAnyH_take (i := 37) (oi := ⟨some 102, _, _, _, _, _⟩) (v := ?v159) rfl (by kernel_rfl) (by kernel_rfl) (by kernel_rfl) (fun _ _ _ h => h) (Or.inl ⟨by rfl, ?h159⟩) (by assumption) ?r159
      case h159 => (intro w hSw; (try dsimp only at hSw); go_simp <;> with_reducible rfl)
      (try simp only [Act.put, List.setIfInBounds_toArray, List.set_cons_zero, List.set_cons_succ])
      refine wpAnyH_take (i := 38) (oi := ⟨some 103, _, _, _, _, _⟩) (v := ?v160) rfl (by kernel_rfl) (by kernel_rfl) (by kernel_rfl) (fun _ _ _ h => h) (Or.inl ⟨by rfl, ?h160⟩) (by assumption) ?r160
      case h160 => (intro w hSw; (try dsimp only at hSw); go_simp <;> with_reducible rfl)
      (try simp only [Act.put, List.setIfInBounds_toArray, List.set_cons_zero, List.set_cons_succ])
      refine wpAnyH_take (i := 39) (oi := ⟨some 104, _, _, _, _, _⟩) (v := ?v161) rfl (by kernel_rfl) (by kernel_rfl) (by kernel_rfl) (fun _ _ _ h => h) (Or.inl ⟨by rfl, ?h161⟩) (by assumption) ?r161
      case h161 => (intro w hSw; (try dsimp only at hSw); go_simp <;> with_reducible rfl)
      (try simp only [Act.put, List.setIfInBounds_toArray, List.set_cons_zero, List.set_cons_succ])
      refine wpAnyH_take (i := 40) (oi := ⟨some 105, _, _, _, _, _⟩) (v := ?v162) rfl (by kernel_rfl) (by kernel_rfl) (by kernel_rfl) (fun _ _ _ h => h) (Or.inl ⟨by rfl, ?h162⟩) (by assumption) ?r162
      case h162 => (intro w hSw; (try dsimp only at hSw); go_simp <;> with_reducible rfl)
      (try simp only [Act.put, List.setIfInBounds_toArray, List.set_cons_zero, List.set_cons_succ])
      refine wpAnyH_ready (rs := [41]) (by kernel_rfl) (by simp) ?_
      refine (AllReadyH.cons (o := ⟨some 106, _, _, _, _, _⟩) rfl (fun K hK => ?_) AllReadyH.nil)
      go_simp
      clear hHeld
      refine (equalAc_any _ _ A _ HN.out.2.2 HC.out.2.2 (by omega)).mono ?_
      rintro e U2 ⟨rfl, hbN⟩
      replace c0 := cell_beh c0 hbN (Nat.le_refl _)
      replace c1 := cell_beh c1 hbN (Nat.le_refl _)
      replace c2 := cell_beh c2 hbN (Nat.le_refl _)
      replace fx1 := cell_beh fx1 hbN (Nat.le_refl _)
      replace d0 := cell_beh d0 hbN (Nat.le_refl _)
      replace d1 := cell_beh d1 hbN (Nat.le_refl _)
      replace d2 := cell_beh d2 hbN (Nat.le_refl _)
      replace y0 := cell_beh y0 hbN (Nat.le_refl _)
      replace y1 := cell_beh y1 hbN (Nat.le_refl _)
      replace y2 := cell_beh y2 hbN (Nat.le_refl _)
      replace y3 := cell_beh y3 hbN (Nat.le_refl _)
      replace y4 := cell_beh y4 hbN (Nat.le_refl _)
      replace p0 := cell_beh p0 hbN (Nat.le_refl _)
      replace p1 := cell_beh p1 hbN (Nat.le_refl _)
      replace p2 := cell_beh p2 hbN (Nat.le_refl _)
      replace p3 := cell_beh p3 hbN (Nat.le_refl _)
      replace p4 := cell_beh p4 hbN (Nat.le_refl _)
      replace HC := hide (HC.out.below hbN (Nat.le_refl _))
      replace HD1 := hide (HD1.out.below hbN (Nat.le_refl _))
      replace HN := hide (HN.out.below hbN (Nat.le_refl _))
      replace k0 := k0.trans (hbN.mono k0.size)
      clear hbN
      refine hK.out _ _ ⟨c0, c1, c2, fx1, d0, d1, d2, y0, y1, y2, y3, y4, p0, p1, p2, p3, p4⟩ (fun hHeld => ?_)
      clear hK K
      (try simp only [Act.put, List.setIfInBounds_toArray, List.set_cons_zero, List.set_cons_succ])
      refine wpAnyH_take (i := 42) (oi := ⟨some 107, _, _, _, _, _⟩) (v := ?v163) rfl (by kernel_rfl) (by kernel_rfl) (by kernel_rfl) (fun _ _ _ h => h) (Or.inl ⟨by rfl, ?h163⟩) (by assumption) ?r163
      case h163 => (intro w hSw; (try dsimp only at hSw); go_simp <;> with_reducible rfl)
      (try simp only [Act.put, List.setIfInBounds_toArray, List.set_cons_zero, List.set_cons_succ])
      refine wpAnyH_take (i := 43) (oi := ⟨some 108, _, _, _, _, _⟩) (v := ?v164) rfl (by kernel_rfl) (by kernel_rfl) (by kernel_rfl) (fun _ _ _ h => h) (Or.inl ⟨by rfl, ?h164⟩) (by assumption) ?r164
      case h164 => (intro w hSw; (try dsimp only at hSw); go_simp <;> with_reducible rfl)
      (try simp only [Act.put, List.setIfInBounds_toArray, List.set_cons_zero, List.set_cons_succ])
      refine wpAnyH_take (i := 44) (oi := ⟨some 109, _, _, _, _, _⟩) (v := ?v165) rfl (by kernel_rfl) (by kernel_rfl) (by kernel_rfl) (fun _ _ _ h => h) (Or.inl ⟨by rfl, ?h165⟩) (by assumption) ?r165
      case h165 => (intro w hSw; (try dsimp only at hSw); go_simp <;> with_reducible rfl)
      (try simp only [Act.put, List.setIfInBounds_toArray, List.set_cons_zero, List.set_cons_succ])
      refine wpAnyH_take (i := 45) (oi := ⟨some 110, _, _, _, _, _⟩) (v := ?v166) rfl (by kernel_rfl) (by kernel_rfl) (by kernel_rfl) (fun _ _ _ h => h) (Or.inl ⟨by rfl, ?h166⟩) (by assumption) ?r166
      case h166 => (intro w hSw; (try dsimp only at hSw); go_simp <;> with_reducible rfl)
      (try simp only [Act.put, List.setIfInBounds_toArray, List.set_cons_zero, List.set_cons_succ])
      refine wpAnyH_take (i := 47) (oi := ⟨some 112, _, _, _, _, _⟩) (v := ?v167) rfl (by kernel_rfl) (by kernel_rfl) (by kernel_rfl) (fun _ _ _ h => h) (Or.inl ⟨by rfl, ?h167⟩) (by assumption) ?r167
      case h167 => (intro w hSw; (try dsimp only at hSw); go_simp <;> with_reducible rfl)
      (try simp only [Act.put, List.setIfInBounds_toArray, List.set_cons_zero, List.set_cons_succ])
      refine wpAnyH_take (i := 48) (oi := ⟨some 113, _, _, _, _, _⟩) (v := ?v168) rfl (by kernel_rfl) (by kernel_rfl) (by kernel_rfl) (fun _ _ _ h => h) (Or.inl ⟨by rfl, ?h168⟩) (by assumption) ?r168
      case h168 => (intro w hSw; (try dsimp only at hSw); go_simp <;> with_reducible rfl)
      (try simp only [Act.put, List.setIfInBounds_toArray, List.set_cons_zero, List.set_cons_succ])
      refine wpAnyH_take (i := 49) (oi := ⟨some 114, _, _, _, _, _⟩) (v := ?v169) rfl (by kernel_rfl) (by kernel_rfl) (by kernel_rfl) (fun _ _ _ h => h) (Or.inl ⟨by rfl, ?h169⟩) (by assumption) ?r169
      case h169 => (intro w hSw; (try dsimp only at hSw); go_simp <;> with_reducible rfl)
      (try simp only [Act.put, List.setIfInBounds_toArray, List.set_cons_zero, List.set_cons_succ])
      refine wpAnyH_take (i := 51) (oi := ⟨some 116, _, _, _, _, _⟩) (v := ?v170) rfl (by kernel_rfl) (by kernel_rfl) (by kernel_rfl) (fun _ _ _ h => h) (Or.inl ⟨by rfl, ?h170⟩) (by assumption) ?r170
      case h170 => (intro w hSw; (try dsimp only at hSw); go_simp <;> with_reducible rfl)
      (try simp only [Act.put, List.setIfInBounds_toArray, List.set_cons_zero, List.set_cons_succ])
      refine wpAnyH_take (i := 52) (oi := ⟨some 117, _, _, _, _, _⟩) (v := ?v171) rfl (by kernel_rfl) (by kernel_rfl) (by kernel_rfl) (fun _ _ _ h => h) (Or.inl ⟨by rfl, ?h171⟩) (by assumption) ?r171
      case h171 => (intro w hSw; (try dsimp only at hSw); go_simp <;> with_reducible rfl)
      (try simp only [Act.put, List.setIfInBounds_toArray, List.set_cons_zero, List.set_cons_succ])
      refine wpAnyH_ready (rs := [46]) (by kernel_rfl) (by simp) ?_
      refine (AllReadyH.cons (o := ⟨some 111, _, _, _, _, _⟩) rfl (fun K hK => ?_) AllReadyH.nil)
      have kc : Below U2.heap.size U2 U2 := Below.refl _ _
      have sv_c0 := c0
      have sv_c1 := c1
      have sv_c2 := c2
      have sv_fx1 := fx1
      have sv_d0 := d0
      have sv_d1 := d1
      have sv_d2 := d2
      have sv_y0 := y0
      have sv_y1 := y1
      have sv_y2 := y2
      have sv_y3 := y3
      have sv_y4 := y4
      have sv_p0 := p0
      have sv_p1 := p1
      have sv_p2 := p2
      have sv_p3 := p3
      have sv_p4 := p4
      have sv_HC := HC
      have sv_HD1 := HD1
      have sv_HN := HN
      have sv_k0 := k0
      go_simp
      clear hHeld
      refine (clonePr_any _ P _ HC.out.2.1 (by omega) (by omega)).mono ?_
      rintro e U3 ⟨uo, rfl, ho9, hbN⟩
      replace c0 := cell_beh c0 hbN (Nat.le_refl _)
      replace c1 := cell_beh c1 hbN (Nat.le_refl _)
      replace c2 := cell_beh c2 hbN (Nat.le_refl _)
      replace fx1 := cell_beh fx1 hbN (Nat.le_refl _)
      replace d0 := cell_beh d0 hbN (Nat.le_refl _)
      replace d1 := cell_beh d1 hbN (Nat.le_refl _)
      replace d2 := cell_beh d2 hbN (Nat.le_refl _)
      replace y0 := cell_beh y0 hbN (Nat.le_refl _)
      replace y1 := cell_beh y1 hbN (Nat.le_refl _)
      replace y2 := cell_beh y2 hbN (Nat.le_refl _)
      replace y3 := cell_beh y3 hbN (Nat.le_refl _)
      replace y4 := cell_beh y4 hbN (Nat.le_refl _)
      replace p0 := cell_beh p0 hbN (Nat.le_refl _)
      replace p1 := cell_beh p1 hbN (Nat.le_refl _)
      replace p2 := cell_beh p2 hbN (Nat.le_refl _)
      replace p3 := cell_beh p3 hbN (Nat.le_refl _)
      replace p4 := cell_beh p4 hbN (Nat.le_refl _)
      replace HC := hide (HC.out.below hbN (Nat.le_refl _))
      replace HD1 := hide (HD1.out.below hbN (Nat.le_refl _))
      replace HN := hide (HN.out.below hbN (Nat.le_refl _))
      replace k0 := k0.trans (hbN.mono k0.size)
      replace kc := kc.trans (hbN.mono kc.size)
      have hge := own_ge ho9
      have HO9 := hide ho9
      obtain ⟨gg, cg, rfl, _, hgl⟩ := ho9.form (by omega)
      clear ho9 hbN
      refine hK.out _ _ ⟨c0, c1, c2, fx1, d0, d1, d2, y0, y1, y2, y3, y4, p0, p1, p2, p3, p4⟩ (fun hHeld => ?_)
      clear hK K
      (try simp only [Act.put, List.setIfInBounds_toArray, List.set_cons_zero, List.set_cons_succ])
      refine wpAnyH_ready (rs := [50]) (by kernel_rfl) (by simp) ?_
      refine (AllReadyH.cons (o := ⟨some 115, _, _, _, _, _⟩) rfl (fun K hK => ?_) AllReadyH.nil)
      go_simp
      clear hHeld
      refine (deletePr_any P _ gg cg k _ HO9.out hlt (by omega)).mono ?_
      rintro e U4 ⟨rfl, ho10, hg10⟩
      have hbX := kc.grown hg10 kc.size hge
      have HO10 := hide ho10
      clear ho10 hg10 kc HO9
      replace c0 := cell_beh sv_c0 hbX (Nat.le_refl _)
      clear sv_c0
      replace c1 := cell_beh sv_c1 hbX (Nat.le_refl _)
      clear sv_c1
      replace c2 := cell_beh sv_c2 hbX (Nat.le_refl _)
      clear sv_c2
      replace fx1 := cell_beh sv_fx1 hbX (Nat.le_refl _)
      clear sv_fx1
      replace d0 := cell_beh sv_d0 hbX (Nat.le_refl _)
      clear sv_d0
      replace d1 := cell_beh sv_d1 hbX (Nat.le_refl _)
      clear sv_d1
      replace d2 := cell_beh sv_d2 hbX (Nat.le_refl _)
      clear sv_d2
      replace y0 := cell_beh sv_y0 hbX (Nat.le_refl _)
      clear sv_y0
      replace y1 := cell_beh sv_y1 hbX (Nat.le_refl _)
      clear sv_y1
      replace y2 := cell_beh sv_y2 hbX (Nat.le_refl _)
      clear sv_y2
      replace y3 := cell_beh sv_y3 hbX (Nat.le_refl _)
      clear sv_y3
      replace y4 := cell_beh sv_y4 hbX (Nat.le_refl _)
      clear sv_y4
      replace p0 := cell_beh sv_p0 hbX (Nat.le_refl _)
      clear sv_p0
      replace p1 := cell_beh sv_p1 hbX (Nat.le_refl _)
      clear sv_p1
      replace p2 := cell_beh sv_p2 hbX (Nat.le_refl _)
      clear sv_p2
      replace p3 := cell_beh sv_p3 hbX (Nat.le_refl _)
      clear sv_p3
      replace p4 := cell_beh sv_p4 hbX (Nat.le_refl _)
      clear sv_p4
      replace HC := hide (sv_HC.out.below hbX (Nat.le_refl _))
      clear sv_HC
      replace HD1 := hide (sv_HD1.out.below hbX (Nat.le_refl _))
      clear sv_HD1
      replace HN := hide (sv_HN.out.below hbX (Nat.le_refl _))
      clear sv_HN
      replace k0 := sv_k0.trans (hbX.mono sv_k0.size)
      clear sv_k0 hbX
      refine hK.out _ _ ⟨c0, c1, c2, fx1, d0, d1, d2, y0, y1, y2, y3, y4, p0, p1, p2, p3, p4⟩ (fun hHeld => ?_)
      clear hK K
      (try simp only [Act.put, List.setIfInBounds_toArray, List.set_cons_zero, List.set_cons_succ])
      refine wpAnyH_ready (rs := [53]) (by kernel_rfl) (by simp) ?_
      refine (AllReadyH.cons (o := ⟨some 118, _, _, _, _, _⟩) rfl (fun K hK => ?_) AllReadyH.nil)
      go_simp
      clear hHeld
      refine (equalPr_any _ _ D _ (RowAt.of_own prC_len (by omega) (l := D) (by rw [HDL.out, HDE.out]; exact HO10.out)) HD1.out.2.1 (by have := HDL.out; omega)).mono ?_
      rintro e U5 ⟨rfl, hbN⟩
      replace c0 := cell_beh c0 hbN (Nat.le_refl _)
      replace c1 := cell_beh c1 hbN (Nat.le_refl _)
      replace c2 := cell_beh c2 hbN (Nat.le_refl _)
      replace fx1 := cell_beh fx1 hbN (Nat.le_refl _)
      replace d0 := cell_beh d0 hbN (Nat.le_refl _)
      replace d1 := cell_beh d1 hbN (Nat.le_refl _)
      replace d2 := cell_beh d2 hbN (Nat.le_refl _)
      replace y0 := cell_beh y0 hbN (Nat.le_refl _)
      replace y1 := cell_beh y1 hbN (Nat.le_refl _)
      replace y2 := cell_beh y2 hbN (Nat.le_refl _)
      replace y3 := cell_beh y3 hbN (Nat.le_refl _)
      replace y4 := cell_beh y4 hbN (Nat.le_refl _)
      replace p0 := cell_beh p0 hbN (Nat.le_refl _)
      replace p1 := cell_beh p1 hbN (Nat.le_refl _)
      replace p2 := cell_beh p2 hbN (Nat.le_refl _)
      replace p3 := cell_beh p3 hbN (Nat.le_refl _)
      replace p4 := cell_beh p4 hbN (Nat.le_refl _)
      replace HC := hide (HC.out.below hbN (Nat.le_refl _))
      replace HD1 := hide (HD1.out.below hbN (Nat.le_refl _))
      replace HN := hide (HN.out.below hbN (Nat.le_refl _))
      replace k0 := k0.trans (hbN.mono k0.size)
      clear hbN
      refine hK.out _ _ ⟨c0, c1, c2, fx1, d0, d1, d2, y0, y1, y2, y3, y4, p0, p1, p2, p3, p4⟩ (fun hHeld => ?_)
      clear hK K
      (try simp only [Act.put, List.setIfInBounds_toArray, List.set_cons_zero, List.set_cons_succ])
      refine wpAnyH_take (i := 54) (oi := ⟨some 119, _, _, _, _, _⟩) (v := ?v172) rfl (by kernel_rfl) (by kernel_rfl) (by kernel_rfl) (fun _ _ _ h => h) (Or.inl ⟨by rfl, ?h172⟩) (by assumption) ?r172
      case h172 => (intro w hSw; (try dsimp only at hSw); go_simp <;> with_reducible rfl)
      (try simp only [Act.put, List.setIfInBounds_toArray, List.set_cons_zero, List.set_cons_succ])
      refine wpAnyH_take (i := 55) (oi := ⟨some 6, _, _, _, _, _⟩) (v := ?v173) rfl (by kernel_rfl) (by kernel_rfl) (by kernel_rfl) (fun _ _ _ h => h) (Or.inl ⟨by rfl, ?h173⟩) (by assumption) ?r173
      case h173 => (intro w hSw; (try dsimp only at hSw); go_simp <;> with_reducible rfl)
      (try simp only [Act.put, List.setIfInBounds_toArray, List.set_cons_zero, List.set_cons_succ])
      refine wpAnyH_done (by kernel_rfl) ?_ _
      clear hHeld
      go_wp2_with fail
      go_ret
      exact ⟨rfl, k0⟩

set_option maxRecDepth 100000 in
theorem confsDrop_lifted (os : Os) (started : os.Started) (H : Type) (enc : TypeId × Value → H) :
    ReturnsInHanded {} Tryz.checked os 3 .any (Rows.confsDropSpec.pre6 enc Tryz.prog Tryz.f3 Rows.confsDropRow.domain false) (Rows.confsDropSpec.post enc Tryz.prog Tryz.f3 false true false false) := by
  refine returnsInHanded_of_change (C := Tryz.checked) own started (by kernel_rfl) Tryz.func3
    (ChangeSpec.witness6 (enc := enc) (C := Tryz.checked) false ⟨#[], #[.slice none 0 0, .int .i64 0, .int .i64 0], []⟩ 8 (by kernel_rfl) (by kernel_rfl) (by kernel_rfl) (by kernel_rfl)) ?_
  intro W base args ds gs before hval0 hW hcnd _
  have hval : ∀ (j : Nat) t v, Tryz.f3.params[j]? = some t → args[j]? = some v → Value.okWide Tryz.prog W .any base t v := hval0
  have hW' := hW
  obtain ⟨p, q, hA0, hV, rfl, hfz, hnd⟩ := hW
  have hA : DataW.TrodAll enc Tryz.prog W 0 (fun _ => true) true Tryz.f3.params.toList args.toList ds p := hA0
  rw [Tryz.params3] at hA hval
  obtain ⟨v0, vs0, d0, ds0, p0, q0, hargs, rfl, rfl, h0, r0⟩ := trodAll_cons hA
  obtain ⟨v1, vs1, d1, ds1, p1, q1, rfl, rfl, rfl, h1, r1⟩ := trodAll_cons r0
  obtain ⟨v2, vs2, d2, ds2, p2, q2, rfl, rfl, rfl, h2, r2⟩ := trodAll_cons r1
  obtain ⟨rfl, rfl, rfl⟩ := trodAll_nil r2
  obtain rfl : args = #[v0, v1, v2] := by cases args; simp_all
  obtain ⟨rfl, rfl⟩ := trodVars_none hV
  have k0 := h0
  have lt0 : ∀ x ∈ p0, x.block < W.heap.size := by obtain ⟨m, hm⟩ := k0; exact DataW.trod_lt m _ _ _ hm
  obtain ⟨l0, hl0⟩ := open_raws (hval 0 22 v0 rfl rfl) h0
  obtain ⟨x1, rfl, rfl, rfl, wx1⟩ := open_int Tryz.underlying3 (hval 1 3 v1 rfl rfl) h1
  obtain ⟨x2, rfl, rfl, rfl, wx2⟩ := open_int Tryz.underlying3 (hval 2 3 v2 rfl rfl) h2
  clear hA0 hval0
  refine (confsDrop_any v0 l0 x1 x2 W hl0 (i64_in wx1).1 (i64_in wx1).2 (i64_in wx2).1 (i64_in wx2).2).mono fun e W' ⟨he, bel⟩ => ?_
  subst he
  exact ⟨_, rfl, _, _, _, [], _, [], hW', trodAll_mk1 (shut_bool Tryz.underlying4 _), (trodAll_cons_mk (Below.trod laidOut (by kernel_rfl) (of_decide_eq_true (by kernel_rfl)) k0 bel lt0) (trodAll_cons_mk (shut_int Tryz.underlying3 wx1) (trodAll_cons_mk (shut_int Tryz.underlying3 wx2) trodAll_mk0))), rfl, bel.frame _, fun h => by cases h⟩

theorem confsDrop_holds : Rows.ConfsDropSaid :=
  OpenClaim.holds_of_wide 3 Tryz.f3 rfl rfl rfl rfl rfl rfl rfl ⟨rfl, rfl, rfl, rfl, rfl⟩ rfl rfl rfl rfl rfl (by kernel_rfl) Tryz.func3 (by kernel_rfl)
    (of_decide_eq_true (by kernel_rfl)) (by unfold Func.isWrapper; first | (rw [if_pos (by decide +kernel)]; kernel_rfl) | (rw [if_neg (by decide +kernel)]; exact ⟨rfl, rfl⟩))
    (fun os started H enc _ => confsDrop_lifted os started H enc)

end Go.Proofs.YtonhfgdnkkkikadGreat
