/- The law TopSilent returns true at every list of raw numbers and at every raw number, and both read behind the call as they read before; no condition. -/
import Derived.Test.YtjcomoinggiedaaGreatJTopSilent9
namespace Go.Proofs.YtjcomoinggiedaaGreat
open Go.ChangeShapes Go.WideShapes Go.ChangeAt Go.RowKit
set_option linter.unusedVariables false
set_option maxRecDepth 100000

theorem wp_sameV {P : Program} {c : Code} {Q : Exit → Act → World → Prop} {a : Act} {w : World} (F : Value → World → Prop) (A1 : Value → Value → Value → Act) (h : c.wp P (fun e a' w' => e = .normal ∧ ∃ x y z, a' = A1 x y z ∧ F z w') a w) (hq : ∀ x y z w', F z w' → Q .normal (A1 x y z) w') : c.wp P Q a w :=
  Code.wp_mono (fun e a' w' ⟨he, x, y, z, ha, hf⟩ => by subst he; subst ha; exact hq x y z w' hf) h
theorem own_row {α : Type} {C : α → List Value} {sz : Nat} (hC : ∀ x, (C x).length = sz) (d : α) {w : World} {B e : Nat} {v : Value} {l : List α} (h : w.ownsRow B e sz v l.length (l.flatMap C)) : RowAt C sz w v l := by
  obtain ⟨oo, oc, rfl, hoc, hg⟩ := own_formA h
  by_cases h0 : l.length = 0
  · obtain ⟨_, ⟨e', _⟩ | ⟨g, cap, cur, e', _⟩⟩ := id h
    · simp only [Value.slice.injEq] at e'
      obtain ⟨rfl, _, rfl⟩ := e'
      exact ⟨none, 0, rfl, fun _ => rfl, .inl h0⟩
    · simp only [Value.slice.injEq] at e'
      obtain ⟨rfl, _⟩ := e'
      exact ⟨_, oc, rfl, (fun h => by cases h), .inl h0⟩
  · obtain ⟨g, rfl, hgB, hgw⟩ := hg (by omega)
    refine ⟨_, oc, rfl, (fun h => by cases h), .inr ⟨g, 0, rfl, hoc, fun i x hi j u hj => ?_⟩⟩
    have hi' := (List.getElem?_eq_some_iff.1 hi).1
    have e : l.getD i d = x := by rw [List.getD_eq_getElem?_getD, hi]; rfl
    have := own_range hC d h hi' j u (by rw [e]; exact hj)
    rwa [Nat.zero_add]
theorem sizeRw : (Tryz.prog.info? 24).map (·.size) = some 4 := by kernel_rfl
set_option maxHeartbeats 2000000 in
theorem topSilent_any (lv : Value) (l : List Rw) (r : Rw) (w : World) (hL : RowAt rwC 4 w lv l) :
    Calls Tryz.prog 6 #[lv, .agg #[.int .i64 r.k, .int .i64 r.a, .int .i64 r.b, .int .i64 r.c]] w fun e w' => e = .returned (.bool true) ∧ Below w.heap.size w w' := by
  have HL := hide (fun W (hW : Below w.heap.size w W) => conf_any l lv W (RowAt.below hL hW (Nat.le_refl _)))
  have HFK := hide (fun s1 p1 a1 s2 p2 a2 S P A W hC hl hP => frameK_any s1 p1 a1 s2 p2 a2 S P A r W hC hl hP)
  obtain ⟨la, lc, rfl⟩ := hL.slice
  clear hL
  generalize r.k = r0 at *
  generalize r.a = r1 at *
  generalize r.b = r2 at *
  generalize r.c = r3 at *
  obtain ⟨W0, hW0⟩ : ∃ W0, W0 = w.alloc (.cells #[.int .i64 r0, .int .i64 r1, .int .i64 r2, .int .i64 r3] 24) := ⟨_, rfl⟩
  have kb : Below w.heap.size w W0 := by rw [hW0]; exact (Below.refl _ w).alloc (Nat.le_refl _) _
  have HB0 : Hid (Box W0 w.heap.size [.int .i64 r0, .int .i64 r1, .int .i64 r2, .int .i64 r3]) := by rw [hW0]; exact hide (Box.new w [.int .i64 r0, .int .i64 r1, .int .i64 r2, .int .i64 r3] 24)
  have HW0 := hide hW0.symm
  clear hW0
  go_enter Tryz.func6, Tryz.ntmps6
  go_wp2_with (rw [HW0.out])
  refine (unhide HL _ kb).mono ?_
  rintro e w1 ⟨su, pu, au, rfl, S, P, A, hC, hF, hb1⟩
  have HC := hide hC
  have HF := hide hF
  obtain ⟨s1, s2, rfl⟩ := hC.1.slice
  obtain ⟨p1, p2, rfl⟩ := hC.2.1.slice
  obtain ⟨a1, a2, rfl⟩ := hC.2.2.slice
  replace HB0 := hide (HB0.out.below hb1)
  replace kb := kb.trans (hb1.mono kb.size)
  have l1 := HB0.out.lt
  clear hC hF hb1 HL HW0
  obtain ⟨W2, hW2⟩ : ∃ W2, W2 = w1.alloc (.cells #[.slice s1 S.length s2, .slice p1 P.length p2, .slice a1 A.length a2] 29) := ⟨_, rfl⟩
  have hb2 : Below w1.heap.size w1 W2 := by rw [hW2]; exact (Below.refl _ _).alloc (Nat.le_refl _) _
  have HB1 : Hid (Box W2 w1.heap.size [.slice s1 S.length s2, .slice p1 P.length p2, .slice a1 A.length a2]) := by rw [hW2]; exact hide (Box.new w1 [.slice s1 S.length s2, .slice p1 P.length p2, .slice a1 A.length a2] 29)
  replace HB0 := hide (HB0.out.below hb2)
  replace HC := hide (HC.out.below hb2 (Nat.le_refl _))
  replace kb := kb.trans (hb2.mono kb.size)
  have HW2 := hide hW2.symm
  clear hb2 hW2
  obtain ⟨n1, n2, n3⟩ := may_len HF.out.1
  have HPI : Hid (∀ p ∈ P, PrIn p) := by have hm := HF.out.1; unfold may at hm; rw [Bool.and_eq_true, Bool.and_eq_true] at hm; exact hide (pr_all hm.1.1 hm.1.2).2
  go_wp2_with (first | rw [HW2.out] | (refine wpList_load_mid rfl 29 (.tmp 5) rfl w1.heap.size 0 rfl _ _ HB1.out.range Tryz.underlying29 rfl sizeConf ?_) | (refine wpList_load_mid rfl 24 (.tmp 3) rfl w.heap.size 0 rfl _ _ HB0.out.range Tryz.underlying24 rfl sizeRw ?_))
  refine (unhide HFK s1 p1 a1 s2 p2 a2 S P A _ HC.out (by omega) HPI.out).mono ?_
  rintro e w3 ⟨id, d, s, kd, a, b, t, o, body, rfl, ⟨hfl, hid⟩, hb3⟩
  have hbs := (fault_parts hfl).1
  replace HB1 := hide (HB1.out.below hb3)
  replace HC := hide (HC.out.below hb3 (Nat.le_refl _))
  replace kb := kb.trans (hb3.mono kb.size)
  have l3 := HB1.out.lt
  clear hfl hid hb3 HFK HW2 HPI HB0
  obtain ⟨W4, hW4⟩ : ∃ W4, W4 = w3.alloc (.cells #[.int .i64 d, .int .i64 s, .int .i64 kd, .int .i64 a, .int .i64 b, .int .i64 t, .int .i64 o, .string body] 32) := ⟨_, rfl⟩
  have hb4 : Below w3.heap.size w3 W4 := by rw [hW4]; exact (Below.refl _ _).alloc (Nat.le_refl _) _
  have HB2 : Hid (Box W4 w3.heap.size [.int .i64 d, .int .i64 s, .int .i64 kd, .int .i64 a, .int .i64 b, .int .i64 t, .int .i64 o, .string body]) := by rw [hW4]; exact hide (Box.new w3 [.int .i64 d, .int .i64 s, .int .i64 kd, .int .i64 a, .int .i64 b, .int .i64 t, .int .i64 o, .string body] 32)
  replace HB1 := hide (HB1.out.below hb4)
  replace HC := hide (HC.out.below hb4 (Nat.le_refl _))
  replace kb := kb.trans (hb4.mono kb.size)
  have HW4 := hide hW4.symm
  clear hb4 hW4
  go_wp2_with (rw [HW4.out])
  clear HW4
  obtain ⟨i0, hi, hz0, hz1, hz2⟩ := info_parts infoAct2
  have HM := hide HF.out.1
  apply wp_sameV (fun z w' => RowAt axC 28 w' z (wantL S P A ++ [sendX id d s kd a b t o body]) ∧ Below w.heap.size w w')
  · refine wp_region_held_drew (S := (fun w' => w'.rangeAt w1.heap.size 0 [.slice s1 S.length s2, .slice p1 P.length p2, .slice a1 A.length a2] ∧ w'.rangeAt w3.heap.size 0 [.int .i64 d, .int .i64 s, .int .i64 kd, .int .i64 a, .int .i64 b, .int .i64 t, .int .i64 o, .string body])) (by kernel_rfl) ⟨HB1.out.range, HB2.out.range⟩ (fun hHeld => ?_)
    refine wpAnyH_take (i := 0) (oi := ⟨some 20, _, _, _, _, _⟩) (v := .agg #[.slice s1 S.length s2, .slice p1 P.length p2, .slice a1 A.length a2]) rfl (by kernel_rfl) (by kernel_rfl) (by kernel_rfl) (fun _ _ _ h => absurd h.1 (by simp)) (yieldsIf_load_mid (by rfl) 29 (.tmp 5) rfl w1.heap.size 0 rfl [.slice s1 S.length s2, .slice p1 P.length p2, .slice a1 A.length a2] _ (fun w h => h.1) Tryz.underlying29 rfl sizeConf) (by assumption) ?_
    (try simp only [Act.put, List.setIfInBounds_toArray, List.set_cons_zero, List.set_cons_succ])
    refine wpAnyH_take (i := 2) (oi := ⟨some 22, _, _, _, _, _⟩) (v := ?v1) rfl (by kernel_rfl) (by kernel_rfl) (by kernel_rfl) (fun _ _ _ h => absurd h.1 (by simp)) (Or.inl ⟨by rfl, ?h1⟩) (by assumption) ?r1
    case h1 => (intro w hSw; (try dsimp only at hSw); go_simp <;> with_reducible rfl)
    (try simp only [Act.put, List.setIfInBounds_toArray, List.set_cons_zero, List.set_cons_succ])
    refine wpAnyH_take (i := 3) (oi := ⟨some 23, _, _, _, _, _⟩) (v := .agg #[.int .i64 d, .int .i64 s, .int .i64 kd, .int .i64 a, .int .i64 b, .int .i64 t, .int .i64 o, .string body]) rfl (by kernel_rfl) (by kernel_rfl) (by kernel_rfl) (fun _ _ _ h => absurd h.1 (by simp)) (yieldsIf_load_mid (by rfl) 32 (.tmp 7) rfl w3.heap.size 0 rfl [.int .i64 d, .int .i64 s, .int .i64 kd, .int .i64 a, .int .i64 b, .int .i64 t, .int .i64 o, .string body] _ (fun w h => h.2) Tryz.underlying32 rfl sizeFr) (by assumption) ?_
    (try simp only [Act.put, List.setIfInBounds_toArray, List.set_cons_zero, List.set_cons_succ])
    refine wpAnyH_take (i := 4) (oi := ⟨some 24, _, _, _, _, _⟩) (v := ?v2) rfl (by kernel_rfl) (by kernel_rfl) (by kernel_rfl) (fun _ _ _ h => absurd h.1 (by simp)) (Or.inl ⟨by rfl, ?h2⟩) (by assumption) ?r2
    case h2 => (intro w hSw; (try dsimp only at hSw); go_simp <;> with_reducible rfl)
    (try simp only [Act.put, List.setIfInBounds_toArray, List.set_cons_zero, List.set_cons_succ])
    have hbD : Below W4.heap.size W4 W4.drew := (Below.refl _ _).drew
    replace HB1 := hide (HB1.out.below hbD)
    replace HB2 := hide (HB2.out.below hbD)
    replace HC := hide (HC.out.below hbD (Nat.le_refl _))
    replace kb := kb.trans (hbD.mono kb.size)
    clear hbD
    generalize W4.drew = V5 at *
    refine wpAnyH_ready (rs := [1, 5]) (by kernel_rfl) (by simp) ?_
    refine (AllReadyH.cons (o := ⟨some 21, _, _, _, _, _⟩) rfl (fun Kk hKk => ?_) (AllReadyH.cons (o := ⟨some 25, _, _, _, _, _⟩) rfl (fun Kk hKk => ?_) AllReadyH.nil))
    · have lb1 := HB1.out.lt
      have lb2 := HB2.out.lt
      have lw := kb.size
      go_simp
      refine (wanted_any s1 p1 a1 s2 p2 a2 S P A _ HC.out (by omega) (by omega) (by omega)).mono ?_
      rintro e w6 ⟨u6, rfl, ho6, hb6⟩
      have HO := hide ho6
      replace HB1 := hide (HB1.out.below hb6)
      replace HB2 := hide (HB2.out.below hb6)
      replace kb := kb.trans (hb6.mono kb.size)
      have s6 : V5.heap.size ≤ w6.heap.size := hb6.size
      refine hKk.out _ _ ⟨HB1.out.range, HB2.out.range⟩ (fun hHeld => ?_)
      clear hKk Kk
      (try simp only [Act.put, List.setIfInBounds_toArray, List.set_cons_zero, List.set_cons_succ])
      refine wpAnyH_ready (rs := [5]) (by kernel_rfl) (by simp) ?_
      refine AllReadyH.cons (o := ⟨some 25, _, _, _, _, _⟩) rfl (fun Kk hKk => ?_) AllReadyH.nil
      go_simp
      obtain ⟨W7, hW7⟩ : ∃ W7, W7 = w6.alloc (.cells #[.int .i64 8, .int .i64 0, .int .i64 0, .int .i64 0, .int .i64 0, .int .i64 0, .int .i64 0, .int .i64 0, .int .i64 0, .int .i64 0, .int .i64 0, .bool false, .int .i64 0, .int .i64 0, .int .i64 0, .int .i64 0, .int .i64 0, .bool false, .int .i64 id, .int .i64 0, .int .i64 d, .int .i64 s, .int .i64 kd, .int .i64 a, .int .i64 b, .int .i64 t, .int .i64 o, .string body] 54) := ⟨_, rfl⟩
      rw [← hW7]
      have hb7 : Below w6.heap.size w6 W7 := by rw [hW7]; exact (Below.refl _ _).alloc (Nat.le_refl _) _
      have HN : Hid (W7.rangeAt w6.heap.size 0 [.int .i64 8, .int .i64 0, .int .i64 0, .int .i64 0, .int .i64 0, .int .i64 0, .int .i64 0, .int .i64 0, .int .i64 0, .int .i64 0, .int .i64 0, .bool false, .int .i64 0, .int .i64 0, .int .i64 0, .int .i64 0, .int .i64 0, .bool false, .int .i64 id, .int .i64 0, .int .i64 d, .int .i64 s, .int .i64 kd, .int .i64 a, .int .i64 b, .int .i64 t, .int .i64 o, .string body]) := by rw [hW7]; exact hide (range_new w6 [.int .i64 8, .int .i64 0, .int .i64 0, .int .i64 0, .int .i64 0, .int .i64 0, .int .i64 0, .int .i64 0, .int .i64 0, .int .i64 0, .int .i64 0, .bool false, .int .i64 0, .int .i64 0, .int .i64 0, .int .i64 0, .int .i64 0, .bool false, .int .i64 id, .int .i64 0, .int .i64 d, .int .i64 s, .int .i64 kd, .int .i64 a, .int .i64 b, .int .i64 t, .int .i64 o, .string body] 54)
      replace HB1 := hide (HB1.out.below hb7)
      replace HB2 := hide (HB2.out.below hb7)
      replace kb := kb.trans (hb7.mono kb.size)
      have hl7 : w6.heap.size < W7.heap.size := by rw [hW7]; simp
      clear hW7
      replace HO := hide (own_below HO.out hb7)
      have s7 := hb7.size
      refine hKk.out _ _ ⟨HB1.out.range, HB2.out.range⟩ (fun hHeld => ?_)
      clear hKk Kk
      (try simp only [Act.put, List.setIfInBounds_toArray, List.set_cons_zero, List.set_cons_succ])
      refine wpAnyH_ready (rs := [6]) (by kernel_rfl) (by simp) ?_
      refine AllReadyH.cons (o := ⟨some 26, _, _, _, _, _⟩) rfl (fun Kk hKk => ?_) AllReadyH.nil
      refine wp_append_own _ (.tmp 21) (.tmp 25) 49 rfl V5.heap.size 54 i0 _ 28 232 Tryz.underlying49 hi hz0 hz1 hz2 rfl (by decide) u6 _ _ rfl HO.out ⟨w6.heap.size, 0, none⟩ 1 1 [.int .i64 8, .int .i64 0, .int .i64 0, .int .i64 0, .int .i64 0, .int .i64 0, .int .i64 0, .int .i64 0, .int .i64 0, .int .i64 0, .int .i64 0, .bool false, .int .i64 0, .int .i64 0, .int .i64 0, .int .i64 0, .int .i64 0, .bool false, .int .i64 id, .int .i64 0, .int .i64 d, .int .i64 s, .int .i64 kd, .int .i64 a, .int .i64 b, .int .i64 t, .int .i64 o, .string body] rfl rfl (fun j u hj => by rw [addf]; have := HN.out j u hj; rwa [Nat.zero_add] at this) (all_one rfl) (by rw [want_length]; unfold maxLen; omega) (by rw [want_length]; omega) (by omega) ?_
      intro v8 w8 ho8 hg8 _
      have hb8 : Below w.heap.size w w8 := kb.grown hg8 kb.size (fun k hk => by have := own_ge HO.out k hk; have := kb.size; omega)
      have HRW : Hid (RowAt axC 28 w8 v8 (wantL S P A ++ [sendX id d s kd a b t o body])) := by
        refine hide (own_row (C := axC) (fun _ => rfl) ax0 (B := V5.heap.size) (e := 54) ?_)
        rw [List.length_append, List.flatMap_append]
        simpa [sendX, axC] using ho8
      replace HB1 := hide (HB1.out.grown hg8 (fun e => by have := own_ge HO.out _ e; omega))
      replace HB2 := hide (HB2.out.grown hg8 (fun e => by have := own_ge HO.out _ e; omega))
      refine hKk.out _ _ ⟨HB1.out.range, HB2.out.range⟩ (fun hHeld => ?_)
      clear hKk Kk
      (try simp only [Act.put, List.setIfInBounds_toArray, List.set_cons_zero, List.set_cons_succ])
      refine wpAnyH_take (i := 7) (oi := ⟨some 8, _, _, _, _, _⟩) (v := ?v3) rfl (by kernel_rfl) (by kernel_rfl) (by kernel_rfl) (fun _ _ _ h => absurd h.1 (by simp)) (Or.inl ⟨by rfl, ?h3⟩) (by assumption) ?r3
      case h3 => (intro w hSw; (try dsimp only at hSw); go_simp <;> with_reducible rfl)
      (try simp only [Act.put, List.setIfInBounds_toArray, List.set_cons_zero, List.set_cons_succ])
      refine wpAnyH_done (by kernel_rfl) ?_ _
      generalize Value.slice (some ⟨w6.heap.size, 0, none⟩) 1 1 = y6
      exact ⟨rfl, u6, y6, v8, rfl, HRW.out, hb8⟩
    · have lb1 := HB1.out.lt
      have lb2 := HB2.out.lt
      have lw := kb.size
      go_simp
      obtain ⟨W7, hW7⟩ : ∃ W7, W7 = V5.alloc (.cells #[.int .i64 8, .int .i64 0, .int .i64 0, .int .i64 0, .int .i64 0, .int .i64 0, .int .i64 0, .int .i64 0, .int .i64 0, .int .i64 0, .int .i64 0, .bool false, .int .i64 0, .int .i64 0, .int .i64 0, .int .i64 0, .int .i64 0, .bool false, .int .i64 id, .int .i64 0, .int .i64 d, .int .i64 s, .int .i64 kd, .int .i64 a, .int .i64 b, .int .i64 t, .int .i64 o, .string body] 54) := ⟨_, rfl⟩
      rw [← hW7]
      have hb7 : Below V5.heap.size V5 W7 := by rw [hW7]; exact (Below.refl _ _).alloc (Nat.le_refl _) _
      have HN : Hid (W7.rangeAt V5.heap.size 0 [.int .i64 8, .int .i64 0, .int .i64 0, .int .i64 0, .int .i64 0, .int .i64 0, .int .i64 0, .int .i64 0, .int .i64 0, .int .i64 0, .int .i64 0, .bool false, .int .i64 0, .int .i64 0, .int .i64 0, .int .i64 0, .int .i64 0, .bool false, .int .i64 id, .int .i64 0, .int .i64 d, .int .i64 s, .int .i64 kd, .int .i64 a, .int .i64 b, .int .i64 t, .int .i64 o, .string body]) := by rw [hW7]; exact hide (range_new V5 [.int .i64 8, .int .i64 0, .int .i64 0, .int .i64 0, .int .i64 0, .int .i64 0, .int .i64 0, .int .i64 0, .int .i64 0, .int .i64 0, .int .i64 0, .bool false, .int .i64 0, .int .i64 0, .int .i64 0, .int .i64 0, .int .i64 0, .bool false, .int .i64 id, .int .i64 0, .int .i64 d, .int .i64 s, .int .i64 kd, .int .i64 a, .int .i64 b, .int .i64 t, .int .i64 o, .string body] 54)
      replace HB1 := hide (HB1.out.below hb7)
      replace HB2 := hide (HB2.out.below hb7)
      replace kb := kb.trans (hb7.mono kb.size)
      have hl7 : V5.heap.size < W7.heap.size := by rw [hW7]; simp
      clear hW7
      replace HC := hide (HC.out.below hb7 (Nat.le_refl _))
      have s7 := hb7.size
      refine hKk.out _ _ ⟨HB1.out.range, HB2.out.range⟩ (fun hHeld => ?_)
      clear hKk Kk
      (try simp only [Act.put, List.setIfInBounds_toArray, List.set_cons_zero, List.set_cons_succ])
      refine wpAnyH_ready (rs := [1]) (by kernel_rfl) (by simp) ?_
      refine AllReadyH.cons (o := ⟨some 21, _, _, _, _, _⟩) rfl (fun Kk hKk => ?_) AllReadyH.nil
      go_simp
      refine (wanted_any s1 p1 a1 s2 p2 a2 S P A _ HC.out (by omega) (by omega) (by omega)).mono ?_
      rintro e w6 ⟨u6, rfl, ho6, hb6⟩
      have HO := hide ho6
      replace HB1 := hide (HB1.out.below hb6)
      replace HB2 := hide (HB2.out.below hb6)
      replace kb := kb.trans (hb6.mono kb.size)
      have s6 : W7.heap.size ≤ w6.heap.size := hb6.size
      replace HN := hide (range_below HN.out hb6 hl7)
      refine hKk.out _ _ ⟨HB1.out.range, HB2.out.range⟩ (fun hHeld => ?_)
      clear hKk Kk
      (try simp only [Act.put, List.setIfInBounds_toArray, List.set_cons_zero, List.set_cons_succ])
      refine wpAnyH_ready (rs := [6]) (by kernel_rfl) (by simp) ?_
      refine AllReadyH.cons (o := ⟨some 26, _, _, _, _, _⟩) rfl (fun Kk hKk => ?_) AllReadyH.nil
      refine wp_append_own _ (.tmp 21) (.tmp 25) 49 rfl W7.heap.size 54 i0 _ 28 232 Tryz.underlying49 hi hz0 hz1 hz2 rfl (by decide) u6 _ _ rfl HO.out ⟨V5.heap.size, 0, none⟩ 1 1 [.int .i64 8, .int .i64 0, .int .i64 0, .int .i64 0, .int .i64 0, .int .i64 0, .int .i64 0, .int .i64 0, .int .i64 0, .int .i64 0, .int .i64 0, .bool false, .int .i64 0, .int .i64 0, .int .i64 0, .int .i64 0, .int .i64 0, .bool false, .int .i64 id, .int .i64 0, .int .i64 d, .int .i64 s, .int .i64 kd, .int .i64 a, .int .i64 b, .int .i64 t, .int .i64 o, .string body] rfl rfl (fun j u hj => by rw [addf]; have := HN.out j u hj; rwa [Nat.zero_add] at this) (all_one rfl) (by rw [want_length]; unfold maxLen; omega) (by rw [want_length]; omega) (by omega) ?_
      intro v8 w8 ho8 hg8 _
      have hb8 : Below w.heap.size w w8 := kb.grown hg8 kb.size (fun k hk => by have := own_ge HO.out k hk; have := kb.size; omega)
      have HRW : Hid (RowAt axC 28 w8 v8 (wantL S P A ++ [sendX id d s kd a b t o body])) := by
        refine hide (own_row (C := axC) (fun _ => rfl) ax0 (B := W7.heap.size) (e := 54) ?_)
        rw [List.length_append, List.flatMap_append]
        simpa [sendX, axC] using ho8
      replace HB1 := hide (HB1.out.grown hg8 (fun e => by have := own_ge HO.out _ e; omega))
      replace HB2 := hide (HB2.out.grown hg8 (fun e => by have := own_ge HO.out _ e; omega))
      refine hKk.out _ _ ⟨HB1.out.range, HB2.out.range⟩ (fun hHeld => ?_)
      clear hKk Kk
      (try simp only [Act.put, List.setIfInBounds_toArray, List.set_cons_zero, List.set_cons_succ])
      refine wpAnyH_take (i := 7) (oi := ⟨some 8, _, _, _, _, _⟩) (v := ?v4) rfl (by kernel_rfl) (by kernel_rfl) (by kernel_rfl) (fun _ _ _ h => absurd h.1 (by simp)) (Or.inl ⟨by rfl, ?h4⟩) (by assumption) ?r4
      case h4 => (intro w hSw; (try dsimp only at hSw); go_simp <;> with_reducible rfl)
      (try simp only [Act.put, List.setIfInBounds_toArray, List.set_cons_zero, List.set_cons_succ])
      refine wpAnyH_done (by kernel_rfl) ?_ _
      generalize Value.slice (some ⟨V5.heap.size, 0, none⟩) 1 1 = y6
      exact ⟨rfl, u6, y6, v8, rfl, HRW.out, hb8⟩
  · intro x6 y6 z6 w8 hF8
    obtain ⟨hRW, kb8⟩ := hF8
    have HRW := hide hRW
    have HSR := hide (fun W (hW : Below w8.heap.size w8 W) => silent_run HM.out id d s kd a b t o body (by unfold maxLen; omega) z6 W (RowAt.below hRW hW (Nat.le_refl _)))
    have hl9 : 0 < (wantL S P A ++ [sendX id d s kd a b t o body]).length := by simp
    have hu9 : (wantL S P A ++ [sendX id d s kd a b t o body]).length ≤ 100 := by rw [List.length_append, want_length]; simp; omega
    obtain ⟨za, zc, rfl⟩ := hRW.slice
    clear hRW
    generalize wantL S P A ++ [sendX id d s kd a b t o body] = l9 at *
    obtain ⟨m, hm⟩ : ∃ m, l9.length = m + 1 := ⟨l9.length - 1, by omega⟩
    rw [hm] at HSR ⊢
    clear HB1 HB2 HC HF HM HRW kb
    go_wp2_with fail
    refine (topRun_any Sil za (m + 1) zc w8 HSR.out).mono ?_
    rintro e w9 ⟨u, su, pu, au, rfl, S9, P9, A9, K9, rs, ⟨hI, hrl⟩, hrr, hcf, hb9⟩
    obtain ⟨t1, t2, rfl⟩ := hcf.here.1.slice
    obtain ⟨t3, t4, rfl⟩ := hcf.here.2.1.slice
    obtain ⟨t5, t6, rfl⟩ := hcf.here.2.2.slice
    obtain ⟨g, cap, v, rfl, hcap, ⟨c0, c1⟩, ho⟩ := rr_at hrr (i := m) (by omega)
    have hnil : (rs.getD m ⟨0, [], ⟨#[]⟩⟩).l = [] := hI.2.2 _ (by rw [List.getD_eq_getElem?_getD, List.getElem?_eq_getElem (by omega)]; exact List.getElem_mem _)
    rw [hnil] at ho
    obtain ⟨v1, v2, rfl⟩ := own_slc ho
    rw [hrl] at hcap ⊢
    replace kb8 := kb8.trans (hb9.mono kb8.size)
    have lg := cell_in c1
    have hng : ¬ g = w9.heap.size := by omega
    clear ho hnil hI hrl hrr hcf hb9 c0 HSR
    simp only [List.length_nil] at c1
    have q0 : (0 : Int) ≤ (m : Int) := by omega
    have q1 : (m : Int) < ((m + 1 : Nat) : Int) := by omega
    have q2 : (m : Int) ≤ 100 := by omega
    go_wp2_with fail
    go_ret
    exact ⟨rfl, kb8.alloc kb8.size _⟩

set_option maxRecDepth 100000 in
theorem topSilent_lifted (os : Os) (started : os.Started) (H : Type) (enc : TypeId × Value → H) :
    ReturnsInHanded {} Tryz.checked os 6 .any (Rows.topSilentSpec.pre6 enc Tryz.prog Tryz.f6 Rows.topSilentRow.domain false) (Rows.topSilentSpec.post enc Tryz.prog Tryz.f6 false true false false) := by
  refine returnsInHanded_of_change (C := Tryz.checked) own started (by kernel_rfl) Tryz.func6
    (ChangeSpec.witness6 (enc := enc) (C := Tryz.checked) false ⟨#[], #[.slice none 0 0, .agg #[.int .i64 0, .int .i64 0, .int .i64 0, .int .i64 0]], []⟩ 8 (by kernel_rfl) (by kernel_rfl) (by kernel_rfl) (by kernel_rfl)) ?_
  intro W base args ds gs before hval0 hW hcnd _
  have hval : ∀ (j : Nat) t v, Tryz.f6.params[j]? = some t → args[j]? = some v → Value.okWide Tryz.prog W .any base t v := hval0
  have hW' := hW
  obtain ⟨p, q, hA0, hV, rfl, hfz, hnd⟩ := hW
  have hA : DataW.TrodAll enc Tryz.prog W 0 (fun _ => true) true Tryz.f6.params.toList args.toList ds p := hA0
  rw [Tryz.params6] at hA hval
  obtain ⟨v0, vs0, d0, ds0, p0, q0, hargs, rfl, rfl, h0, r0⟩ := trodAll_cons hA
  obtain ⟨v1, vs1, d1, ds1, p1, q1, rfl, rfl, rfl, h1, r1⟩ := trodAll_cons r0
  obtain ⟨rfl, rfl, rfl⟩ := trodAll_nil r1
  obtain rfl : args = #[v0, v1] := by cases args; simp_all
  obtain ⟨rfl, rfl⟩ := trodVars_none hV
  have k0 := h0
  have lt0 : ∀ x ∈ p0, x.block < W.heap.size := by obtain ⟨m, hm⟩ := k0; exact DataW.trod_lt m _ _ _ hm
  obtain ⟨l0, hl0⟩ := open_raws (hval 0 22 v0 rfl rfl) h0
  have k1 := h1
  have lt1 : ∀ x ∈ p1, x.block < W.heap.size := by obtain ⟨m, hm⟩ := k1; exact DataW.trod_lt m _ _ _ hm
  obtain ⟨rk1, ra1, rb1, rc1, rfl, hk1, ha1, hb1, hc1⟩ := open_raw (hval 1 24 v1 rfl rfl) h1
  clear hA0 hval0
  refine (topSilent_any v0 l0 ⟨rk1, ra1, rb1, rc1, hk1, ha1, hb1, hc1⟩ W hl0).mono fun e W' ⟨he, bel⟩ => ?_
  subst he
  exact ⟨_, rfl, _, _, _, [], _, [], hW', trodAll_mk1 (shut_bool Tryz.underlying4 _), (trodAll_cons_mk (Below.trod laidOut (by kernel_rfl) (of_decide_eq_true (by kernel_rfl)) k0 bel lt0) (trodAll_cons_mk (Below.trod laidOut (by kernel_rfl) (of_decide_eq_true (by kernel_rfl)) k1 bel lt1) trodAll_mk0)), rfl, bel.frame _, fun h => by cases h⟩

theorem topSilent_holds : Rows.TopSilentSaid :=
  OpenClaim.holds_of_wide 6 Tryz.f6 rfl rfl rfl rfl rfl rfl rfl ⟨rfl, rfl, rfl, rfl, rfl⟩ rfl rfl rfl rfl rfl (by kernel_rfl) Tryz.func6 (by kernel_rfl)
    (of_decide_eq_true (by kernel_rfl)) (by unfold Func.isWrapper; first | (rw [if_pos (by decide +kernel)]; kernel_rfl) | (rw [if_neg (by decide +kernel)]; exact ⟨rfl, rfl⟩))
    (fun os started H enc _ => topSilent_lifted os started H enc)

end Go.Proofs.YtjcomoinggiedaaGreat
