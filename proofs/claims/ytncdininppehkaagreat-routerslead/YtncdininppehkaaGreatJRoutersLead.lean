/- The law RoutersLead returns true at every three numbers; no condition. -/
import Derived.OpenShut
import Derived.Test.YtncdininppehkaaGreatJKd
namespace Go.Proofs.YtncdininppehkaaGreat
open Go.ChangeShapes Go.WideShapes Go.ChangeAt Go.RowKit
set_option linter.unusedVariables false
set_option maxRecDepth 100000
set_option maxHeartbeats 8000000 in
theorem routersLead_any (a b n : Int) (w : World) (a0 : -9223372036854775808 ≤ a) (a1 : a ≤ 9223372036854775807) (b0 : -9223372036854775808 ≤ b) (b1 : b ≤ 9223372036854775807) (n0 : -9223372036854775808 ≤ n) (n1 : n ≤ 9223372036854775807) :
  Calls Tryz.prog 5 #[.int .i64 a, .int .i64 b, .int .i64 n] w fun e w' => e = .returned (.bool true) ∧ Below w.heap.size w w' := by
 go_enter Tryz.func5, Tryz.ntmps5
 go_wp2_with fail
 refine (picked_any a 6 w a0 a1 (by decide) (by decide)).mono ?_
 rintro e w' ⟨rfl, rfl⟩
 go_wp2_with fail
 refine (picked_any b 6 _ b0 b1 (by decide) (by decide)).mono ?_
 rintro e w' ⟨rfl, rfl⟩
 rename World => w''
 have hx := pk_in a 6 (by decide)
 have hy := pk_in b 6 (by decide)
 have ht := pk_in n 256 (by decide)
 have HPN := hide (fun W => picked_any n 256 W n0 n1 (by decide) (by decide))
 generalize pk a 6 = x at *
 generalize pk b 6 = y at *
 generalize pk n 256 = t at *
 have hx6 : 0 ≤ x ∧ x ≤ 5 := by omega
 have hy6 : 0 ≤ y ∧ y ≤ 5 := by omega
 clear hx hy
 go_wp2_with fail
 refine (two_any x y _).mono ?_
 rintro e w1 ⟨g, h, rfl, ⟨hs, hp⟩, hgh, hb1⟩
 have HS := hide hs
 have HP := hide hp
 have hgw := own_ge hs g rfl
 have lg := own_in hs (g := g) rfl
 have lh := own_in hp (g := h) rfl
 clear hs hp
 obtain ⟨W2, hW2⟩ : ∃ W2, W2 = w1.alloc (.cells #[.slice (some ⟨g, 0, none⟩) 2 2, .slice (some ⟨h, 0, none⟩) 3 3, .slice none 0 0] 29) := ⟨_, rfl⟩
 have hb2 : Below w1.heap.size w1 W2 := by rw [hW2]; exact (Below.refl _ _).alloc (Nat.le_refl _) _
 have HB : Hid (Box W2 w1.heap.size [.slice (some ⟨g, 0, none⟩) 2 2, .slice (some ⟨h, 0, none⟩) 3 3, .slice none 0 0]) := by rw [hW2]; exact hide (Box.new w1 [.slice (some ⟨g, 0, none⟩) 2 2, .slice (some ⟨h, 0, none⟩) 3 3, .slice none 0 0] 29)
 have s2 : W2.heap.size = w1.heap.size + 1 := by rw [hW2]; simp
 replace HS := zO HS hb2
 replace HP := zO HP hb2
 have kb := hb1.trans (hb2.mono hb1.size)
 have HW2 : Hid (w1.alloc (.cells #[.slice (some ⟨g, 0, none⟩) 2 2, .slice (some ⟨h, 0, none⟩) 3 3, .slice none 0 0] 29) = W2) := hW2.symm
 have hk1 := hb1.size
 clear hW2 hb1 hb2
 go_wp2_with (first | rw [HW2.out])
 refine (unhide HPN _).mono ?_
 rintro e w' ⟨rfl, rfl⟩
 clear HPN HW2
 obtain ⟨W3, hW3⟩ : ∃ W3, W3 = w'.alloc (.cells #[.int .i64 60001, .int .i64 11, .int .i64 3, .int .i64 51, .int .i64 61, .int .i64 t, .int .i64 7, .string ⟨#[]⟩] 37) := ⟨_, rfl⟩
 have hb3 : Below w'.heap.size w' W3 := by rw [hW3]; exact (Below.refl _ _).alloc (Nat.le_refl _) _
 have HF : Hid (Box W3 w'.heap.size [.int .i64 60001, .int .i64 11, .int .i64 3, .int .i64 51, .int .i64 61, .int .i64 t, .int .i64 7, .string ⟨#[]⟩]) := by rw [hW3]; exact hide (Box.new w' [.int .i64 60001, .int .i64 11, .int .i64 3, .int .i64 51, .int .i64 61, .int .i64 t, .int .i64 7, .string ⟨#[]⟩] 37)
 replace HB := hide (HB.out.below hb3)
 replace HS := zO HS hb3
 replace HP := zO HP hb3
 replace kb := kb.trans (hb3.mono kb.size)
 have HW3 : Hid (w'.alloc (.cells #[.int .i64 60001, .int .i64 11, .int .i64 3, .int .i64 51, .int .i64 61, .int .i64 t, .int .i64 7, .string ⟨#[]⟩] 37) = W3) := hW3.symm
 have hfc : w1.heap.size ≠ w'.heap.size ∧ w1.heap.size ≠ g ∧ w'.heap.size ≠ g ∧ g < w'.heap.size := by omega
 clear hW3 hb3 s2
 obtain ⟨hm1, hm2, hm3⟩ := tw_may hx6 (show -1 ≤ y ∧ y ≤ 5 by omega)
 have hf : fault 60001 11 3 51 61 t 7 (⟨#[]⟩ : ByteArray).size = 0 := fault_is (n := 0) (by omega) (by omega) (by omega) (fun e => absurd rfl e)
 obtain ⟨l1, hl1, hl1n, hl1e⟩ : ∃ l1, comeG (twP x y) [] (led (twS 1 60) (twP x y) [] x 1 60001 11 3 51 61 t 7) = l1 ∧ l1.length ≤ 1 ∧ (1 < t ∧ l1 = [⟨3, [11, 60002, 3, 51, 61, t - 1, 7]⟩] ∨ t < 2 ∧ l1 = []) := by
  by_cases h1 : 1 < t
  ·exact ⟨_, by rw [tw_leads hx6 hy6 h1]; exact tw_comes hx6 hy6, by simp, .inl ⟨h1, rfl⟩⟩
  ·exact ⟨[], by rw [(tw_not hx6 hy6).1 (by omega)]; rfl, by simp, .inr ⟨by omega, rfl⟩⟩
 have HD1 := hide (fun W hS hP => dlv_any g h (twS 1 60) x y 60001 11 3 51 61 t 7 ⟨#[]⟩ l1 W rfl hS hP hx6 hm1 hf hl1 hl1n)
 have HD2 := hide (fun W hS hP => dlv_any g h (twS 2 60) x y 60001 11 3 51 61 t 7 ⟨#[]⟩ [] W rfl hS hP hx6 hm2 hf (by rw [(tw_not hx6 hy6).2.1]; rfl) (by decide))
 have HD3 := hide (fun W hS hP => dlv_any g h (twS 1 0) x y 60001 11 3 51 61 t 7 ⟨#[]⟩ [] W rfl hS hP hx6 hm3 hf (by rw [(tw_not hx6 hy6).2.2]; rfl) (by decide))
 have HL1 := hide hl1e
 clear hl1e hm1 hm2 hm3 hf hl1
 go_wp2_with (first | rw [HW3.out] | (refine wpList_load_mid rfl 29 (.tmp 7) rfl w1.heap.size 0 rfl _ _ HB.out.range Tryz.underlying29 rfl sizeConf ?_) | (refine wpList_load_mid rfl 37 (.tmp 9) rfl w'.heap.size 0 rfl _ _ HF.out.range Tryz.underlying37 rfl sizeFr ?_))
 have hgL : g < W3.heap.size := by have := HF.out.lt; omega
 refine (HD1.out _ (RowAt.of_own (l := twS 1 60) swC_len (by decide) HS.out) (RowAt.of_own (l := twP x y) prC_len (by decide) HP.out)).mono ?_
 rintro e V1 ⟨u1, rfl, ho1, hb1⟩
 have HU1 := hide ho1
 have sz1 := hb1.size
 replace HB := hide (HB.out.below hb1)
 replace HF := hide (HF.out.below hb1)
 replace HS := zO HS hb1
 replace HP := zO HP hb1
 replace kb := kb.trans (hb1.mono kb.size)
 clear ho1 hb1 HD1
 have cg1 : V1.cell? ⟨g, 4, none⟩ = some (.int .i64 1) := by have := HS.out.cells rfl 4 _ rfl; rw [Addr.add_mid] at this; simpa using this
 have fz1 : V1.frozen? ⟨g, 4, none⟩ = false := HS.out.frozenAt 4
 have cc1 : V1.cell? ⟨w1.heap.size, 0, none⟩ = some (.slice (some ⟨g, 0, none⟩) 2 2) := HB.out.cell 0 _ rfl
 obtain ⟨V2, hV2⟩ : ∃ V2, V2 = V1.setCell ⟨g, 4, none⟩ (.int .i64 2) := ⟨_, rfl⟩
 have hs1 := HS.out.stored 4 (.int .i64 2)
 rw [← hV2] at hs1
 replace HS : Hid (V2.ownsRow w''.heap.size 59 3 (.slice (some ⟨g, 0, none⟩) 2 2) 2 ((twS 2 60).flatMap swC)) := hide hs1.1
 replace HB : Hid (Box V2 w1.heap.size [.slice (some ⟨g, 0, none⟩) 2 2, .slice (some ⟨h, 0, none⟩) 3 3, .slice none 0 0]) := by rw [hV2]; exact hide (HB.out.set1_far hfc.2.1 4 _)
 replace HF : Hid (Box V2 w'.heap.size [.int .i64 60001, .int .i64 11, .int .i64 3, .int .i64 51, .int .i64 61, .int .i64 t, .int .i64 7, .string ⟨#[]⟩]) := by rw [hV2]; exact hide (HF.out.set1_far hfc.2.2.1 4 _)
 replace HP := hide (own_far hs1.2 HP.out (Ne.symm hgh))
 replace HU1 := hide (own_old HU1.out hs1.2 hgL)
 replace kb : Below w''.heap.size w'' V2 := by rw [hV2]; exact kb.setCell (p := ⟨g, 4, none⟩) hgw _
 have HV2 : Hid (V1.setCell ⟨g, 4, none⟩ (.int .i64 2) = V2) := hV2.symm
 clear hV2 hs1
 go_wp2_with (first | rw [HV2.out] | (refine wpList_load_mid rfl 29 (.tmp 7) rfl w1.heap.size 0 rfl _ _ HB.out.range Tryz.underlying29 rfl sizeConf ?_) | (refine wpList_load_mid rfl 37 (.tmp 9) rfl w'.heap.size 0 rfl _ _ HF.out.range Tryz.underlying37 rfl sizeFr ?_))
 clear HV2 cg1 fz1 cc1
 refine (HD2.out _ (RowAt.of_own (l := twS 2 60) swC_len (by decide) HS.out) (RowAt.of_own (l := twP x y) prC_len (by decide) HP.out)).mono ?_
 rintro e V3 ⟨u2, rfl, ho2, hb2⟩
 have HU2 := hide ho2
 have sz2 := hb2.size
 obtain ⟨oo2, oc2, rfl⟩ := own_slc ho2
 replace HB := hide (HB.out.below hb2)
 replace HF := hide (HF.out.below hb2)
 replace HS := zO HS hb2
 replace HP := zO HP hb2
 replace HU1 := zO HU1 hb2
 replace kb := kb.trans (hb2.mono kb.size)
 clear ho2 hb2 HD2
 have cg2 : V3.cell? ⟨g, 4, none⟩ = some (.int .i64 2) := by have := HS.out.cells rfl 4 _ rfl; rw [Addr.add_mid] at this; simpa using this
 have fz2 : V3.frozen? ⟨g, 4, none⟩ = false := HS.out.frozenAt 4
 have cc2 : V3.cell? ⟨w1.heap.size, 0, none⟩ = some (.slice (some ⟨g, 0, none⟩) 2 2) := HB.out.cell 0 _ rfl
 obtain ⟨V4, hV4⟩ : ∃ V4, V4 = V3.setCell ⟨g, 4, none⟩ (.int .i64 1) := ⟨_, rfl⟩
 have hs2 := HS.out.stored 4 (.int .i64 1)
 rw [← hV4] at hs2
 replace HS : Hid (V4.ownsRow w''.heap.size 59 3 (.slice (some ⟨g, 0, none⟩) 2 2) 2 ((twS 1 60).flatMap swC)) := hide hs2.1
 replace HB : Hid (Box V4 w1.heap.size [.slice (some ⟨g, 0, none⟩) 2 2, .slice (some ⟨h, 0, none⟩) 3 3, .slice none 0 0]) := by rw [hV4]; exact hide (HB.out.set1_far hfc.2.1 4 _)
 replace HF : Hid (Box V4 w'.heap.size [.int .i64 60001, .int .i64 11, .int .i64 3, .int .i64 51, .int .i64 61, .int .i64 t, .int .i64 7, .string ⟨#[]⟩]) := by rw [hV4]; exact hide (HF.out.set1_far hfc.2.2.1 4 _)
 replace HP := hide (own_far hs2.2 HP.out (Ne.symm hgh))
 replace HU1 := hide (own_old HU1.out hs2.2 hgL)
 replace kb : Below w''.heap.size w'' V4 := by rw [hV4]; exact kb.setCell (p := ⟨g, 4, none⟩) hgw _
 have HV4 : Hid (V3.setCell ⟨g, 4, none⟩ (.int .i64 1) = V4) := hV4.symm
 clear hV4 hs2
 have cg3 : V4.cell? ⟨g, 5, none⟩ = some (.int .i64 60) := by have := HS.out.cells rfl 5 _ rfl; rw [Addr.add_mid] at this; simpa using this
 have fz3 : V4.frozen? ⟨g, 5, none⟩ = false := HS.out.frozenAt 5
 have cc3 : V4.cell? ⟨w1.heap.size, 0, none⟩ = some (.slice (some ⟨g, 0, none⟩) 2 2) := HB.out.cell 0 _ rfl
 obtain ⟨V5, hV5⟩ : ∃ V5, V5 = V4.setCell ⟨g, 5, none⟩ (.int .i64 0) := ⟨_, rfl⟩
 have hs3 := HS.out.stored 5 (.int .i64 0)
 rw [← hV5] at hs3
 replace HS : Hid (V5.ownsRow w''.heap.size 59 3 (.slice (some ⟨g, 0, none⟩) 2 2) 2 ((twS 1 0).flatMap swC)) := hide hs3.1
 replace HB : Hid (Box V5 w1.heap.size [.slice (some ⟨g, 0, none⟩) 2 2, .slice (some ⟨h, 0, none⟩) 3 3, .slice none 0 0]) := by rw [hV5]; exact hide (HB.out.set1_far hfc.2.1 5 _)
 replace HF : Hid (Box V5 w'.heap.size [.int .i64 60001, .int .i64 11, .int .i64 3, .int .i64 51, .int .i64 61, .int .i64 t, .int .i64 7, .string ⟨#[]⟩]) := by rw [hV5]; exact hide (HF.out.set1_far hfc.2.2.1 5 _)
 replace HP := hide (own_far hs3.2 HP.out (Ne.symm hgh))
 replace HU1 := hide (own_old HU1.out hs3.2 hgL)
 replace kb : Below w''.heap.size w'' V5 := by rw [hV5]; exact kb.setCell (p := ⟨g, 5, none⟩) hgw _
 have HV5 : Hid (V4.setCell ⟨g, 5, none⟩ (.int .i64 0) = V5) := hV5.symm
 clear hV5 hs3
 go_wp2_with (first | rw [HV4.out] | rw [HV5.out] | (refine wpList_load_mid rfl 29 (.tmp 7) rfl w1.heap.size 0 rfl _ _ HB.out.range Tryz.underlying29 rfl sizeConf ?_) | (refine wpList_load_mid rfl 37 (.tmp 9) rfl w'.heap.size 0 rfl _ _ HF.out.range Tryz.underlying37 rfl sizeFr ?_))
 clear HV4 HV5 cg2 fz2 cc2 cg3 fz3 cc3
 refine (HD3.out _ (RowAt.of_own (l := twS 1 0) swC_len (by decide) HS.out) (RowAt.of_own (l := twP x y) prC_len (by decide) HP.out)).mono ?_
 rintro e V6 ⟨u3, rfl, ho3, hb3⟩
 have HU3 := hide ho3
 have sz3 := hb3.size
 obtain ⟨oo3, oc3, rfl⟩ := own_slc ho3
 replace HB := hide (HB.out.below hb3)
 replace HF := hide (HF.out.below hb3)
 replace HS := zO HS hb3
 replace HP := zO HP hb3
 replace HU1 := zO HU1 hb3
 replace kb := kb.trans (hb3.mono kb.size)
 clear ho3 hb3 HD3
 have hwt : IntKind.i64.wrap (t - 1) = t - 1 := by simp [IntKind.wrap, IntKind.bits, IntKind.signed]; split <;> omega
 obtain ⟨W7, hW7⟩ : ∃ W7, W7 = V6.alloc (.cells #[.int .i64 3, .int .i64 11, .int .i64 60002, .int .i64 3, .int .i64 51, .int .i64 61, .int .i64 (t - 1), .int .i64 7, .string ⟨#[]⟩] 56) := ⟨_, rfl⟩
 have hb7 : Below V6.heap.size V6 W7 := by rw [hW7]; exact (Below.refl _ _).alloc (Nat.le_refl _) _
 have HQ : Hid (RowAt (arC ⟨#[]⟩) 9 W7 (.slice (some ⟨V6.heap.size, 0, none⟩) 1 1) [⟨3, [11, 60002, 3, 51, 61, t - 1, 7]⟩]) := by
  have : W7.ownsRow V6.heap.size 56 9 (.slice (some ⟨V6.heap.size, 0, none⟩) 1 1) 1 (([⟨3, [11, 60002, 3, 51, 61, t - 1, 7]⟩] : List Ar).flatMap (arC ⟨#[]⟩)) := by rw [hW7]; exact World.ownsRow_lit V6 _ 1 (Nat.le_refl _) (by decide) rfl
  exact hide (RowAt.of_own (C := arC ⟨#[]⟩) (sz := 9) (l := ([⟨3, [11, 60002, 3, 51, 61, t - 1, 7]⟩] : List Ar)) (fun _ => rfl) (by decide) this)
 replace HU1 := zO HU1 hb7
 have kb7 := kb.trans (hb7.mono kb.size)
 have HU := hide (RowAt.of_own (C := arC ⟨#[]⟩) (sz := 9) (fun _ => rfl) (by decide) HU1.out)
 have HW7 : Hid (V6.alloc (.cells #[.int .i64 3, .int .i64 11, .int .i64 60002, .int .i64 3, .int .i64 51, .int .i64 61, .int .i64 (t - 1), .int .i64 7, .string ⟨#[]⟩] 56) = W7) := hW7.symm
 clear hW7 hb7 HU1 HB HF HS HP HU2 HU3
 rcases HL1.out with ⟨h1t, rfl⟩ | ⟨h1t, rfl⟩
 ·have hnt : ¬ t < 2 := by omega
  clear h1t
  go_wp2_with (rw [HW7.out])
  refine (equalAr_any _ _ _ ⟨#[]⟩ _ HU.out HQ.out (by show 1 ≤ 2000000; decide)).mono ?_
  rintro e V8 ⟨rfl, hb8⟩
  go_wp2_with fail
  go_ret
  exact ⟨rfl, kb7.trans (hb8.mono kb7.size)⟩
 ·go_wp2_with (rw [HW7.out])
  refine (equalAr_any _ _ [] ⟨#[]⟩ _ HU.out ⟨none, 0, rfl, fun _ => rfl, .inl rfl⟩ (by decide)).mono ?_
  rintro e V8 ⟨rfl, hb8⟩
  go_wp2_with fail
  go_ret
  exact ⟨rfl, kb7.trans (hb8.mono kb7.size)⟩
set_option maxRecDepth 100000 in
theorem routersLead_lifted (os : Os) (started : os.Started) (H : Type) (enc : TypeId × Value → H) :
  ReturnsInHanded {} Tryz.checked os 5 .any (Rows.routersLeadSpec.pre6 enc Tryz.prog Tryz.f5 Rows.routersLeadRow.domain false) (Rows.routersLeadSpec.post enc Tryz.prog Tryz.f5 false true false false) := by
 refine returnsInHanded_of_change (C := Tryz.checked) own started (by kernel_rfl) Tryz.func5
  (ChangeSpec.witness6 (enc := enc) (C := Tryz.checked) false ⟨#[], #[.int .i64 0, .int .i64 0, .int .i64 0], []⟩ 8 (by kernel_rfl) (by kernel_rfl) (by kernel_rfl) (by kernel_rfl)) ?_
 intro W base args ds gs before hval0 hW hcnd _
 have hval : ∀ (j : Nat) t v, Tryz.f5.params[j]? = some t → args[j]? = some v → Value.okWide Tryz.prog W .any base t v := hval0
 have hW' := hW
 obtain ⟨p, q, hA0, hV, rfl, hfz, hnd⟩ := hW
 have hA : DataW.TrodAll enc Tryz.prog W 0 (fun _ => true) true Tryz.f5.params.toList args.toList ds p := hA0
 rw [Tryz.params5] at hA hval
 obtain ⟨v0, vs0, d0, ds0, p0, q0, hargs, rfl, rfl, h0, r0⟩ := trodAll_cons hA
 obtain ⟨v1, vs1, d1, ds1, p1, q1, rfl, rfl, rfl, h1, r1⟩ := trodAll_cons r0
 obtain ⟨v2, vs2, d2, ds2, p2, q2, rfl, rfl, rfl, h2, r2⟩ := trodAll_cons r1
 obtain ⟨rfl, rfl, rfl⟩ := trodAll_nil r2
 obtain rfl : args = #[v0, v1, v2] := by cases args; simp_all
 obtain ⟨rfl, rfl⟩ := trodVars_none hV
 obtain ⟨x0, rfl, rfl, rfl, wx0⟩ := open_int Tryz.underlying3 (hval 0 3 v0 rfl rfl) h0
 obtain ⟨x1, rfl, rfl, rfl, wx1⟩ := open_int Tryz.underlying3 (hval 1 3 v1 rfl rfl) h1
 obtain ⟨x2, rfl, rfl, rfl, wx2⟩ := open_int Tryz.underlying3 (hval 2 3 v2 rfl rfl) h2
 clear hA0 hval0
 refine (routersLead_any x0 x1 x2 W (i64_in wx0).1 (i64_in wx0).2 (i64_in wx1).1 (i64_in wx1).2 (i64_in wx2).1 (i64_in wx2).2).mono fun e W' ⟨he, bel⟩ => ?_
 subst he
 exact ⟨_, rfl, _, _, _, [], _, [], hW', trodAll_mk1 (shut_bool Tryz.underlying4 _), (trodAll_cons_mk (shut_int Tryz.underlying3 wx0) (trodAll_cons_mk (shut_int Tryz.underlying3 wx1) (trodAll_cons_mk (shut_int Tryz.underlying3 wx2) trodAll_mk0))), rfl, bel.frame _, fun h => by cases h⟩
theorem routersLead_holds : Rows.RoutersLeadSaid :=
 OpenClaim.holds_of_wide 5 Tryz.f5 rfl rfl rfl rfl rfl rfl rfl ⟨rfl, rfl, rfl, rfl, rfl⟩ rfl rfl rfl rfl rfl (by kernel_rfl) Tryz.func5 (by kernel_rfl)
  (of_decide_eq_true (by kernel_rfl)) (by unfold Func.isWrapper; first | (rw [if_pos (by decide +kernel)]; kernel_rfl) | (rw [if_neg (by decide +kernel)]; exact ⟨rfl, rfl⟩))
  (fun os started H enc _ => routersLead_lifted os started H enc)
end Go.Proofs.YtncdininppehkaaGreat
