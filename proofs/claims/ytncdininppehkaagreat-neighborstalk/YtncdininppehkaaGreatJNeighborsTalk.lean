/- The law NeighborsTalk returns true at every two numbers and every text; no condition. -/
import Derived.OpenShut
import Derived.Test.YtncdininppehkaaGreatJNKd
namespace Go.Proofs.YtncdininppehkaaGreat
open Go.ChangeShapes Go.WideShapes Go.ChangeAt Go.RowKit
open Go.ChangeMaps (open_string shut_string)
set_option linter.unusedVariables false
set_option maxRecDepth 100000
set_option maxHeartbeats 8000000 in
theorem neighborsTalk_any (a b : Int) (s : ByteArray) (w : World) (a0 : -9223372036854775808 ≤ a) (a1 : a ≤ 9223372036854775807) (b0 : -9223372036854775808 ≤ b) (b1 : b ≤ 9223372036854775807) (hss : s.size ≤ maxLen) :
  Calls Tryz.prog 4 #[.int .i64 a, .int .i64 b, .string s] w fun e w' => e = .returned (.bool true) ∧ Below w.heap.size w w' := by
 go_enter Tryz.func4, Tryz.ntmps4
 go_wp2_with fail
 refine (picked_any a 6 w a0 a1 (by decide) (by decide)).mono ?_
 rintro e w' ⟨rfl, rfl⟩
 go_wp2_with fail
 refine (picked_any b 6 _ b0 b1 (by decide) (by decide)).mono ?_
 rintro e w' ⟨rfl, rfl⟩
 rename World => w''
 have hx := pk_in a 6 (by decide)
 have hy := pk_in b 6 (by decide)
 generalize pk a 6 = x at *
 generalize pk b 6 = y at *
 have hx6 : 0 ≤ x ∧ x ≤ 5 := by omega
 have hy6 : 0 ≤ y ∧ y ≤ 5 := by omega
 clear hx hy
 go_wp2_with fail
 refine (two_any x y _).mono ?_
 rintro e w1 ⟨g, h, rfl, ⟨hs, hp⟩, hgh, hb1⟩
 have HS := hide hs
 have HP := hide hp
 have lg := own_in hs (g := g) rfl
 have lh := own_in hp (g := h) rfl
 clear hs hp
 obtain ⟨W2, hW2⟩ : ∃ W2, W2 = w1.alloc (.cells #[.slice (some ⟨g, 0, none⟩) 2 2, .slice (some ⟨h, 0, none⟩) 3 3, .slice none 0 0] 29) := ⟨_, rfl⟩
 have hb2 : Below w1.heap.size w1 W2 := by rw [hW2]; exact (Below.refl _ _).alloc (Nat.le_refl _) _
 have HB : Hid (Box W2 w1.heap.size [.slice (some ⟨g, 0, none⟩) 2 2, .slice (some ⟨h, 0, none⟩) 3 3, .slice none 0 0]) := by rw [hW2]; exact hide (Box.new w1 [.slice (some ⟨g, 0, none⟩) 2 2, .slice (some ⟨h, 0, none⟩) 3 3, .slice none 0 0] 29)
 have s2 : W2.heap.size = w1.heap.size + 1 := by rw [hW2]; simp
 replace HS := zO HS hb2
 replace HP := zO HP hb2
 have kb := hb1.trans (hb2.mono hb1.size)
 have HW2 : Hid (w1.alloc (.cells #[.slice (some ⟨g, 0, none⟩) 2 2, .slice (some ⟨h, 0, none⟩) 3 3, .slice none 0 0] 29) = W2) := hW2.symm
 clear hW2 hb1 hb2
 obtain ⟨body, hbd⟩ : ∃ body, body = s.extract 0 (min (s.size : Int) 40).toNat := ⟨_, rfl⟩
 have hbs : body.size ≤ 40 := by rw [hbd, ByteArray.size_extract]; omega
 have HBY : Hid (s.extract 0 (min (s.size : Int) 40).toNat = body) := hbd.symm
 clear hbd
 obtain ⟨W3, hW3⟩ : ∃ W3, W3 = W2.alloc (.cells #[.int .i64 12, .int .i64 11, .int .i64 3, .int .i64 51, .int .i64 52, .int .i64 0, .int .i64 0, .string body] 37) := ⟨_, rfl⟩
 have hb3 : Below W2.heap.size W2 W3 := by rw [hW3]; exact (Below.refl _ _).alloc (Nat.le_refl _) _
 have HF : Hid (Box W3 W2.heap.size [.int .i64 12, .int .i64 11, .int .i64 3, .int .i64 51, .int .i64 52, .int .i64 0, .int .i64 0, .string body]) := by rw [hW3]; exact hide (Box.new W2 [.int .i64 12, .int .i64 11, .int .i64 3, .int .i64 51, .int .i64 52, .int .i64 0, .int .i64 0, .string body] 37)
 replace HB := hide (HB.out.below hb3)
 replace HS := zO HS hb3
 replace HP := zO HP hb3
 replace kb := kb.trans (hb3.mono kb.size)
 have HW3 : Hid (W2.alloc (.cells #[.int .i64 12, .int .i64 11, .int .i64 3, .int .i64 51, .int .i64 52, .int .i64 0, .int .i64 0, .string body] 37) = W3) := hW3.symm
 have s3 : W2.heap.size < W3.heap.size := HF.out.lt
 have s4 : w1.heap.size < W2.heap.size := by omega
 have hw0 : w''.heap.size ≤ w1.heap.size := by have := own_ge HS.out g rfl; omega
 clear hW3 hb3 s2
 have hm := (tw_may hx6 (show -1 ≤ y ∧ y ≤ 5 by omega)).1
 obtain ⟨ht1, ht2, ht3, ht4, ht5⟩ := tw_talk hx6 hy6
 have hf : ∀ d s' x' : Int, (0 ≤ d ∧ d ≤ 65535) ∧ (0 ≤ s' ∧ s' ≤ 65535) ∧ (0 ≤ x' ∧ x' ≤ 65535) → fault d s' 3 x' 52 0 0 body.size = 0 := fun d s' x' h => fault_is (by omega) (by omega) hbs (fun e => absurd rfl e)
 have HD1 := hide (fun W hS hP => dlv_any g h (twS 1 60) x y 12 11 3 51 52 0 0 body _ W rfl hS hP hx6 hm (hf _ _ _ (by omega)) ht1 (by decide))
 have HD2 := hide (fun W hS hP => dlv_any g h (twS 1 60) x y 12 12 3 51 52 0 0 body _ W rfl hS hP hx6 hm (hf _ _ _ (by omega)) ht2 (by decide))
 have HD3 := hide (fun W hS hP => dlv_any g h (twS 1 60) x y 12 11 3 52 52 0 0 body _ W rfl hS hP hx6 hm (hf _ _ _ (by omega)) ht3 (by decide))
 have HD4 := hide (fun W hS hP => dlv_any g h (twS 1 60) x y 65535 11 3 51 52 0 0 body _ W rfl hS hP hx6 hm (hf _ _ _ (by omega)) ht4 (by decide))
 have HD5 := hide (fun W hS hP => dlv_any g h (twS 1 60) x y 11 11 3 51 52 0 0 body _ W rfl hS hP hx6 hm (hf _ _ _ (by omega)) ht5 (by decide))
 clear hm ht1 ht2 ht3 ht4 ht5 hf
 go_wp2_with (first | rw [HW2.out] | rw [HBY.out] | rw [HW3.out] | (refine wpList_load_mid rfl 29 (.tmp 7) rfl w1.heap.size 0 rfl _ _ HB.out.range Tryz.underlying29 rfl sizeConf ?_) | (refine wpList_load_mid rfl 37 (.tmp 8) rfl W2.heap.size 0 rfl _ _ HF.out.range Tryz.underlying37 rfl sizeFr ?_))
 refine (HD1.out _ (RowAt.of_own (l := twS 1 60) swC_len (by decide) HS.out) (RowAt.of_own (l := twP x y) prC_len (by decide) HP.out)).mono ?_
 rintro e V1 ⟨u1, rfl, ho1, hb1⟩
 have sz1 := hb1.size
 replace HB := hide (HB.out.below hb1)
 replace HF := hide (HF.out.below hb1)
 replace HS := zO HS hb1
 replace HP := zO HP hb1
 replace kb := kb.trans (hb1.mono kb.size)
 obtain ⟨X, hX⟩ : ∃ X : Nat → Prop, X = fun k => k = W2.heap.size ∨ k = V1.heap.size := ⟨_, rfl⟩
 have HXF : Hid (X W2.heap.size) := by rw [hX]; exact hide (.inl rfl)
 have HXL : Hid (X V1.heap.size) := by rw [hX]; exact hide (.inr rfl)
 have hXn : ∀ k, X k → k = W2.heap.size ∨ k = V1.heap.size := fun k h => by rw [hX] at h; exact h
 have HU1 := hide (own_keep (X := X) ho1 (fun k hk hx => by have := own_ge ho1 k hk; have := own_in ho1 hk; have := hXn k hx; omega))
 have HSK := hide (own_keep (X := X) HS.out (fun k hk hx => by have e : g = k := (by simpa [Value.ownBlock] using hk); have := hXn _ hx; omega))
 have HPK := hide (own_keep (X := X) HP.out (fun k hk hx => by have e : h = k := (by simpa [Value.ownBlock] using hk); have := hXn _ hx; omega))
 have HXN := hide hXn
 clear ho1 hb1 HS HP HD1 hX hXn HW2 HW3 HBY
 obtain ⟨V2, hV2⟩ : ∃ V2, V2 = V1.alloc (.cells #[.int .i64 12, .int .i64 12, .int .i64 3, .int .i64 51, .int .i64 52, .int .i64 0, .int .i64 0, .string body] 37) := ⟨_, rfl⟩
 have hb2 : Below V1.heap.size V1 V2 := by rw [hV2]; exact (Below.refl _ _).alloc (Nat.le_refl _) _
 have HL : Hid (Box V2 V1.heap.size [.int .i64 12, .int .i64 12, .int .i64 3, .int .i64 51, .int .i64 52, .int .i64 0, .int .i64 0, .string body]) := by rw [hV2]; exact hide (Box.new V1 [.int .i64 12, .int .i64 12, .int .i64 3, .int .i64 51, .int .i64 52, .int .i64 0, .int .i64 0, .string body] 37)
 have HV2 : Hid (V1.alloc (.cells #[.int .i64 12, .int .i64 12, .int .i64 3, .int .i64 51, .int .i64 52, .int .i64 0, .int .i64 0, .string body] 37) = V2) := hV2.symm
 have hfl : w1.heap.size ≠ V1.heap.size ∧ W2.heap.size ≠ V1.heap.size ∧ w1.heap.size ≠ W2.heap.size ∧ w''.heap.size ≤ V1.heap.size ∧ w''.heap.size ≤ W2.heap.size := by omega
 clear hV2
 have HF1 := hide HF.out.range
 replace HB := hide (HB.out.below hb2)
 replace HF := hide (HF.out.below hb2)
 replace HSK := hide (HSK.out.below hb2)
 replace HPK := hide (HPK.out.below hb2)
 replace HU1 := hide (HU1.out.below hb2)
 replace kb := kb.trans (hb2.mono kb.size)
 clear hb2
 go_wp2_with (first | rw [HV2.out] | (refine wpList_load_mid rfl 29 (.tmp 7) rfl w1.heap.size 0 rfl _ _ HB.out.range Tryz.underlying29 rfl sizeConf ?_) | (refine wpList_load_mid rfl 37 (.tmp 8) rfl W2.heap.size 0 rfl _ _ HF1.out Tryz.underlying37 rfl sizeFr ?_) | (refine wpList_load_mid rfl 37 (.tmp 8) rfl W2.heap.size 0 rfl _ _ HF.out.range Tryz.underlying37 rfl sizeFr ?_) | (refine wpList_load_mid rfl 37 (.tmp 11) rfl V1.heap.size 0 rfl _ _ HL.out.range Tryz.underlying37 rfl sizeFr ?_))
 clear HV2 HF1
 refine (HD2.out _ (RowAt.of_own (l := twS 1 60) swC_len (by decide) HSK.out.here) (RowAt.of_own (l := twP x y) prC_len (by decide) HPK.out.here)).mono ?_
 rintro e V3 ⟨u2, rfl, ho2, hb2⟩
 replace HB := hide (HB.out.below hb2)
 replace HF := hide (HF.out.below hb2)
 replace HL := hide (HL.out.below hb2)
 replace HSK := hide (HSK.out.below hb2)
 replace HPK := hide (HPK.out.below hb2)
 replace HU1 := hide (HU1.out.below hb2)
 replace kb := kb.trans (hb2.mono kb.size)
 obtain ⟨oo2, oc2, rfl⟩ := own_slc ho2
 clear ho2 hb2 HD2
 obtain ⟨V4, hV4⟩ : ∃ V4, V4 = V3.setCells V1.heap.size 0 [.int .i64 12, .int .i64 11, .int .i64 3, .int .i64 51, .int .i64 52, .int .i64 0, .int .i64 0, .string body] := ⟨_, rfl⟩
 have HFT := hide (HL.out.fit 8 rfl)
 replace HL : Hid (Box V4 V1.heap.size [.int .i64 12, .int .i64 11, .int .i64 3, .int .i64 51, .int .i64 52, .int .i64 0, .int .i64 0, .string body]) := by rw [hV4]; exact hide (HL.out.set ([.int .i64 12, .int .i64 11, .int .i64 3, .int .i64 51, .int .i64 52, .int .i64 0, .int .i64 0, .string body] : List Value) rfl)
 replace HF : Hid (Box V4 W2.heap.size [.int .i64 12, .int .i64 11, .int .i64 3, .int .i64 51, .int .i64 52, .int .i64 0, .int .i64 0, .string body]) := by rw [hV4]; exact hide (HF.out.set_far hfl.2.1 _ _)
 replace HB : Hid (Box V4 w1.heap.size [.slice (some ⟨g, 0, none⟩) 2 2, .slice (some ⟨h, 0, none⟩) 3 3, .slice none 0 0]) := by rw [hV4]; exact hide (HB.out.set_far hfl.1 _ _)
 have HF3 : Hid (V3.rangeAt W2.heap.size 0 [.int .i64 12, .int .i64 11, .int .i64 3, .int .i64 51, .int .i64 52, .int .i64 0, .int .i64 0, .string body]) := by
  refine hide (fun j v hj => ?_)
  have := HF.out.range j v hj
  rw [hV4, World.cell?_setCells_out V1.heap.size _ 0 V3 ⟨W2.heap.size, 0 + j, none⟩ (fun e _ => absurd e hfl.2.1)] at this
  exact this
 replace HSK := hide (HSK.out.set (b := V1.heap.size) HXL.out 0 [.int .i64 12, .int .i64 11, .int .i64 3, .int .i64 51, .int .i64 52, .int .i64 0, .int .i64 0, .string body])
 rw [← hV4] at HSK
 replace HPK := hide (HPK.out.set (b := V1.heap.size) HXL.out 0 [.int .i64 12, .int .i64 11, .int .i64 3, .int .i64 51, .int .i64 52, .int .i64 0, .int .i64 0, .string body])
 rw [← hV4] at HPK
 replace HU1 := hide (HU1.out.set (b := V1.heap.size) HXL.out 0 [.int .i64 12, .int .i64 11, .int .i64 3, .int .i64 51, .int .i64 52, .int .i64 0, .int .i64 0, .string body])
 rw [← hV4] at HU1
 replace kb : Below w''.heap.size w'' V4 := by rw [hV4]; exact setCells_below _ hfl.2.2.2.1 _ _ kb
 have HV4 : Hid (V3.setCells V1.heap.size 0 [.int .i64 12, .int .i64 11, .int .i64 3, .int .i64 51, .int .i64 52, .int .i64 0, .int .i64 0, .string body] = V4) := hV4.symm
 clear hV4
 have c5 := HL.out.cell 3 _ rfl
 have z5 := HL.out.2 3 (by show 3 < 8; decide)
 obtain ⟨V5, hV5⟩ : ∃ V5, V5 = V4.setCell ⟨V1.heap.size, 3, none⟩ (.int .i64 52) := ⟨_, rfl⟩
 replace HL : Hid (Box V5 V1.heap.size [.int .i64 12, .int .i64 11, .int .i64 3, .int .i64 52, .int .i64 52, .int .i64 0, .int .i64 0, .string body]) := by rw [hV5]; exact hide (HL.out.set1 3 (.int .i64 52) (by show 3 < 8; decide))
 replace HF := hide (HF.out.set1_far (b' := V1.heap.size) hfl.2.1 3 (.int .i64 52))
 replace HB := hide (HB.out.set1_far (b' := V1.heap.size) hfl.1 3 (.int .i64 52))
 replace HSK := hide (HSK.out.set (b := V1.heap.size) HXL.out 3 [.int .i64 52])
 replace HPK := hide (HPK.out.set (b := V1.heap.size) HXL.out 3 [.int .i64 52])
 replace HU1 := hide (HU1.out.set (b := V1.heap.size) HXL.out 3 [.int .i64 52])
 replace kb : Below w''.heap.size w'' V5 := by rw [hV5]; exact kb.setCell (p := ⟨V1.heap.size, 3, none⟩) hfl.2.2.2.1 _
 rw [show V4.setCells V1.heap.size 3 [.int .i64 52] = V5 from hV5.symm] at HSK HPK HU1
 rw [← hV5] at HF HB
 have HV5 : Hid (V4.setCell ⟨V1.heap.size, 3, none⟩ (.int .i64 52) = V5) := hV5.symm
 clear hV5
 go_wp2_with (first | rw [HV5.out] | (refine wpList_store_mid rfl 37 (.tmp 11) (.tmp 45) rfl V1.heap.size 0 _ rfl rfl HFT.out sizeFr (ones rfl) ?_; rw [show (#[.int .i64 12, .int .i64 11, .int .i64 3, .int .i64 51, .int .i64 52, .int .i64 0, .int .i64 0, .string body] : Array Value).toList = [.int .i64 12, .int .i64 11, .int .i64 3, .int .i64 51, .int .i64 52, .int .i64 0, .int .i64 0, .string body] from rfl, HV4.out]) | (refine wpList_load_mid rfl 29 (.tmp 7) rfl w1.heap.size 0 rfl _ _ HB.out.range Tryz.underlying29 rfl sizeConf ?_) | (refine wpList_load_mid rfl 37 (.tmp 8) rfl W2.heap.size 0 rfl _ _ HF3.out Tryz.underlying37 rfl sizeFr ?_) | (refine wpList_load_mid rfl 37 (.tmp 11) rfl V1.heap.size 0 rfl _ _ HL.out.range Tryz.underlying37 rfl sizeFr ?_))
 clear HV4 HV5 HFT HF3 c5 z5
 refine (HD3.out _ (RowAt.of_own (l := twS 1 60) swC_len (by decide) HSK.out.here) (RowAt.of_own (l := twP x y) prC_len (by decide) HPK.out.here)).mono ?_
 rintro e V6 ⟨u3, rfl, ho3, hb3⟩
 replace HB := hide (HB.out.below hb3)
 replace HF := hide (HF.out.below hb3)
 replace HL := hide (HL.out.below hb3)
 replace HSK := hide (HSK.out.below hb3)
 replace HPK := hide (HPK.out.below hb3)
 replace HU1 := hide (HU1.out.below hb3)
 replace kb := kb.trans (hb3.mono kb.size)
 obtain ⟨oo3, oc3, rfl⟩ := own_slc ho3
 clear ho3 hb3 HD3
 have c6 := HF.out.cell 0 _ rfl
 have z6 := HF.out.2 0 (by show 0 < 8; decide)
 obtain ⟨V7, hV7⟩ : ∃ V7, V7 = V6.setCell ⟨W2.heap.size, 0, none⟩ (.int .i64 65535) := ⟨_, rfl⟩
 replace HF : Hid (Box V7 W2.heap.size [.int .i64 65535, .int .i64 11, .int .i64 3, .int .i64 51, .int .i64 52, .int .i64 0, .int .i64 0, .string body]) := by rw [hV7]; exact hide (HF.out.set1 0 (.int .i64 65535) (by show 0 < 8; decide))
 replace HL := hide (HL.out.set1_far (b' := W2.heap.size) hfl.2.1.symm 0 (.int .i64 65535))
 replace HB := hide (HB.out.set1_far (b' := W2.heap.size) hfl.2.2.1 0 (.int .i64 65535))
 replace HSK := hide (HSK.out.set (b := W2.heap.size) HXF.out 0 [.int .i64 65535])
 replace HPK := hide (HPK.out.set (b := W2.heap.size) HXF.out 0 [.int .i64 65535])
 replace HU1 := hide (HU1.out.set (b := W2.heap.size) HXF.out 0 [.int .i64 65535])
 replace kb : Below w''.heap.size w'' V7 := by rw [hV7]; exact kb.setCell (p := ⟨W2.heap.size, 0, none⟩) hfl.2.2.2.2 _
 rw [show V6.setCells W2.heap.size 0 [.int .i64 65535] = V7 from hV7.symm] at HSK HPK HU1
 rw [← hV7] at HL HB
 have HV7 : Hid (V6.setCell ⟨W2.heap.size, 0, none⟩ (.int .i64 65535) = V7) := hV7.symm
 clear hV7
 go_wp2_with (first | rw [HV7.out] | (refine wpList_load_mid rfl 29 (.tmp 7) rfl w1.heap.size 0 rfl _ _ HB.out.range Tryz.underlying29 rfl sizeConf ?_) | (refine wpList_load_mid rfl 37 (.tmp 8) rfl W2.heap.size 0 rfl _ _ HF.out.range Tryz.underlying37 rfl sizeFr ?_))
 clear HV7 c6 z6
 have sl4 := HL.out.lt
 refine (HD4.out _ (RowAt.of_own (l := twS 1 60) swC_len (by decide) HSK.out.here) (RowAt.of_own (l := twP x y) prC_len (by decide) HPK.out.here)).mono ?_
 rintro e V8 ⟨u4, rfl, ho4, hb4⟩
 replace HB := hide (HB.out.below hb4)
 replace HF := hide (HF.out.below hb4)
 replace HL := hide (HL.out.below hb4)
 replace HSK := hide (HSK.out.below hb4)
 replace HPK := hide (HPK.out.below hb4)
 replace HU1 := hide (HU1.out.below hb4)
 replace kb := kb.trans (hb4.mono kb.size)
 obtain ⟨g4, c4, rfl, hg4, hl4⟩ := own_blk ho4 (by decide)
 have HU4 := hide (own_keep (X := X) ho4 (fun k hk hx => by have e : g4 = k := (by simpa [Value.ownBlock] using hk); have := HXN.out _ hx; omega))
 clear ho4 hb4 HD4
 have c7 := HF.out.cell 0 _ rfl
 have z7 := HF.out.2 0 (by show 0 < 8; decide)
 obtain ⟨V9, hV9⟩ : ∃ V9, V9 = V8.setCell ⟨W2.heap.size, 0, none⟩ (.int .i64 11) := ⟨_, rfl⟩
 replace HF : Hid (Box V9 W2.heap.size [.int .i64 11, .int .i64 11, .int .i64 3, .int .i64 51, .int .i64 52, .int .i64 0, .int .i64 0, .string body]) := by rw [hV9]; exact hide (HF.out.set1 0 (.int .i64 11) (by show 0 < 8; decide))
 replace HL := hide (HL.out.set1_far (b' := W2.heap.size) hfl.2.1.symm 0 (.int .i64 11))
 replace HB := hide (HB.out.set1_far (b' := W2.heap.size) hfl.2.2.1 0 (.int .i64 11))
 replace HSK := hide (HSK.out.set (b := W2.heap.size) HXF.out 0 [.int .i64 11])
 replace HPK := hide (HPK.out.set (b := W2.heap.size) HXF.out 0 [.int .i64 11])
 replace HU1 := hide (HU1.out.set (b := W2.heap.size) HXF.out 0 [.int .i64 11])
 replace HU4 := hide (HU4.out.set (b := W2.heap.size) HXF.out 0 [.int .i64 11])
 replace kb : Below w''.heap.size w'' V9 := by rw [hV9]; exact kb.setCell (p := ⟨W2.heap.size, 0, none⟩) hfl.2.2.2.2 _
 rw [show V8.setCells W2.heap.size 0 [.int .i64 11] = V9 from hV9.symm] at HSK HPK HU1 HU4
 rw [← hV9] at HL HB
 have HV9 : Hid (V8.setCell ⟨W2.heap.size, 0, none⟩ (.int .i64 11) = V9) := hV9.symm
 clear hV9
 go_wp2_with (first | rw [HV9.out] | (refine wpList_load_mid rfl 29 (.tmp 7) rfl w1.heap.size 0 rfl _ _ HB.out.range Tryz.underlying29 rfl sizeConf ?_) | (refine wpList_load_mid rfl 37 (.tmp 8) rfl W2.heap.size 0 rfl _ _ HF.out.range Tryz.underlying37 rfl sizeFr ?_))
 clear HV9 c7 z7
 refine (HD5.out _ (RowAt.of_own (l := twS 1 60) swC_len (by decide) HSK.out.here) (RowAt.of_own (l := twP x y) prC_len (by decide) HPK.out.here)).mono ?_
 rintro e VA ⟨u5, rfl, ho5, hb5⟩
 replace HB := hide (HB.out.below hb5)
 replace HF := hide (HF.out.below hb5)
 replace HL := hide (HL.out.below hb5)
 replace HSK := hide (HSK.out.below hb5)
 replace HPK := hide (HPK.out.below hb5)
 replace HU1 := hide (HU1.out.below hb5)
 replace HU4 := hide (HU4.out.below hb5)
 replace kb := kb.trans (hb5.mono kb.size)
 obtain ⟨oo5, oc5, rfl⟩ := own_slc ho5
 clear ho5 hb5 HD5
 have c8 := HF.out.cell 0 _ rfl
 have z8 := HF.out.2 0 (by show 0 < 8; decide)
 obtain ⟨VB, hVB⟩ : ∃ VB, VB = VA.setCell ⟨W2.heap.size, 0, none⟩ (.int .i64 12) := ⟨_, rfl⟩
 replace HF : Hid (Box VB W2.heap.size [.int .i64 12, .int .i64 11, .int .i64 3, .int .i64 51, .int .i64 52, .int .i64 0, .int .i64 0, .string body]) := by rw [hVB]; exact hide (HF.out.set1 0 (.int .i64 12) (by show 0 < 8; decide))
 replace HL := hide (HL.out.set1_far (b' := W2.heap.size) hfl.2.1.symm 0 (.int .i64 12))
 replace HB := hide (HB.out.set1_far (b' := W2.heap.size) hfl.2.2.1 0 (.int .i64 12))
 replace HSK := hide (HSK.out.set (b := W2.heap.size) HXF.out 0 [.int .i64 12])
 replace HPK := hide (HPK.out.set (b := W2.heap.size) HXF.out 0 [.int .i64 12])
 replace HU1 := hide (HU1.out.set (b := W2.heap.size) HXF.out 0 [.int .i64 12])
 replace HU4 := hide (HU4.out.set (b := W2.heap.size) HXF.out 0 [.int .i64 12])
 replace kb : Below w''.heap.size w'' VB := by rw [hVB]; exact kb.setCell (p := ⟨W2.heap.size, 0, none⟩) hfl.2.2.2.2 _
 rw [show VA.setCells W2.heap.size 0 [.int .i64 12] = VB from hVB.symm] at HSK HPK HU1 HU4
 rw [← hVB] at HL HB
 have HVB : Hid (VA.setCell ⟨W2.heap.size, 0, none⟩ (.int .i64 12) = VB) := hVB.symm
 clear hVB
 obtain ⟨VC, hVC⟩ : ∃ VC, VC = VB.alloc (.cells #[.int .i64 2, .int .i64 12, .int .i64 11, .int .i64 3, .int .i64 51, .int .i64 52, .int .i64 0, .int .i64 0, .string body] 56) := ⟨_, rfl⟩
 have hbC : Below VB.heap.size VB VC := by rw [hVC]; exact (Below.refl _ _).alloc (Nat.le_refl _) _
 have HQ : Hid (RowAt (arC body) 9 VC (.slice (some ⟨VB.heap.size, 0, none⟩) 1 1) [⟨2, [12, 11, 3, 51, 52, 0, 0]⟩]) := by
  have : VC.ownsRow VB.heap.size 56 9 (.slice (some ⟨VB.heap.size, 0, none⟩) 1 1) 1 (([⟨2, [12, 11, 3, 51, 52, 0, 0]⟩] : List Ar).flatMap (arC body)) := by rw [hVC]; exact World.ownsRow_lit VB _ 1 (Nat.le_refl _) (by decide) rfl
  exact hide (RowAt.of_own (C := arC body) (sz := 9) (l := ([⟨2, [12, 11, 3, 51, 52, 0, 0]⟩] : List Ar)) (fun _ => rfl) (by decide) this)
 have HVC : Hid (VB.alloc (.cells #[.int .i64 2, .int .i64 12, .int .i64 11, .int .i64 3, .int .i64 51, .int .i64 52, .int .i64 0, .int .i64 0, .string body] 56) = VC) := hVC.symm
 have HUC := hide (own_below HU1.out.here hbC)
 have HU := hide (RowAt.of_own (C := arC body) (sz := 9) (fun _ => rfl) (by decide) HUC.out)
 have HU4C := hide (HU4.out.below hbC)
 have kbC := kb.trans (hbC.mono kb.size)
 clear hVC hbC HU1 HUC HSK HPK
 have q0 := HF.out.cell 0 _ rfl
 have q1 := HF.out.cell 1 _ rfl
 have q2 := HF.out.cell 2 _ rfl
 have q3 := HF.out.cell 3 _ rfl
 have q4 := HF.out.cell 4 _ rfl
 have q5 := HF.out.cell 5 _ rfl
 have q6 := HF.out.cell 6 _ rfl
 have q7 := HF.out.cell 7 _ rfl
 go_wp2_with (first | rw [HVB.out] | rw [HVC.out])
 refine (equalAr_any _ _ _ body _ HU.out HQ.out (by show 1 ≤ 2000000; decide)).mono ?_
 rintro e VD ⟨rfl, hbD⟩
 have cd : VD.cell? ⟨g4, 0, none⟩ = some (.int .i64 2) := by have := (HU4C.out.below hbD).here.cells rfl 0 _ rfl; rw [Addr.add_mid] at this; simpa using this
 go_wp2_with fail
 go_ret
 exact ⟨rfl, kbC.trans (hbD.mono kbC.size)⟩
set_option maxRecDepth 100000 in
theorem neighborsTalk_lifted (os : Os) (started : os.Started) (H : Type) (enc : TypeId × Value → H) :
  ReturnsInHanded {} Tryz.checked os 4 .any (Rows.neighborsTalkSpec.pre6 enc Tryz.prog Tryz.f4 Rows.neighborsTalkRow.domain false) (Rows.neighborsTalkSpec.post enc Tryz.prog Tryz.f4 false true false false) := by
 refine returnsInHanded_of_change (C := Tryz.checked) own started (by kernel_rfl) Tryz.func4
  (ChangeSpec.witness6 (enc := enc) (C := Tryz.checked) false ⟨#[], #[.int .i64 0, .int .i64 0, .string ⟨#[]⟩], []⟩ 8 (by kernel_rfl) (by kernel_rfl) (by kernel_rfl) (by kernel_rfl)) ?_
 intro W base args ds gs before hval0 hW hcnd _
 have hval : ∀ (j : Nat) t v, Tryz.f4.params[j]? = some t → args[j]? = some v → Value.okWide Tryz.prog W .any base t v := hval0
 have hW' := hW
 obtain ⟨p, q, hA0, hV, rfl, hfz, hnd⟩ := hW
 have hA : DataW.TrodAll enc Tryz.prog W 0 (fun _ => true) true Tryz.f4.params.toList args.toList ds p := hA0
 rw [Tryz.params4] at hA hval
 obtain ⟨v0, vs0, d0, ds0, p0, q0, hargs, rfl, rfl, h0, r0⟩ := trodAll_cons hA
 obtain ⟨v1, vs1, d1, ds1, p1, q1, rfl, rfl, rfl, h1, r1⟩ := trodAll_cons r0
 obtain ⟨v2, vs2, d2, ds2, p2, q2, rfl, rfl, rfl, h2, r2⟩ := trodAll_cons r1
 obtain ⟨rfl, rfl, rfl⟩ := trodAll_nil r2
 obtain rfl : args = #[v0, v1, v2] := by cases args; simp_all
 obtain ⟨rfl, rfl⟩ := trodVars_none hV
 obtain ⟨x0, rfl, rfl, rfl, wx0⟩ := open_int Tryz.underlying3 (hval 0 3 v0 rfl rfl) h0
 obtain ⟨x1, rfl, rfl, rfl, wx1⟩ := open_int Tryz.underlying3 (hval 1 3 v1 rfl rfl) h1
 obtain ⟨x2, rfl, rfl, rfl, wx2⟩ := open_string Tryz.underlying9 (hval 2 9 v2 rfl rfl) h2
 clear hA0 hval0
 refine (neighborsTalk_any x0 x1 x2 W (i64_in wx0).1 (i64_in wx0).2 (i64_in wx1).1 (i64_in wx1).2 wx2).mono fun e W' ⟨he, bel⟩ => ?_
 subst he
 exact ⟨_, rfl, _, _, _, [], _, [], hW', trodAll_mk1 (shut_bool Tryz.underlying4 _), (trodAll_cons_mk (shut_int Tryz.underlying3 wx0) (trodAll_cons_mk (shut_int Tryz.underlying3 wx1) (trodAll_cons_mk (shut_string Tryz.underlying9 wx2) trodAll_mk0))), rfl, bel.frame _, fun h => by cases h⟩
theorem neighborsTalk_holds : Rows.NeighborsTalkSaid :=
 OpenClaim.holds_of_wide 4 Tryz.f4 rfl rfl rfl rfl rfl rfl rfl ⟨rfl, rfl, rfl, rfl, rfl⟩ rfl rfl rfl rfl rfl (by kernel_rfl) Tryz.func4 (by kernel_rfl)
  (of_decide_eq_true (by kernel_rfl)) (by unfold Func.isWrapper; first | (rw [if_pos (by decide +kernel)]; kernel_rfl) | (rw [if_neg (by decide +kernel)]; exact ⟨rfl, rfl⟩))
  (fun os started H enc _ => neighborsTalk_lifted os started H enc)
end Go.Proofs.YtncdininppehkaaGreat
