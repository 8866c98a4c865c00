/- The law AsksAnswered returns true at every two numbers; no condition. -/
import Derived.OpenShut
import Derived.Test.YtncdininppehkaaGreatJAsksAnswered9
namespace Go.Proofs.YtncdininppehkaaGreat
open Go.ChangeShapes Go.WideShapes Go.ChangeAt Go.RowKit
set_option linter.unusedVariables false
set_option maxRecDepth 100000
set_option maxHeartbeats 2000000 in
theorem ask_any (a b ip : Int) (cb g h : Nat) (l : List Ar) (w : World) (hB : w.rangeAt cb 0 [.slice (some ⟨g, 0, none⟩) 2 2, .slice (some ⟨h, 0, none⟩) 3 3, .slice none 0 0]) (hcb : cb < w.heap.size) (hS : SwsAt w (.slice (some ⟨g, 0, none⟩) 2 2) (twS 1 60)) (hP : PrsAt w (.slice (some ⟨h, 0, none⟩) 3 3) (twP a b)) (ha : 0 ≤ a ∧ a ≤ 5) (hb : -1 ≤ b ∧ b ≤ 5) (hip : 0 ≤ ip ∧ ip ≤ 65535)
  (hL : comeG (twP a b) [] (led (twS 1 60) (twP a b) [] a 1 65535 11 1 51 ip 0 0) = l) (hl : l.length ≤ 1) :
  Calls Tryz.prog 20 #[.int .i64 ip, .pointer (some ⟨cb, 0, none⟩)] w fun e w' => ∃ u, e = .returned u ∧ RowAt (arC ⟨#[]⟩) 9 w' u l ∧ Below w.heap.size w w' := by
 have hm := (tw_may ha hb).1
 have hd := tw_del (m := 0) hm ha (fault_is (d := 65535) (s := 11) (k := 1) (a := 51) (b := ip) (t := 0) (o := 0) (n := 0) (by omega) (by omega) (by omega) (fun _ => ⟨rfl, rfl, rfl⟩))
 rw [hL] at hd
 have hA : arrL (KD (twS 1 60) (twP a b) [] 6) (twP a b) 1 65535 11 1 51 ip 0 0 0 = l := by
  have := hd.2
  unfold delL at this
  rwa [if_pos hm] at this
 have HDV := hide (deliver_any (twS 1 60) (twP a b) [] (some ⟨g, 0, none⟩) (some ⟨h, 0, none⟩) none 2 3 0 1 65535 11 1 51 ip 0 0 ⟨#[]⟩ w ⟨hS, hP, ⟨none, 0, rfl, fun _ => rfl, .inl rfl⟩⟩ (by decide) (by show 3 ≤ 1000; decide) (by decide) (fun _ _ => sorts_nil) (by decide) (fun _ _ => by show SortsAr (arrL _ _ _ _ _ _ _ _ _ _ 0); rw [hA]; exact sortsAr_tiny hl))
 have HE : Hid (delE (twS 1 60) (twP a b) [] 1 65535 11 1 51 ip 0 0 (⟨#[]⟩ : ByteArray).size = 0) := hide hd.1
 have HL : Hid (delL (twS 1 60) (twP a b) [] 1 65535 11 1 51 ip 0 0 (⟨#[]⟩ : ByteArray).size = l) := hide hd.2
 rw [HE.out, HL.out] at HDV
 clear hd hA HE HL hm hL hS hP
 have HB := hide hB
 clear hB
 go_enter Tryz.func20, Tryz.ntmps20
 go_wp2_with (refine wpList_load_mid rfl 29 (.tmp 1) rfl cb 0 rfl _ _ HB.out Tryz.underlying29 rfl sizeConf ?_)
 refine (unhide HDV).mono ?_
 rintro e w1 ⟨u, rfl, l', ⟨hp, _, ho⟩, hb1⟩
 have hll : l' = l := by
  match l, hl, hp with
  | [], _, hp => exact List.perm_nil.1 hp
  | [x], _, hp => exact List.perm_singleton.1 hp
 subst hll
 have HO := hide (RowAt.of_own (C := arC ⟨#[]⟩) (sz := 9) (l := l') (fun _ => rfl) (by decide) ho)
 clear hp ho HDV HB
 go_wp2_with fail
 go_ret
 exact ⟨u, rfl, HO.out, hb1⟩
set_option maxHeartbeats 2000000 in
theorem reply_any (ip mac : Int) (w : World) : Calls Tryz.prog 21 #[.int .i64 ip, .int .i64 mac] w fun e w' => ∃ u, e = .returned u ∧ RowAt (arC ⟨#[]⟩) 9 w' u [⟨1, [11, mac, 2, ip, 51, 0, 0]⟩] ∧ Below w.heap.size w w' := by
 go_enter Tryz.func21, Tryz.ntmps21
 go_wp2_with fail
 go_ret
 refine ⟨_, rfl, RowAt.of_own (C := arC ⟨#[]⟩) (sz := 9) (l := ([⟨1, [11, mac, 2, ip, 51, 0, 0]⟩] : List Ar)) (fun _ => rfl) (by decide) (World.ownsRow_lit w _ 1 (Nat.le_refl _) (by decide) rfl), (Below.refl _ _).alloc (Nat.le_refl _) _⟩
set_option maxHeartbeats 4000000 in
theorem asksAnswered_any (a b : Int) (w : World) (a0 : -9223372036854775808 ≤ a) (a1 : a ≤ 9223372036854775807) (b0 : -9223372036854775808 ≤ b) (b1 : b ≤ 9223372036854775807) :
  Calls Tryz.prog 6 #[.int .i64 a, .int .i64 b] w fun e w' => e = .returned (.bool true) ∧ Below w.heap.size w w' := by
 go_enter Tryz.func6, Tryz.ntmps6
 go_wp2_with fail
 refine (picked_any a 6 w a0 a1 (by decide) (by decide)).mono ?_
 rintro e w' ⟨rfl, rfl⟩
 go_wp2_with fail
 refine (picked_any b 7 _ b0 b1 (by decide) (by decide)).mono ?_
 rintro e w' ⟨rfl, rfl⟩
 have hx := pk_in a 6 (by decide)
 have hy := pk_in b 7 (by decide)
 generalize pk a 6 = x at *
 generalize pk b 7 = y' at *
 obtain ⟨y, hye⟩ : ∃ y, y = y' - 1 := ⟨_, rfl⟩
 have hw : IntKind.i64.wrap (y' - 1) = y := by rw [hye]; simp [IntKind.wrap, IntKind.bits, IntKind.signed]; split <;> omega
 have hx6 : 0 ≤ x ∧ x ≤ 5 := by omega
 have hy6 : -1 ≤ y ∧ y ≤ 5 := by omega
 clear hye hx hy
 go_wp2_with fail
 refine (two_any x y _).mono ?_
 rintro e w1 ⟨g, h, rfl, ⟨hs, hp⟩, hgh, hb1⟩
 have HS := hide (RowAt.of_own (l := twS 1 60) swC_len (by decide) hs)
 have HP := hide (RowAt.of_own (l := twP x y) prC_len (by decide) hp)
 clear hs hp
 obtain ⟨W2, hW2⟩ : ∃ W2, W2 = w1.alloc (.cells #[.slice (some ⟨g, 0, none⟩) 2 2, .slice (some ⟨h, 0, none⟩) 3 3, .slice none 0 0] 29) := ⟨_, rfl⟩
 have hb2 : Below w1.heap.size w1 W2 := by rw [hW2]; exact (Below.refl _ _).alloc (Nat.le_refl _) _
 have HB : Hid (Box W2 w1.heap.size [.slice (some ⟨g, 0, none⟩) 2 2, .slice (some ⟨h, 0, none⟩) 3 3, .slice none 0 0]) := by rw [hW2]; exact hide (Box.new w1 [.slice (some ⟨g, 0, none⟩) 2 2, .slice (some ⟨h, 0, none⟩) 3 3, .slice none 0 0] 29)
 replace HS := hide (RowAt.below HS.out hb2 (Nat.le_refl _))
 replace HP := hide (RowAt.below HP.out hb2 (Nat.le_refl _))
 have kb := hb1.trans (hb2.mono hb1.size)
 have HW2 : Hid (w1.alloc (.cells #[.slice (some ⟨g, 0, none⟩) 2 2, .slice (some ⟨h, 0, none⟩) 3 3, .slice none 0 0] 29) = W2) := hW2.symm
 clear hW2 hb1 hb2
 have HAK := hide (fun ip l W (hW : Below W2.heap.size W2 W) (hip : 0 ≤ ip ∧ ip ≤ 65535) hL hl => ask_any x y ip w1.heap.size g h l W (range_below HB.out.range hW HB.out.lt) (Nat.lt_of_lt_of_le HB.out.lt hW.size) (RowAt.below HS.out hW (Nat.le_refl _)) (RowAt.below HP.out hW (Nat.le_refl _)) hx6 hy6 hip hL hl)
 have HT := hide (tw_asks hx6 hy6)
 have HB0 := hide (Below.refl W2.heap.size W2)
 clear HS HP
 go_wp2_with (first | rw [HW2.out])
 clear HW2
 refine (HAK.out 52 [⟨1, [11, 12, 2, 52, 51, 0, 0]⟩] _ HB0.out (by decide) HT.out.1 (by decide)).mono ?_
 rintro e V1 ⟨u1, rfl, hr1, hb1⟩
 have HR1 := hide hr1
 have HB1 := hide (HB0.out.trans (hb1.mono HB0.out.size))
 clear hr1 hb1
 go_wp2_with fail
 refine (reply_any 52 12 _).mono ?_
 rintro e V2 ⟨u2, rfl, hr2, hb2⟩
 have HB2 := hide (HB1.out.trans (hb2.mono HB1.out.size))
 replace HR1 := hide (RowAt.below HR1.out hb2 (Nat.le_refl _))
 have HR2 := hide hr2
 clear hr2 hb2
 go_wp2_with fail
 refine (equalAr_any _ _ _ ⟨#[]⟩ _ HR1.out HR2.out (by decide)).mono ?_
 rintro e V3 ⟨rfl, hb3⟩
 have HB3 := hide (HB2.out.trans (hb3.mono HB2.out.size))
 clear hb3 HR1 HR2
 go_wp2_with fail
 refine (HAK.out 50 [⟨1, [11, 60001, 2, 50, 51, 0, 0]⟩] _ HB3.out (by decide) HT.out.2.1 (by decide)).mono ?_
 rintro e V4 ⟨u4, rfl, hr4, hb4⟩
 have HR4 := hide hr4
 have HB4 := hide (HB3.out.trans (hb4.mono HB3.out.size))
 clear hr4 hb4
 go_wp2_with fail
 refine (reply_any 50 60001 _).mono ?_
 rintro e V5 ⟨u5, rfl, hr5, hb5⟩
 have HB5 := hide (HB4.out.trans (hb5.mono HB4.out.size))
 replace HR4 := hide (RowAt.below HR4.out hb5 (Nat.le_refl _))
 have HR5 := hide hr5
 clear hr5 hb5
 go_wp2_with fail
 refine (equalAr_any _ _ _ ⟨#[]⟩ _ HR4.out HR5.out (by decide)).mono ?_
 rintro e V6 ⟨rfl, hb6⟩
 have HB6 := hide (HB5.out.trans (hb6.mono HB5.out.size))
 clear hb6 HR4 HR5
 go_wp2_with fail
 refine (HAK.out 51 [] _ HB6.out (by decide) HT.out.2.2.1 (by decide)).mono ?_
 rintro e V7 ⟨u7, rfl, hr7, hb7⟩
 obtain ⟨oo7, oc7, rfl⟩ := hr7.slice
 have HB7 := hide (HB6.out.trans (hb7.mono HB6.out.size))
 clear hr7 hb7
 go_wp2_with fail
 refine (HAK.out 61 [] _ HB7.out (by decide) HT.out.2.2.2.1 (by decide)).mono ?_
 rintro e V8 ⟨u8, rfl, hr8, hb8⟩
 obtain ⟨oo8, oc8, rfl⟩ := hr8.slice
 have HB8 := hide (HB7.out.trans (hb8.mono HB7.out.size))
 clear hr8 hb8
 go_wp2_with fail
 refine (HAK.out 60 [] _ HB8.out (by decide) HT.out.2.2.2.2 (by decide)).mono ?_
 rintro e V9 ⟨u9, rfl, hr9, hb9⟩
 obtain ⟨oo9, oc9, rfl⟩ := hr9.slice
 have HB9 := hide (HB8.out.trans (hb9.mono HB8.out.size))
 clear hr9 hb9
 go_wp2_with fail
 go_ret
 exact ⟨rfl, kb.trans (HB9.out.mono kb.size)⟩
set_option maxRecDepth 100000 in
theorem asksAnswered_lifted (os : Os) (started : os.Started) (H : Type) (enc : TypeId × Value → H) :
  ReturnsInHanded {} Tryz.checked os 6 .any (Rows.asksAnsweredSpec.pre6 enc Tryz.prog Tryz.f6 Rows.asksAnsweredRow.domain false) (Rows.asksAnsweredSpec.post enc Tryz.prog Tryz.f6 false true false false) := by
 refine returnsInHanded_of_change (C := Tryz.checked) own started (by kernel_rfl) Tryz.func6
  (ChangeSpec.witness6 (enc := enc) (C := Tryz.checked) false ⟨#[], #[.int .i64 0, .int .i64 0], []⟩ 8 (by kernel_rfl) (by kernel_rfl) (by kernel_rfl) (by kernel_rfl)) ?_
 intro W base args ds gs before hval0 hW hcnd _
 have hval : ∀ (j : Nat) t v, Tryz.f6.params[j]? = some t → args[j]? = some v → Value.okWide Tryz.prog W .any base t v := hval0
 have hW' := hW
 obtain ⟨p, q, hA0, hV, rfl, hfz, hnd⟩ := hW
 have hA : DataW.TrodAll enc Tryz.prog W 0 (fun _ => true) true Tryz.f6.params.toList args.toList ds p := hA0
 rw [Tryz.params6] at hA hval
 obtain ⟨v0, vs0, d0, ds0, p0, q0, hargs, rfl, rfl, h0, r0⟩ := trodAll_cons hA
 obtain ⟨v1, vs1, d1, ds1, p1, q1, rfl, rfl, rfl, h1, r1⟩ := trodAll_cons r0
 obtain ⟨rfl, rfl, rfl⟩ := trodAll_nil r1
 obtain rfl : args = #[v0, v1] := by cases args; simp_all
 obtain ⟨rfl, rfl⟩ := trodVars_none hV
 obtain ⟨x0, rfl, rfl, rfl, wx0⟩ := open_int Tryz.underlying3 (hval 0 3 v0 rfl rfl) h0
 obtain ⟨x1, rfl, rfl, rfl, wx1⟩ := open_int Tryz.underlying3 (hval 1 3 v1 rfl rfl) h1
 clear hA0 hval0
 refine (asksAnswered_any x0 x1 W (i64_in wx0).1 (i64_in wx0).2 (i64_in wx1).1 (i64_in wx1).2).mono fun e W' ⟨he, bel⟩ => ?_
 subst he
 exact ⟨_, rfl, _, _, _, [], _, [], hW', trodAll_mk1 (shut_bool Tryz.underlying4 _), (trodAll_cons_mk (shut_int Tryz.underlying3 wx0) (trodAll_cons_mk (shut_int Tryz.underlying3 wx1) trodAll_mk0)), rfl, bel.frame _, fun h => by cases h⟩
theorem asksAnswered_holds : Rows.AsksAnsweredSaid :=
 OpenClaim.holds_of_wide 6 Tryz.f6 rfl rfl rfl rfl rfl rfl rfl ⟨rfl, rfl, rfl, rfl, rfl⟩ rfl rfl rfl rfl rfl (by kernel_rfl) Tryz.func6 (by kernel_rfl)
  (of_decide_eq_true (by kernel_rfl)) (by unfold Func.isWrapper; first | (rw [if_pos (by decide +kernel)]; kernel_rfl) | (rw [if_neg (by decide +kernel)]; exact ⟨rfl, rfl⟩))
  (fun os started H enc _ => asksAnswered_lifted os started H enc)
end Go.Proofs.YtncdininppehkaaGreat
