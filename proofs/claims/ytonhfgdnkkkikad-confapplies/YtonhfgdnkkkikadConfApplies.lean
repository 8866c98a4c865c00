/- The law ConfApplies returns true at whatever is wanted and at every act, and both read behind the call as they read before; no condition. -/
import Derived.Test.YtonhfgdnkkkikadRap
import Derived.Test.YtonhfgdnkkkikadCs
import Derived.Test.YtonhfgdnkkkikadOac
namespace Go.Proofs.Ytonhfgdnkkkikad
open Go.ChangeShapes Go.WideShapes Go.ChangeAt Go.RowKit
set_option linter.unusedVariables false
set_option maxRecDepth 100000

theorem ap_len (S : List Sw) (P : List Pr) (A : List Ac) (a : Ax) : (apS S P A a).length ≤ 13 ∧ (apP S P A a).length ≤ 41 ∧ (apA S P A a).length ≤ 41 := by
  unfold apS apP apA
  by_cases h : appE S P A a = 0
  · rw [if_pos h, if_pos h, if_pos h]
    have hm : may S P A = true := by
      cases hq : may S P A with
      | true => rfl
      | false => unfold appE at h; rw [hq] at h; simp at h
    obtain ⟨l1, l2, l3⟩ := may_len hm
    unfold nxS nxP nxA
    refine ⟨?_, ?_, ?_⟩
    · split
      · simp; omega
      · omega
    · split
      · simp; omega
      · split
        · have := List.length_eraseIdx_le P (pat P a.n).toNat
          omega
        · split
          · rw [List.length_set]; omega
          · omega
    · split
      · simp; omega
      · split
        · have := List.length_eraseIdx_le A a.n.toNat
          omega
        · omega
  · rw [if_neg h, if_neg h, if_neg h]
    simp

set_option maxHeartbeats 16000000 in
theorem confApplies_any (sv pv av : Value) (S : List Sw) (P : List Pr) (A : List Ac) (a : Ax) (w : World) (hC : CfAt w sv pv av S P A) (h1 : S.length * 24 ≤ 140737488355328) (h2 : P.length * 40 ≤ 140737488355328) (h3 : A.length * 72 ≤ 140737488355328) (hbd : a.body.size ≤ maxLen) :
    Calls Try.prog 4 #[.agg #[sv, pv, av], actV a] w fun e w' => e = .returned (.bool true) ∧ Below w.heap.size w w' := by
  have HC := hide hC
  have HY := hide (fun W (hW : Below w.heap.size w W) => rCopy_any sv pv av S P A W (hC.below hW (Nat.le_refl _)) h1 h2 h3)
  have HP := hide (fun W x y z (hW : CfAt W x y z S P A) => apply_any x y z S P A a W hW h1 h2 h3)
  have HD := hide (fun W (hW : Below w.heap.size w W) => applied_any sv pv av S P A a W (hC.below hW (Nat.le_refl _)) h1 h2 h3)
  have HS0 := hide (fun W u1 u2 u3 v1 v2 v3 p q => sameConf_any u1 u2 u3 v1 v2 v3 S P A W p q h1 h2 h3)
  have HS1 : Hid (∀ W u1 u2 u3 v1 v2 v3, CfAt W u1 u2 u3 (apS S P A a) (apP S P A a) (apA S P A a) → CfAt W v1 v2 v3 (apS S P A a) (apP S P A a) (apA S P A a) → Calls Try.prog 9 #[.agg #[u1, u2, u3], .agg #[v1, v2, v3]] W fun e w' => e = .returned (.bool true) ∧ Below W.heap.size W w') := fun W u1 u2 u3 v1 v2 v3 p q => by
    obtain ⟨l1, l2, l3⟩ := ap_len S P A a
    exact sameConf_any u1 u2 u3 v1 v2 v3 _ _ _ W p q (by omega) (by omega) (by omega)
  generalize appE S P A a = E at *
  generalize apS S P A a = LS at *
  generalize apP S P A a = LP at *
  generalize apA S P A a = LA at *
  obtain ⟨s1, s2, rfl⟩ := hC.1.slice
  obtain ⟨p1, p2, rfl⟩ := hC.2.1.slice
  obtain ⟨a1, a2, rfl⟩ := hC.2.2.slice
  clear hC h1 h2 h3
  obtain ⟨k, si, st, sg, pi, ps, pm, pp, pc, rs, rp, rn, rf, rb, rt, re, ro, rd, n, m, f0, f1, f2, f3, f4, f5, f6, body⟩ := a
  go_enter Try.func4, Try.ntmps4
  go_wp2_with fail
  obtain ⟨W0, hW0⟩ : ∃ W0, W0 = (w.alloc (.cells #[.slice s1 S.length s2, .slice p1 P.length p2, .slice a1 A.length a2] 26)).alloc (.cells #[.int .i64 k, .int .i64 si, .int .i64 st, .int .i64 sg, .int .i64 pi, .int .i64 ps, .int .i64 pm, .int .i64 pp, .int .i64 pc, .int .i64 rs, .int .i64 rp, .bool rn, .int .i64 rf, .int .i64 rb, .int .i64 rt, .int .i64 re, .int .i64 ro, .bool rd, .int .i64 n, .int .i64 m, .int .i64 f0, .int .i64 f1, .int .i64 f2, .int .i64 f3, .int .i64 f4, .int .i64 f5, .int .i64 f6, .string body] 39) := ⟨_, rfl⟩
  have k0 : Below w.heap.size w W0 := by rw [hW0]; exact ((Below.refl _ w).alloc (Nat.le_refl _) _).alloc (by simp) _
  have c0 : W0.cell? ⟨w.heap.size, 0, none⟩ = some (.slice s1 S.length s2) := by rw [hW0]; exact old_cell (new_cell w _ rfl _ _ _ _ rfl) _
  have c1 : W0.cell? ⟨w.heap.size, 1, none⟩ = some (.slice p1 P.length p2) := by rw [hW0]; exact old_cell (new_cell w _ rfl _ _ _ _ rfl) _
  have c2 : W0.cell? ⟨w.heap.size, 2, none⟩ = some (.slice a1 A.length a2) := by rw [hW0]; exact old_cell (new_cell w _ rfl _ _ _ _ rfl) _
  have X : Hid (W0.rangeAt (w.heap.size + 1) 0 [Value.int .i64 k, .int .i64 si, .int .i64 st, .int .i64 sg, .int .i64 pi, .int .i64 ps, .int .i64 pm, .int .i64 pp, .int .i64 pc, .int .i64 rs, .int .i64 rp, .bool rn, .int .i64 rf, .int .i64 rb, .int .i64 rt, .int .i64 re, .int .i64 ro, .bool rd, .int .i64 n, .int .i64 m, .int .i64 f0, .int .i64 f1, .int .i64 f2, .int .i64 f3, .int .i64 f4, .int .i64 f5, .int .i64 f6, .string body]) := by
    rw [hW0]
    intro j v hj
    rw [Nat.zero_add]
    exact new_cell _ _ (by simp) #[.int .i64 k, .int .i64 si, .int .i64 st, .int .i64 sg, .int .i64 pi, .int .i64 ps, .int .i64 pm, .int .i64 pp, .int .i64 pc, .int .i64 rs, .int .i64 rp, .bool rn, .int .i64 rf, .int .i64 rb, .int .i64 rt, .int .i64 re, .int .i64 ro, .bool rd, .int .i64 n, .int .i64 m, .int .i64 f0, .int .i64 f1, .int .i64 f2, .int .i64 f3, .int .i64 f4, .int .i64 f5, .int .i64 f6, .string body] _ j v (by simpa using hj)
  rw [← hW0]
  clear hW0
  refine (unhide HY _ k0).mono ?_
  rintro e w1 ⟨y1, y2, y3, rfl, ho, hb1⟩
  have k1 := k0.trans (hb1.mono k0.size)
  replace c0 := cell_beh c0 hb1 (Nat.le_refl _)
  replace c1 := cell_beh c1 hb1 (Nat.le_refl _)
  replace c2 := cell_beh c2 hb1 (Nat.le_refl _)
  replace X := hide (rangeAt_beh X.out hb1 (Nat.le_refl _))
  have HO := hide ho.cf
  obtain ⟨y4, y5, rfl⟩ := own_slc ho.s
  obtain ⟨y6, y7, rfl⟩ := own_slc ho.p
  obtain ⟨y8, y9, rfl⟩ := own_slc ho.a
  clear ho hb1 k0 HY
  have l1 := cell_in c0
  have n1 : ¬ w.heap.size = w1.heap.size := by omega
  have j1 : w.heap.size + 1 < w1.heap.size := cell_in (X.out 0 _ rfl)
  have jn1 : ¬ w.heap.size + 1 = w1.heap.size := by omega
  obtain ⟨W1, hW1⟩ : ∃ W1, W1 = w1.alloc (.cells #[.slice y4 S.length y5, .slice y6 P.length y7, .slice y8 A.length y9] 26) := ⟨_, rfl⟩
  have g1 : Below w.heap.size w W1 := by rw [hW1]; exact k1.alloc k1.size _
  have a1 : Below w1.heap.size w1 W1 := by rw [hW1]; exact (Below.refl _ _).alloc (Nat.le_refl _) _
  have b0 : W1.cell? ⟨w1.heap.size, 0, none⟩ = some (.slice y4 S.length y5) := by rw [hW1]; exact new_cell w1 _ rfl _ _ _ _ rfl
  have b1 : W1.cell? ⟨w1.heap.size, 1, none⟩ = some (.slice y6 P.length y7) := by rw [hW1]; exact new_cell w1 _ rfl _ _ _ _ rfl
  have b2 : W1.cell? ⟨w1.heap.size, 2, none⟩ = some (.slice y8 A.length y9) := by rw [hW1]; exact new_cell w1 _ rfl _ _ _ _ rfl
  replace c0 := cell_beh c0 a1 (Nat.le_refl _)
  replace c1 := cell_beh c1 a1 (Nat.le_refl _)
  replace c2 := cell_beh c2 a1 (Nat.le_refl _)
  replace X := hide (rangeAt_beh X.out a1 (Nat.le_refl _))
  replace HO := hide (HO.out.below a1 (Nat.le_refl _))
  rw [hW1] at X
  go_wp2_with (refine wpList_load_mid rfl 39 (.tmp 3) rfl (w.heap.size + 1) 0 rfl [Value.int .i64 k, .int .i64 si, .int .i64 st, .int .i64 sg, .int .i64 pi, .int .i64 ps, .int .i64 pm, .int .i64 pp, .int .i64 pc, .int .i64 rs, .int .i64 rp, .bool rn, .int .i64 rf, .int .i64 rb, .int .i64 rt, .int .i64 re, .int .i64 ro, .bool rd, .int .i64 n, .int .i64 m, .int .i64 f0, .int .i64 f1, .int .i64 f2, .int .i64 f3, .int .i64 f4, .int .i64 f5, .int .i64 f6, .string body] _ X.out Try.underlying39 rfl actInfo ?_)
  rw [← hW1] at X ⊢
  clear hW1 a1 k1
  refine (unhide HP _ _ _ _ HO.out).mono ?_
  rintro e w2 ⟨u1, u2, u3, rfl, hc2, hb2⟩
  have k2 := g1.trans (hb2.mono g1.size)
  replace c0 := cell_beh c0 hb2 (Nat.le_refl _)
  replace c1 := cell_beh c1 hb2 (Nat.le_refl _)
  replace c2 := cell_beh c2 hb2 (Nat.le_refl _)
  replace b0 := cell_beh b0 hb2 (Nat.le_refl _)
  replace b1 := cell_beh b1 hb2 (Nat.le_refl _)
  replace b2 := cell_beh b2 hb2 (Nat.le_refl _)
  replace X := hide (rangeAt_beh X.out hb2 (Nat.le_refl _))
  replace HO := hide (HO.out.below hb2 (Nat.le_refl _))
  have HU := hide hc2
  obtain ⟨u4, u5, rfl⟩ := hc2.1.slice
  obtain ⟨u6, u7, rfl⟩ := hc2.2.1.slice
  obtain ⟨u8, u9, rfl⟩ := hc2.2.2.slice
  clear hc2 hb2 HP g1
  have l2 := cell_in c0
  have n2 : ¬ w.heap.size = w2.heap.size := by omega
  have j2 : w.heap.size + 1 < w2.heap.size := cell_in (X.out 0 _ rfl)
  have jn2 : ¬ w.heap.size + 1 = w2.heap.size := by omega
  obtain ⟨W2, hW2⟩ : ∃ W2, W2 = w2.alloc (.cells #[.slice u4 LS.length u5, .slice u6 LP.length u7, .slice u8 LA.length u9] 26) := ⟨_, rfl⟩
  have g2 : Below w.heap.size w W2 := by rw [hW2]; exact k2.alloc k2.size _
  have a2 : Below w2.heap.size w2 W2 := by rw [hW2]; exact (Below.refl _ _).alloc (Nat.le_refl _) _
  have d0 : W2.cell? ⟨w2.heap.size, 0, none⟩ = some (.slice u4 LS.length u5) := by rw [hW2]; exact new_cell w2 _ rfl _ _ _ _ rfl
  have d1 : W2.cell? ⟨w2.heap.size, 1, none⟩ = some (.slice u6 LP.length u7) := by rw [hW2]; exact new_cell w2 _ rfl _ _ _ _ rfl
  have d2 : W2.cell? ⟨w2.heap.size, 2, none⟩ = some (.slice u8 LA.length u9) := by rw [hW2]; exact new_cell w2 _ rfl _ _ _ _ rfl
  rw [hW2] at a2
  replace X := hide (rangeAt_beh X.out a2 (Nat.le_refl _))
  rw [← hW2] at a2
  replace HO := hide (HO.out.below a2 (Nat.le_refl _))
  replace HU := hide (HU.out.below a2 (Nat.le_refl _))
  go_wp2_with (refine wpList_load_mid rfl 39 (.tmp 3) rfl (w.heap.size + 1) 0 rfl [Value.int .i64 k, .int .i64 si, .int .i64 st, .int .i64 sg, .int .i64 pi, .int .i64 ps, .int .i64 pm, .int .i64 pp, .int .i64 pc, .int .i64 rs, .int .i64 rp, .bool rn, .int .i64 rf, .int .i64 rb, .int .i64 rt, .int .i64 re, .int .i64 ro, .bool rd, .int .i64 n, .int .i64 m, .int .i64 f0, .int .i64 f1, .int .i64 f2, .int .i64 f3, .int .i64 f4, .int .i64 f5, .int .i64 f6, .string body] _ X.out Try.underlying39 rfl actInfo ?_)
  rw [← hW2] at X ⊢
  replace c0 := cell_beh c0 a2 (Nat.le_refl _)
  replace c1 := cell_beh c1 a2 (Nat.le_refl _)
  replace c2 := cell_beh c2 a2 (Nat.le_refl _)
  replace b0 := cell_beh b0 a2 (Nat.le_refl _)
  replace b1 := cell_beh b1 a2 (Nat.le_refl _)
  replace b2 := cell_beh b2 a2 (Nat.le_refl _)
  clear hW2 a2 k2
  refine (unhide HD _ g2).mono ?_
  rintro e w3 ⟨v1, v2, v3, rfl, hc3, hb3⟩
  have k3 := g2.trans (hb3.mono g2.size)
  replace c0 := cell_beh c0 hb3 (Nat.le_refl _)
  replace c1 := cell_beh c1 hb3 (Nat.le_refl _)
  replace c2 := cell_beh c2 hb3 (Nat.le_refl _)
  replace b0 := cell_beh b0 hb3 (Nat.le_refl _)
  replace b1 := cell_beh b1 hb3 (Nat.le_refl _)
  replace b2 := cell_beh b2 hb3 (Nat.le_refl _)
  replace d0 := cell_beh d0 hb3 (Nat.le_refl _)
  replace d1 := cell_beh d1 hb3 (Nat.le_refl _)
  replace d2 := cell_beh d2 hb3 (Nat.le_refl _)
  replace X := hide (rangeAt_beh X.out hb3 (Nat.le_refl _))
  replace HO := hide (HO.out.below hb3 (Nat.le_refl _))
  replace HU := hide (HU.out.below hb3 (Nat.le_refl _))
  have HV := hide hc3
  obtain ⟨v4, v5, rfl⟩ := hc3.1.slice
  obtain ⟨v6, v7, rfl⟩ := hc3.2.1.slice
  obtain ⟨v8, v9, rfl⟩ := hc3.2.2.slice
  clear hc3 hb3 HD g2 X
  have e1 := cell_in c0
  have e2 := cell_in b0
  have e3 := cell_in d0
  have e4 : ¬ w.heap.size = w3.heap.size := by omega
  have e5 : ¬ w1.heap.size = w3.heap.size := by omega
  have e6 : ¬ w2.heap.size = w3.heap.size := by omega
  have HX := hide (HC.out.below (k3.alloc k3.size (.cells #[.slice v4 LS.length v5, .slice v6 LP.length v7, .slice v8 LA.length v9] 26)) (Nat.le_refl _))
  have a3 : Below w3.heap.size w3 (w3.alloc (.cells #[.slice v4 LS.length v5, .slice v6 LP.length v7, .slice v8 LA.length v9] 26)) := (Below.refl _ _).alloc (Nat.le_refl _) _
  have g3 := k3.alloc k3.size (.cells #[.slice v4 LS.length v5, .slice v6 LP.length v7, .slice v8 LA.length v9] 26)
  go_wp2_with fail
  refine (unhide HS1 _ _ _ _ _ _ _ (HU.out.below a3 (Nat.le_refl _)) (HV.out.below a3 (Nat.le_refl _))).mono ?_
  rintro e w4 ⟨rfl, hb4⟩
  have k4 := g3.trans (hb4.mono g3.size)
  replace c0 := cell_beh (cell_beh c0 a3 (Nat.le_refl _)) hb4 (Nat.le_refl _)
  replace c1 := cell_beh (cell_beh c1 a3 (Nat.le_refl _)) hb4 (Nat.le_refl _)
  replace c2 := cell_beh (cell_beh c2 a3 (Nat.le_refl _)) hb4 (Nat.le_refl _)
  replace b0 := cell_beh (cell_beh b0 a3 (Nat.le_refl _)) hb4 (Nat.le_refl _)
  replace b1 := cell_beh (cell_beh b1 a3 (Nat.le_refl _)) hb4 (Nat.le_refl _)
  replace b2 := cell_beh (cell_beh b2 a3 (Nat.le_refl _)) hb4 (Nat.le_refl _)
  replace HO := hide ((HO.out.below a3 (Nat.le_refl _)).below hb4 (Nat.le_refl _))
  go_wp2_with fail
  refine (unhide HS0 _ _ _ _ _ _ _ HO.out (HC.out.below k4 (Nat.le_refl _))).mono ?_
  rintro e w5 ⟨rfl, hb5⟩
  have k5 := k4.trans (hb5.mono k4.size)
  go_wp2_with fail
  go_ret
  exact ⟨rfl, k5⟩

set_option maxRecDepth 100000 in
theorem confApplies_lifted (os : Os) (started : os.Started) (H : Type) (enc : TypeId × Value → H) :
    ReturnsInHanded {} Try.checked os 4 .any (Rows.confAppliesSpec.pre6 enc Try.prog Try.f4 Rows.confAppliesRow.domain false) (Rows.confAppliesSpec.post enc Try.prog Try.f4 false true false false) := by
  refine returnsInHanded_of_change_sized (C := Try.checked) own started (by kernel_rfl) Try.func4
    (ChangeSpec.witness6 (enc := enc) (C := Try.checked) false ⟨#[], #[.agg #[.slice none 0 0, .slice none 0 0, .slice none 0 0], actV ⟨0, 0, 0, 0, 0, 0, 0, 0, 0, 0, 0, false, 0, 0, 0, 0, 0, false, 0, 0, 0, 0, 0, 0, 0, 0, 0, ⟨#[]⟩⟩], []⟩ 8 (by kernel_rfl) (by kernel_rfl) (by kernel_rfl) (by kernel_rfl)) ?_
  intro W base args ds gs before hval0 hW hcnd hsz0 _
  have hval : ∀ (j : Nat) t v, Try.f4.params[j]? = some t → args[j]? = some v → Value.okWide Try.prog W .any base t v := hval0
  have hsz : (DataW.weightsEach Try.prog (Try.f4.params.toList ++ Rows.confAppliesSpec.plain.varTypes Try.prog) (ds ++ gs)).all (· ≤ reachBytes) = true := hsz0
  have hW' := hW
  obtain ⟨p, q, hA0, hV, rfl, hfz, hnd⟩ := hW
  have hA : DataW.TrodAll enc Try.prog W 0 (fun _ => true) true Try.f4.params.toList args.toList ds p := hA0
  rw [Try.params4] at hA hval hsz
  obtain ⟨v0, vs0, d0, ds0, p0, q0, hargs, rfl, rfl, h0, r0⟩ := trodAll_cons hA
  obtain ⟨v1, vs1, d1, ds1, p1, q1, rfl, rfl, rfl, h1, r1⟩ := trodAll_cons r0
  obtain ⟨rfl, rfl, rfl⟩ := trodAll_nil r1
  obtain rfl : args = #[v0, v1] := by cases args; simp_all
  obtain ⟨rfl, rfl⟩ := trodVars_none hV
  have k0 := h0
  have lt0 : ∀ x ∈ p0, x.block < W.heap.size := by obtain ⟨m, hm⟩ := k0; exact DataW.trod_lt m _ _ _ hm
  obtain ⟨sv0, pv0, av0, S0, P0, A0, rfl, hC0, hbd0⟩ := open_conf (hval 0 26 v0 rfl rfl) h0
  obtain ⟨hs0, hp0, ha0⟩ := hbd0 (weights_one hsz (j := 0) rfl rfl)
  have k1 := h1
  have lt1 : ∀ x ∈ p1, x.block < W.heap.size := by obtain ⟨m, hm⟩ := k1; exact DataW.trod_lt m _ _ _ hm
  obtain ⟨ax1, rfl, hb1⟩ := open_act (hval 1 39 v1 rfl rfl) h1
  clear hA0 hval0 hsz0
  refine (confApplies_any sv0 pv0 av0 S0 P0 A0 ax1 W hC0 hs0 hp0 ha0 hb1).mono fun e W' ⟨he, bel⟩ => ?_
  subst he
  exact ⟨_, rfl, _, _, _, [], _, [], hW', trodAll_mk1 (shut_bool Try.underlying4 _), (trodAll_cons_mk (Below.trod laidOut (by kernel_rfl) (of_decide_eq_true (by kernel_rfl)) k0 bel lt0) (trodAll_cons_mk (Below.trod laidOut (by kernel_rfl) (of_decide_eq_true (by kernel_rfl)) k1 bel lt1) trodAll_mk0)), rfl, bel.frame _, fun h => by cases h⟩

theorem confApplies_holds : Rows.ConfAppliesSaid :=
  OpenClaim.holds_of_wide 4 Try.f4 rfl rfl rfl rfl rfl rfl rfl ⟨rfl, rfl, rfl, rfl, rfl⟩ rfl rfl rfl rfl rfl (by kernel_rfl) Try.func4 (by kernel_rfl)
    (of_decide_eq_true (by kernel_rfl)) (by unfold Func.isWrapper; first | (rw [if_pos (by decide +kernel)]; kernel_rfl) | (rw [if_neg (by decide +kernel)]; exact ⟨rfl, rfl⟩))
    (fun os started H enc _ => confApplies_lifted os started H enc)

end Go.Proofs.Ytonhfgdnkkkikad
