/-
  What the document's AppliedOf answers.
-/
import Derived.Test.YtonhfgdnkkkikadCap2
import Derived.Test.YtonhfgdnkkkikadRcm
import Derived.Test.YtonhfgdnkkkikadRo
import Derived.Test.YtonhfgdnkkkikadRx
namespace Go.Proofs.Ytonhfgdnkkkikad
open Go.RowKit
set_option linter.unusedVariables false
set_option maxRecDepth 100000

theorem map_step2 {P : List Pr} {k : Nat} (hk : k < P.length) (f : Pr → Pr) : (P.map f).take (k + 1) = (P.map f).take k ++ [f (P.getD k pr0)] := by
  rw [← List.map_take, map_step hk, List.map_take]

set_option maxHeartbeats 16000000 in
theorem applied_any (sv pv av : Value) (S : List Sw) (P : List Pr) (A : List Ac) (a : Ax) (w : World) (hC : CfAt w sv pv av S P A) (h1 : S.length * 24 ≤ 140737488355328) (h2 : P.length * 40 ≤ 140737488355328) (h3 : A.length * 72 ≤ 140737488355328) :
    Calls Try.prog 12 #[.agg #[sv, pv, av], actV a] w fun e w' => ∃ su pu au, e = .returned (.tuple #[.agg #[su, pu, au], .int .i64 (appE S P A a)]) ∧ CfAt w' su pu au (apS S P A a) (apP S P A a) (apA S P A a) ∧ Below w.heap.size w w' := by
  have HMY := hide (fun W (hW : Below w.heap.size w W) => confMay_any sv pv av S P A W (hC.below hW (Nat.le_refl _)) h1 h2 h3)
  have HCY := hide (fun W (hW : Below w.heap.size w W) => rCopy_any sv pv av S P A W (hC.below hW (Nat.le_refl _)) h1 h2 h3)
  have HE0 : Hid (may S P A = false → appE S P A a = 8 ∧ apS S P A a = [] ∧ apP S P A a = [] ∧ apA S P A a = []) := fun h => by
    have e : appE S P A a = 8 := by unfold appE; rw [h]; rfl
    exact ⟨e, by unfold apS; rw [e]; rfl, by unfold apP; rw [e]; rfl, by unfold apA; rw [e]; rfl⟩
  have HE1 : Hid (may S P A = true → actFault S P A a ≠ 0 → appE S P A a = actFault S P A a ∧ apS S P A a = [] ∧ apP S P A a = [] ∧ apA S P A a = []) := fun h hn => by
    have e : appE S P A a = actFault S P A a := by unfold appE; rw [if_pos h]
    exact ⟨e, by unfold apS; rw [e, if_neg hn], by unfold apP; rw [e, if_neg hn], by unfold apA; rw [e, if_neg hn]⟩
  have HE2 : Hid (may S P A = true → actFault S P A a = 0 → appE S P A a = 0 ∧ apS S P A a = nxS S a ∧ apP S P A a = nxP P a ∧ apA S P A a = nxA A a) := fun h hn => by
    have e : appE S P A a = 0 := by unfold appE; rw [if_pos h, hn]
    exact ⟨e, by unfold apS; rw [if_pos e], by unfold apP; rw [if_pos e], by unfold apA; rw [if_pos e]⟩
  have HQ := hide (fun W (hW : Below w.heap.size w W) => portOf_any sv pv av S P A a.n W (hC.below hW (Nat.le_refl _)) h2)
  generalize appE S P A a = EE at *
  generalize apS S P A a = LS at *
  generalize apP S P A a = LP at *
  generalize apA S P A a = LA at *
  obtain ⟨iS, hiS, zS0, zS1, zS2⟩ := info_parts infoSw
  obtain ⟨iP, hiP, zP0, zP1, zP2⟩ := info_parts infoPr
  obtain ⟨iA, hiA, zA0, zA1, zA2⟩ := info_parts infoAc
  obtain ⟨s1, s2, rfl⟩ := hC.1.slice
  obtain ⟨p1, p2, rfl⟩ := hC.2.1.slice
  obtain ⟨a1, a2, rfl⟩ := hC.2.2.slice
  have HC := hide hC
  clear hC
  obtain ⟨k, si, st, sg, pi, ps, pm, pp, pc, rs, rp, rn, rf, rb, rt, re, ro, rd, n, m, f0, f1, f2, f3, f4, f5, f6, body⟩ := a
  have HS : Hid (∀ W : World, Below w.heap.size w W → Calls Try.prog 27 #[.agg #[.slice s1 S.length s2, .slice p1 P.length p2, .slice a1 A.length a2], .agg #[.int .i64 si, .int .i64 st, .int .i64 sg]] W fun e w' => e = .returned (.int .i64 (rSwFault S P ⟨si, st, sg⟩)) ∧ Below W.heap.size W w') := fun W hW => switchFault_any _ _ _ S P A ⟨si, st, sg⟩ W (HC.out.below hW (Nat.le_refl _)) h1 h2
  have HP : Hid (∀ W : World, Below w.heap.size w W → Calls Try.prog 28 #[.agg #[.slice s1 S.length s2, .slice p1 P.length p2, .slice a1 A.length a2], .agg #[.int .i64 pi, .int .i64 ps, .int .i64 pm, .int .i64 pp, .int .i64 pc]] W fun e w' => e = .returned (.int .i64 (rPrFault S P ⟨pi, ps, pm, pp, pc⟩)) ∧ Below W.heap.size W w') := fun W hW => portFault_any _ _ _ S P A ⟨pi, ps, pm, pp, pc⟩ W (HC.out.below hW (Nat.le_refl _)) h1 h2
  have HA : Hid (∀ W : World, Below w.heap.size w W → Calls Try.prog 29 #[.agg #[.slice s1 S.length s2, .slice p1 P.length p2, .slice a1 A.length a2], .agg #[.int .i64 rs, .int .i64 rp, .bool rn, .int .i64 rf, .int .i64 rb, .int .i64 rt, .int .i64 re, .int .i64 ro, .bool rd]] W fun e w' => e = .returned (.int .i64 (acFault S A ⟨rs, rp, rn, rf, rb, rt, re, ro, rd⟩)) ∧ Below W.heap.size W w') := fun W hW => aclFault_any _ _ _ S P A ⟨rs, rp, rn, rf, rb, rt, re, ro, rd⟩ W (HC.out.below hW (Nat.le_refl _)) h1
  go_enter Try.func12, Try.ntmps12
  go_wp2_with fail
  obtain ⟨W0, hW0⟩ : ∃ W0, W0 = ((w.alloc (.cells #[.slice s1 S.length s2, .slice p1 P.length p2, .slice a1 A.length a2] 26)).alloc (.cells #[.int .i64 k, .int .i64 si, .int .i64 st, .int .i64 sg, .int .i64 pi, .int .i64 ps, .int .i64 pm, .int .i64 pp, .int .i64 pc, .int .i64 rs, .int .i64 rp, .bool rn, .int .i64 rf, .int .i64 rb, .int .i64 rt, .int .i64 re, .int .i64 ro, .bool rd, .int .i64 n, .int .i64 m, .int .i64 f0, .int .i64 f1, .int .i64 f2, .int .i64 f3, .int .i64 f4, .int .i64 f5, .int .i64 f6, .string body] 39)).alloc (.cells #[.slice none 0 0, .slice none 0 0, .slice none 0 0] 26) := ⟨_, rfl⟩
  have hb0 : Below w.heap.size w W0 := by rw [hW0]; exact (((Below.refl _ w).alloc (Nat.le_refl _) _).alloc (by simp) _).alloc (by simp; omega) _
  have hz0 : W0.heap.size = w.heap.size + 3 := by rw [hW0]; simp
  have c0 : W0.cell? ⟨w.heap.size, 0, none⟩ = some (.slice s1 S.length s2) := by rw [hW0]; exact old_cell (old_cell (new_cell w _ rfl _ _ _ _ rfl) _) _
  have c1 : W0.cell? ⟨w.heap.size, 1, none⟩ = some (.slice p1 P.length p2) := by rw [hW0]; exact old_cell (old_cell (new_cell w _ rfl _ _ _ _ rfl) _) _
  have c2 : W0.cell? ⟨w.heap.size, 2, none⟩ = some (.slice a1 A.length a2) := by rw [hW0]; exact old_cell (old_cell (new_cell w _ rfl _ _ _ _ rfl) _) _
  have X : Hid (W0.rangeAt (w.heap.size + 1) 0 [Value.int .i64 k, .int .i64 si, .int .i64 st, .int .i64 sg, .int .i64 pi, .int .i64 ps, .int .i64 pm, .int .i64 pp, .int .i64 pc, .int .i64 rs, .int .i64 rp, .bool rn, .int .i64 rf, .int .i64 rb, .int .i64 rt, .int .i64 re, .int .i64 ro, .bool rd, .int .i64 n, .int .i64 m, .int .i64 f0, .int .i64 f1, .int .i64 f2, .int .i64 f3, .int .i64 f4, .int .i64 f5, .int .i64 f6, .string body]) := by
    rw [hW0]
    intro j v hj
    rw [Nat.zero_add]
    exact old_cell (new_cell _ _ (by simp) #[.int .i64 k, .int .i64 si, .int .i64 st, .int .i64 sg, .int .i64 pi, .int .i64 ps, .int .i64 pm, .int .i64 pp, .int .i64 pc, .int .i64 rs, .int .i64 rp, .bool rn, .int .i64 rf, .int .i64 rb, .int .i64 rt, .int .i64 re, .int .i64 ro, .bool rd, .int .i64 n, .int .i64 m, .int .i64 f0, .int .i64 f1, .int .i64 f2, .int .i64 f3, .int .i64 f4, .int .i64 f5, .int .i64 f6, .string body] _ j v (by simpa using hj)) _
  have r0 : W0.cell? ⟨w.heap.size + 1 + 1, 0, none⟩ = some (.slice none 0 0) := by rw [hW0]; exact new_cell _ _ (by simp) _ _ _ _ rfl
  have r1 : W0.cell? ⟨w.heap.size + 1 + 1, 1, none⟩ = some (.slice none 0 0) := by rw [hW0]; exact new_cell _ _ (by simp) _ _ _ _ rfl
  have r2 : W0.cell? ⟨w.heap.size + 1 + 1, 2, none⟩ = some (.slice none 0 0) := by rw [hW0]; exact new_cell _ _ (by simp) _ _ _ _ rfl
  have z0 : W0.frozen? ⟨w.heap.size + 1 + 1, 0, none⟩ = false := by rw [hW0]; exact new_frozen _ _ (by simp) _ _ _
  have z1 : W0.frozen? ⟨w.heap.size + 1 + 1, 1, none⟩ = false := by rw [hW0]; exact new_frozen _ _ (by simp) _ _ _
  have z2 : W0.frozen? ⟨w.heap.size + 1 + 1, 2, none⟩ = false := by rw [hW0]; exact new_frozen _ _ (by simp) _ _ _
  have hRlt : w.heap.size + 1 + 1 < W0.heap.size := by omega
  rw [← hW0]
  clear hW0 hz0
  refine (unhide HMY _ hb0).mono ?_
  rintro e w1 ⟨rfl, hb1⟩
  have k1 := hb0.trans (hb1.mono hb0.size)
  have ac0 := cell_beh c0 hb1 (Nat.le_refl _)
  have ac1 := cell_beh c1 hb1 (Nat.le_refl _)
  have ac2 := cell_beh c2 hb1 (Nat.le_refl _)
  have aX := hide (rangeAt_beh X.out hb1 (Nat.le_refl _))
  have ar0 := cell_beh r0 hb1 (Nat.le_refl _)
  have ar1 := cell_beh r1 hb1 (Nat.le_refl _)
  have ar2 := cell_beh r2 hb1 (Nat.le_refl _)
  have az0 := (hb1.frozen (p := ⟨w.heap.size + 1 + 1, 0, none⟩) (by show _ < W0.heap.size; exact hRlt)).trans z0
  have az1 := (hb1.frozen (p := ⟨w.heap.size + 1 + 1, 1, none⟩) (by show _ < W0.heap.size; exact hRlt)).trans z1
  have az2 := (hb1.frozen (p := ⟨w.heap.size + 1 + 1, 2, none⟩) (by show _ < W0.heap.size; exact hRlt)).trans z2
  clear c0 c1 c2 r0 r1 r2 z0 z1 z2 X
  have hR1 : w.heap.size + 1 + 1 < w1.heap.size := Nat.lt_of_lt_of_le hRlt hb1.size
  clear hb0 hb1 HMY hRlt
  cases hM : may S P A
  · obtain ⟨rfl, rfl, rfl, rfl⟩ := HE0.out hM
    clear HCY HE0 HE1 HE2 HS HP HA HQ ac0 ac1 ac2 aX HC
    go_wp2_with fail
    obtain ⟨u0, u1, u2⟩ := set3 ar0 ar1 ar2 (.slice none 0 0) (.slice none 0 0) (.slice none 0 0)
    have HBE := hide ((((k1).setCell (p := ⟨w.heap.size + 1 + 1, 0, none⟩) (by show w.heap.size ≤ w.heap.size + 1 + 1; omega) (.slice none 0 0)).setCell (p := ⟨w.heap.size + 1 + 1, 1, none⟩) (by show w.heap.size ≤ w.heap.size + 1 + 1; omega) (.slice none 0 0)).setCell (p := ⟨w.heap.size + 1 + 1, 2, none⟩) (by show w.heap.size ≤ w.heap.size + 1 + 1; omega) (.slice none 0 0))
    have HCF := hide ((⟨RowAt.nil _ _ _, RowAt.nil _ _ _, RowAt.nil _ _ _⟩ : CfAt (((w1.setCell ⟨w.heap.size + 1 + 1, 0, none⟩ (.slice none 0 0)).setCell ⟨w.heap.size + 1 + 1, 1, none⟩ (.slice none 0 0)).setCell ⟨w.heap.size + 1 + 1, 2, none⟩ (.slice none 0 0)) (.slice none 0 0) (.slice none 0 0) (.slice none 0 0) [] [] []))
    refine bodyPost_ret (v := .tuple #[.agg #[.slice none 0 0, .slice none 0 0, .slice none 0 0], .int .i64 8]) ?_ rfl ⟨_, _, _, rfl, HCF.out, HBE.out⟩
    clear HCF HBE ar0 az0 ar1 az1 ar2 az2
    generalize (((w1.setCell ⟨w.heap.size + 1 + 1, 0, none⟩ (.slice none 0 0)).setCell ⟨w.heap.size + 1 + 1, 1, none⟩ (.slice none 0 0)).setCell ⟨w.heap.size + 1 + 1, 2, none⟩ (.slice none 0 0)) = W at *
    simp [results, Try.results12, go_sem, u0, u1, u2]
  · have HF1 := hide (HE1.out hM)
    have HF2 := hide (HE2.out hM)
    have HM := hide hM
    clear HE0 HE1 HE2 hM
    go_wp2_with fail
    refine (unhide HCY _ k1).mono ?_
    rintro e w2 ⟨y1, y2, y3, rfl, ho2, hb2⟩
    have k2 := k1.trans (hb2.mono k1.size)
    have bc0 := cell_beh ac0 hb2 (Nat.le_refl _)
    have bc1 := cell_beh ac1 hb2 (Nat.le_refl _)
    have bc2 := cell_beh ac2 hb2 (Nat.le_refl _)
    have bX := hide (rangeAt_beh aX.out hb2 (Nat.le_refl _))
    have br0 := cell_beh ar0 hb2 (Nat.le_refl _)
    have br1 := cell_beh ar1 hb2 (Nat.le_refl _)
    have br2 := cell_beh ar2 hb2 (Nat.le_refl _)
    have bz0 := (hb2.frozen (p := ⟨w.heap.size + 1 + 1, 0, none⟩) (by show _ < w1.heap.size; exact hR1)).trans az0
    have bz1 := (hb2.frozen (p := ⟨w.heap.size + 1 + 1, 1, none⟩) (by show _ < w1.heap.size; exact hR1)).trans az1
    have bz2 := (hb2.frozen (p := ⟨w.heap.size + 1 + 1, 2, none⟩) (by show _ < w1.heap.size; exact hR1)).trans az2
    clear ac0 ac1 ac2 ar0 ar1 ar2 az0 az1 az2 aX
    have hR2 : w.heap.size + 1 + 1 < w2.heap.size := Nat.lt_of_lt_of_le hR1 hb2.size
    obtain ⟨o1, m1, hv1⟩ := own_slc ho2.s
    obtain ⟨o2, m2, hv2⟩ := own_slc ho2.p
    obtain ⟨o3, m3, hv3⟩ := own_slc ho2.a
    subst hv1 hv2 hv3
    obtain ⟨W3, hW3⟩ : ∃ W3, W3 = w2.alloc (.cells #[.slice o1 S.length m1, .slice o2 P.length m2, .slice o3 A.length m3] 26) := ⟨_, rfl⟩
    obtain ⟨O, hO⟩ : ∃ O, O = w2.heap.size := ⟨_, rfl⟩
    have k3 : Below w.heap.size w W3 := by rw [hW3]; exact k2.alloc k2.size _
    have c0 : W3.cell? ⟨w.heap.size, 0, none⟩ = some (.slice s1 S.length s2) := by rw [hW3]; exact old_cell bc0 _
    have c1 : W3.cell? ⟨w.heap.size, 1, none⟩ = some (.slice p1 P.length p2) := by rw [hW3]; exact old_cell bc1 _
    have c2 : W3.cell? ⟨w.heap.size, 2, none⟩ = some (.slice a1 A.length a2) := by rw [hW3]; exact old_cell bc2 _
    have X : Hid (W3.rangeAt (w.heap.size + 1) 0 [Value.int .i64 k, .int .i64 si, .int .i64 st, .int .i64 sg, .int .i64 pi, .int .i64 ps, .int .i64 pm, .int .i64 pp, .int .i64 pc, .int .i64 rs, .int .i64 rp, .bool rn, .int .i64 rf, .int .i64 rb, .int .i64 rt, .int .i64 re, .int .i64 ro, .bool rd, .int .i64 n, .int .i64 m, .int .i64 f0, .int .i64 f1, .int .i64 f2, .int .i64 f3, .int .i64 f4, .int .i64 f5, .int .i64 f6, .string body]) := by rw [hW3]; exact fun j v hj => old_cell (bX.out j v hj) _
    have r0 : W3.cell? ⟨w.heap.size + 1 + 1, 0, none⟩ = some (.slice none 0 0) := by rw [hW3]; exact old_cell br0 _
    have r1 : W3.cell? ⟨w.heap.size + 1 + 1, 1, none⟩ = some (.slice none 0 0) := by rw [hW3]; exact old_cell br1 _
    have r2 : W3.cell? ⟨w.heap.size + 1 + 1, 2, none⟩ = some (.slice none 0 0) := by rw [hW3]; exact old_cell br2 _
    have z0 : W3.frozen? ⟨w.heap.size + 1 + 1, 0, none⟩ = false := by rw [hW3]; exact old_frozen hR2 bz0 _
    have z1 : W3.frozen? ⟨w.heap.size + 1 + 1, 1, none⟩ = false := by rw [hW3]; exact old_frozen hR2 bz1 _
    have z2 : W3.frozen? ⟨w.heap.size + 1 + 1, 2, none⟩ = false := by rw [hW3]; exact old_frozen hR2 bz2 _
    have q0 : W3.cell? ⟨O, 0, none⟩ = some (.slice o1 S.length m1) := by rw [hW3]; exact new_cell w2 O hO.symm _ _ _ _ rfl
    have q1 : W3.cell? ⟨O, 1, none⟩ = some (.slice o2 P.length m2) := by rw [hW3]; exact new_cell w2 O hO.symm _ _ _ _ rfl
    have q2 : W3.cell? ⟨O, 2, none⟩ = some (.slice o3 A.length m3) := by rw [hW3]; exact new_cell w2 O hO.symm _ _ _ _ rfl
    have g0 : W3.frozen? ⟨O, 0, none⟩ = false := by rw [hW3]; exact new_frozen w2 O hO.symm _ _ _
    have g1 : W3.frozen? ⟨O, 1, none⟩ = false := by rw [hW3]; exact new_frozen w2 O hO.symm _ _ _
    have g2 : W3.frozen? ⟨O, 2, none⟩ = false := by rw [hW3]; exact new_frozen w2 O hO.symm _ _ _
    have HO3 : Hid (Own3 W3 w1.heap.size (.slice o1 S.length m1) (.slice o2 P.length m2) (.slice o3 A.length m3) S P A) := by rw [hW3]; exact ⟨ho2.s.alloc _, ho2.p.alloc _, ho2.a.alloc _, ho2.sp, ho2.sa, ho2.pa⟩
    have HNO : Hid ((.slice o1 S.length m1 : Value).ownBlock ≠ some O ∧ (.slice o2 P.length m2 : Value).ownBlock ≠ some O ∧ (.slice o3 A.length m3 : Value).ownBlock ≠ some O) := ⟨own_ne ho2.s (by omega), own_ne ho2.p (by omega), own_ne ho2.a (by omega)⟩
    have hz3 : W3.heap.size = O + 1 := by rw [hW3, hO]; simp
    have hRO : w.heap.size + 1 + 1 < O := by omega
    have hBO : w1.heap.size ≤ O := by rw [hO]; exact hb2.size
    have hRB : w.heap.size + 1 + 1 < w1.heap.size := hR1
    have HC2 := hide ho2.cf
    clear ho2 k1 hb2 HCY hR1 bc0
    have xk : W3.cell? ⟨w.heap.size + 1, 0, none⟩ = some (.int .i64 k) := X.out 0 _ rfl
    have hcase : k = 1 ∨ k = 2 ∨ k = 3 ∨ k = 4 ∨ k = 5 ∨ k = 6 ∨ (¬ k = 1 ∧ ¬ k = 2 ∧ ¬ k = 3 ∧ ¬ k = 4 ∧ ¬ k = 5 ∧ ¬ k = 6) := by omega
    rcases hcase with rfl | rfl | rfl | rfl | rfl | rfl | ⟨n1, n2, n3, n4, n5, n6⟩
    · have x1 : W3.cell? ⟨w.heap.size + 1, 1, none⟩ = some (.int .i64 si) := X.out 1 _ rfl
      have x2 : W3.cell? ⟨w.heap.size + 1, 2, none⟩ = some (.int .i64 st) := X.out 2 _ rfl
      have x3 : W3.cell? ⟨w.heap.size + 1, 3, none⟩ = some (.int .i64 sg) := X.out 3 _ rfl
      have hA : actFault S P A ⟨1, si, st, sg, pi, ps, pm, pp, pc, rs, rp, rn, rf, rb, rt, re, ro, rd, n, m, f0, f1, f2, f3, f4, f5, f6, body⟩ = rSwFault S P ⟨si, st, sg⟩ := by rw [rSw_eq (may_parts HM.out).1]; rfl
      rw [hA] at HF1 HF2
      clear hA
      have hl := may_len HM.out
      clear k2 bc1 bc2 bX HC2 hR2 br0 br1 br2 bz0 bz1 bz2
      subst hW3 hO
      go_wp2_with fail
      generalize w2.alloc (.cells #[.slice o1 S.length m1, .slice o2 P.length m2, .slice o3 A.length m3] 26) = W3 at *
      generalize w2.heap.size = O at *
      refine (unhide HS _ k3).mono ?_
      rintro e w4 ⟨rfl, hb4⟩
      generalize rSwFault S P ⟨si, st, sg⟩ = E at *
      have k4 := k3.trans (hb4.mono k3.size)
      replace r0 := cell_beh r0 hb4 (Nat.le_refl _)
      replace q0 := cell_beh q0 hb4 (Nat.le_refl _)
      replace z0 := (hb4.frozen (p := ⟨w.heap.size + 1 + 1, 0, none⟩) (by show w.heap.size + 1 + 1 < W3.heap.size; omega)).trans z0
      replace g0 := (hb4.frozen (p := ⟨O, 0, none⟩) (by show O < W3.heap.size; omega)).trans g0
      replace r1 := cell_beh r1 hb4 (Nat.le_refl _)
      replace q1 := cell_beh q1 hb4 (Nat.le_refl _)
      replace z1 := (hb4.frozen (p := ⟨w.heap.size + 1 + 1, 1, none⟩) (by show w.heap.size + 1 + 1 < W3.heap.size; omega)).trans z1
      replace g1 := (hb4.frozen (p := ⟨O, 1, none⟩) (by show O < W3.heap.size; omega)).trans g1
      replace r2 := cell_beh r2 hb4 (Nat.le_refl _)
      replace q2 := cell_beh q2 hb4 (Nat.le_refl _)
      replace z2 := (hb4.frozen (p := ⟨w.heap.size + 1 + 1, 2, none⟩) (by show w.heap.size + 1 + 1 < W3.heap.size; omega)).trans z2
      replace g2 := (hb4.frozen (p := ⟨O, 2, none⟩) (by show O < W3.heap.size; omega)).trans g2
      replace x1 := cell_beh x1 hb4 (Nat.le_refl _)
      replace x2 := cell_beh x2 hb4 (Nat.le_refl _)
      replace x3 := cell_beh x3 hb4 (Nat.le_refl _)
      have HO4 := hide (Own3.mk (own_below HO3.out.s hb4) (own_below HO3.out.p hb4) (own_below HO3.out.a hb4) HO3.out.sp HO3.out.sa HO3.out.pa)
      have hz4 := hb4.size
      have hw4 : w1.heap.size ≤ w4.heap.size := by omega
      clear HS HP HA HQ hb4 HO3 X c0 c1 c2 xk HM
      go_wp2_with (at_builtin; refine wpList_append_own_at _ rfl _ _ 22 rfl w1.heap.size 31 iS _ 3 24 Try.underlying22 hiS zS0 zS1 zS2 rfl (by decide) _ _ _ rfl (HO4.out.s.alloc _) ⟨w4.heap.size, 0, none⟩ 1 1 [.int .i64 si, .int .i64 st, .int .i64 sg] rfl rfl ?a2 (all_one rfl) ?a3 ?a4 ?a5 ?_)
      case a2 =>
        intro j u hj
        rw [add_fl, Nat.zero_add]
        exact new_cell _ _ rfl #[.int .i64 si, .int .i64 st, .int .i64 sg] _ j u (by simpa using hj)
      case a3 => unfold maxLen; omega
      case a4 => omega
      case a5 => simp; omega
      intro v1 w5 ho1 hg1 _ hat
      have hnR : some (w.heap.size + 1 + 1) ≠ (.slice o1 S.length m1 : Value).ownBlock := fun e => by have := own_ge HO4.out.s _ e.symm; omega
      have hnO : some O ≠ (.slice o1 S.length m1 : Value).ownBlock := fun e => HNO.out.1 e.symm
      replace r0 := hg1.cell (old_cell r0 _) hnR
      replace q0 := hg1.cell (old_cell q0 _) hnO
      replace z0 : w5.frozen? ⟨w.heap.size + 1 + 1, 0, none⟩ = false := gfrozen hg1 (by simp; omega) (old_frozen (by omega) z0 _) hnR
      replace g0 : w5.frozen? ⟨O, 0, none⟩ = false := gfrozen hg1 (by simp; omega) (old_frozen (by omega) g0 _) hnO
      replace r1 := hg1.cell (old_cell r1 _) hnR
      replace q1 := hg1.cell (old_cell q1 _) hnO
      replace z1 : w5.frozen? ⟨w.heap.size + 1 + 1, 1, none⟩ = false := gfrozen hg1 (by simp; omega) (old_frozen (by omega) z1 _) hnR
      replace g1 : w5.frozen? ⟨O, 1, none⟩ = false := gfrozen hg1 (by simp; omega) (old_frozen (by omega) g1 _) hnO
      replace r2 := hg1.cell (old_cell r2 _) hnR
      replace q2 := hg1.cell (old_cell q2 _) hnO
      replace z2 : w5.frozen? ⟨w.heap.size + 1 + 1, 2, none⟩ = false := gfrozen hg1 (by simp; omega) (old_frozen (by omega) z2 _) hnR
      replace g2 : w5.frozen? ⟨O, 2, none⟩ = false := gfrozen hg1 (by simp; omega) (old_frozen (by omega) g2 _) hnO
      have K1 := hide (World.ownsRow.kept (HO4.out.p.alloc _) hg1 (sep_sym HO4.out.sp))
      have K2 := hide (World.ownsRow.kept (HO4.out.a.alloc _) hg1 (sep_sym HO4.out.sa))
      have KN : Hid (w5.ownsRow w1.heap.size 31 3 v1 (S ++ [(⟨si, st, sg⟩ : Sw)]).length ((S ++ [(⟨si, st, sg⟩ : Sw)]).flatMap swC)) := by
        show World.ownsRow _ _ _ _ _ _ _
        rw [List.length_append, ← flat_snoc]
        exact ho1
      have HC5 : Hid (CfAt w5 v1 (.slice o2 P.length m2) (.slice o3 A.length m3) (S ++ [(⟨si, st, sg⟩ : Sw)]) P A) := ⟨RowAt.of_own swC_len (by omega) KN.out, RowAt.of_own prC_len (by omega) K1.out, RowAt.of_own acC_len (by omega) K2.out⟩
      have HB5 : Hid (Below w.heap.size w w5) := (k4.alloc k4.size _).grown hg1 (by have := k4.size; simp; omega) (own_ge (own_less HO4.out.s (by omega)))
      obtain ⟨v2, m4, hv⟩ := own_slc ho1
      subst hv
      clear KN ho1 hg1 hat hnR hnO HO4 k4 k3 HNO K1 K2 x1 x2 x3
      have nO : w.heap.size + 1 + 1 ≠ O := by omega
      by_cases hE : E = 0
      · subst hE
        obtain ⟨rfl, hq⟩ := HF2.out rfl
        have HQQ := hide hq
        clear HF1 HF2 hq
        go_wp2_with fail
        have e0 : (w5.setCell ⟨O, 0, none⟩ (.slice v2 (S.length + 1) m4)).cell? ⟨w.heap.size + 1 + 1, 0, none⟩ = some (.slice none 0 0) := (World.cell?_setCell_other _ _ _ _ (by simp <;> omega)).trans r0
        have e1 : (w5.setCell ⟨O, 0, none⟩ (.slice v2 (S.length + 1) m4)).cell? ⟨w.heap.size + 1 + 1, 1, none⟩ = some (.slice none 0 0) := (World.cell?_setCell_other _ _ _ _ (by simp <;> omega)).trans r1
        have e2 : (w5.setCell ⟨O, 0, none⟩ (.slice v2 (S.length + 1) m4)).cell? ⟨w.heap.size + 1 + 1, 2, none⟩ = some (.slice none 0 0) := (World.cell?_setCell_other _ _ _ _ (by simp <;> omega)).trans r2
        obtain ⟨u0, u1, u2⟩ := set3 e0 e1 e2 (.slice v2 (S.length + 1) m4) (.slice o2 P.length m2) (.slice o3 A.length m3)
        have HBE := hide ((((HB5.out.setCell (p := ⟨O, 0, none⟩) (by show w.heap.size ≤ O; omega) (.slice v2 (S.length + 1) m4)).setCell (p := ⟨w.heap.size + 1 + 1, 0, none⟩) (by show w.heap.size ≤ w.heap.size + 1 + 1; omega) (.slice v2 (S.length + 1) m4)).setCell (p := ⟨w.heap.size + 1 + 1, 1, none⟩) (by show w.heap.size ≤ w.heap.size + 1 + 1; omega) (.slice o2 P.length m2)).setCell (p := ⟨w.heap.size + 1 + 1, 2, none⟩) (by show w.heap.size ≤ w.heap.size + 1 + 1; omega) (.slice o3 A.length m3))
        have HCF := hide ((((HC5.out.set_box q0 (.slice v2 (S.length + 1) m4)).set_box e0 (.slice v2 (S.length + 1) m4)).set_box ((World.cell?_setCell_other _ _ _ _ (by simp)).trans e1) (.slice o2 P.length m2)).set_box ((World.cell?_setCell_other _ _ _ _ (by simp)).trans ((World.cell?_setCell_other _ _ _ _ (by simp)).trans e2)) (.slice o3 A.length m3))
        refine bodyPost_ret (v := .tuple #[.agg #[.slice v2 (S.length + 1) m4, .slice o2 P.length m2, .slice o3 A.length m3], .int .i64 0]) ?_ rfl ⟨_, _, _, rfl, by rw [HQQ.out.1, HQQ.out.2.1, HQQ.out.2.2]; simpa [nxS, nxP, nxA, Ax.s, Ax.p, Ax.r] using HCF.out, HBE.out⟩
        clear HCF HBE e0 e1 e2
        generalize ((((w5.setCell ⟨O, 0, none⟩ (.slice v2 (S.length + 1) m4)).setCell ⟨w.heap.size + 1 + 1, 0, none⟩ (.slice v2 (S.length + 1) m4)).setCell ⟨w.heap.size + 1 + 1, 1, none⟩ (.slice o2 P.length m2)).setCell ⟨w.heap.size + 1 + 1, 2, none⟩ (.slice o3 A.length m3)) = W at *
        simp [results, Try.results12, go_sem, u0, u1, u2]
      · obtain ⟨rfl, rfl, rfl, rfl⟩ := HF1.out hE
        clear HF1 HF2
        go_wp2_with fail
        have e0 : (w5.setCell ⟨O, 0, none⟩ (.slice v2 (S.length + 1) m4)).cell? ⟨w.heap.size + 1 + 1, 0, none⟩ = some (.slice none 0 0) := (World.cell?_setCell_other _ _ _ _ (by simp <;> omega)).trans r0
        have e1 : (w5.setCell ⟨O, 0, none⟩ (.slice v2 (S.length + 1) m4)).cell? ⟨w.heap.size + 1 + 1, 1, none⟩ = some (.slice none 0 0) := (World.cell?_setCell_other _ _ _ _ (by simp <;> omega)).trans r1
        have e2 : (w5.setCell ⟨O, 0, none⟩ (.slice v2 (S.length + 1) m4)).cell? ⟨w.heap.size + 1 + 1, 2, none⟩ = some (.slice none 0 0) := (World.cell?_setCell_other _ _ _ _ (by simp <;> omega)).trans r2
        obtain ⟨u0, u1, u2⟩ := set3 e0 e1 e2 (.slice none 0 0) (.slice none 0 0) (.slice none 0 0)
        have HBE := hide ((((HB5.out.setCell (p := ⟨O, 0, none⟩) (by show w.heap.size ≤ O; omega) (.slice v2 (S.length + 1) m4)).setCell (p := ⟨w.heap.size + 1 + 1, 0, none⟩) (by show w.heap.size ≤ w.heap.size + 1 + 1; omega) (.slice none 0 0)).setCell (p := ⟨w.heap.size + 1 + 1, 1, none⟩) (by show w.heap.size ≤ w.heap.size + 1 + 1; omega) (.slice none 0 0)).setCell (p := ⟨w.heap.size + 1 + 1, 2, none⟩) (by show w.heap.size ≤ w.heap.size + 1 + 1; omega) (.slice none 0 0))
        have HCF := hide (⟨RowAt.nil _ _ _, RowAt.nil _ _ _, RowAt.nil _ _ _⟩ : CfAt ((((w5.setCell ⟨O, 0, none⟩ (.slice v2 (S.length + 1) m4)).setCell ⟨w.heap.size + 1 + 1, 0, none⟩ (.slice none 0 0)).setCell ⟨w.heap.size + 1 + 1, 1, none⟩ (.slice none 0 0)).setCell ⟨w.heap.size + 1 + 1, 2, none⟩ (.slice none 0 0)) (.slice none 0 0) (.slice none 0 0) (.slice none 0 0) [] [] [])
        refine bodyPost_ret (v := .tuple #[.agg #[.slice none 0 0, .slice none 0 0, .slice none 0 0], .int .i64 EE]) ?_ rfl ⟨_, _, _, rfl, HCF.out, HBE.out⟩
        clear HCF HBE e0 e1 e2
        generalize ((((w5.setCell ⟨O, 0, none⟩ (.slice v2 (S.length + 1) m4)).setCell ⟨w.heap.size + 1 + 1, 0, none⟩ (.slice none 0 0)).setCell ⟨w.heap.size + 1 + 1, 1, none⟩ (.slice none 0 0)).setCell ⟨w.heap.size + 1 + 1, 2, none⟩ (.slice none 0 0)) = W at *
        simp [results, Try.results12, go_sem, u0, u1, u2]
    · have x4 : W3.cell? ⟨w.heap.size + 1, 4, none⟩ = some (.int .i64 pi) := X.out 4 _ rfl
      have x5 : W3.cell? ⟨w.heap.size + 1, 5, none⟩ = some (.int .i64 ps) := X.out 5 _ rfl
      have x6 : W3.cell? ⟨w.heap.size + 1, 6, none⟩ = some (.int .i64 pm) := X.out 6 _ rfl
      have x7 : W3.cell? ⟨w.heap.size + 1, 7, none⟩ = some (.int .i64 pp) := X.out 7 _ rfl
      have x8 : W3.cell? ⟨w.heap.size + 1, 8, none⟩ = some (.int .i64 pc) := X.out 8 _ rfl
      have hA : actFault S P A ⟨2, si, st, sg, pi, ps, pm, pp, pc, rs, rp, rn, rf, rb, rt, re, ro, rd, n, m, f0, f1, f2, f3, f4, f5, f6, body⟩ = rPrFault S P ⟨pi, ps, pm, pp, pc⟩ := by rw [rPr_eq (may_parts HM.out).1]; rfl
      rw [hA] at HF1 HF2
      clear hA
      have hl := may_len HM.out
      clear k2 bc1 bc2 bX HC2 hR2 br0 br1 br2 bz0 bz1 bz2
      subst hW3 hO
      go_wp2_with fail
      generalize w2.alloc (.cells #[.slice o1 S.length m1, .slice o2 P.length m2, .slice o3 A.length m3] 26) = W3 at *
      generalize w2.heap.size = O at *
      refine (unhide HP _ k3).mono ?_
      rintro e w4 ⟨rfl, hb4⟩
      generalize rPrFault S P ⟨pi, ps, pm, pp, pc⟩ = E at *
      have k4 := k3.trans (hb4.mono k3.size)
      replace r0 := cell_beh r0 hb4 (Nat.le_refl _)
      replace q0 := cell_beh q0 hb4 (Nat.le_refl _)
      replace z0 := (hb4.frozen (p := ⟨w.heap.size + 1 + 1, 0, none⟩) (by show w.heap.size + 1 + 1 < W3.heap.size; omega)).trans z0
      replace g0 := (hb4.frozen (p := ⟨O, 0, none⟩) (by show O < W3.heap.size; omega)).trans g0
      replace r1 := cell_beh r1 hb4 (Nat.le_refl _)
      replace q1 := cell_beh q1 hb4 (Nat.le_refl _)
      replace z1 := (hb4.frozen (p := ⟨w.heap.size + 1 + 1, 1, none⟩) (by show w.heap.size + 1 + 1 < W3.heap.size; omega)).trans z1
      replace g1 := (hb4.frozen (p := ⟨O, 1, none⟩) (by show O < W3.heap.size; omega)).trans g1
      replace r2 := cell_beh r2 hb4 (Nat.le_refl _)
      replace q2 := cell_beh q2 hb4 (Nat.le_refl _)
      replace z2 := (hb4.frozen (p := ⟨w.heap.size + 1 + 1, 2, none⟩) (by show w.heap.size + 1 + 1 < W3.heap.size; omega)).trans z2
      replace g2 := (hb4.frozen (p := ⟨O, 2, none⟩) (by show O < W3.heap.size; omega)).trans g2
      replace x4 := cell_beh x4 hb4 (Nat.le_refl _)
      replace x5 := cell_beh x5 hb4 (Nat.le_refl _)
      replace x6 := cell_beh x6 hb4 (Nat.le_refl _)
      replace x7 := cell_beh x7 hb4 (Nat.le_refl _)
      replace x8 := cell_beh x8 hb4 (Nat.le_refl _)
      have HO4 := hide (Own3.mk (own_below HO3.out.s hb4) (own_below HO3.out.p hb4) (own_below HO3.out.a hb4) HO3.out.sp HO3.out.sa HO3.out.pa)
      have hz4 := hb4.size
      have hw4 : w1.heap.size ≤ w4.heap.size := by omega
      clear HS HP HA HQ hb4 HO3 X c0 c1 c2 xk HM
      go_wp2_with (at_builtin; refine wpList_append_own_at _ rfl _ _ 23 rfl w1.heap.size 33 iP _ 5 40 Try.underlying23 hiP zP0 zP1 zP2 rfl (by decide) _ _ _ rfl (HO4.out.p.alloc _) ⟨w4.heap.size, 0, none⟩ 1 1 [.int .i64 pi, .int .i64 ps, .int .i64 pm, .int .i64 pp, .int .i64 pc] rfl rfl ?a2 (all_one rfl) ?a3 ?a4 ?a5 ?_)
      case a2 =>
        intro j u hj
        rw [add_fl, Nat.zero_add]
        exact new_cell _ _ rfl #[.int .i64 pi, .int .i64 ps, .int .i64 pm, .int .i64 pp, .int .i64 pc] _ j u (by simpa using hj)
      case a3 => unfold maxLen; omega
      case a4 => omega
      case a5 => simp; omega
      intro v1 w5 ho1 hg1 _ hat
      have hnR : some (w.heap.size + 1 + 1) ≠ (.slice o2 P.length m2 : Value).ownBlock := fun e => by have := own_ge HO4.out.p _ e.symm; omega
      have hnO : some O ≠ (.slice o2 P.length m2 : Value).ownBlock := fun e => HNO.out.2.1 e.symm
      replace r0 := hg1.cell (old_cell r0 _) hnR
      replace q0 := hg1.cell (old_cell q0 _) hnO
      replace z0 : w5.frozen? ⟨w.heap.size + 1 + 1, 0, none⟩ = false := gfrozen hg1 (by simp; omega) (old_frozen (by omega) z0 _) hnR
      replace g0 : w5.frozen? ⟨O, 0, none⟩ = false := gfrozen hg1 (by simp; omega) (old_frozen (by omega) g0 _) hnO
      replace r1 := hg1.cell (old_cell r1 _) hnR
      replace q1 := hg1.cell (old_cell q1 _) hnO
      replace z1 : w5.frozen? ⟨w.heap.size + 1 + 1, 1, none⟩ = false := gfrozen hg1 (by simp; omega) (old_frozen (by omega) z1 _) hnR
      replace g1 : w5.frozen? ⟨O, 1, none⟩ = false := gfrozen hg1 (by simp; omega) (old_frozen (by omega) g1 _) hnO
      replace r2 := hg1.cell (old_cell r2 _) hnR
      replace q2 := hg1.cell (old_cell q2 _) hnO
      replace z2 : w5.frozen? ⟨w.heap.size + 1 + 1, 2, none⟩ = false := gfrozen hg1 (by simp; omega) (old_frozen (by omega) z2 _) hnR
      replace g2 : w5.frozen? ⟨O, 2, none⟩ = false := gfrozen hg1 (by simp; omega) (old_frozen (by omega) g2 _) hnO
      have K0 := hide (World.ownsRow.kept (HO4.out.s.alloc _) hg1 HO4.out.sp)
      have K2 := hide (World.ownsRow.kept (HO4.out.a.alloc _) hg1 (sep_sym HO4.out.pa))
      have KN : Hid (w5.ownsRow w1.heap.size 33 5 v1 (P ++ [(⟨pi, ps, pm, pp, pc⟩ : Pr)]).length ((P ++ [(⟨pi, ps, pm, pp, pc⟩ : Pr)]).flatMap prC)) := by
        show World.ownsRow _ _ _ _ _ _ _
        rw [List.length_append, ← flat_snoc]
        exact ho1
      have HC5 : Hid (CfAt w5 (.slice o1 S.length m1) v1 (.slice o3 A.length m3) S (P ++ [(⟨pi, ps, pm, pp, pc⟩ : Pr)]) A) := ⟨RowAt.of_own swC_len (by omega) K0.out, RowAt.of_own prC_len (by omega) KN.out, RowAt.of_own acC_len (by omega) K2.out⟩
      have HB5 : Hid (Below w.heap.size w w5) := (k4.alloc k4.size _).grown hg1 (by have := k4.size; simp; omega) (own_ge (own_less HO4.out.p (by omega)))
      obtain ⟨v2, m4, hv⟩ := own_slc ho1
      subst hv
      clear KN ho1 hg1 hat hnR hnO HO4 k4 k3 HNO K0 K2 x4 x5 x6 x7 x8
      have nO : w.heap.size + 1 + 1 ≠ O := by omega
      by_cases hE : E = 0
      · subst hE
        obtain ⟨rfl, hq⟩ := HF2.out rfl
        have HQQ := hide hq
        clear HF1 HF2 hq
        go_wp2_with fail
        have e0 : (w5.setCell ⟨O, 1, none⟩ (.slice v2 (P.length + 1) m4)).cell? ⟨w.heap.size + 1 + 1, 0, none⟩ = some (.slice none 0 0) := (World.cell?_setCell_other _ _ _ _ (by simp <;> omega)).trans r0
        have e1 : (w5.setCell ⟨O, 1, none⟩ (.slice v2 (P.length + 1) m4)).cell? ⟨w.heap.size + 1 + 1, 1, none⟩ = some (.slice none 0 0) := (World.cell?_setCell_other _ _ _ _ (by simp <;> omega)).trans r1
        have e2 : (w5.setCell ⟨O, 1, none⟩ (.slice v2 (P.length + 1) m4)).cell? ⟨w.heap.size + 1 + 1, 2, none⟩ = some (.slice none 0 0) := (World.cell?_setCell_other _ _ _ _ (by simp <;> omega)).trans r2
        obtain ⟨u0, u1, u2⟩ := set3 e0 e1 e2 (.slice o1 S.length m1) (.slice v2 (P.length + 1) m4) (.slice o3 A.length m3)
        have HBE := hide ((((HB5.out.setCell (p := ⟨O, 1, none⟩) (by show w.heap.size ≤ O; omega) (.slice v2 (P.length + 1) m4)).setCell (p := ⟨w.heap.size + 1 + 1, 0, none⟩) (by show w.heap.size ≤ w.heap.size + 1 + 1; omega) (.slice o1 S.length m1)).setCell (p := ⟨w.heap.size + 1 + 1, 1, none⟩) (by show w.heap.size ≤ w.heap.size + 1 + 1; omega) (.slice v2 (P.length + 1) m4)).setCell (p := ⟨w.heap.size + 1 + 1, 2, none⟩) (by show w.heap.size ≤ w.heap.size + 1 + 1; omega) (.slice o3 A.length m3))
        have HCF := hide ((((HC5.out.set_box q1 (.slice v2 (P.length + 1) m4)).set_box e0 (.slice o1 S.length m1)).set_box ((World.cell?_setCell_other _ _ _ _ (by simp)).trans e1) (.slice v2 (P.length + 1) m4)).set_box ((World.cell?_setCell_other _ _ _ _ (by simp)).trans ((World.cell?_setCell_other _ _ _ _ (by simp)).trans e2)) (.slice o3 A.length m3))
        refine bodyPost_ret (v := .tuple #[.agg #[.slice o1 S.length m1, .slice v2 (P.length + 1) m4, .slice o3 A.length m3], .int .i64 0]) ?_ rfl ⟨_, _, _, rfl, by rw [HQQ.out.1, HQQ.out.2.1, HQQ.out.2.2]; simpa [nxS, nxP, nxA, Ax.s, Ax.p, Ax.r] using HCF.out, HBE.out⟩
        clear HCF HBE e0 e1 e2
        generalize ((((w5.setCell ⟨O, 1, none⟩ (.slice v2 (P.length + 1) m4)).setCell ⟨w.heap.size + 1 + 1, 0, none⟩ (.slice o1 S.length m1)).setCell ⟨w.heap.size + 1 + 1, 1, none⟩ (.slice v2 (P.length + 1) m4)).setCell ⟨w.heap.size + 1 + 1, 2, none⟩ (.slice o3 A.length m3)) = W at *
        simp [results, Try.results12, go_sem, u0, u1, u2]
      · obtain ⟨rfl, rfl, rfl, rfl⟩ := HF1.out hE
        clear HF1 HF2
        go_wp2_with fail
        have e0 : (w5.setCell ⟨O, 1, none⟩ (.slice v2 (P.length + 1) m4)).cell? ⟨w.heap.size + 1 + 1, 0, none⟩ = some (.slice none 0 0) := (World.cell?_setCell_other _ _ _ _ (by simp <;> omega)).trans r0
        have e1 : (w5.setCell ⟨O, 1, none⟩ (.slice v2 (P.length + 1) m4)).cell? ⟨w.heap.size + 1 + 1, 1, none⟩ = some (.slice none 0 0) := (World.cell?_setCell_other _ _ _ _ (by simp <;> omega)).trans r1
        have e2 : (w5.setCell ⟨O, 1, none⟩ (.slice v2 (P.length + 1) m4)).cell? ⟨w.heap.size + 1 + 1, 2, none⟩ = some (.slice none 0 0) := (World.cell?_setCell_other _ _ _ _ (by simp <;> omega)).trans r2
        obtain ⟨u0, u1, u2⟩ := set3 e0 e1 e2 (.slice none 0 0) (.slice none 0 0) (.slice none 0 0)
        have HBE := hide ((((HB5.out.setCell (p := ⟨O, 1, none⟩) (by show w.heap.size ≤ O; omega) (.slice v2 (P.length + 1) m4)).setCell (p := ⟨w.heap.size + 1 + 1, 0, none⟩) (by show w.heap.size ≤ w.heap.size + 1 + 1; omega) (.slice none 0 0)).setCell (p := ⟨w.heap.size + 1 + 1, 1, none⟩) (by show w.heap.size ≤ w.heap.size + 1 + 1; omega) (.slice none 0 0)).setCell (p := ⟨w.heap.size + 1 + 1, 2, none⟩) (by show w.heap.size ≤ w.heap.size + 1 + 1; omega) (.slice none 0 0))
        have HCF := hide (⟨RowAt.nil _ _ _, RowAt.nil _ _ _, RowAt.nil _ _ _⟩ : CfAt ((((w5.setCell ⟨O, 1, none⟩ (.slice v2 (P.length + 1) m4)).setCell ⟨w.heap.size + 1 + 1, 0, none⟩ (.slice none 0 0)).setCell ⟨w.heap.size + 1 + 1, 1, none⟩ (.slice none 0 0)).setCell ⟨w.heap.size + 1 + 1, 2, none⟩ (.slice none 0 0)) (.slice none 0 0) (.slice none 0 0) (.slice none 0 0) [] [] [])
        refine bodyPost_ret (v := .tuple #[.agg #[.slice none 0 0, .slice none 0 0, .slice none 0 0], .int .i64 EE]) ?_ rfl ⟨_, _, _, rfl, HCF.out, HBE.out⟩
        clear HCF HBE e0 e1 e2
        generalize ((((w5.setCell ⟨O, 1, none⟩ (.slice v2 (P.length + 1) m4)).setCell ⟨w.heap.size + 1 + 1, 0, none⟩ (.slice none 0 0)).setCell ⟨w.heap.size + 1 + 1, 1, none⟩ (.slice none 0 0)).setCell ⟨w.heap.size + 1 + 1, 2, none⟩ (.slice none 0 0)) = W at *
        simp [results, Try.results12, go_sem, u0, u1, u2]
    · have x9 : W3.cell? ⟨w.heap.size + 1, 9, none⟩ = some (.int .i64 rs) := X.out 9 _ rfl
      have x10 : W3.cell? ⟨w.heap.size + 1, 10, none⟩ = some (.int .i64 rp) := X.out 10 _ rfl
      have x11 : W3.cell? ⟨w.heap.size + 1, 11, none⟩ = some (.bool rn) := X.out 11 _ rfl
      have x12 : W3.cell? ⟨w.heap.size + 1, 12, none⟩ = some (.int .i64 rf) := X.out 12 _ rfl
      have x13 : W3.cell? ⟨w.heap.size + 1, 13, none⟩ = some (.int .i64 rb) := X.out 13 _ rfl
      have x14 : W3.cell? ⟨w.heap.size + 1, 14, none⟩ = some (.int .i64 rt) := X.out 14 _ rfl
      have x15 : W3.cell? ⟨w.heap.size + 1, 15, none⟩ = some (.int .i64 re) := X.out 15 _ rfl
      have x16 : W3.cell? ⟨w.heap.size + 1, 16, none⟩ = some (.int .i64 ro) := X.out 16 _ rfl
      have x17 : W3.cell? ⟨w.heap.size + 1, 17, none⟩ = some (.bool rd) := X.out 17 _ rfl
      have hA : actFault S P A ⟨3, si, st, sg, pi, ps, pm, pp, pc, rs, rp, rn, rf, rb, rt, re, ro, rd, n, m, f0, f1, f2, f3, f4, f5, f6, body⟩ = acFault S A ⟨rs, rp, rn, rf, rb, rt, re, ro, rd⟩ := by rfl
      rw [hA] at HF1 HF2
      clear hA
      have hl := may_len HM.out
      clear k2 bc1 bc2 bX HC2 hR2 br0 br1 br2 bz0 bz1 bz2
      subst hW3 hO
      go_wp2_with fail
      generalize w2.alloc (.cells #[.slice o1 S.length m1, .slice o2 P.length m2, .slice o3 A.length m3] 26) = W3 at *
      generalize w2.heap.size = O at *
      refine (unhide HA _ k3).mono ?_
      rintro e w4 ⟨rfl, hb4⟩
      generalize acFault S A ⟨rs, rp, rn, rf, rb, rt, re, ro, rd⟩ = E at *
      have k4 := k3.trans (hb4.mono k3.size)
      replace r0 := cell_beh r0 hb4 (Nat.le_refl _)
      replace q0 := cell_beh q0 hb4 (Nat.le_refl _)
      replace z0 := (hb4.frozen (p := ⟨w.heap.size + 1 + 1, 0, none⟩) (by show w.heap.size + 1 + 1 < W3.heap.size; omega)).trans z0
      replace g0 := (hb4.frozen (p := ⟨O, 0, none⟩) (by show O < W3.heap.size; omega)).trans g0
      replace r1 := cell_beh r1 hb4 (Nat.le_refl _)
      replace q1 := cell_beh q1 hb4 (Nat.le_refl _)
      replace z1 := (hb4.frozen (p := ⟨w.heap.size + 1 + 1, 1, none⟩) (by show w.heap.size + 1 + 1 < W3.heap.size; omega)).trans z1
      replace g1 := (hb4.frozen (p := ⟨O, 1, none⟩) (by show O < W3.heap.size; omega)).trans g1
      replace r2 := cell_beh r2 hb4 (Nat.le_refl _)
      replace q2 := cell_beh q2 hb4 (Nat.le_refl _)
      replace z2 := (hb4.frozen (p := ⟨w.heap.size + 1 + 1, 2, none⟩) (by show w.heap.size + 1 + 1 < W3.heap.size; omega)).trans z2
      replace g2 := (hb4.frozen (p := ⟨O, 2, none⟩) (by show O < W3.heap.size; omega)).trans g2
      replace x9 := cell_beh x9 hb4 (Nat.le_refl _)
      replace x10 := cell_beh x10 hb4 (Nat.le_refl _)
      replace x11 := cell_beh x11 hb4 (Nat.le_refl _)
      replace x12 := cell_beh x12 hb4 (Nat.le_refl _)
      replace x13 := cell_beh x13 hb4 (Nat.le_refl _)
      replace x14 := cell_beh x14 hb4 (Nat.le_refl _)
      replace x15 := cell_beh x15 hb4 (Nat.le_refl _)
      replace x16 := cell_beh x16 hb4 (Nat.le_refl _)
      replace x17 := cell_beh x17 hb4 (Nat.le_refl _)
      have HO4 := hide (Own3.mk (own_below HO3.out.s hb4) (own_below HO3.out.p hb4) (own_below HO3.out.a hb4) HO3.out.sp HO3.out.sa HO3.out.pa)
      have hz4 := hb4.size
      have hw4 : w1.heap.size ≤ w4.heap.size := by omega
      clear HS HP HA HQ hb4 HO3 X c0 c1 c2 xk HM
      go_wp2_with (at_builtin; refine wpList_append_own_at _ rfl _ _ 24 rfl w1.heap.size 35 iA _ 9 72 Try.underlying24 hiA zA0 zA1 zA2 rfl (by decide) _ _ _ rfl (HO4.out.a.alloc _) ⟨w4.heap.size, 0, none⟩ 1 1 [.int .i64 rs, .int .i64 rp, .bool rn, .int .i64 rf, .int .i64 rb, .int .i64 rt, .int .i64 re, .int .i64 ro, .bool rd] rfl rfl ?a2 (all_one rfl) ?a3 ?a4 ?a5 ?_)
      case a2 =>
        intro j u hj
        rw [add_fl, Nat.zero_add]
        exact new_cell _ _ rfl #[.int .i64 rs, .int .i64 rp, .bool rn, .int .i64 rf, .int .i64 rb, .int .i64 rt, .int .i64 re, .int .i64 ro, .bool rd] _ j u (by simpa using hj)
      case a3 => unfold maxLen; omega
      case a4 => omega
      case a5 => simp; omega
      intro v1 w5 ho1 hg1 _ hat
      have hnR : some (w.heap.size + 1 + 1) ≠ (.slice o3 A.length m3 : Value).ownBlock := fun e => by have := own_ge HO4.out.a _ e.symm; omega
      have hnO : some O ≠ (.slice o3 A.length m3 : Value).ownBlock := fun e => HNO.out.2.2 e.symm
      replace r0 := hg1.cell (old_cell r0 _) hnR
      replace q0 := hg1.cell (old_cell q0 _) hnO
      replace z0 : w5.frozen? ⟨w.heap.size + 1 + 1, 0, none⟩ = false := gfrozen hg1 (by simp; omega) (old_frozen (by omega) z0 _) hnR
      replace g0 : w5.frozen? ⟨O, 0, none⟩ = false := gfrozen hg1 (by simp; omega) (old_frozen (by omega) g0 _) hnO
      replace r1 := hg1.cell (old_cell r1 _) hnR
      replace q1 := hg1.cell (old_cell q1 _) hnO
      replace z1 : w5.frozen? ⟨w.heap.size + 1 + 1, 1, none⟩ = false := gfrozen hg1 (by simp; omega) (old_frozen (by omega) z1 _) hnR
      replace g1 : w5.frozen? ⟨O, 1, none⟩ = false := gfrozen hg1 (by simp; omega) (old_frozen (by omega) g1 _) hnO
      replace r2 := hg1.cell (old_cell r2 _) hnR
      replace q2 := hg1.cell (old_cell q2 _) hnO
      replace z2 : w5.frozen? ⟨w.heap.size + 1 + 1, 2, none⟩ = false := gfrozen hg1 (by simp; omega) (old_frozen (by omega) z2 _) hnR
      replace g2 : w5.frozen? ⟨O, 2, none⟩ = false := gfrozen hg1 (by simp; omega) (old_frozen (by omega) g2 _) hnO
      have K0 := hide (World.ownsRow.kept (HO4.out.s.alloc _) hg1 HO4.out.sa)
      have K1 := hide (World.ownsRow.kept (HO4.out.p.alloc _) hg1 HO4.out.pa)
      have KN : Hid (w5.ownsRow w1.heap.size 35 9 v1 (A ++ [(⟨rs, rp, rn, rf, rb, rt, re, ro, rd⟩ : Ac)]).length ((A ++ [(⟨rs, rp, rn, rf, rb, rt, re, ro, rd⟩ : Ac)]).flatMap acC)) := by
        show World.ownsRow _ _ _ _ _ _ _
        rw [List.length_append, ← flat_snoc]
        exact ho1
      have HC5 : Hid (CfAt w5 (.slice o1 S.length m1) (.slice o2 P.length m2) v1 S P (A ++ [(⟨rs, rp, rn, rf, rb, rt, re, ro, rd⟩ : Ac)])) := ⟨RowAt.of_own swC_len (by omega) K0.out, RowAt.of_own prC_len (by omega) K1.out, RowAt.of_own acC_len (by omega) KN.out⟩
      have HB5 : Hid (Below w.heap.size w w5) := (k4.alloc k4.size _).grown hg1 (by have := k4.size; simp; omega) (own_ge (own_less HO4.out.a (by omega)))
      obtain ⟨v2, m4, hv⟩ := own_slc ho1
      subst hv
      clear KN ho1 hg1 hat hnR hnO HO4 k4 k3 HNO K0 K1 x9 x10 x11 x12 x13 x14 x15 x16 x17
      have nO : w.heap.size + 1 + 1 ≠ O := by omega
      by_cases hE : E = 0
      · subst hE
        obtain ⟨rfl, hq⟩ := HF2.out rfl
        have HQQ := hide hq
        clear HF1 HF2 hq
        go_wp2_with fail
        have e0 : (w5.setCell ⟨O, 2, none⟩ (.slice v2 (A.length + 1) m4)).cell? ⟨w.heap.size + 1 + 1, 0, none⟩ = some (.slice none 0 0) := (World.cell?_setCell_other _ _ _ _ (by simp <;> omega)).trans r0
        have e1 : (w5.setCell ⟨O, 2, none⟩ (.slice v2 (A.length + 1) m4)).cell? ⟨w.heap.size + 1 + 1, 1, none⟩ = some (.slice none 0 0) := (World.cell?_setCell_other _ _ _ _ (by simp <;> omega)).trans r1
        have e2 : (w5.setCell ⟨O, 2, none⟩ (.slice v2 (A.length + 1) m4)).cell? ⟨w.heap.size + 1 + 1, 2, none⟩ = some (.slice none 0 0) := (World.cell?_setCell_other _ _ _ _ (by simp <;> omega)).trans r2
        obtain ⟨u0, u1, u2⟩ := set3 e0 e1 e2 (.slice o1 S.length m1) (.slice o2 P.length m2) (.slice v2 (A.length + 1) m4)
        have HBE := hide ((((HB5.out.setCell (p := ⟨O, 2, none⟩) (by show w.heap.size ≤ O; omega) (.slice v2 (A.length + 1) m4)).setCell (p := ⟨w.heap.size + 1 + 1, 0, none⟩) (by show w.heap.size ≤ w.heap.size + 1 + 1; omega) (.slice o1 S.length m1)).setCell (p := ⟨w.heap.size + 1 + 1, 1, none⟩) (by show w.heap.size ≤ w.heap.size + 1 + 1; omega) (.slice o2 P.length m2)).setCell (p := ⟨w.heap.size + 1 + 1, 2, none⟩) (by show w.heap.size ≤ w.heap.size + 1 + 1; omega) (.slice v2 (A.length + 1) m4))
        have HCF := hide ((((HC5.out.set_box q2 (.slice v2 (A.length + 1) m4)).set_box e0 (.slice o1 S.length m1)).set_box ((World.cell?_setCell_other _ _ _ _ (by simp)).trans e1) (.slice o2 P.length m2)).set_box ((World.cell?_setCell_other _ _ _ _ (by simp)).trans ((World.cell?_setCell_other _ _ _ _ (by simp)).trans e2)) (.slice v2 (A.length + 1) m4))
        refine bodyPost_ret (v := .tuple #[.agg #[.slice o1 S.length m1, .slice o2 P.length m2, .slice v2 (A.length + 1) m4], .int .i64 0]) ?_ rfl ⟨_, _, _, rfl, by rw [HQQ.out.1, HQQ.out.2.1, HQQ.out.2.2]; simpa [nxS, nxP, nxA, Ax.s, Ax.p, Ax.r] using HCF.out, HBE.out⟩
        clear HCF HBE e0 e1 e2
        generalize ((((w5.setCell ⟨O, 2, none⟩ (.slice v2 (A.length + 1) m4)).setCell ⟨w.heap.size + 1 + 1, 0, none⟩ (.slice o1 S.length m1)).setCell ⟨w.heap.size + 1 + 1, 1, none⟩ (.slice o2 P.length m2)).setCell ⟨w.heap.size + 1 + 1, 2, none⟩ (.slice v2 (A.length + 1) m4)) = W at *
        simp [results, Try.results12, go_sem, u0, u1, u2]
      · obtain ⟨rfl, rfl, rfl, rfl⟩ := HF1.out hE
        clear HF1 HF2
        go_wp2_with fail
        have e0 : (w5.setCell ⟨O, 2, none⟩ (.slice v2 (A.length + 1) m4)).cell? ⟨w.heap.size + 1 + 1, 0, none⟩ = some (.slice none 0 0) := (World.cell?_setCell_other _ _ _ _ (by simp <;> omega)).trans r0
        have e1 : (w5.setCell ⟨O, 2, none⟩ (.slice v2 (A.length + 1) m4)).cell? ⟨w.heap.size + 1 + 1, 1, none⟩ = some (.slice none 0 0) := (World.cell?_setCell_other _ _ _ _ (by simp <;> omega)).trans r1
        have e2 : (w5.setCell ⟨O, 2, none⟩ (.slice v2 (A.length + 1) m4)).cell? ⟨w.heap.size + 1 + 1, 2, none⟩ = some (.slice none 0 0) := (World.cell?_setCell_other _ _ _ _ (by simp <;> omega)).trans r2
        obtain ⟨u0, u1, u2⟩ := set3 e0 e1 e2 (.slice none 0 0) (.slice none 0 0) (.slice none 0 0)
        have HBE := hide ((((HB5.out.setCell (p := ⟨O, 2, none⟩) (by show w.heap.size ≤ O; omega) (.slice v2 (A.length + 1) m4)).setCell (p := ⟨w.heap.size + 1 + 1, 0, none⟩) (by show w.heap.size ≤ w.heap.size + 1 + 1; omega) (.slice none 0 0)).setCell (p := ⟨w.heap.size + 1 + 1, 1, none⟩) (by show w.heap.size ≤ w.heap.size + 1 + 1; omega) (.slice none 0 0)).setCell (p := ⟨w.heap.size + 1 + 1, 2, none⟩) (by show w.heap.size ≤ w.heap.size + 1 + 1; omega) (.slice none 0 0))
        have HCF := hide (⟨RowAt.nil _ _ _, RowAt.nil _ _ _, RowAt.nil _ _ _⟩ : CfAt ((((w5.setCell ⟨O, 2, none⟩ (.slice v2 (A.length + 1) m4)).setCell ⟨w.heap.size + 1 + 1, 0, none⟩ (.slice none 0 0)).setCell ⟨w.heap.size + 1 + 1, 1, none⟩ (.slice none 0 0)).setCell ⟨w.heap.size + 1 + 1, 2, none⟩ (.slice none 0 0)) (.slice none 0 0) (.slice none 0 0) (.slice none 0 0) [] [] [])
        refine bodyPost_ret (v := .tuple #[.agg #[.slice none 0 0, .slice none 0 0, .slice none 0 0], .int .i64 EE]) ?_ rfl ⟨_, _, _, rfl, HCF.out, HBE.out⟩
        clear HCF HBE e0 e1 e2
        generalize ((((w5.setCell ⟨O, 2, none⟩ (.slice v2 (A.length + 1) m4)).setCell ⟨w.heap.size + 1 + 1, 0, none⟩ (.slice none 0 0)).setCell ⟨w.heap.size + 1 + 1, 1, none⟩ (.slice none 0 0)).setCell ⟨w.heap.size + 1 + 1, 2, none⟩ (.slice none 0 0)) = W at *
        simp [results, Try.results12, go_sem, u0, u1, u2]
    · have x18 : W3.cell? ⟨w.heap.size + 1, 18, none⟩ = some (.int .i64 n) := X.out 18 _ rfl
      have x19 : W3.cell? ⟨w.heap.size + 1, 19, none⟩ = some (.int .i64 m) := X.out 19 _ rfl
      have hA : actFault S P A ⟨4, si, st, sg, pi, ps, pm, pp, pc, rs, rp, rn, rf, rb, rt, re, ro, rd, n, m, f0, f1, f2, f3, f4, f5, f6, body⟩ = if P.any (fun y => y.i == n) = true then 0 else 6 := by rw [← pat_in]; rfl
      rw [hA] at HF1 HF2
      clear hA
      have hl := may_len HM.out
      have HCW : Hid (∀ wr, Below O w2 wr → CfAt wr (.slice o1 S.length m1) (.slice o2 P.length m2) (.slice o3 A.length m3) S P A) := fun wr h => HC2.out.below h (by rw [hO]; exact Nat.le_refl _)
      have HBW : Hid (Below O w2 W3) := by rw [hW3, hO]; exact (Below.refl _ w2).alloc (Nat.le_refl _) _
      clear k2 bc1 bc2 bX HC2 hR2 br0 br1 br2 bz0 bz1 bz2
      subst hW3 hO
      go_wp2_with fail
      generalize w2.alloc (.cells #[.slice o1 S.length m1, .slice o2 P.length m2, .slice o3 A.length m3] 26) = W3 at *
      generalize w2.heap.size = O at *
      refine (unhide HQ _ k3).mono ?_
      rintro e w4 ⟨⟨x0, x1, x2, x3, x4, rfl⟩, hb4⟩
      have k4 := k3.trans (hb4.mono k3.size)
      have b24 := HBW.out.trans (hb4.mono (by omega))
      replace r0 := cell_beh r0 hb4 (Nat.le_refl _)
      replace q0 := cell_beh q0 hb4 (Nat.le_refl _)
      replace z0 := (hb4.frozen (p := ⟨w.heap.size + 1 + 1, 0, none⟩) (by show w.heap.size + 1 + 1 < W3.heap.size; omega)).trans z0
      replace g0 := (hb4.frozen (p := ⟨O, 0, none⟩) (by show O < W3.heap.size; omega)).trans g0
      replace r1 := cell_beh r1 hb4 (Nat.le_refl _)
      replace q1 := cell_beh q1 hb4 (Nat.le_refl _)
      replace z1 := (hb4.frozen (p := ⟨w.heap.size + 1 + 1, 1, none⟩) (by show w.heap.size + 1 + 1 < W3.heap.size; omega)).trans z1
      replace g1 := (hb4.frozen (p := ⟨O, 1, none⟩) (by show O < W3.heap.size; omega)).trans g1
      replace r2 := cell_beh r2 hb4 (Nat.le_refl _)
      replace q2 := cell_beh q2 hb4 (Nat.le_refl _)
      replace z2 := (hb4.frozen (p := ⟨w.heap.size + 1 + 1, 2, none⟩) (by show w.heap.size + 1 + 1 < W3.heap.size; omega)).trans z2
      replace g2 := (hb4.frozen (p := ⟨O, 2, none⟩) (by show O < W3.heap.size; omega)).trans g2
      replace xk := cell_beh xk hb4 (Nat.le_refl _)
      replace x18 := cell_beh x18 hb4 (Nat.le_refl _)
      replace x19 := cell_beh x19 hb4 (Nat.le_refl _)
      replace c1 := cell_beh c1 hb4 (Nat.le_refl _)
      have hz4 := hb4.size
      have hw4 : w1.heap.size ≤ w4.heap.size := by omega
      clear HS HP HA HQ hb4 HO3 X c0 c2 HBW
      have HIN := hide (fun W => rIn_any m (-1) 5 W)
      have HLK : Hid (P.any (fun y => y.i == n) = true → P.filter (fun y => !(y.i == n)) = P.eraseIdx (pat P n).toNat) := fun h => drop_port (may_parts HM.out).2.1 h
      generalize P.any (fun y => y.i == n) = TH at *
      generalize inB m (-1) 5 = MB at *
      have l5 := cell_in q1
      have n5 : ¬ O = w4.heap.size := by omega
      have l6 := cell_in c1
      have n6 : ¬ w.heap.size = w4.heap.size := by omega
      have l7 := cell_in xk
      have n7 : ¬ w.heap.size + 1 = w4.heap.size := by omega
      clear HM HNO
      cases TH
      · obtain ⟨hq0, rfl, rfl, rfl⟩ := HF1.out (by simp)
        replace hq0 : EE = 6 := hq0
        subst hq0
        clear HF1 HF2 HLK
        go_wp2_with fail
        obtain ⟨W6, hW6⟩ : ∃ W6, W6 = (w4.setCell ⟨O, 1, none⟩ (.slice none 0 0)).alloc (.cells #[.int .i64 x0, .int .i64 x1, .int .i64 x2, .int .i64 x3, .int .i64 x4] 33) := ⟨_, rfl⟩
        have k6 : Below w.heap.size w W6 := by rw [hW6]; exact (k4.setCell (p := ⟨O, 1, none⟩) (by show w.heap.size ≤ O; omega) (.slice none 0 0)).alloc (by have := k4.size; simpa using this) _
        replace xk : W6.cell? ⟨w.heap.size + 1, 0, none⟩ = some (.int .i64 4) := by rw [hW6]; exact old_cell ((World.cell?_setCell_other _ _ _ _ (by simp <;> omega)).trans xk) _
        replace x18 : W6.cell? ⟨w.heap.size + 1, 18, none⟩ = some (.int .i64 n) := by rw [hW6]; exact old_cell ((World.cell?_setCell_other _ _ _ _ (by simp <;> omega)).trans x18) _
        replace x19 : W6.cell? ⟨w.heap.size + 1, 19, none⟩ = some (.int .i64 m) := by rw [hW6]; exact old_cell ((World.cell?_setCell_other _ _ _ _ (by simp <;> omega)).trans x19) _
        replace c1 : W6.cell? ⟨w.heap.size, 1, none⟩ = some (.slice p1 P.length p2) := by rw [hW6]; exact old_cell ((World.cell?_setCell_other _ _ _ _ (by simp <;> omega)).trans c1) _
        replace q0 : W6.cell? ⟨O, 0, none⟩ = some (.slice o1 S.length m1) := by rw [hW6]; exact old_cell ((World.cell?_setCell_other _ _ _ _ (by simp <;> omega)).trans q0) _
        replace q2 : W6.cell? ⟨O, 2, none⟩ = some (.slice o3 A.length m3) := by rw [hW6]; exact old_cell ((World.cell?_setCell_other _ _ _ _ (by simp <;> omega)).trans q2) _
        replace q1 : W6.cell? ⟨O, 1, none⟩ = some (.slice none 0 0) := by rw [hW6]; exact old_cell (World.cell?_setCell_same _ _ _ q1) _
        replace g1 : W6.frozen? ⟨O, 1, none⟩ = false := by rw [hW6]; exact old_frozen (by simpa using l5) (by rw [World.frozen?_setCell]; exact g1) _
        replace r0 : W6.cell? ⟨w.heap.size + 1 + 1, 0, none⟩ = some (.slice none 0 0) := by rw [hW6]; exact old_cell ((World.cell?_setCell_other _ _ _ _ (by simp <;> omega)).trans r0) _
        replace z0 : W6.frozen? ⟨w.heap.size + 1 + 1, 0, none⟩ = false := by rw [hW6]; exact old_frozen (by have := cell_in q0; simp; omega) (by rw [World.frozen?_setCell]; exact z0) _
        replace r1 : W6.cell? ⟨w.heap.size + 1 + 1, 1, none⟩ = some (.slice none 0 0) := by rw [hW6]; exact old_cell ((World.cell?_setCell_other _ _ _ _ (by simp <;> omega)).trans r1) _
        replace z1 : W6.frozen? ⟨w.heap.size + 1 + 1, 1, none⟩ = false := by rw [hW6]; exact old_frozen (by have := cell_in q0; simp; omega) (by rw [World.frozen?_setCell]; exact z1) _
        replace r2 : W6.cell? ⟨w.heap.size + 1 + 1, 2, none⟩ = some (.slice none 0 0) := by rw [hW6]; exact old_cell ((World.cell?_setCell_other _ _ _ _ (by simp <;> omega)).trans r2) _
        replace z2 : W6.frozen? ⟨w.heap.size + 1 + 1, 2, none⟩ = false := by rw [hW6]; exact old_frozen (by have := cell_in q0; simp; omega) (by rw [World.frozen?_setCell]; exact z2) _
        have b26 : Below O w2 W6 := by rw [hW6]; exact (b24.setCell (p := ⟨O, 1, none⟩) (Nat.le_refl _) (.slice none 0 0)).alloc (by simp; omega) _
        have hz6 : O < W6.heap.size := cell_in q0
        rw [← hW6]
        clear hW6 b24 k4 k3 g0 g2 hz4 hw4 l5 n5 l6 n6 l7 n7 HIN
        go_loopw [10] (fun i wr => ∃ (k : Nat) (v : Value), k ≤ P.length ∧ i = .int .i64 k ∧ wr.cell? ⟨O, 0, none⟩ = some (.slice o1 S.length m1) ∧ wr.cell? ⟨O, 1, none⟩ = some v ∧ wr.cell? ⟨O, 2, none⟩ = some (.slice o3 A.length m3) ∧ wr.frozen? ⟨O, 1, none⟩ = false ∧ Hid (wr.ownsRow (O + 1) 33 5 v ((P.take k).filter (fun y => !(y.i == n))).length (((P.take k).filter (fun y => !(y.i == n))).flatMap prC)) ∧ Below O W6 wr) (fun i _ => P.length - (intOf i).toNat)
        case atStart => exact ⟨0, _, by omega, rfl, q0, q1, q2, g1, hide (World.ownsRow_nil _ _ _ _), Below.refl _ _⟩
        case round =>
          clear q0 q1 q2 g1
          obtain ⟨k, v, hk, rfl, t0, t1, t2, tz, HO, hbr⟩ := hrel
          have cc : wr.cell? ⟨w.heap.size, 1, none⟩ = some (.slice p1 P.length p2) := (hbr.cell (p := ⟨w.heap.size, 1, none⟩) (show w.heap.size < O by omega)).trans c1
          have xn : wr.cell? ⟨w.heap.size + 1, 18, none⟩ = some (.int .i64 n) := (hbr.cell (p := ⟨w.heap.size + 1, 18, none⟩) (show w.heap.size + 1 < O by omega)).trans x18
          have xm : wr.cell? ⟨w.heap.size + 1, 19, none⟩ = some (.int .i64 m) := (hbr.cell (p := ⟨w.heap.size + 1, 19, none⟩) (show w.heap.size + 1 < O by omega)).trans x19
          have xq : wr.cell? ⟨w.heap.size + 1, 0, none⟩ = some (.int .i64 4) := (hbr.cell (p := ⟨w.heap.size + 1, 0, none⟩) (show w.heap.size + 1 < O by omega)).trans xk
          have kr : Below w.heap.size w wr := k6.trans (hbr.mono (by omega))
          have hsz : O < wr.heap.size := cell_in t2
          by_cases hlt : k < P.length
          · obtain ⟨b, off, cap, e1, hcap, hb, y0, y1, y2, y3, y4⟩ := pr_at HC.out.2.1 hlt
            simp only [Value.slice.injEq, true_and] at e1
            obtain ⟨rfl, rfl⟩ := e1
            have q3 : (0 : Int) ≤ (k : Int) := by omega
            have q4 : (k : Int) < (P.length : Int) := by omega
            replace y0 := cell_beh y0 kr (Nat.le_refl _)
            replace y1 := cell_beh y1 kr (Nat.le_refl _)
            replace y2 := cell_beh y2 kr (Nat.le_refl _)
            replace y3 := cell_beh y3 kr (Nat.le_refl _)
            replace y4 := cell_beh y4 kr (Nat.le_refl _)
            have hwn : w.heap.size < wr.heap.size := by omega
            have hwm : w.heap.size + 1 < wr.heap.size := by omega
            have hn1 : ¬ w.heap.size = wr.heap.size := by omega
            have hn2 : ¬ w.heap.size + 1 = wr.heap.size := by omega
            have hn3 : ¬ O = wr.heap.size := by omega
            have hbw : b < wr.heap.size := cell_in y0
            have hn4 : ¬ b = wr.heap.size := by omega
            by_cases hn : (P.getD k pr0).i = n
            · have HE : Hid (wr.ownsRow (O + 1) 33 5 v ((P.take (k + 1)).filter (fun y => !(y.i == n))).length (((P.take (k + 1)).filter (fun y => !(y.i == n))).flatMap prC)) := by
                show World.ownsRow _ _ _ _ _ _ _
                rw [filter_step hlt, if_neg (by simpa using hn), List.append_nil]
                exact HO.out
              clear HO
              generalize (P.getD k pr0).i = v0 at *
              generalize (P.getD k pr0).s = v1 at *
              generalize (P.getD k pr0).m = v2 at *
              generalize (P.getD k pr0).p = v3 at *
              generalize (P.getD k pr0).c = v4 at *
              subst hn
              go_wp2_with fail
              go_roundw
              case rel => exact ⟨k + 1, _, by omega, by go_num, old_cell t0 _, old_cell t1 _, old_cell t2 _, old_frozen hsz tz _, hide (HE.out.alloc _), hbr.alloc (by omega) _⟩
              case measure => simp [intOf]; omega
            · have HN : Hid (((P.take k).filter (fun y => !(y.i == n))).flatMap prC ++ [.int .i64 (P.getD k pr0).i, .int .i64 (P.getD k pr0).s, .int .i64 (P.getD k pr0).m, .int .i64 (P.getD k pr0).p, .int .i64 (P.getD k pr0).c] = ((P.take (k + 1)).filter (fun y => !(y.i == n))).flatMap prC) := by
                show _ = _
                rw [filter_step hlt, if_pos (by simpa using hn)]
                exact flat_snoc prC _ _
              have HN2 : Hid (((P.take k).filter (fun y => !(y.i == n))).length + 1 = ((P.take (k + 1)).filter (fun y => !(y.i == n))).length) := by
                show _ = _
                rw [filter_step hlt, if_pos (by simpa using hn)]
                simp
              have hL : ((P.take k).filter (fun y => !(y.i == n))).length ≤ k := Nat.le_trans (List.length_filter_le _ _) (by simp; omega)
              generalize ((P.take k).filter (fun y => !(y.i == n))).length = L at *
              generalize (P.getD k pr0).i = v0 at *
              generalize (P.getD k pr0).s = v1 at *
              generalize (P.getD k pr0).m = v2 at *
              generalize (P.getD k pr0).p = v3 at *
              generalize (P.getD k pr0).c = v4 at *
              have hx1 : L + 1 ≤ maxLen := by unfold maxLen; omega
              go_wp2_with (at_builtin; refine wpList_append_own_at _ rfl _ _ 23 rfl (O + 1) 33 iP _ 5 40 Try.underlying23 hiP zP0 zP1 zP2 rfl (by decide) _ _ _ rfl ((HO.out.alloc _).alloc _) ⟨wr.heap.size + 1, 0, none⟩ 1 1 [.int .i64 v0, .int .i64 v1, .int .i64 v2, .int .i64 v3, .int .i64 v4] rfl rfl ?a2 (all_one rfl) ?a3 ?a4 ?a5 ?_)
              case a2 =>
                intro j u hj
                rw [add_fl, Nat.zero_add]
                exact new_cell _ _ (by simp) #[.int .i64 v0, .int .i64 v1, .int .i64 v2, .int .i64 v3, .int .i64 v4] _ j u (by simpa using hj)
              case a3 => exact hx1
              case a4 => omega
              case a5 => simp; omega
              intro vv wq ho1 hg1 _ hat
              have hnO : some O ≠ v.ownBlock := fun e => by have := own_ge HO.out _ e.symm; omega
              have hbq : Below O W6 wq := ((hbr.alloc (by omega) _).alloc (by simp; omega) _).grown hg1 (by simp; omega) (fun g hg => by have := own_ge HO.out g hg; omega)
              replace t0 : wq.cell? ⟨O, 0, none⟩ = some (.slice o1 S.length m1) := hg1.cell (old_cell (old_cell t0 _) _) hnO
              replace t1 : wq.cell? ⟨O, 1, none⟩ = some (v) := hg1.cell (old_cell (old_cell t1 _) _) hnO
              replace t2 : wq.cell? ⟨O, 2, none⟩ = some (.slice o3 A.length m3) := hg1.cell (old_cell (old_cell t2 _) _) hnO
              replace tz : wq.frozen? ⟨O, 1, none⟩ = false := gfrozen hg1 (by simp; omega) (old_frozen (by simp; omega) (old_frozen hsz tz _) _) hnO
              have hoq := hide (ownsRow_setCell_below ho1 (a := ⟨O, 1, none⟩) (show O < O + 1 by omega) vv)
              have HE : Hid ((wq.setCell ⟨O, 1, none⟩ vv).ownsRow (O + 1) 33 5 vv ((P.take (k + 1)).filter (fun y => !(y.i == n))).length (((P.take (k + 1)).filter (fun y => !(y.i == n))).flatMap prC)) := by
                show World.ownsRow _ _ _ _ _ _ _
                rw [← HN.out, ← HN2.out]; exact hoq.out
              have s0 := (World.cell?_setCell_other wq ⟨O, 1, none⟩ ⟨O, 0, none⟩ vv (by simp)).trans t0
              have s1 := World.cell?_setCell_same wq _ vv t1
              have s2 := (World.cell?_setCell_other wq ⟨O, 1, none⟩ ⟨O, 2, none⟩ vv (by simp)).trans t2
              have s3 : (wq.setCell ⟨O, 1, none⟩ vv).frozen? ⟨O, 1, none⟩ = false := by rw [World.frozen?_setCell]; exact tz
              have hb5 : Below O W6 (wq.setCell ⟨O, 1, none⟩ vv) := hbq.setCell (Nat.le_refl _) _
              obtain ⟨v8, v9, hv⟩ := own_slc ho1
              subst hv
              clear HN HN2 ho1 hg1 hat hoq HO hbr hbq t0 t2 cc xn xm xq y0 y1 y2 y3 y4
              go_wp2_with fail
              go_roundw
              case rel => exact ⟨k + 1, _, by omega, by go_num, s0, s1, s2, s3, HE, hb5⟩
              case measure => simp [intOf]; omega
          · obtain rfl : k = P.length := by omega
            rw [List.take_length] at HO
            replace r0 := (hbr.cell (p := ⟨w.heap.size + 1 + 1, 0, none⟩) (show w.heap.size + 1 + 1 < O by omega)).trans r0
            replace z0 := (hbr.frozen (p := ⟨w.heap.size + 1 + 1, 0, none⟩) (show w.heap.size + 1 + 1 < O by omega)).trans z0
            replace r1 := (hbr.cell (p := ⟨w.heap.size + 1 + 1, 1, none⟩) (show w.heap.size + 1 + 1 < O by omega)).trans r1
            replace z1 := (hbr.frozen (p := ⟨w.heap.size + 1 + 1, 1, none⟩) (show w.heap.size + 1 + 1 < O by omega)).trans z1
            replace r2 := (hbr.cell (p := ⟨w.heap.size + 1 + 1, 2, none⟩) (show w.heap.size + 1 + 1 < O by omega)).trans r2
            replace z2 := (hbr.frozen (p := ⟨w.heap.size + 1 + 1, 2, none⟩) (show w.heap.size + 1 + 1 < O by omega)).trans z2
            have HC5 : Hid (CfAt wr (.slice o1 S.length m1) v (.slice o3 A.length m3) S (P.filter (fun y => !(y.i == n))) A) := ⟨(HCW.out wr (b26.trans hbr)).1, RowAt.of_own prC_len (by omega) HO.out, (HCW.out wr (b26.trans hbr)).2.2⟩
            obtain ⟨vo, vm, rfl⟩ := own_slc HO.out
            have HB5 := hide kr
            clear HO hbr kr HCW b26
            generalize (P.filter (fun y => !(y.i == n))).length = L at *
            clear HC5
            go_wp2_with fail
            obtain ⟨u0, u1, u2⟩ := set3 r0 r1 r2 (.slice none 0 0) (.slice none 0 0) (.slice none 0 0)
            have HBE := hide (((HB5.out.setCell (p := ⟨w.heap.size + 1 + 1, 0, none⟩) (by show w.heap.size ≤ w.heap.size + 1 + 1; omega) (.slice none 0 0)).setCell (p := ⟨w.heap.size + 1 + 1, 1, none⟩) (by show w.heap.size ≤ w.heap.size + 1 + 1; omega) (.slice none 0 0)).setCell (p := ⟨w.heap.size + 1 + 1, 2, none⟩) (by show w.heap.size ≤ w.heap.size + 1 + 1; omega) (.slice none 0 0))
            have HCF := hide (⟨RowAt.nil _ _ _, RowAt.nil _ _ _, RowAt.nil _ _ _⟩ : CfAt (((wr.setCell ⟨w.heap.size + 1 + 1, 0, none⟩ (.slice none 0 0)).setCell ⟨w.heap.size + 1 + 1, 1, none⟩ (.slice none 0 0)).setCell ⟨w.heap.size + 1 + 1, 2, none⟩ (.slice none 0 0)) (.slice none 0 0) (.slice none 0 0) (.slice none 0 0) [] [] [])
            refine bodyPost_ret (v := .tuple #[.agg #[.slice none 0 0, .slice none 0 0, .slice none 0 0], .int .i64 6]) ?_ rfl ⟨_, _, _, rfl, HCF.out, HBE.out⟩
            clear HCF HBE r0 r1 r2
            generalize (((wr.setCell ⟨w.heap.size + 1 + 1, 0, none⟩ (.slice none 0 0)).setCell ⟨w.heap.size + 1 + 1, 1, none⟩ (.slice none 0 0)).setCell ⟨w.heap.size + 1 + 1, 2, none⟩ (.slice none 0 0)) = W at *
            simp [results, Try.results12, go_sem, u0, u1, u2]
      · obtain ⟨rfl, hq⟩ := HF2.out rfl
        have HQQ := hide hq
        have HLL := hide (HLK.out rfl)
        clear HF1 HF2 hq HLK
        go_wp2_with fail
        obtain ⟨W6, hW6⟩ : ∃ W6, W6 = (w4.setCell ⟨O, 1, none⟩ (.slice none 0 0)).alloc (.cells #[.int .i64 x0, .int .i64 x1, .int .i64 x2, .int .i64 x3, .int .i64 x4] 33) := ⟨_, rfl⟩
        have k6 : Below w.heap.size w W6 := by rw [hW6]; exact (k4.setCell (p := ⟨O, 1, none⟩) (by show w.heap.size ≤ O; omega) (.slice none 0 0)).alloc (by have := k4.size; simpa using this) _
        replace xk : W6.cell? ⟨w.heap.size + 1, 0, none⟩ = some (.int .i64 4) := by rw [hW6]; exact old_cell ((World.cell?_setCell_other _ _ _ _ (by simp <;> omega)).trans xk) _
        replace x18 : W6.cell? ⟨w.heap.size + 1, 18, none⟩ = some (.int .i64 n) := by rw [hW6]; exact old_cell ((World.cell?_setCell_other _ _ _ _ (by simp <;> omega)).trans x18) _
        replace x19 : W6.cell? ⟨w.heap.size + 1, 19, none⟩ = some (.int .i64 m) := by rw [hW6]; exact old_cell ((World.cell?_setCell_other _ _ _ _ (by simp <;> omega)).trans x19) _
        replace c1 : W6.cell? ⟨w.heap.size, 1, none⟩ = some (.slice p1 P.length p2) := by rw [hW6]; exact old_cell ((World.cell?_setCell_other _ _ _ _ (by simp <;> omega)).trans c1) _
        replace q0 : W6.cell? ⟨O, 0, none⟩ = some (.slice o1 S.length m1) := by rw [hW6]; exact old_cell ((World.cell?_setCell_other _ _ _ _ (by simp <;> omega)).trans q0) _
        replace q2 : W6.cell? ⟨O, 2, none⟩ = some (.slice o3 A.length m3) := by rw [hW6]; exact old_cell ((World.cell?_setCell_other _ _ _ _ (by simp <;> omega)).trans q2) _
        replace q1 : W6.cell? ⟨O, 1, none⟩ = some (.slice none 0 0) := by rw [hW6]; exact old_cell (World.cell?_setCell_same _ _ _ q1) _
        replace g1 : W6.frozen? ⟨O, 1, none⟩ = false := by rw [hW6]; exact old_frozen (by simpa using l5) (by rw [World.frozen?_setCell]; exact g1) _
        replace r0 : W6.cell? ⟨w.heap.size + 1 + 1, 0, none⟩ = some (.slice none 0 0) := by rw [hW6]; exact old_cell ((World.cell?_setCell_other _ _ _ _ (by simp <;> omega)).trans r0) _
        replace z0 : W6.frozen? ⟨w.heap.size + 1 + 1, 0, none⟩ = false := by rw [hW6]; exact old_frozen (by have := cell_in q0; simp; omega) (by rw [World.frozen?_setCell]; exact z0) _
        replace r1 : W6.cell? ⟨w.heap.size + 1 + 1, 1, none⟩ = some (.slice none 0 0) := by rw [hW6]; exact old_cell ((World.cell?_setCell_other _ _ _ _ (by simp <;> omega)).trans r1) _
        replace z1 : W6.frozen? ⟨w.heap.size + 1 + 1, 1, none⟩ = false := by rw [hW6]; exact old_frozen (by have := cell_in q0; simp; omega) (by rw [World.frozen?_setCell]; exact z1) _
        replace r2 : W6.cell? ⟨w.heap.size + 1 + 1, 2, none⟩ = some (.slice none 0 0) := by rw [hW6]; exact old_cell ((World.cell?_setCell_other _ _ _ _ (by simp <;> omega)).trans r2) _
        replace z2 : W6.frozen? ⟨w.heap.size + 1 + 1, 2, none⟩ = false := by rw [hW6]; exact old_frozen (by have := cell_in q0; simp; omega) (by rw [World.frozen?_setCell]; exact z2) _
        have b26 : Below O w2 W6 := by rw [hW6]; exact (b24.setCell (p := ⟨O, 1, none⟩) (Nat.le_refl _) (.slice none 0 0)).alloc (by simp; omega) _
        have hz6 : O < W6.heap.size := cell_in q0
        rw [← hW6]
        clear hW6 b24 k4 k3 g0 g2 hz4 hw4 l5 n5 l6 n6 l7 n7 HIN
        go_loopw [10] (fun i wr => ∃ (k : Nat) (v : Value), k ≤ P.length ∧ i = .int .i64 k ∧ wr.cell? ⟨O, 0, none⟩ = some (.slice o1 S.length m1) ∧ wr.cell? ⟨O, 1, none⟩ = some v ∧ wr.cell? ⟨O, 2, none⟩ = some (.slice o3 A.length m3) ∧ wr.frozen? ⟨O, 1, none⟩ = false ∧ Hid (wr.ownsRow (O + 1) 33 5 v ((P.take k).filter (fun y => !(y.i == n))).length (((P.take k).filter (fun y => !(y.i == n))).flatMap prC)) ∧ Below O W6 wr) (fun i _ => P.length - (intOf i).toNat)
        case atStart => exact ⟨0, _, by omega, rfl, q0, q1, q2, g1, hide (World.ownsRow_nil _ _ _ _), Below.refl _ _⟩
        case round =>
          clear q0 q1 q2 g1
          obtain ⟨k, v, hk, rfl, t0, t1, t2, tz, HO, hbr⟩ := hrel
          have cc : wr.cell? ⟨w.heap.size, 1, none⟩ = some (.slice p1 P.length p2) := (hbr.cell (p := ⟨w.heap.size, 1, none⟩) (show w.heap.size < O by omega)).trans c1
          have xn : wr.cell? ⟨w.heap.size + 1, 18, none⟩ = some (.int .i64 n) := (hbr.cell (p := ⟨w.heap.size + 1, 18, none⟩) (show w.heap.size + 1 < O by omega)).trans x18
          have xm : wr.cell? ⟨w.heap.size + 1, 19, none⟩ = some (.int .i64 m) := (hbr.cell (p := ⟨w.heap.size + 1, 19, none⟩) (show w.heap.size + 1 < O by omega)).trans x19
          have xq : wr.cell? ⟨w.heap.size + 1, 0, none⟩ = some (.int .i64 4) := (hbr.cell (p := ⟨w.heap.size + 1, 0, none⟩) (show w.heap.size + 1 < O by omega)).trans xk
          have kr : Below w.heap.size w wr := k6.trans (hbr.mono (by omega))
          have hsz : O < wr.heap.size := cell_in t2
          by_cases hlt : k < P.length
          · obtain ⟨b, off, cap, e1, hcap, hb, y0, y1, y2, y3, y4⟩ := pr_at HC.out.2.1 hlt
            simp only [Value.slice.injEq, true_and] at e1
            obtain ⟨rfl, rfl⟩ := e1
            have q3 : (0 : Int) ≤ (k : Int) := by omega
            have q4 : (k : Int) < (P.length : Int) := by omega
            replace y0 := cell_beh y0 kr (Nat.le_refl _)
            replace y1 := cell_beh y1 kr (Nat.le_refl _)
            replace y2 := cell_beh y2 kr (Nat.le_refl _)
            replace y3 := cell_beh y3 kr (Nat.le_refl _)
            replace y4 := cell_beh y4 kr (Nat.le_refl _)
            have hwn : w.heap.size < wr.heap.size := by omega
            have hwm : w.heap.size + 1 < wr.heap.size := by omega
            have hn1 : ¬ w.heap.size = wr.heap.size := by omega
            have hn2 : ¬ w.heap.size + 1 = wr.heap.size := by omega
            have hn3 : ¬ O = wr.heap.size := by omega
            have hbw : b < wr.heap.size := cell_in y0
            have hn4 : ¬ b = wr.heap.size := by omega
            by_cases hn : (P.getD k pr0).i = n
            · have HE : Hid (wr.ownsRow (O + 1) 33 5 v ((P.take (k + 1)).filter (fun y => !(y.i == n))).length (((P.take (k + 1)).filter (fun y => !(y.i == n))).flatMap prC)) := by
                show World.ownsRow _ _ _ _ _ _ _
                rw [filter_step hlt, if_neg (by simpa using hn), List.append_nil]
                exact HO.out
              clear HO
              generalize (P.getD k pr0).i = v0 at *
              generalize (P.getD k pr0).s = v1 at *
              generalize (P.getD k pr0).m = v2 at *
              generalize (P.getD k pr0).p = v3 at *
              generalize (P.getD k pr0).c = v4 at *
              subst hn
              go_wp2_with fail
              go_roundw
              case rel => exact ⟨k + 1, _, by omega, by go_num, old_cell t0 _, old_cell t1 _, old_cell t2 _, old_frozen hsz tz _, hide (HE.out.alloc _), hbr.alloc (by omega) _⟩
              case measure => simp [intOf]; omega
            · have HN : Hid (((P.take k).filter (fun y => !(y.i == n))).flatMap prC ++ [.int .i64 (P.getD k pr0).i, .int .i64 (P.getD k pr0).s, .int .i64 (P.getD k pr0).m, .int .i64 (P.getD k pr0).p, .int .i64 (P.getD k pr0).c] = ((P.take (k + 1)).filter (fun y => !(y.i == n))).flatMap prC) := by
                show _ = _
                rw [filter_step hlt, if_pos (by simpa using hn)]
                exact flat_snoc prC _ _
              have HN2 : Hid (((P.take k).filter (fun y => !(y.i == n))).length + 1 = ((P.take (k + 1)).filter (fun y => !(y.i == n))).length) := by
                show _ = _
                rw [filter_step hlt, if_pos (by simpa using hn)]
                simp
              have hL : ((P.take k).filter (fun y => !(y.i == n))).length ≤ k := Nat.le_trans (List.length_filter_le _ _) (by simp; omega)
              generalize ((P.take k).filter (fun y => !(y.i == n))).length = L at *
              generalize (P.getD k pr0).i = v0 at *
              generalize (P.getD k pr0).s = v1 at *
              generalize (P.getD k pr0).m = v2 at *
              generalize (P.getD k pr0).p = v3 at *
              generalize (P.getD k pr0).c = v4 at *
              have hx1 : L + 1 ≤ maxLen := by unfold maxLen; omega
              go_wp2_with (at_builtin; refine wpList_append_own_at _ rfl _ _ 23 rfl (O + 1) 33 iP _ 5 40 Try.underlying23 hiP zP0 zP1 zP2 rfl (by decide) _ _ _ rfl ((HO.out.alloc _).alloc _) ⟨wr.heap.size + 1, 0, none⟩ 1 1 [.int .i64 v0, .int .i64 v1, .int .i64 v2, .int .i64 v3, .int .i64 v4] rfl rfl ?a2 (all_one rfl) ?a3 ?a4 ?a5 ?_)
              case a2 =>
                intro j u hj
                rw [add_fl, Nat.zero_add]
                exact new_cell _ _ (by simp) #[.int .i64 v0, .int .i64 v1, .int .i64 v2, .int .i64 v3, .int .i64 v4] _ j u (by simpa using hj)
              case a3 => exact hx1
              case a4 => omega
              case a5 => simp; omega
              intro vv wq ho1 hg1 _ hat
              have hnO : some O ≠ v.ownBlock := fun e => by have := own_ge HO.out _ e.symm; omega
              have hbq : Below O W6 wq := ((hbr.alloc (by omega) _).alloc (by simp; omega) _).grown hg1 (by simp; omega) (fun g hg => by have := own_ge HO.out g hg; omega)
              replace t0 : wq.cell? ⟨O, 0, none⟩ = some (.slice o1 S.length m1) := hg1.cell (old_cell (old_cell t0 _) _) hnO
              replace t1 : wq.cell? ⟨O, 1, none⟩ = some (v) := hg1.cell (old_cell (old_cell t1 _) _) hnO
              replace t2 : wq.cell? ⟨O, 2, none⟩ = some (.slice o3 A.length m3) := hg1.cell (old_cell (old_cell t2 _) _) hnO
              replace tz : wq.frozen? ⟨O, 1, none⟩ = false := gfrozen hg1 (by simp; omega) (old_frozen (by simp; omega) (old_frozen hsz tz _) _) hnO
              have hoq := hide (ownsRow_setCell_below ho1 (a := ⟨O, 1, none⟩) (show O < O + 1 by omega) vv)
              have HE : Hid ((wq.setCell ⟨O, 1, none⟩ vv).ownsRow (O + 1) 33 5 vv ((P.take (k + 1)).filter (fun y => !(y.i == n))).length (((P.take (k + 1)).filter (fun y => !(y.i == n))).flatMap prC)) := by
                show World.ownsRow _ _ _ _ _ _ _
                rw [← HN.out, ← HN2.out]; exact hoq.out
              have s0 := (World.cell?_setCell_other wq ⟨O, 1, none⟩ ⟨O, 0, none⟩ vv (by simp)).trans t0
              have s1 := World.cell?_setCell_same wq _ vv t1
              have s2 := (World.cell?_setCell_other wq ⟨O, 1, none⟩ ⟨O, 2, none⟩ vv (by simp)).trans t2
              have s3 : (wq.setCell ⟨O, 1, none⟩ vv).frozen? ⟨O, 1, none⟩ = false := by rw [World.frozen?_setCell]; exact tz
              have hb5 : Below O W6 (wq.setCell ⟨O, 1, none⟩ vv) := hbq.setCell (Nat.le_refl _) _
              obtain ⟨v8, v9, hv⟩ := own_slc ho1
              subst hv
              clear HN HN2 ho1 hg1 hat hoq HO hbr hbq t0 t2 cc xn xm xq y0 y1 y2 y3 y4
              go_wp2_with fail
              go_roundw
              case rel => exact ⟨k + 1, _, by omega, by go_num, s0, s1, s2, s3, HE, hb5⟩
              case measure => simp [intOf]; omega
          · obtain rfl : k = P.length := by omega
            rw [List.take_length] at HO
            replace r0 := (hbr.cell (p := ⟨w.heap.size + 1 + 1, 0, none⟩) (show w.heap.size + 1 + 1 < O by omega)).trans r0
            replace z0 := (hbr.frozen (p := ⟨w.heap.size + 1 + 1, 0, none⟩) (show w.heap.size + 1 + 1 < O by omega)).trans z0
            replace r1 := (hbr.cell (p := ⟨w.heap.size + 1 + 1, 1, none⟩) (show w.heap.size + 1 + 1 < O by omega)).trans r1
            replace z1 := (hbr.frozen (p := ⟨w.heap.size + 1 + 1, 1, none⟩) (show w.heap.size + 1 + 1 < O by omega)).trans z1
            replace r2 := (hbr.cell (p := ⟨w.heap.size + 1 + 1, 2, none⟩) (show w.heap.size + 1 + 1 < O by omega)).trans r2
            replace z2 := (hbr.frozen (p := ⟨w.heap.size + 1 + 1, 2, none⟩) (show w.heap.size + 1 + 1 < O by omega)).trans z2
            have HC5 : Hid (CfAt wr (.slice o1 S.length m1) v (.slice o3 A.length m3) S (P.filter (fun y => !(y.i == n))) A) := ⟨(HCW.out wr (b26.trans hbr)).1, RowAt.of_own prC_len (by omega) HO.out, (HCW.out wr (b26.trans hbr)).2.2⟩
            obtain ⟨vo, vm, rfl⟩ := own_slc HO.out
            have HB5 := hide kr
            clear HO hbr kr HCW b26
            generalize hGL : (P.filter (fun y => !(y.i == n))).length = L at *
            clear hGL
            go_wp2_with fail
            obtain ⟨u0, u1, u2⟩ := set3 r0 r1 r2 (.slice o1 S.length m1) (.slice vo L vm) (.slice o3 A.length m3)
            have HBE := hide (((HB5.out.setCell (p := ⟨w.heap.size + 1 + 1, 0, none⟩) (by show w.heap.size ≤ w.heap.size + 1 + 1; omega) (.slice o1 S.length m1)).setCell (p := ⟨w.heap.size + 1 + 1, 1, none⟩) (by show w.heap.size ≤ w.heap.size + 1 + 1; omega) (.slice vo L vm)).setCell (p := ⟨w.heap.size + 1 + 1, 2, none⟩) (by show w.heap.size ≤ w.heap.size + 1 + 1; omega) (.slice o3 A.length m3))
            have HCF := hide (((HC5.out.set_box r0 (.slice o1 S.length m1)).set_box ((World.cell?_setCell_other _ _ _ _ (by simp)).trans r1) (.slice vo L vm)).set_box ((World.cell?_setCell_other _ _ _ _ (by simp)).trans ((World.cell?_setCell_other _ _ _ _ (by simp)).trans r2)) (.slice o3 A.length m3))
            refine bodyPost_ret (v := .tuple #[.agg #[.slice o1 S.length m1, .slice vo L vm, .slice o3 A.length m3], .int .i64 0]) ?_ rfl ⟨_, _, _, rfl, by rw [HQQ.out.1, HQQ.out.2.1, HQQ.out.2.2]; have hh := HCF.out; rw [HLL.out] at hh; exact hh, HBE.out⟩
            clear HCF HBE r0 r1 r2
            generalize (((wr.setCell ⟨w.heap.size + 1 + 1, 0, none⟩ (.slice o1 S.length m1)).setCell ⟨w.heap.size + 1 + 1, 1, none⟩ (.slice vo L vm)).setCell ⟨w.heap.size + 1 + 1, 2, none⟩ (.slice o3 A.length m3)) = W at *
            simp [results, Try.results12, go_sem, u0, u1, u2]
    · have hl := may_len HM.out
      obtain ⟨W6, hW6⟩ : ∃ W6, W6 = w2.alloc (.cells #[.slice o1 S.length m1, .slice o2 P.length m2, .slice none 0 0] 26) := ⟨_, rfl⟩
      have k6 : Below w.heap.size w W6 := by rw [hW6]; exact k2.alloc k2.size _
      have b6 : Below O w2 W6 := by rw [hW6, hO]; exact (Below.refl _ w2).alloc (Nat.le_refl _) _
      have d2 : W6.cell? ⟨w.heap.size, 2, none⟩ = some (.slice a1 A.length a2) := by rw [hW6]; exact old_cell bc2 _
      have x18 : W6.cell? ⟨w.heap.size + 1, 18, none⟩ = some (.int .i64 n) := by rw [hW6]; exact old_cell (bX.out 18 _ rfl) _
      have t0 : W6.cell? ⟨O, 0, none⟩ = some (.slice o1 S.length m1) := by rw [hW6]; exact new_cell w2 O hO.symm _ _ _ _ rfl
      have t1 : W6.cell? ⟨O, 1, none⟩ = some (.slice o2 P.length m2) := by rw [hW6]; exact new_cell w2 O hO.symm _ _ _ _ rfl
      have t2 : W6.cell? ⟨O, 2, none⟩ = some (.slice none 0 0) := by rw [hW6]; exact new_cell w2 O hO.symm _ _ _ _ rfl
      have tz : W6.frozen? ⟨O, 2, none⟩ = false := by rw [hW6]; exact new_frozen w2 O hO.symm _ _ _
      have hA : actFault S P A ⟨5, si, st, sg, pi, ps, pm, pp, pc, rs, rp, rn, rf, rb, rt, re, ro, rd, n, m, f0, f1, f2, f3, f4, f5, f6, body⟩ = if inB n 0 (A.length - 1) = true then 0 else 6 := rfl
      rw [hA] at HF1 HF2
      clear hA HS HP HA HQ X c0 c1 c2 HNO HO3 k3 hz3 bX bc1 bc2 r0 r1 r2 z0 z1 z2 q0 q1 q2 g0 g1 g2
      have HW6 := hide hW6
      have HOO := hide hO
      have HR : Hid (w2.cell? ⟨w.heap.size + 1 + 1, 0, none⟩ = some (.slice none 0 0) ∧ w2.cell? ⟨w.heap.size + 1 + 1, 1, none⟩ = some (.slice none 0 0) ∧ w2.cell? ⟨w.heap.size + 1 + 1, 2, none⟩ = some (.slice none 0 0)) := ⟨br0, br1, br2⟩
      have HZ : Hid (w2.frozen? ⟨w.heap.size + 1 + 1, 0, none⟩ = false ∧ w2.frozen? ⟨w.heap.size + 1 + 1, 1, none⟩ = false ∧ w2.frozen? ⟨w.heap.size + 1 + 1, 2, none⟩ = false) := ⟨bz0, bz1, bz2⟩
      clear hW6 hO br0 br1 br2 bz0 bz1 bz2 hR2 k2
      subst hW3
      go_wp2_with fail
      rw [← HW6.out, ← HOO.out]
      clear xk HW6
      go_loopw [12] (fun i wr => ∃ (k : Nat) (v : Value), k ≤ A.length ∧ i = .int .i64 k ∧ wr.cell? ⟨O, 0, none⟩ = some (.slice o1 S.length m1) ∧ wr.cell? ⟨O, 1, none⟩ = some (.slice o2 P.length m2) ∧ wr.cell? ⟨O, 2, none⟩ = some v ∧ wr.frozen? ⟨O, 2, none⟩ = false ∧ Hid (wr.ownsRow (O + 1) 35 9 v (cutA n A k).length ((cutA n A k).flatMap acC)) ∧ Below O W6 wr) (fun i _ => A.length - (intOf i).toNat)
      case atStart => exact ⟨0, _, by omega, rfl, t0, t1, t2, tz, hide (by rw [cutA_zero]; exact World.ownsRow_nil _ _ _ _), Below.refl _ _⟩
      case round =>
        clear t0 t1 t2 tz
        obtain ⟨k, v, hk, rfl, t0, t1, t2, tz, HO, hbr⟩ := hrel
        have cc : wr.cell? ⟨w.heap.size, 2, none⟩ = some (.slice a1 A.length a2) := (hbr.cell (p := ⟨w.heap.size, 2, none⟩) (show w.heap.size < O by omega)).trans d2
        have xn : wr.cell? ⟨w.heap.size + 1, 18, none⟩ = some (.int .i64 n) := (hbr.cell (p := ⟨w.heap.size + 1, 18, none⟩) (show w.heap.size + 1 < O by omega)).trans x18
        have kr : Below w.heap.size w wr := k6.trans (hbr.mono (by omega))
        have hsz : O < wr.heap.size := cell_in t2
        by_cases hlt : k < A.length
        · obtain ⟨b, off, cap, e1, hcap, hb, g0, g1, g2, g3, g4, g5, g6, g7, g8⟩ := ac_at HC.out.2.2 hlt
          simp only [Value.slice.injEq, true_and] at e1
          obtain ⟨rfl, rfl⟩ := e1
          have q3 : (0 : Int) ≤ (k : Int) := by omega
          have q4 : (k : Int) < (A.length : Int) := by omega
          replace g0 := cell_beh g0 kr (Nat.le_refl _)
          replace g1 := cell_beh g1 kr (Nat.le_refl _)
          replace g2 := cell_beh g2 kr (Nat.le_refl _)
          replace g3 := cell_beh g3 kr (Nat.le_refl _)
          replace g4 := cell_beh g4 kr (Nat.le_refl _)
          replace g5 := cell_beh g5 kr (Nat.le_refl _)
          replace g6 := cell_beh g6 kr (Nat.le_refl _)
          replace g7 := cell_beh g7 kr (Nat.le_refl _)
          replace g8 := cell_beh g8 kr (Nat.le_refl _)
          by_cases hn : (k : Int) = n
          · have HE : Hid (wr.ownsRow (O + 1) 35 9 v (cutA n A (k + 1)).length ((cutA n A (k + 1)).flatMap acC)) := by
              show World.ownsRow _ _ _ _ _ _ _
              rw [cutA_skip hlt hn]
              exact HO.out
            clear HO g0 g1 g2 g3 g4 g5 g6 g7 g8
            subst hn
            go_wp2_with fail
            go_roundw
            case rel => exact ⟨k + 1, _, by omega, by go_num, t0, t1, t2, tz, HE, hbr⟩
            case measure => simp [intOf]; omega
          · have HN : Hid ((cutA n A k).flatMap acC ++ [.int .i64 (A.getD k ac0).s, .int .i64 (A.getD k ac0).p, .bool (A.getD k ac0).n, .int .i64 (A.getD k ac0).src, .int .i64 (A.getD k ac0).sb, .int .i64 (A.getD k ac0).dst, .int .i64 (A.getD k ac0).db, .int .i64 (A.getD k ac0).o, .bool (A.getD k ac0).d] = (cutA n A (k + 1)).flatMap acC) := by
              show _ = _
              rw [cutA_step hlt hn]
              exact flat_snoc acC _ _
            have HN2 : Hid ((cutA n A k).length + 1 = (cutA n A (k + 1)).length) := by
              show _ = _
              rw [cutA_step hlt hn]
              simp
            have hL := cutA_len n A k
            generalize (cutA n A k).length = L at *
            generalize (A.getD k ac0).s = y0 at *
            generalize (A.getD k ac0).p = y1 at *
            generalize (A.getD k ac0).n = y2 at *
            generalize (A.getD k ac0).src = y3 at *
            generalize (A.getD k ac0).sb = y4 at *
            generalize (A.getD k ac0).dst = y5 at *
            generalize (A.getD k ac0).db = y6 at *
            generalize (A.getD k ac0).o = y7 at *
            generalize (A.getD k ac0).d = y8 at *
            have own1 := hide ((HO.out.alloc (.cells #[.int .i64 y0, .int .i64 y1, .bool y2, .int .i64 y3, .int .i64 y4, .int .i64 y5, .int .i64 y6, .int .i64 y7, .bool y8] 35)).drew)
            have NEWS1 : Hid (∀ j u, [Value.int .i64 y0, .int .i64 y1, .bool y2, .int .i64 y3, .int .i64 y4, .int .i64 y5, .int .i64 y6, .int .i64 y7, .bool y8][j]? = some u → (wr.alloc (.cells #[.int .i64 y0, .int .i64 y1, .bool y2, .int .i64 y3, .int .i64 y4, .int .i64 y5, .int .i64 y6, .int .i64 y7, .bool y8] 35)).drew.cell? ((⟨wr.heap.size, 0, none⟩ : Addr).add j) = some u) := by
              intro j u hj
              rw [add_fl, Nat.zero_add]
              show (wr.alloc (.cells #[.int .i64 y0, .int .i64 y1, .bool y2, .int .i64 y3, .int .i64 y4, .int .i64 y5, .int .i64 y6, .int .i64 y7, .bool y8] 35)).cell? ⟨wr.heap.size, j, none⟩ = some u
              exact new_cell _ _ rfl #[.int .i64 y0, .int .i64 y1, .bool y2, .int .i64 y3, .int .i64 y4, .int .i64 y5, .int .i64 y6, .int .i64 y7, .bool y8] _ j u (by simpa using hj)
            have base1 : O + 1 ≤ (wr.alloc (.cells #[.int .i64 y0, .int .i64 y1, .bool y2, .int .i64 y3, .int .i64 y4, .int .i64 y5, .int .i64 y6, .int .i64 y7, .bool y8] 35)).drew.heap.size := by simp; omega
            have bel1 : Below (O + 1) wr (wr.alloc (.cells #[.int .i64 y0, .int .i64 y1, .bool y2, .int .i64 y3, .int .i64 y4, .int .i64 y5, .int .i64 y6, .int .i64 y7, .bool y8] 35)).drew := ((Below.refl _ wr).alloc (by omega) _).drew
            have hx1 : L + 1 ≤ maxLen := by unfold maxLen; omega
            have hx2 : (L + 1) * 72 ≤ 140737488355328 := by omega
            have hne1 : O ≠ w.heap.size := by omega
            have hne2 : O ≠ b := by omega
            have hmw : b < wr.heap.size := by omega
            have hnw : w.heap.size < wr.heap.size := by omega
            have p2a : (wr.alloc (.cells #[.int .i64 y0, .int .i64 y1, .bool y2, .int .i64 y3, .int .i64 y4, .int .i64 y5, .int .i64 y6, .int .i64 y7, .bool y8] 35)).drew.cell? ⟨O, 2, none⟩ = some v := (bel1.cell (p := ⟨O, 2, none⟩) (show O < O + 1 by omega)).trans t2
            go_wp2_with fail
            go_region_law
              (first | (refine step_append_lies _ rfl (.tmp 133) (.tmp 139) 24 rfl (O + 1) 35 iA _ 9 72 Try.underlying24 hiA zA0 zA1 zA2 rfl (by decide) _ _ _ rfl (unhide own1) ⟨wr.heap.size, 0, none⟩ 1 1 [.int .i64 y0, .int .i64 y1, .bool y2, .int .i64 y3, .int .i64 y4, .int .i64 y5, .int .i64 y6, .int .i64 y7, .bool y8] rfl rfl (unhide NEWS1) (all_one rfl) (by decide) hx1 hx2 base1 _ rfl ?_; intro g cap4 w4 ho4 hg4 hat _; have hb4 := bel1.grown hg4 base1 (own_ge (unhide own1)); have q0 := (hb4.cell (p := ⟨w.heap.size, 2, none⟩) (show w.heap.size < O + 1 by omega)).trans cc; have qq0 := (hb4.cell (p := ⟨b, off + k * 9, none⟩) (show b < O + 1 by omega)).trans g0; have qq1 := (hb4.cell (p := ⟨b, off + k * 9 + 1, none⟩) (show b < O + 1 by omega)).trans g1; have qq2 := (hb4.cell (p := ⟨b, off + k * 9 + 2, none⟩) (show b < O + 1 by omega)).trans g2; have qq3 := (hb4.cell (p := ⟨b, off + k * 9 + 3, none⟩) (show b < O + 1 by omega)).trans g3; have qq4 := (hb4.cell (p := ⟨b, off + k * 9 + 4, none⟩) (show b < O + 1 by omega)).trans g4; have qq5 := (hb4.cell (p := ⟨b, off + k * 9 + 5, none⟩) (show b < O + 1 by omega)).trans g5; have qq6 := (hb4.cell (p := ⟨b, off + k * 9 + 6, none⟩) (show b < O + 1 by omega)).trans g6; have qq7 := (hb4.cell (p := ⟨b, off + k * 9 + 7, none⟩) (show b < O + 1 by omega)).trans g7; have qq8 := (hb4.cell (p := ⟨b, off + k * 9 + 8, none⟩) (show b < O + 1 by omega)).trans g8; have q4 := (hb4.cell (p := ⟨O, 2, none⟩) (show O < O + 1 by omega)).trans t2; have q5 := (hb4.frozen (p := ⟨O, 2, none⟩) (show O < O + 1 by omega)).trans tz))
            all_goals
              have HO4 := hide (ownsRow_setCell_below (ho4) (a := ⟨O, 2, none⟩) (show O < O + 1 by omega) (.slice (some ⟨g, 0, none⟩) (L + 1) cap4))
              have hb5 : Below O W6 (w4.setCell ⟨O, 2, none⟩ (.slice (some ⟨g, 0, none⟩) (L + 1) cap4)) := (hbr.trans (hb4.mono (Nat.le_succ _))).setCell (Nat.le_refl _) _
              have s0 := (World.cell?_setCell_other w4 ⟨O, 2, none⟩ ⟨O, 0, none⟩ (.slice (some ⟨g, 0, none⟩) (L + 1) cap4) (by simp)).trans ((hb4.cell (p := ⟨O, 0, none⟩) (show O < O + 1 by omega)).trans t0)
              have s1 := (World.cell?_setCell_other w4 ⟨O, 2, none⟩ ⟨O, 1, none⟩ (.slice (some ⟨g, 0, none⟩) (L + 1) cap4) (by simp)).trans ((hb4.cell (p := ⟨O, 1, none⟩) (show O < O + 1 by omega)).trans t1)
              have s2 := World.cell?_setCell_same w4 _ (.slice (some ⟨g, 0, none⟩) (L + 1) cap4) q4
              have s3 : (w4.setCell ⟨O, 2, none⟩ (.slice (some ⟨g, 0, none⟩) (L + 1) cap4)).frozen? ⟨O, 2, none⟩ = false := by rw [World.frozen?_setCell]; exact q5
              have HE : Hid ((w4.setCell ⟨O, 2, none⟩ (.slice (some ⟨g, 0, none⟩) (L + 1) cap4)).ownsRow (O + 1) 35 9 (.slice (some ⟨g, 0, none⟩) (L + 1) cap4) (cutA n A (k + 1)).length ((cutA n A (k + 1)).flatMap acC)) := by
                show World.ownsRow _ _ _ _ _ _ _
                rw [← HN.out, ← HN2.out]; exact HO4.out
              clear HO4 HN HN2 ho4 hg4 hat q0 q4 q5 cc xn own1 NEWS1 base1 bel1 hx1 hx2 HO hbr hb4 t0 t1 t2 p2a tz hne1 hne2 hmw g0 qq0 g1 qq1 g2 qq2 g3 qq3 g4 qq4 g5 qq5 g6 qq6 g7 qq7 g8 qq8
              generalize (w4.setCell ⟨O, 2, none⟩ (.slice (some ⟨g, 0, none⟩) (L + 1) cap4)) = w5 at *
              go_wp2_with fail
              go_roundw
              case rel => exact ⟨k + 1, _, by omega, by go_num, s0, s1, s2, s3, HE, hb5⟩
              case measure => simp [intOf]; omega
        · obtain rfl : k = A.length := by omega
          have b2r := b6.trans hbr
          have r0 := (b2r.cell (p := ⟨w.heap.size + 1 + 1, 0, none⟩) (show w.heap.size + 1 + 1 < O by omega)).trans HR.out.1
          have z0 := (b2r.frozen (p := ⟨w.heap.size + 1 + 1, 0, none⟩) (show w.heap.size + 1 + 1 < O by omega)).trans HZ.out.1
          have r1 := (b2r.cell (p := ⟨w.heap.size + 1 + 1, 1, none⟩) (show w.heap.size + 1 + 1 < O by omega)).trans HR.out.2.1
          have z1 := (b2r.frozen (p := ⟨w.heap.size + 1 + 1, 1, none⟩) (show w.heap.size + 1 + 1 < O by omega)).trans HZ.out.2.1
          have r2 := (b2r.cell (p := ⟨w.heap.size + 1 + 1, 2, none⟩) (show w.heap.size + 1 + 1 < O by omega)).trans HR.out.2.2
          have z2 := (b2r.frozen (p := ⟨w.heap.size + 1 + 1, 2, none⟩) (show w.heap.size + 1 + 1 < O by omega)).trans HZ.out.2.2
          have HC5 : Hid (CfAt wr (.slice o1 S.length m1) (.slice o2 P.length m2) v S P (cutA n A A.length)) := ⟨RowAt.below HC2.out.1 b2r (Nat.le_of_eq HOO.out.symm), RowAt.below HC2.out.2.1 b2r (Nat.le_of_eq HOO.out.symm), RowAt.of_own acC_len (by omega) HO.out⟩
          obtain ⟨vo, vm, rfl⟩ := own_slc HO.out
          have HB5 := hide kr
          clear HO b2r hbr kr HC2 HR HZ b6 d2 x18 xn k6 HOO
          cases hin : inB n 0 (A.length - 1)
          · obtain ⟨hq0, rfl, rfl, rfl⟩ := HF1.out (by rw [hin]; decide)
            rw [hin] at hq0
            replace hq0 : EE = 6 := hq0
            subst hq0
            have hLL := cutA_out hin
            generalize (cutA n A A.length).length = L at *
            subst hLL
            clear HF1 HF2 HC5 hin
            go_wp2_with fail
            obtain ⟨u0, u1, u2⟩ := set3 r0 r1 r2 (.slice none 0 0) (.slice none 0 0) (.slice none 0 0)
            have HBE := hide (((HB5.out.setCell (p := ⟨w.heap.size + 1 + 1, 0, none⟩) (by show w.heap.size ≤ w.heap.size + 1 + 1; omega) (.slice none 0 0)).setCell (p := ⟨w.heap.size + 1 + 1, 1, none⟩) (by show w.heap.size ≤ w.heap.size + 1 + 1; omega) (.slice none 0 0)).setCell (p := ⟨w.heap.size + 1 + 1, 2, none⟩) (by show w.heap.size ≤ w.heap.size + 1 + 1; omega) (.slice none 0 0))
            have HCF := hide (⟨RowAt.nil _ _ _, RowAt.nil _ _ _, RowAt.nil _ _ _⟩ : CfAt (((wr.setCell ⟨w.heap.size + 1 + 1, 0, none⟩ (.slice none 0 0)).setCell ⟨w.heap.size + 1 + 1, 1, none⟩ (.slice none 0 0)).setCell ⟨w.heap.size + 1 + 1, 2, none⟩ (.slice none 0 0)) (.slice none 0 0) (.slice none 0 0) (.slice none 0 0) [] [] [])
            refine bodyPost_ret (v := .tuple #[.agg #[.slice none 0 0, .slice none 0 0, .slice none 0 0], .int .i64 6]) ?_ rfl ⟨_, _, _, rfl, HCF.out, HBE.out⟩
            clear HCF HBE r0 r1 r2
            generalize (((wr.setCell ⟨w.heap.size + 1 + 1, 0, none⟩ (.slice none 0 0)).setCell ⟨w.heap.size + 1 + 1, 1, none⟩ (.slice none 0 0)).setCell ⟨w.heap.size + 1 + 1, 2, none⟩ (.slice none 0 0)) = W at *
            simp [results, Try.results12, go_sem, u0, u1, u2]
          · obtain ⟨rfl, hq⟩ := HF2.out (by rw [hin]; rfl)
            have HQQ := hide hq
            obtain ⟨hc1, hLL⟩ := cutA_in hin
            have HC1 := hide hc1
            have HLN := hide hLL
            clear HF1 HF2 hq hc1 hin
            generalize hGL : (cutA n A A.length).length = L at *
            clear hGL
            have hL0 : ¬ (L : Int) = (A.length : Int) := by have := HLN.out; omega
            go_wp2_with fail
            obtain ⟨u0, u1, u2⟩ := set3 r0 r1 r2 (.slice o1 S.length m1) (.slice o2 P.length m2) (.slice vo L vm)
            have HBE := hide (((HB5.out.setCell (p := ⟨w.heap.size + 1 + 1, 0, none⟩) (by show w.heap.size ≤ w.heap.size + 1 + 1; omega) (.slice o1 S.length m1)).setCell (p := ⟨w.heap.size + 1 + 1, 1, none⟩) (by show w.heap.size ≤ w.heap.size + 1 + 1; omega) (.slice o2 P.length m2)).setCell (p := ⟨w.heap.size + 1 + 1, 2, none⟩) (by show w.heap.size ≤ w.heap.size + 1 + 1; omega) (.slice vo L vm))
            have HCF := hide (((HC5.out.set_box r0 (.slice o1 S.length m1)).set_box ((World.cell?_setCell_other _ _ _ _ (by simp)).trans r1) (.slice o2 P.length m2)).set_box ((World.cell?_setCell_other _ _ _ _ (by simp)).trans ((World.cell?_setCell_other _ _ _ _ (by simp)).trans r2)) (.slice vo L vm))
            refine bodyPost_ret (v := .tuple #[.agg #[.slice o1 S.length m1, .slice o2 P.length m2, .slice vo L vm], .int .i64 0]) ?_ rfl ⟨_, _, _, rfl, by rw [HQQ.out.1, HQQ.out.2.1, HQQ.out.2.2]; have hh := HCF.out; rw [HC1.out] at hh; exact hh, HBE.out⟩
            clear HCF HBE r0 r1 r2
            generalize (((wr.setCell ⟨w.heap.size + 1 + 1, 0, none⟩ (.slice o1 S.length m1)).setCell ⟨w.heap.size + 1 + 1, 1, none⟩ (.slice o2 P.length m2)).setCell ⟨w.heap.size + 1 + 1, 2, none⟩ (.slice vo L vm)) = W at *
            simp [results, Try.results12, go_sem, u0, u1, u2]
    · have x18 : W3.cell? ⟨w.heap.size + 1, 18, none⟩ = some (.int .i64 n) := X.out 18 _ rfl
      have x19 : W3.cell? ⟨w.heap.size + 1, 19, none⟩ = some (.int .i64 m) := X.out 19 _ rfl
      have hA : actFault S P A ⟨6, si, st, sg, pi, ps, pm, pp, pc, rs, rp, rn, rf, rb, rt, re, ro, rd, n, m, f0, f1, f2, f3, f4, f5, f6, body⟩ = if P.any (fun y => y.i == n) = true then (if inB m (-1) 5 = true then 0 else 2) else 6 := by rw [← pat_in]; rfl
      rw [hA] at HF1 HF2
      clear hA
      have hl := may_len HM.out
      have HCW : Hid (∀ wr, Below O w2 wr → CfAt wr (.slice o1 S.length m1) (.slice o2 P.length m2) (.slice o3 A.length m3) S P A) := fun wr h => HC2.out.below h (by rw [hO]; exact Nat.le_refl _)
      have HBW : Hid (Below O w2 W3) := by rw [hW3, hO]; exact (Below.refl _ w2).alloc (Nat.le_refl _) _
      clear k2 bc1 bc2 bX HC2 hR2 br0 br1 br2 bz0 bz1 bz2
      subst hW3 hO
      go_wp2_with fail
      generalize w2.alloc (.cells #[.slice o1 S.length m1, .slice o2 P.length m2, .slice o3 A.length m3] 26) = W3 at *
      generalize w2.heap.size = O at *
      refine (unhide HQ _ k3).mono ?_
      rintro e w4 ⟨⟨x0, x1, x2, x3, x4, rfl⟩, hb4⟩
      have k4 := k3.trans (hb4.mono k3.size)
      have b24 := HBW.out.trans (hb4.mono (by omega))
      replace r0 := cell_beh r0 hb4 (Nat.le_refl _)
      replace q0 := cell_beh q0 hb4 (Nat.le_refl _)
      replace z0 := (hb4.frozen (p := ⟨w.heap.size + 1 + 1, 0, none⟩) (by show w.heap.size + 1 + 1 < W3.heap.size; omega)).trans z0
      replace g0 := (hb4.frozen (p := ⟨O, 0, none⟩) (by show O < W3.heap.size; omega)).trans g0
      replace r1 := cell_beh r1 hb4 (Nat.le_refl _)
      replace q1 := cell_beh q1 hb4 (Nat.le_refl _)
      replace z1 := (hb4.frozen (p := ⟨w.heap.size + 1 + 1, 1, none⟩) (by show w.heap.size + 1 + 1 < W3.heap.size; omega)).trans z1
      replace g1 := (hb4.frozen (p := ⟨O, 1, none⟩) (by show O < W3.heap.size; omega)).trans g1
      replace r2 := cell_beh r2 hb4 (Nat.le_refl _)
      replace q2 := cell_beh q2 hb4 (Nat.le_refl _)
      replace z2 := (hb4.frozen (p := ⟨w.heap.size + 1 + 1, 2, none⟩) (by show w.heap.size + 1 + 1 < W3.heap.size; omega)).trans z2
      replace g2 := (hb4.frozen (p := ⟨O, 2, none⟩) (by show O < W3.heap.size; omega)).trans g2
      replace xk := cell_beh xk hb4 (Nat.le_refl _)
      replace x18 := cell_beh x18 hb4 (Nat.le_refl _)
      replace x19 := cell_beh x19 hb4 (Nat.le_refl _)
      replace c1 := cell_beh c1 hb4 (Nat.le_refl _)
      have hz4 := hb4.size
      have hw4 : w1.heap.size ≤ w4.heap.size := by omega
      clear HS HP HA HQ hb4 HO3 X c0 c2 HBW
      have HIN := hide (fun W => rIn_any m (-1) 5 W)
      have HLK : Hid (P.any (fun y => y.i == n) = true → P.map (bnd n m) = P.set (pat P n).toNat ⟨(P.getD (pat P n).toNat pr0).i, (P.getD (pat P n).toNat pr0).s, (P.getD (pat P n).toNat pr0).m, (P.getD (pat P n).toNat pr0).p, m⟩) := fun h => bind_port (may_parts HM.out).2.1 h
      generalize P.any (fun y => y.i == n) = TH at *
      generalize inB m (-1) 5 = MB at *
      have l5 := cell_in q1
      have n5 : ¬ O = w4.heap.size := by omega
      have l6 := cell_in c1
      have n6 : ¬ w.heap.size = w4.heap.size := by omega
      have l7 := cell_in xk
      have n7 : ¬ w.heap.size + 1 = w4.heap.size := by omega
      clear HM HNO
      cases TH
      · obtain ⟨hq0, rfl, rfl, rfl⟩ := HF1.out (by simp)
        replace hq0 : EE = 6 := hq0
        subst hq0
        clear HF1 HF2 HLK
        go_wp2_with fail
        obtain ⟨W6, hW6⟩ : ∃ W6, W6 = (w4.setCell ⟨O, 1, none⟩ (.slice none 0 0)).alloc (.cells #[.int .i64 x0, .int .i64 x1, .int .i64 x2, .int .i64 x3, .int .i64 x4] 33) := ⟨_, rfl⟩
        have k6 : Below w.heap.size w W6 := by rw [hW6]; exact (k4.setCell (p := ⟨O, 1, none⟩) (by show w.heap.size ≤ O; omega) (.slice none 0 0)).alloc (by have := k4.size; simpa using this) _
        replace xk : W6.cell? ⟨w.heap.size + 1, 0, none⟩ = some (.int .i64 6) := by rw [hW6]; exact old_cell ((World.cell?_setCell_other _ _ _ _ (by simp <;> omega)).trans xk) _
        replace x18 : W6.cell? ⟨w.heap.size + 1, 18, none⟩ = some (.int .i64 n) := by rw [hW6]; exact old_cell ((World.cell?_setCell_other _ _ _ _ (by simp <;> omega)).trans x18) _
        replace x19 : W6.cell? ⟨w.heap.size + 1, 19, none⟩ = some (.int .i64 m) := by rw [hW6]; exact old_cell ((World.cell?_setCell_other _ _ _ _ (by simp <;> omega)).trans x19) _
        replace c1 : W6.cell? ⟨w.heap.size, 1, none⟩ = some (.slice p1 P.length p2) := by rw [hW6]; exact old_cell ((World.cell?_setCell_other _ _ _ _ (by simp <;> omega)).trans c1) _
        replace q0 : W6.cell? ⟨O, 0, none⟩ = some (.slice o1 S.length m1) := by rw [hW6]; exact old_cell ((World.cell?_setCell_other _ _ _ _ (by simp <;> omega)).trans q0) _
        replace q2 : W6.cell? ⟨O, 2, none⟩ = some (.slice o3 A.length m3) := by rw [hW6]; exact old_cell ((World.cell?_setCell_other _ _ _ _ (by simp <;> omega)).trans q2) _
        replace q1 : W6.cell? ⟨O, 1, none⟩ = some (.slice none 0 0) := by rw [hW6]; exact old_cell (World.cell?_setCell_same _ _ _ q1) _
        replace g1 : W6.frozen? ⟨O, 1, none⟩ = false := by rw [hW6]; exact old_frozen (by simpa using l5) (by rw [World.frozen?_setCell]; exact g1) _
        replace r0 : W6.cell? ⟨w.heap.size + 1 + 1, 0, none⟩ = some (.slice none 0 0) := by rw [hW6]; exact old_cell ((World.cell?_setCell_other _ _ _ _ (by simp <;> omega)).trans r0) _
        replace z0 : W6.frozen? ⟨w.heap.size + 1 + 1, 0, none⟩ = false := by rw [hW6]; exact old_frozen (by have := cell_in q0; simp; omega) (by rw [World.frozen?_setCell]; exact z0) _
        replace r1 : W6.cell? ⟨w.heap.size + 1 + 1, 1, none⟩ = some (.slice none 0 0) := by rw [hW6]; exact old_cell ((World.cell?_setCell_other _ _ _ _ (by simp <;> omega)).trans r1) _
        replace z1 : W6.frozen? ⟨w.heap.size + 1 + 1, 1, none⟩ = false := by rw [hW6]; exact old_frozen (by have := cell_in q0; simp; omega) (by rw [World.frozen?_setCell]; exact z1) _
        replace r2 : W6.cell? ⟨w.heap.size + 1 + 1, 2, none⟩ = some (.slice none 0 0) := by rw [hW6]; exact old_cell ((World.cell?_setCell_other _ _ _ _ (by simp <;> omega)).trans r2) _
        replace z2 : W6.frozen? ⟨w.heap.size + 1 + 1, 2, none⟩ = false := by rw [hW6]; exact old_frozen (by have := cell_in q0; simp; omega) (by rw [World.frozen?_setCell]; exact z2) _
        have b26 : Below O w2 W6 := by rw [hW6]; exact (b24.setCell (p := ⟨O, 1, none⟩) (Nat.le_refl _) (.slice none 0 0)).alloc (by simp; omega) _
        have hz6 : O < W6.heap.size := cell_in q0
        rw [← hW6]
        clear hW6 b24 k4 k3 g0 g2 hz4 hw4 l5 n5 l6 n6 l7 n7 HIN
        go_loopw [10] (fun i wr => ∃ (k : Nat) (v : Value), k ≤ P.length ∧ i = .int .i64 k ∧ wr.cell? ⟨O, 0, none⟩ = some (.slice o1 S.length m1) ∧ wr.cell? ⟨O, 1, none⟩ = some v ∧ wr.cell? ⟨O, 2, none⟩ = some (.slice o3 A.length m3) ∧ wr.frozen? ⟨O, 1, none⟩ = false ∧ Hid (wr.ownsRow (O + 1) 33 5 v ((P.map (bnd n m)).take k).length (((P.map (bnd n m)).take k).flatMap prC)) ∧ Below O W6 wr) (fun i _ => P.length - (intOf i).toNat)
        case atStart => exact ⟨0, _, by omega, rfl, q0, q1, q2, g1, hide (World.ownsRow_nil _ _ _ _), Below.refl _ _⟩
        case round =>
          clear q0 q1 q2 g1
          obtain ⟨k, v, hk, rfl, t0, t1, t2, tz, HO, hbr⟩ := hrel
          have cc : wr.cell? ⟨w.heap.size, 1, none⟩ = some (.slice p1 P.length p2) := (hbr.cell (p := ⟨w.heap.size, 1, none⟩) (show w.heap.size < O by omega)).trans c1
          have xn : wr.cell? ⟨w.heap.size + 1, 18, none⟩ = some (.int .i64 n) := (hbr.cell (p := ⟨w.heap.size + 1, 18, none⟩) (show w.heap.size + 1 < O by omega)).trans x18
          have xm : wr.cell? ⟨w.heap.size + 1, 19, none⟩ = some (.int .i64 m) := (hbr.cell (p := ⟨w.heap.size + 1, 19, none⟩) (show w.heap.size + 1 < O by omega)).trans x19
          have xq : wr.cell? ⟨w.heap.size + 1, 0, none⟩ = some (.int .i64 6) := (hbr.cell (p := ⟨w.heap.size + 1, 0, none⟩) (show w.heap.size + 1 < O by omega)).trans xk
          have kr : Below w.heap.size w wr := k6.trans (hbr.mono (by omega))
          have hsz : O < wr.heap.size := cell_in t2
          by_cases hlt : k < P.length
          · obtain ⟨b, off, cap, e1, hcap, hb, y0, y1, y2, y3, y4⟩ := pr_at HC.out.2.1 hlt
            simp only [Value.slice.injEq, true_and] at e1
            obtain ⟨rfl, rfl⟩ := e1
            have q3 : (0 : Int) ≤ (k : Int) := by omega
            have q4 : (k : Int) < (P.length : Int) := by omega
            replace y0 := cell_beh y0 kr (Nat.le_refl _)
            replace y1 := cell_beh y1 kr (Nat.le_refl _)
            replace y2 := cell_beh y2 kr (Nat.le_refl _)
            replace y3 := cell_beh y3 kr (Nat.le_refl _)
            replace y4 := cell_beh y4 kr (Nat.le_refl _)
            have hwn : w.heap.size < wr.heap.size := by omega
            have hwm : w.heap.size + 1 < wr.heap.size := by omega
            have hn1 : ¬ w.heap.size = wr.heap.size := by omega
            have hn2 : ¬ w.heap.size + 1 = wr.heap.size := by omega
            have hn3 : ¬ O = wr.heap.size := by omega
            have hbw : b < wr.heap.size := cell_in y0
            have hn4 : ¬ b = wr.heap.size := by omega
            by_cases hn : (P.getD k pr0).i = n
            · have HN : Hid (((P.map (bnd n m)).take k).flatMap prC ++ [.int .i64 (P.getD k pr0).i, .int .i64 (P.getD k pr0).s, .int .i64 (P.getD k pr0).m, .int .i64 (P.getD k pr0).p, .int .i64 m] = ((P.map (bnd n m)).take (k + 1)).flatMap prC) := by
                show _ = _
                rw [map_step2 hlt, show bnd n m (P.getD k pr0) = ⟨(P.getD k pr0).i, (P.getD k pr0).s, (P.getD k pr0).m, (P.getD k pr0).p, m⟩ by unfold bnd; rw [if_pos (by simpa using hn)]]
                exact flat_snoc prC _ (⟨(P.getD k pr0).i, (P.getD k pr0).s, (P.getD k pr0).m, (P.getD k pr0).p, m⟩ : Pr)
              have HN2 : Hid (((P.map (bnd n m)).take k).length + 1 = ((P.map (bnd n m)).take (k + 1)).length) := by
                show _ = _
                rw [map_step2 hlt, show bnd n m (P.getD k pr0) = ⟨(P.getD k pr0).i, (P.getD k pr0).s, (P.getD k pr0).m, (P.getD k pr0).p, m⟩ by unfold bnd; rw [if_pos (by simpa using hn)]]
                simp
              have hL : ((P.map (bnd n m)).take k).length ≤ k := by simp; omega
              generalize ((P.map (bnd n m)).take k).length = L at *
              generalize (P.getD k pr0).i = v0 at *
              generalize (P.getD k pr0).s = v1 at *
              generalize (P.getD k pr0).m = v2 at *
              generalize (P.getD k pr0).p = v3 at *
              generalize (P.getD k pr0).c = v4 at *
              have hn9 := hn.symm
              clear hn
              subst hn9
              have hx1 : L + 1 ≤ maxLen := by unfold maxLen; omega
              go_wp2_with (at_builtin; refine wpList_append_own_at _ rfl _ _ 23 rfl (O + 1) 33 iP _ 5 40 Try.underlying23 hiP zP0 zP1 zP2 rfl (by decide) _ _ _ rfl ((HO.out.alloc _).alloc _) ⟨wr.heap.size + 1, 0, none⟩ 1 1 [.int .i64 n, .int .i64 v1, .int .i64 v2, .int .i64 v3, .int .i64 m] rfl rfl ?a2 (all_one rfl) ?a3 ?a4 ?a5 ?_)
              case a2 =>
                intro j u hj
                rw [add_fl, Nat.zero_add]
                exact new_cell _ _ (by simp) #[.int .i64 n, .int .i64 v1, .int .i64 v2, .int .i64 v3, .int .i64 m] _ j u (by simpa using hj)
              case a3 => exact hx1
              case a4 => omega
              case a5 => simp; omega
              intro vv wq ho1 hg1 _ hat
              have hnO : some O ≠ v.ownBlock := fun e => by have := own_ge HO.out _ e.symm; omega
              have hbq : Below O W6 wq := ((hbr.alloc (by omega) _).alloc (by simp; omega) _).grown hg1 (by simp; omega) (fun g hg => by have := own_ge HO.out g hg; omega)
              replace t0 : wq.cell? ⟨O, 0, none⟩ = some (.slice o1 S.length m1) := hg1.cell (old_cell (old_cell t0 _) _) hnO
              replace t1 : wq.cell? ⟨O, 1, none⟩ = some (v) := hg1.cell (old_cell (old_cell t1 _) _) hnO
              replace t2 : wq.cell? ⟨O, 2, none⟩ = some (.slice o3 A.length m3) := hg1.cell (old_cell (old_cell t2 _) _) hnO
              replace tz : wq.frozen? ⟨O, 1, none⟩ = false := gfrozen hg1 (by simp; omega) (old_frozen (by simp; omega) (old_frozen hsz tz _) _) hnO
              have hoq := hide (ownsRow_setCell_below ho1 (a := ⟨O, 1, none⟩) (show O < O + 1 by omega) vv)
              have HE : Hid ((wq.setCell ⟨O, 1, none⟩ vv).ownsRow (O + 1) 33 5 vv ((P.map (bnd n m)).take (k + 1)).length (((P.map (bnd n m)).take (k + 1)).flatMap prC)) := by
                show World.ownsRow _ _ _ _ _ _ _
                rw [← HN.out, ← HN2.out]; exact hoq.out
              have s0 := (World.cell?_setCell_other wq ⟨O, 1, none⟩ ⟨O, 0, none⟩ vv (by simp)).trans t0
              have s1 := World.cell?_setCell_same wq _ vv t1
              have s2 := (World.cell?_setCell_other wq ⟨O, 1, none⟩ ⟨O, 2, none⟩ vv (by simp)).trans t2
              have s3 : (wq.setCell ⟨O, 1, none⟩ vv).frozen? ⟨O, 1, none⟩ = false := by rw [World.frozen?_setCell]; exact tz
              have hb5 : Below O W6 (wq.setCell ⟨O, 1, none⟩ vv) := hbq.setCell (Nat.le_refl _) _
              obtain ⟨v8, v9, hv⟩ := own_slc ho1
              subst hv
              clear HN HN2 ho1 hg1 hat hoq HO hbr hbq t0 t2 cc xn xm xq y0 y1 y2 y3 y4
              go_wp2_with fail
              go_roundw
              case rel => exact ⟨k + 1, _, by omega, by go_num, s0, s1, s2, s3, HE, hb5⟩
              case measure => simp [intOf]; omega
            · have HN : Hid (((P.map (bnd n m)).take k).flatMap prC ++ [.int .i64 (P.getD k pr0).i, .int .i64 (P.getD k pr0).s, .int .i64 (P.getD k pr0).m, .int .i64 (P.getD k pr0).p, .int .i64 (P.getD k pr0).c] = ((P.map (bnd n m)).take (k + 1)).flatMap prC) := by
                show _ = _
                rw [map_step2 hlt, show bnd n m (P.getD k pr0) = P.getD k pr0 by unfold bnd; rw [if_neg (by simpa using hn)]]
                exact flat_snoc prC _ _
              have HN2 : Hid (((P.map (bnd n m)).take k).length + 1 = ((P.map (bnd n m)).take (k + 1)).length) := by
                show _ = _
                rw [map_step2 hlt, show bnd n m (P.getD k pr0) = P.getD k pr0 by unfold bnd; rw [if_neg (by simpa using hn)]]
                simp
              have hL : ((P.map (bnd n m)).take k).length ≤ k := by simp; omega
              generalize ((P.map (bnd n m)).take k).length = L at *
              generalize (P.getD k pr0).i = v0 at *
              generalize (P.getD k pr0).s = v1 at *
              generalize (P.getD k pr0).m = v2 at *
              generalize (P.getD k pr0).p = v3 at *
              generalize (P.getD k pr0).c = v4 at *
              have hx1 : L + 1 ≤ maxLen := by unfold maxLen; omega
              go_wp2_with (at_builtin; refine wpList_append_own_at _ rfl _ _ 23 rfl (O + 1) 33 iP _ 5 40 Try.underlying23 hiP zP0 zP1 zP2 rfl (by decide) _ _ _ rfl ((HO.out.alloc _).alloc _) ⟨wr.heap.size + 1, 0, none⟩ 1 1 [.int .i64 v0, .int .i64 v1, .int .i64 v2, .int .i64 v3, .int .i64 v4] rfl rfl ?a2 (all_one rfl) ?a3 ?a4 ?a5 ?_)
              case a2 =>
                intro j u hj
                rw [add_fl, Nat.zero_add]
                exact new_cell _ _ (by simp) #[.int .i64 v0, .int .i64 v1, .int .i64 v2, .int .i64 v3, .int .i64 v4] _ j u (by simpa using hj)
              case a3 => exact hx1
              case a4 => omega
              case a5 => simp; omega
              intro vv wq ho1 hg1 _ hat
              have hnO : some O ≠ v.ownBlock := fun e => by have := own_ge HO.out _ e.symm; omega
              have hbq : Below O W6 wq := ((hbr.alloc (by omega) _).alloc (by simp; omega) _).grown hg1 (by simp; omega) (fun g hg => by have := own_ge HO.out g hg; omega)
              replace t0 : wq.cell? ⟨O, 0, none⟩ = some (.slice o1 S.length m1) := hg1.cell (old_cell (old_cell t0 _) _) hnO
              replace t1 : wq.cell? ⟨O, 1, none⟩ = some (v) := hg1.cell (old_cell (old_cell t1 _) _) hnO
              replace t2 : wq.cell? ⟨O, 2, none⟩ = some (.slice o3 A.length m3) := hg1.cell (old_cell (old_cell t2 _) _) hnO
              replace tz : wq.frozen? ⟨O, 1, none⟩ = false := gfrozen hg1 (by simp; omega) (old_frozen (by simp; omega) (old_frozen hsz tz _) _) hnO
              have hoq := hide (ownsRow_setCell_below ho1 (a := ⟨O, 1, none⟩) (show O < O + 1 by omega) vv)
              have HE : Hid ((wq.setCell ⟨O, 1, none⟩ vv).ownsRow (O + 1) 33 5 vv ((P.map (bnd n m)).take (k + 1)).length (((P.map (bnd n m)).take (k + 1)).flatMap prC)) := by
                show World.ownsRow _ _ _ _ _ _ _
                rw [← HN.out, ← HN2.out]; exact hoq.out
              have s0 := (World.cell?_setCell_other wq ⟨O, 1, none⟩ ⟨O, 0, none⟩ vv (by simp)).trans t0
              have s1 := World.cell?_setCell_same wq _ vv t1
              have s2 := (World.cell?_setCell_other wq ⟨O, 1, none⟩ ⟨O, 2, none⟩ vv (by simp)).trans t2
              have s3 : (wq.setCell ⟨O, 1, none⟩ vv).frozen? ⟨O, 1, none⟩ = false := by rw [World.frozen?_setCell]; exact tz
              have hb5 : Below O W6 (wq.setCell ⟨O, 1, none⟩ vv) := hbq.setCell (Nat.le_refl _) _
              obtain ⟨v8, v9, hv⟩ := own_slc ho1
              subst hv
              clear HN HN2 ho1 hg1 hat hoq HO hbr hbq t0 t2 cc xn xm xq y0 y1 y2 y3 y4
              go_wp2_with fail
              go_roundw
              case rel => exact ⟨k + 1, _, by omega, by go_num, s0, s1, s2, s3, HE, hb5⟩
              case measure => simp [intOf]; omega
          · obtain rfl : k = P.length := by omega
            rw [show (P.map (bnd n m)).take P.length = P.map (bnd n m) from List.take_of_length_le (by simp)] at HO
            replace r0 := (hbr.cell (p := ⟨w.heap.size + 1 + 1, 0, none⟩) (show w.heap.size + 1 + 1 < O by omega)).trans r0
            replace z0 := (hbr.frozen (p := ⟨w.heap.size + 1 + 1, 0, none⟩) (show w.heap.size + 1 + 1 < O by omega)).trans z0
            replace r1 := (hbr.cell (p := ⟨w.heap.size + 1 + 1, 1, none⟩) (show w.heap.size + 1 + 1 < O by omega)).trans r1
            replace z1 := (hbr.frozen (p := ⟨w.heap.size + 1 + 1, 1, none⟩) (show w.heap.size + 1 + 1 < O by omega)).trans z1
            replace r2 := (hbr.cell (p := ⟨w.heap.size + 1 + 1, 2, none⟩) (show w.heap.size + 1 + 1 < O by omega)).trans r2
            replace z2 := (hbr.frozen (p := ⟨w.heap.size + 1 + 1, 2, none⟩) (show w.heap.size + 1 + 1 < O by omega)).trans z2
            have HC5 : Hid (CfAt wr (.slice o1 S.length m1) v (.slice o3 A.length m3) S (P.map (bnd n m)) A) := ⟨(HCW.out wr (b26.trans hbr)).1, RowAt.of_own prC_len (by omega) HO.out, (HCW.out wr (b26.trans hbr)).2.2⟩
            obtain ⟨vo, vm, rfl⟩ := own_slc HO.out
            have HB5 := hide kr
            clear HO hbr kr HCW b26
            generalize (P.map (bnd n m)).length = L at *
            clear HC5
            go_wp2_with fail
            obtain ⟨u0, u1, u2⟩ := set3 r0 r1 r2 (.slice none 0 0) (.slice none 0 0) (.slice none 0 0)
            have HBE := hide (((HB5.out.setCell (p := ⟨w.heap.size + 1 + 1, 0, none⟩) (by show w.heap.size ≤ w.heap.size + 1 + 1; omega) (.slice none 0 0)).setCell (p := ⟨w.heap.size + 1 + 1, 1, none⟩) (by show w.heap.size ≤ w.heap.size + 1 + 1; omega) (.slice none 0 0)).setCell (p := ⟨w.heap.size + 1 + 1, 2, none⟩) (by show w.heap.size ≤ w.heap.size + 1 + 1; omega) (.slice none 0 0))
            have HCF := hide (⟨RowAt.nil _ _ _, RowAt.nil _ _ _, RowAt.nil _ _ _⟩ : CfAt (((wr.setCell ⟨w.heap.size + 1 + 1, 0, none⟩ (.slice none 0 0)).setCell ⟨w.heap.size + 1 + 1, 1, none⟩ (.slice none 0 0)).setCell ⟨w.heap.size + 1 + 1, 2, none⟩ (.slice none 0 0)) (.slice none 0 0) (.slice none 0 0) (.slice none 0 0) [] [] [])
            refine bodyPost_ret (v := .tuple #[.agg #[.slice none 0 0, .slice none 0 0, .slice none 0 0], .int .i64 6]) ?_ rfl ⟨_, _, _, rfl, HCF.out, HBE.out⟩
            clear HCF HBE r0 r1 r2
            generalize (((wr.setCell ⟨w.heap.size + 1 + 1, 0, none⟩ (.slice none 0 0)).setCell ⟨w.heap.size + 1 + 1, 1, none⟩ (.slice none 0 0)).setCell ⟨w.heap.size + 1 + 1, 2, none⟩ (.slice none 0 0)) = W at *
            simp [results, Try.results12, go_sem, u0, u1, u2]
      · cases MB
        · obtain ⟨hq0, rfl, rfl, rfl⟩ := HF1.out (by simp)
          replace hq0 : EE = 2 := hq0
          subst hq0
          clear HF1 HF2 HLK
          go_wp2_with (go_at_call 31; refine (unhide HIN _).mono ?_; rintro e w9 ⟨rfl, rfl⟩)
          obtain ⟨W6, hW6⟩ : ∃ W6, W6 = (w4.setCell ⟨O, 1, none⟩ (.slice none 0 0)).alloc (.cells #[.int .i64 x0, .int .i64 x1, .int .i64 x2, .int .i64 x3, .int .i64 x4] 33) := ⟨_, rfl⟩
          have k6 : Below w.heap.size w W6 := by rw [hW6]; exact (k4.setCell (p := ⟨O, 1, none⟩) (by show w.heap.size ≤ O; omega) (.slice none 0 0)).alloc (by have := k4.size; simpa using this) _
          replace xk : W6.cell? ⟨w.heap.size + 1, 0, none⟩ = some (.int .i64 6) := by rw [hW6]; exact old_cell ((World.cell?_setCell_other _ _ _ _ (by simp <;> omega)).trans xk) _
          replace x18 : W6.cell? ⟨w.heap.size + 1, 18, none⟩ = some (.int .i64 n) := by rw [hW6]; exact old_cell ((World.cell?_setCell_other _ _ _ _ (by simp <;> omega)).trans x18) _
          replace x19 : W6.cell? ⟨w.heap.size + 1, 19, none⟩ = some (.int .i64 m) := by rw [hW6]; exact old_cell ((World.cell?_setCell_other _ _ _ _ (by simp <;> omega)).trans x19) _
          replace c1 : W6.cell? ⟨w.heap.size, 1, none⟩ = some (.slice p1 P.length p2) := by rw [hW6]; exact old_cell ((World.cell?_setCell_other _ _ _ _ (by simp <;> omega)).trans c1) _
          replace q0 : W6.cell? ⟨O, 0, none⟩ = some (.slice o1 S.length m1) := by rw [hW6]; exact old_cell ((World.cell?_setCell_other _ _ _ _ (by simp <;> omega)).trans q0) _
          replace q2 : W6.cell? ⟨O, 2, none⟩ = some (.slice o3 A.length m3) := by rw [hW6]; exact old_cell ((World.cell?_setCell_other _ _ _ _ (by simp <;> omega)).trans q2) _
          replace q1 : W6.cell? ⟨O, 1, none⟩ = some (.slice none 0 0) := by rw [hW6]; exact old_cell (World.cell?_setCell_same _ _ _ q1) _
          replace g1 : W6.frozen? ⟨O, 1, none⟩ = false := by rw [hW6]; exact old_frozen (by simpa using l5) (by rw [World.frozen?_setCell]; exact g1) _
          replace r0 : W6.cell? ⟨w.heap.size + 1 + 1, 0, none⟩ = some (.slice none 0 0) := by rw [hW6]; exact old_cell ((World.cell?_setCell_other _ _ _ _ (by simp <;> omega)).trans r0) _
          replace z0 : W6.frozen? ⟨w.heap.size + 1 + 1, 0, none⟩ = false := by rw [hW6]; exact old_frozen (by have := cell_in q0; simp; omega) (by rw [World.frozen?_setCell]; exact z0) _
          replace r1 : W6.cell? ⟨w.heap.size + 1 + 1, 1, none⟩ = some (.slice none 0 0) := by rw [hW6]; exact old_cell ((World.cell?_setCell_other _ _ _ _ (by simp <;> omega)).trans r1) _
          replace z1 : W6.frozen? ⟨w.heap.size + 1 + 1, 1, none⟩ = false := by rw [hW6]; exact old_frozen (by have := cell_in q0; simp; omega) (by rw [World.frozen?_setCell]; exact z1) _
          replace r2 : W6.cell? ⟨w.heap.size + 1 + 1, 2, none⟩ = some (.slice none 0 0) := by rw [hW6]; exact old_cell ((World.cell?_setCell_other _ _ _ _ (by simp <;> omega)).trans r2) _
          replace z2 : W6.frozen? ⟨w.heap.size + 1 + 1, 2, none⟩ = false := by rw [hW6]; exact old_frozen (by have := cell_in q0; simp; omega) (by rw [World.frozen?_setCell]; exact z2) _
          have b26 : Below O w2 W6 := by rw [hW6]; exact (b24.setCell (p := ⟨O, 1, none⟩) (Nat.le_refl _) (.slice none 0 0)).alloc (by simp; omega) _
          have hz6 : O < W6.heap.size := cell_in q0
          rw [← hW6]
          clear hW6 b24 k4 k3 g0 g2 hz4 hw4 l5 n5 l6 n6 l7 n7 HIN
          go_loopw [10] (fun i wr => ∃ (k : Nat) (v : Value), k ≤ P.length ∧ i = .int .i64 k ∧ wr.cell? ⟨O, 0, none⟩ = some (.slice o1 S.length m1) ∧ wr.cell? ⟨O, 1, none⟩ = some v ∧ wr.cell? ⟨O, 2, none⟩ = some (.slice o3 A.length m3) ∧ wr.frozen? ⟨O, 1, none⟩ = false ∧ Hid (wr.ownsRow (O + 1) 33 5 v ((P.map (bnd n m)).take k).length (((P.map (bnd n m)).take k).flatMap prC)) ∧ Below O W6 wr) (fun i _ => P.length - (intOf i).toNat)
          case atStart => exact ⟨0, _, by omega, rfl, q0, q1, q2, g1, hide (World.ownsRow_nil _ _ _ _), Below.refl _ _⟩
          case round =>
            clear q0 q1 q2 g1
            obtain ⟨k, v, hk, rfl, t0, t1, t2, tz, HO, hbr⟩ := hrel
            have cc : wr.cell? ⟨w.heap.size, 1, none⟩ = some (.slice p1 P.length p2) := (hbr.cell (p := ⟨w.heap.size, 1, none⟩) (show w.heap.size < O by omega)).trans c1
            have xn : wr.cell? ⟨w.heap.size + 1, 18, none⟩ = some (.int .i64 n) := (hbr.cell (p := ⟨w.heap.size + 1, 18, none⟩) (show w.heap.size + 1 < O by omega)).trans x18
            have xm : wr.cell? ⟨w.heap.size + 1, 19, none⟩ = some (.int .i64 m) := (hbr.cell (p := ⟨w.heap.size + 1, 19, none⟩) (show w.heap.size + 1 < O by omega)).trans x19
            have xq : wr.cell? ⟨w.heap.size + 1, 0, none⟩ = some (.int .i64 6) := (hbr.cell (p := ⟨w.heap.size + 1, 0, none⟩) (show w.heap.size + 1 < O by omega)).trans xk
            have kr : Below w.heap.size w wr := k6.trans (hbr.mono (by omega))
            have hsz : O < wr.heap.size := cell_in t2
            by_cases hlt : k < P.length
            · obtain ⟨b, off, cap, e1, hcap, hb, y0, y1, y2, y3, y4⟩ := pr_at HC.out.2.1 hlt
              simp only [Value.slice.injEq, true_and] at e1
              obtain ⟨rfl, rfl⟩ := e1
              have q3 : (0 : Int) ≤ (k : Int) := by omega
              have q4 : (k : Int) < (P.length : Int) := by omega
              replace y0 := cell_beh y0 kr (Nat.le_refl _)
              replace y1 := cell_beh y1 kr (Nat.le_refl _)
              replace y2 := cell_beh y2 kr (Nat.le_refl _)
              replace y3 := cell_beh y3 kr (Nat.le_refl _)
              replace y4 := cell_beh y4 kr (Nat.le_refl _)
              have hwn : w.heap.size < wr.heap.size := by omega
              have hwm : w.heap.size + 1 < wr.heap.size := by omega
              have hn1 : ¬ w.heap.size = wr.heap.size := by omega
              have hn2 : ¬ w.heap.size + 1 = wr.heap.size := by omega
              have hn3 : ¬ O = wr.heap.size := by omega
              have hbw : b < wr.heap.size := cell_in y0
              have hn4 : ¬ b = wr.heap.size := by omega
              by_cases hn : (P.getD k pr0).i = n
              · have HN : Hid (((P.map (bnd n m)).take k).flatMap prC ++ [.int .i64 (P.getD k pr0).i, .int .i64 (P.getD k pr0).s, .int .i64 (P.getD k pr0).m, .int .i64 (P.getD k pr0).p, .int .i64 m] = ((P.map (bnd n m)).take (k + 1)).flatMap prC) := by
                  show _ = _
                  rw [map_step2 hlt, show bnd n m (P.getD k pr0) = ⟨(P.getD k pr0).i, (P.getD k pr0).s, (P.getD k pr0).m, (P.getD k pr0).p, m⟩ by unfold bnd; rw [if_pos (by simpa using hn)]]
                  exact flat_snoc prC _ (⟨(P.getD k pr0).i, (P.getD k pr0).s, (P.getD k pr0).m, (P.getD k pr0).p, m⟩ : Pr)
                have HN2 : Hid (((P.map (bnd n m)).take k).length + 1 = ((P.map (bnd n m)).take (k + 1)).length) := by
                  show _ = _
                  rw [map_step2 hlt, show bnd n m (P.getD k pr0) = ⟨(P.getD k pr0).i, (P.getD k pr0).s, (P.getD k pr0).m, (P.getD k pr0).p, m⟩ by unfold bnd; rw [if_pos (by simpa using hn)]]
                  simp
                have hL : ((P.map (bnd n m)).take k).length ≤ k := by simp; omega
                generalize ((P.map (bnd n m)).take k).length = L at *
                generalize (P.getD k pr0).i = v0 at *
                generalize (P.getD k pr0).s = v1 at *
                generalize (P.getD k pr0).m = v2 at *
                generalize (P.getD k pr0).p = v3 at *
                generalize (P.getD k pr0).c = v4 at *
                have hn9 := hn.symm
                clear hn
                subst hn9
                have hx1 : L + 1 ≤ maxLen := by unfold maxLen; omega
                go_wp2_with (at_builtin; refine wpList_append_own_at _ rfl _ _ 23 rfl (O + 1) 33 iP _ 5 40 Try.underlying23 hiP zP0 zP1 zP2 rfl (by decide) _ _ _ rfl ((HO.out.alloc _).alloc _) ⟨wr.heap.size + 1, 0, none⟩ 1 1 [.int .i64 n, .int .i64 v1, .int .i64 v2, .int .i64 v3, .int .i64 m] rfl rfl ?a2 (all_one rfl) ?a3 ?a4 ?a5 ?_)
                case a2 =>
                  intro j u hj
                  rw [add_fl, Nat.zero_add]
                  exact new_cell _ _ (by simp) #[.int .i64 n, .int .i64 v1, .int .i64 v2, .int .i64 v3, .int .i64 m] _ j u (by simpa using hj)
                case a3 => exact hx1
                case a4 => omega
                case a5 => simp; omega
                intro vv wq ho1 hg1 _ hat
                have hnO : some O ≠ v.ownBlock := fun e => by have := own_ge HO.out _ e.symm; omega
                have hbq : Below O W6 wq := ((hbr.alloc (by omega) _).alloc (by simp; omega) _).grown hg1 (by simp; omega) (fun g hg => by have := own_ge HO.out g hg; omega)
                replace t0 : wq.cell? ⟨O, 0, none⟩ = some (.slice o1 S.length m1) := hg1.cell (old_cell (old_cell t0 _) _) hnO
                replace t1 : wq.cell? ⟨O, 1, none⟩ = some (v) := hg1.cell (old_cell (old_cell t1 _) _) hnO
                replace t2 : wq.cell? ⟨O, 2, none⟩ = some (.slice o3 A.length m3) := hg1.cell (old_cell (old_cell t2 _) _) hnO
                replace tz : wq.frozen? ⟨O, 1, none⟩ = false := gfrozen hg1 (by simp; omega) (old_frozen (by simp; omega) (old_frozen hsz tz _) _) hnO
                have hoq := hide (ownsRow_setCell_below ho1 (a := ⟨O, 1, none⟩) (show O < O + 1 by omega) vv)
                have HE : Hid ((wq.setCell ⟨O, 1, none⟩ vv).ownsRow (O + 1) 33 5 vv ((P.map (bnd n m)).take (k + 1)).length (((P.map (bnd n m)).take (k + 1)).flatMap prC)) := by
                  show World.ownsRow _ _ _ _ _ _ _
                  rw [← HN.out, ← HN2.out]; exact hoq.out
                have s0 := (World.cell?_setCell_other wq ⟨O, 1, none⟩ ⟨O, 0, none⟩ vv (by simp)).trans t0
                have s1 := World.cell?_setCell_same wq _ vv t1
                have s2 := (World.cell?_setCell_other wq ⟨O, 1, none⟩ ⟨O, 2, none⟩ vv (by simp)).trans t2
                have s3 : (wq.setCell ⟨O, 1, none⟩ vv).frozen? ⟨O, 1, none⟩ = false := by rw [World.frozen?_setCell]; exact tz
                have hb5 : Below O W6 (wq.setCell ⟨O, 1, none⟩ vv) := hbq.setCell (Nat.le_refl _) _
                obtain ⟨v8, v9, hv⟩ := own_slc ho1
                subst hv
                clear HN HN2 ho1 hg1 hat hoq HO hbr hbq t0 t2 cc xn xm xq y0 y1 y2 y3 y4
                go_wp2_with fail
                go_roundw
                case rel => exact ⟨k + 1, _, by omega, by go_num, s0, s1, s2, s3, HE, hb5⟩
                case measure => simp [intOf]; omega
              · have HN : Hid (((P.map (bnd n m)).take k).flatMap prC ++ [.int .i64 (P.getD k pr0).i, .int .i64 (P.getD k pr0).s, .int .i64 (P.getD k pr0).m, .int .i64 (P.getD k pr0).p, .int .i64 (P.getD k pr0).c] = ((P.map (bnd n m)).take (k + 1)).flatMap prC) := by
                  show _ = _
                  rw [map_step2 hlt, show bnd n m (P.getD k pr0) = P.getD k pr0 by unfold bnd; rw [if_neg (by simpa using hn)]]
                  exact flat_snoc prC _ _
                have HN2 : Hid (((P.map (bnd n m)).take k).length + 1 = ((P.map (bnd n m)).take (k + 1)).length) := by
                  show _ = _
                  rw [map_step2 hlt, show bnd n m (P.getD k pr0) = P.getD k pr0 by unfold bnd; rw [if_neg (by simpa using hn)]]
                  simp
                have hL : ((P.map (bnd n m)).take k).length ≤ k := by simp; omega
                generalize ((P.map (bnd n m)).take k).length = L at *
                generalize (P.getD k pr0).i = v0 at *
                generalize (P.getD k pr0).s = v1 at *
                generalize (P.getD k pr0).m = v2 at *
                generalize (P.getD k pr0).p = v3 at *
                generalize (P.getD k pr0).c = v4 at *
                have hx1 : L + 1 ≤ maxLen := by unfold maxLen; omega
                go_wp2_with (at_builtin; refine wpList_append_own_at _ rfl _ _ 23 rfl (O + 1) 33 iP _ 5 40 Try.underlying23 hiP zP0 zP1 zP2 rfl (by decide) _ _ _ rfl ((HO.out.alloc _).alloc _) ⟨wr.heap.size + 1, 0, none⟩ 1 1 [.int .i64 v0, .int .i64 v1, .int .i64 v2, .int .i64 v3, .int .i64 v4] rfl rfl ?a2 (all_one rfl) ?a3 ?a4 ?a5 ?_)
                case a2 =>
                  intro j u hj
                  rw [add_fl, Nat.zero_add]
                  exact new_cell _ _ (by simp) #[.int .i64 v0, .int .i64 v1, .int .i64 v2, .int .i64 v3, .int .i64 v4] _ j u (by simpa using hj)
                case a3 => exact hx1
                case a4 => omega
                case a5 => simp; omega
                intro vv wq ho1 hg1 _ hat
                have hnO : some O ≠ v.ownBlock := fun e => by have := own_ge HO.out _ e.symm; omega
                have hbq : Below O W6 wq := ((hbr.alloc (by omega) _).alloc (by simp; omega) _).grown hg1 (by simp; omega) (fun g hg => by have := own_ge HO.out g hg; omega)
                replace t0 : wq.cell? ⟨O, 0, none⟩ = some (.slice o1 S.length m1) := hg1.cell (old_cell (old_cell t0 _) _) hnO
                replace t1 : wq.cell? ⟨O, 1, none⟩ = some (v) := hg1.cell (old_cell (old_cell t1 _) _) hnO
                replace t2 : wq.cell? ⟨O, 2, none⟩ = some (.slice o3 A.length m3) := hg1.cell (old_cell (old_cell t2 _) _) hnO
                replace tz : wq.frozen? ⟨O, 1, none⟩ = false := gfrozen hg1 (by simp; omega) (old_frozen (by simp; omega) (old_frozen hsz tz _) _) hnO
                have hoq := hide (ownsRow_setCell_below ho1 (a := ⟨O, 1, none⟩) (show O < O + 1 by omega) vv)
                have HE : Hid ((wq.setCell ⟨O, 1, none⟩ vv).ownsRow (O + 1) 33 5 vv ((P.map (bnd n m)).take (k + 1)).length (((P.map (bnd n m)).take (k + 1)).flatMap prC)) := by
                  show World.ownsRow _ _ _ _ _ _ _
                  rw [← HN.out, ← HN2.out]; exact hoq.out
                have s0 := (World.cell?_setCell_other wq ⟨O, 1, none⟩ ⟨O, 0, none⟩ vv (by simp)).trans t0
                have s1 := World.cell?_setCell_same wq _ vv t1
                have s2 := (World.cell?_setCell_other wq ⟨O, 1, none⟩ ⟨O, 2, none⟩ vv (by simp)).trans t2
                have s3 : (wq.setCell ⟨O, 1, none⟩ vv).frozen? ⟨O, 1, none⟩ = false := by rw [World.frozen?_setCell]; exact tz
                have hb5 : Below O W6 (wq.setCell ⟨O, 1, none⟩ vv) := hbq.setCell (Nat.le_refl _) _
                obtain ⟨v8, v9, hv⟩ := own_slc ho1
                subst hv
                clear HN HN2 ho1 hg1 hat hoq HO hbr hbq t0 t2 cc xn xm xq y0 y1 y2 y3 y4
                go_wp2_with fail
                go_roundw
                case rel => exact ⟨k + 1, _, by omega, by go_num, s0, s1, s2, s3, HE, hb5⟩
                case measure => simp [intOf]; omega
            · obtain rfl : k = P.length := by omega
              rw [show (P.map (bnd n m)).take P.length = P.map (bnd n m) from List.take_of_length_le (by simp)] at HO
              replace r0 := (hbr.cell (p := ⟨w.heap.size + 1 + 1, 0, none⟩) (show w.heap.size + 1 + 1 < O by omega)).trans r0
              replace z0 := (hbr.frozen (p := ⟨w.heap.size + 1 + 1, 0, none⟩) (show w.heap.size + 1 + 1 < O by omega)).trans z0
              replace r1 := (hbr.cell (p := ⟨w.heap.size + 1 + 1, 1, none⟩) (show w.heap.size + 1 + 1 < O by omega)).trans r1
              replace z1 := (hbr.frozen (p := ⟨w.heap.size + 1 + 1, 1, none⟩) (show w.heap.size + 1 + 1 < O by omega)).trans z1
              replace r2 := (hbr.cell (p := ⟨w.heap.size + 1 + 1, 2, none⟩) (show w.heap.size + 1 + 1 < O by omega)).trans r2
              replace z2 := (hbr.frozen (p := ⟨w.heap.size + 1 + 1, 2, none⟩) (show w.heap.size + 1 + 1 < O by omega)).trans z2
              have HC5 : Hid (CfAt wr (.slice o1 S.length m1) v (.slice o3 A.length m3) S (P.map (bnd n m)) A) := ⟨(HCW.out wr (b26.trans hbr)).1, RowAt.of_own prC_len (by omega) HO.out, (HCW.out wr (b26.trans hbr)).2.2⟩
              obtain ⟨vo, vm, rfl⟩ := own_slc HO.out
              have HB5 := hide kr
              clear HO hbr kr HCW b26
              generalize (P.map (bnd n m)).length = L at *
              clear HC5
              go_wp2_with fail
              obtain ⟨u0, u1, u2⟩ := set3 r0 r1 r2 (.slice none 0 0) (.slice none 0 0) (.slice none 0 0)
              have HBE := hide (((HB5.out.setCell (p := ⟨w.heap.size + 1 + 1, 0, none⟩) (by show w.heap.size ≤ w.heap.size + 1 + 1; omega) (.slice none 0 0)).setCell (p := ⟨w.heap.size + 1 + 1, 1, none⟩) (by show w.heap.size ≤ w.heap.size + 1 + 1; omega) (.slice none 0 0)).setCell (p := ⟨w.heap.size + 1 + 1, 2, none⟩) (by show w.heap.size ≤ w.heap.size + 1 + 1; omega) (.slice none 0 0))
              have HCF := hide (⟨RowAt.nil _ _ _, RowAt.nil _ _ _, RowAt.nil _ _ _⟩ : CfAt (((wr.setCell ⟨w.heap.size + 1 + 1, 0, none⟩ (.slice none 0 0)).setCell ⟨w.heap.size + 1 + 1, 1, none⟩ (.slice none 0 0)).setCell ⟨w.heap.size + 1 + 1, 2, none⟩ (.slice none 0 0)) (.slice none 0 0) (.slice none 0 0) (.slice none 0 0) [] [] [])
              refine bodyPost_ret (v := .tuple #[.agg #[.slice none 0 0, .slice none 0 0, .slice none 0 0], .int .i64 2]) ?_ rfl ⟨_, _, _, rfl, HCF.out, HBE.out⟩
              clear HCF HBE r0 r1 r2
              generalize (((wr.setCell ⟨w.heap.size + 1 + 1, 0, none⟩ (.slice none 0 0)).setCell ⟨w.heap.size + 1 + 1, 1, none⟩ (.slice none 0 0)).setCell ⟨w.heap.size + 1 + 1, 2, none⟩ (.slice none 0 0)) = W at *
              simp [results, Try.results12, go_sem, u0, u1, u2]
        · obtain ⟨rfl, hq⟩ := HF2.out rfl
          have HQQ := hide hq
          have HLL := hide (HLK.out rfl)
          clear HF1 HF2 hq HLK
          go_wp2_with (go_at_call 31; refine (unhide HIN _).mono ?_; rintro e w9 ⟨rfl, rfl⟩)
          obtain ⟨W6, hW6⟩ : ∃ W6, W6 = (w4.setCell ⟨O, 1, none⟩ (.slice none 0 0)).alloc (.cells #[.int .i64 x0, .int .i64 x1, .int .i64 x2, .int .i64 x3, .int .i64 x4] 33) := ⟨_, rfl⟩
          have k6 : Below w.heap.size w W6 := by rw [hW6]; exact (k4.setCell (p := ⟨O, 1, none⟩) (by show w.heap.size ≤ O; omega) (.slice none 0 0)).alloc (by have := k4.size; simpa using this) _
          replace xk : W6.cell? ⟨w.heap.size + 1, 0, none⟩ = some (.int .i64 6) := by rw [hW6]; exact old_cell ((World.cell?_setCell_other _ _ _ _ (by simp <;> omega)).trans xk) _
          replace x18 : W6.cell? ⟨w.heap.size + 1, 18, none⟩ = some (.int .i64 n) := by rw [hW6]; exact old_cell ((World.cell?_setCell_other _ _ _ _ (by simp <;> omega)).trans x18) _
          replace x19 : W6.cell? ⟨w.heap.size + 1, 19, none⟩ = some (.int .i64 m) := by rw [hW6]; exact old_cell ((World.cell?_setCell_other _ _ _ _ (by simp <;> omega)).trans x19) _
          replace c1 : W6.cell? ⟨w.heap.size, 1, none⟩ = some (.slice p1 P.length p2) := by rw [hW6]; exact old_cell ((World.cell?_setCell_other _ _ _ _ (by simp <;> omega)).trans c1) _
          replace q0 : W6.cell? ⟨O, 0, none⟩ = some (.slice o1 S.length m1) := by rw [hW6]; exact old_cell ((World.cell?_setCell_other _ _ _ _ (by simp <;> omega)).trans q0) _
          replace q2 : W6.cell? ⟨O, 2, none⟩ = some (.slice o3 A.length m3) := by rw [hW6]; exact old_cell ((World.cell?_setCell_other _ _ _ _ (by simp <;> omega)).trans q2) _
          replace q1 : W6.cell? ⟨O, 1, none⟩ = some (.slice none 0 0) := by rw [hW6]; exact old_cell (World.cell?_setCell_same _ _ _ q1) _
          replace g1 : W6.frozen? ⟨O, 1, none⟩ = false := by rw [hW6]; exact old_frozen (by simpa using l5) (by rw [World.frozen?_setCell]; exact g1) _
          replace r0 : W6.cell? ⟨w.heap.size + 1 + 1, 0, none⟩ = some (.slice none 0 0) := by rw [hW6]; exact old_cell ((World.cell?_setCell_other _ _ _ _ (by simp <;> omega)).trans r0) _
          replace z0 : W6.frozen? ⟨w.heap.size + 1 + 1, 0, none⟩ = false := by rw [hW6]; exact old_frozen (by have := cell_in q0; simp; omega) (by rw [World.frozen?_setCell]; exact z0) _
          replace r1 : W6.cell? ⟨w.heap.size + 1 + 1, 1, none⟩ = some (.slice none 0 0) := by rw [hW6]; exact old_cell ((World.cell?_setCell_other _ _ _ _ (by simp <;> omega)).trans r1) _
          replace z1 : W6.frozen? ⟨w.heap.size + 1 + 1, 1, none⟩ = false := by rw [hW6]; exact old_frozen (by have := cell_in q0; simp; omega) (by rw [World.frozen?_setCell]; exact z1) _
          replace r2 : W6.cell? ⟨w.heap.size + 1 + 1, 2, none⟩ = some (.slice none 0 0) := by rw [hW6]; exact old_cell ((World.cell?_setCell_other _ _ _ _ (by simp <;> omega)).trans r2) _
          replace z2 : W6.frozen? ⟨w.heap.size + 1 + 1, 2, none⟩ = false := by rw [hW6]; exact old_frozen (by have := cell_in q0; simp; omega) (by rw [World.frozen?_setCell]; exact z2) _
          have b26 : Below O w2 W6 := by rw [hW6]; exact (b24.setCell (p := ⟨O, 1, none⟩) (Nat.le_refl _) (.slice none 0 0)).alloc (by simp; omega) _
          have hz6 : O < W6.heap.size := cell_in q0
          rw [← hW6]
          clear hW6 b24 k4 k3 g0 g2 hz4 hw4 l5 n5 l6 n6 l7 n7 HIN
          go_loopw [10] (fun i wr => ∃ (k : Nat) (v : Value), k ≤ P.length ∧ i = .int .i64 k ∧ wr.cell? ⟨O, 0, none⟩ = some (.slice o1 S.length m1) ∧ wr.cell? ⟨O, 1, none⟩ = some v ∧ wr.cell? ⟨O, 2, none⟩ = some (.slice o3 A.length m3) ∧ wr.frozen? ⟨O, 1, none⟩ = false ∧ Hid (wr.ownsRow (O + 1) 33 5 v ((P.map (bnd n m)).take k).length (((P.map (bnd n m)).take k).flatMap prC)) ∧ Below O W6 wr) (fun i _ => P.length - (intOf i).toNat)
          case atStart => exact ⟨0, _, by omega, rfl, q0, q1, q2, g1, hide (World.ownsRow_nil _ _ _ _), Below.refl _ _⟩
          case round =>
            clear q0 q1 q2 g1
            obtain ⟨k, v, hk, rfl, t0, t1, t2, tz, HO, hbr⟩ := hrel
            have cc : wr.cell? ⟨w.heap.size, 1, none⟩ = some (.slice p1 P.length p2) := (hbr.cell (p := ⟨w.heap.size, 1, none⟩) (show w.heap.size < O by omega)).trans c1
            have xn : wr.cell? ⟨w.heap.size + 1, 18, none⟩ = some (.int .i64 n) := (hbr.cell (p := ⟨w.heap.size + 1, 18, none⟩) (show w.heap.size + 1 < O by omega)).trans x18
            have xm : wr.cell? ⟨w.heap.size + 1, 19, none⟩ = some (.int .i64 m) := (hbr.cell (p := ⟨w.heap.size + 1, 19, none⟩) (show w.heap.size + 1 < O by omega)).trans x19
            have xq : wr.cell? ⟨w.heap.size + 1, 0, none⟩ = some (.int .i64 6) := (hbr.cell (p := ⟨w.heap.size + 1, 0, none⟩) (show w.heap.size + 1 < O by omega)).trans xk
            have kr : Below w.heap.size w wr := k6.trans (hbr.mono (by omega))
            have hsz : O < wr.heap.size := cell_in t2
            by_cases hlt : k < P.length
            · obtain ⟨b, off, cap, e1, hcap, hb, y0, y1, y2, y3, y4⟩ := pr_at HC.out.2.1 hlt
              simp only [Value.slice.injEq, true_and] at e1
              obtain ⟨rfl, rfl⟩ := e1
              have q3 : (0 : Int) ≤ (k : Int) := by omega
              have q4 : (k : Int) < (P.length : Int) := by omega
              replace y0 := cell_beh y0 kr (Nat.le_refl _)
              replace y1 := cell_beh y1 kr (Nat.le_refl _)
              replace y2 := cell_beh y2 kr (Nat.le_refl _)
              replace y3 := cell_beh y3 kr (Nat.le_refl _)
              replace y4 := cell_beh y4 kr (Nat.le_refl _)
              have hwn : w.heap.size < wr.heap.size := by omega
              have hwm : w.heap.size + 1 < wr.heap.size := by omega
              have hn1 : ¬ w.heap.size = wr.heap.size := by omega
              have hn2 : ¬ w.heap.size + 1 = wr.heap.size := by omega
              have hn3 : ¬ O = wr.heap.size := by omega
              have hbw : b < wr.heap.size := cell_in y0
              have hn4 : ¬ b = wr.heap.size := by omega
              by_cases hn : (P.getD k pr0).i = n
              · have HN : Hid (((P.map (bnd n m)).take k).flatMap prC ++ [.int .i64 (P.getD k pr0).i, .int .i64 (P.getD k pr0).s, .int .i64 (P.getD k pr0).m, .int .i64 (P.getD k pr0).p, .int .i64 m] = ((P.map (bnd n m)).take (k + 1)).flatMap prC) := by
                  show _ = _
                  rw [map_step2 hlt, show bnd n m (P.getD k pr0) = ⟨(P.getD k pr0).i, (P.getD k pr0).s, (P.getD k pr0).m, (P.getD k pr0).p, m⟩ by unfold bnd; rw [if_pos (by simpa using hn)]]
                  exact flat_snoc prC _ (⟨(P.getD k pr0).i, (P.getD k pr0).s, (P.getD k pr0).m, (P.getD k pr0).p, m⟩ : Pr)
                have HN2 : Hid (((P.map (bnd n m)).take k).length + 1 = ((P.map (bnd n m)).take (k + 1)).length) := by
                  show _ = _
                  rw [map_step2 hlt, show bnd n m (P.getD k pr0) = ⟨(P.getD k pr0).i, (P.getD k pr0).s, (P.getD k pr0).m, (P.getD k pr0).p, m⟩ by unfold bnd; rw [if_pos (by simpa using hn)]]
                  simp
                have hL : ((P.map (bnd n m)).take k).length ≤ k := by simp; omega
                generalize ((P.map (bnd n m)).take k).length = L at *
                generalize (P.getD k pr0).i = v0 at *
                generalize (P.getD k pr0).s = v1 at *
                generalize (P.getD k pr0).m = v2 at *
                generalize (P.getD k pr0).p = v3 at *
                generalize (P.getD k pr0).c = v4 at *
                have hn9 := hn.symm
                clear hn
                subst hn9
                have hx1 : L + 1 ≤ maxLen := by unfold maxLen; omega
                go_wp2_with (at_builtin; refine wpList_append_own_at _ rfl _ _ 23 rfl (O + 1) 33 iP _ 5 40 Try.underlying23 hiP zP0 zP1 zP2 rfl (by decide) _ _ _ rfl ((HO.out.alloc _).alloc _) ⟨wr.heap.size + 1, 0, none⟩ 1 1 [.int .i64 n, .int .i64 v1, .int .i64 v2, .int .i64 v3, .int .i64 m] rfl rfl ?a2 (all_one rfl) ?a3 ?a4 ?a5 ?_)
                case a2 =>
                  intro j u hj
                  rw [add_fl, Nat.zero_add]
                  exact new_cell _ _ (by simp) #[.int .i64 n, .int .i64 v1, .int .i64 v2, .int .i64 v3, .int .i64 m] _ j u (by simpa using hj)
                case a3 => exact hx1
                case a4 => omega
                case a5 => simp; omega
                intro vv wq ho1 hg1 _ hat
                have hnO : some O ≠ v.ownBlock := fun e => by have := own_ge HO.out _ e.symm; omega
                have hbq : Below O W6 wq := ((hbr.alloc (by omega) _).alloc (by simp; omega) _).grown hg1 (by simp; omega) (fun g hg => by have := own_ge HO.out g hg; omega)
                replace t0 : wq.cell? ⟨O, 0, none⟩ = some (.slice o1 S.length m1) := hg1.cell (old_cell (old_cell t0 _) _) hnO
                replace t1 : wq.cell? ⟨O, 1, none⟩ = some (v) := hg1.cell (old_cell (old_cell t1 _) _) hnO
                replace t2 : wq.cell? ⟨O, 2, none⟩ = some (.slice o3 A.length m3) := hg1.cell (old_cell (old_cell t2 _) _) hnO
                replace tz : wq.frozen? ⟨O, 1, none⟩ = false := gfrozen hg1 (by simp; omega) (old_frozen (by simp; omega) (old_frozen hsz tz _) _) hnO
                have hoq := hide (ownsRow_setCell_below ho1 (a := ⟨O, 1, none⟩) (show O < O + 1 by omega) vv)
                have HE : Hid ((wq.setCell ⟨O, 1, none⟩ vv).ownsRow (O + 1) 33 5 vv ((P.map (bnd n m)).take (k + 1)).length (((P.map (bnd n m)).take (k + 1)).flatMap prC)) := by
                  show World.ownsRow _ _ _ _ _ _ _
                  rw [← HN.out, ← HN2.out]; exact hoq.out
                have s0 := (World.cell?_setCell_other wq ⟨O, 1, none⟩ ⟨O, 0, none⟩ vv (by simp)).trans t0
                have s1 := World.cell?_setCell_same wq _ vv t1
                have s2 := (World.cell?_setCell_other wq ⟨O, 1, none⟩ ⟨O, 2, none⟩ vv (by simp)).trans t2
                have s3 : (wq.setCell ⟨O, 1, none⟩ vv).frozen? ⟨O, 1, none⟩ = false := by rw [World.frozen?_setCell]; exact tz
                have hb5 : Below O W6 (wq.setCell ⟨O, 1, none⟩ vv) := hbq.setCell (Nat.le_refl _) _
                obtain ⟨v8, v9, hv⟩ := own_slc ho1
                subst hv
                clear HN HN2 ho1 hg1 hat hoq HO hbr hbq t0 t2 cc xn xm xq y0 y1 y2 y3 y4
                go_wp2_with fail
                go_roundw
                case rel => exact ⟨k + 1, _, by omega, by go_num, s0, s1, s2, s3, HE, hb5⟩
                case measure => simp [intOf]; omega
              · have HN : Hid (((P.map (bnd n m)).take k).flatMap prC ++ [.int .i64 (P.getD k pr0).i, .int .i64 (P.getD k pr0).s, .int .i64 (P.getD k pr0).m, .int .i64 (P.getD k pr0).p, .int .i64 (P.getD k pr0).c] = ((P.map (bnd n m)).take (k + 1)).flatMap prC) := by
                  show _ = _
                  rw [map_step2 hlt, show bnd n m (P.getD k pr0) = P.getD k pr0 by unfold bnd; rw [if_neg (by simpa using hn)]]
                  exact flat_snoc prC _ _
                have HN2 : Hid (((P.map (bnd n m)).take k).length + 1 = ((P.map (bnd n m)).take (k + 1)).length) := by
                  show _ = _
                  rw [map_step2 hlt, show bnd n m (P.getD k pr0) = P.getD k pr0 by unfold bnd; rw [if_neg (by simpa using hn)]]
                  simp
                have hL : ((P.map (bnd n m)).take k).length ≤ k := by simp; omega
                generalize ((P.map (bnd n m)).take k).length = L at *
                generalize (P.getD k pr0).i = v0 at *
                generalize (P.getD k pr0).s = v1 at *
                generalize (P.getD k pr0).m = v2 at *
                generalize (P.getD k pr0).p = v3 at *
                generalize (P.getD k pr0).c = v4 at *
                have hx1 : L + 1 ≤ maxLen := by unfold maxLen; omega
                go_wp2_with (at_builtin; refine wpList_append_own_at _ rfl _ _ 23 rfl (O + 1) 33 iP _ 5 40 Try.underlying23 hiP zP0 zP1 zP2 rfl (by decide) _ _ _ rfl ((HO.out.alloc _).alloc _) ⟨wr.heap.size + 1, 0, none⟩ 1 1 [.int .i64 v0, .int .i64 v1, .int .i64 v2, .int .i64 v3, .int .i64 v4] rfl rfl ?a2 (all_one rfl) ?a3 ?a4 ?a5 ?_)
                case a2 =>
                  intro j u hj
                  rw [add_fl, Nat.zero_add]
                  exact new_cell _ _ (by simp) #[.int .i64 v0, .int .i64 v1, .int .i64 v2, .int .i64 v3, .int .i64 v4] _ j u (by simpa using hj)
                case a3 => exact hx1
                case a4 => omega
                case a5 => simp; omega
                intro vv wq ho1 hg1 _ hat
                have hnO : some O ≠ v.ownBlock := fun e => by have := own_ge HO.out _ e.symm; omega
                have hbq : Below O W6 wq := ((hbr.alloc (by omega) _).alloc (by simp; omega) _).grown hg1 (by simp; omega) (fun g hg => by have := own_ge HO.out g hg; omega)
                replace t0 : wq.cell? ⟨O, 0, none⟩ = some (.slice o1 S.length m1) := hg1.cell (old_cell (old_cell t0 _) _) hnO
                replace t1 : wq.cell? ⟨O, 1, none⟩ = some (v) := hg1.cell (old_cell (old_cell t1 _) _) hnO
                replace t2 : wq.cell? ⟨O, 2, none⟩ = some (.slice o3 A.length m3) := hg1.cell (old_cell (old_cell t2 _) _) hnO
                replace tz : wq.frozen? ⟨O, 1, none⟩ = false := gfrozen hg1 (by simp; omega) (old_frozen (by simp; omega) (old_frozen hsz tz _) _) hnO
                have hoq := hide (ownsRow_setCell_below ho1 (a := ⟨O, 1, none⟩) (show O < O + 1 by omega) vv)
                have HE : Hid ((wq.setCell ⟨O, 1, none⟩ vv).ownsRow (O + 1) 33 5 vv ((P.map (bnd n m)).take (k + 1)).length (((P.map (bnd n m)).take (k + 1)).flatMap prC)) := by
                  show World.ownsRow _ _ _ _ _ _ _
                  rw [← HN.out, ← HN2.out]; exact hoq.out
                have s0 := (World.cell?_setCell_other wq ⟨O, 1, none⟩ ⟨O, 0, none⟩ vv (by simp)).trans t0
                have s1 := World.cell?_setCell_same wq _ vv t1
                have s2 := (World.cell?_setCell_other wq ⟨O, 1, none⟩ ⟨O, 2, none⟩ vv (by simp)).trans t2
                have s3 : (wq.setCell ⟨O, 1, none⟩ vv).frozen? ⟨O, 1, none⟩ = false := by rw [World.frozen?_setCell]; exact tz
                have hb5 : Below O W6 (wq.setCell ⟨O, 1, none⟩ vv) := hbq.setCell (Nat.le_refl _) _
                obtain ⟨v8, v9, hv⟩ := own_slc ho1
                subst hv
                clear HN HN2 ho1 hg1 hat hoq HO hbr hbq t0 t2 cc xn xm xq y0 y1 y2 y3 y4
                go_wp2_with fail
                go_roundw
                case rel => exact ⟨k + 1, _, by omega, by go_num, s0, s1, s2, s3, HE, hb5⟩
                case measure => simp [intOf]; omega
            · obtain rfl : k = P.length := by omega
              rw [show (P.map (bnd n m)).take P.length = P.map (bnd n m) from List.take_of_length_le (by simp)] at HO
              replace r0 := (hbr.cell (p := ⟨w.heap.size + 1 + 1, 0, none⟩) (show w.heap.size + 1 + 1 < O by omega)).trans r0
              replace z0 := (hbr.frozen (p := ⟨w.heap.size + 1 + 1, 0, none⟩) (show w.heap.size + 1 + 1 < O by omega)).trans z0
              replace r1 := (hbr.cell (p := ⟨w.heap.size + 1 + 1, 1, none⟩) (show w.heap.size + 1 + 1 < O by omega)).trans r1
              replace z1 := (hbr.frozen (p := ⟨w.heap.size + 1 + 1, 1, none⟩) (show w.heap.size + 1 + 1 < O by omega)).trans z1
              replace r2 := (hbr.cell (p := ⟨w.heap.size + 1 + 1, 2, none⟩) (show w.heap.size + 1 + 1 < O by omega)).trans r2
              replace z2 := (hbr.frozen (p := ⟨w.heap.size + 1 + 1, 2, none⟩) (show w.heap.size + 1 + 1 < O by omega)).trans z2
              have HC5 : Hid (CfAt wr (.slice o1 S.length m1) v (.slice o3 A.length m3) S (P.map (bnd n m)) A) := ⟨(HCW.out wr (b26.trans hbr)).1, RowAt.of_own prC_len (by omega) HO.out, (HCW.out wr (b26.trans hbr)).2.2⟩
              obtain ⟨vo, vm, rfl⟩ := own_slc HO.out
              have HB5 := hide kr
              clear HO hbr kr HCW b26
              generalize hGL : (P.map (bnd n m)).length = L at *
              clear hGL
              go_wp2_with fail
              obtain ⟨u0, u1, u2⟩ := set3 r0 r1 r2 (.slice o1 S.length m1) (.slice vo L vm) (.slice o3 A.length m3)
              have HBE := hide (((HB5.out.setCell (p := ⟨w.heap.size + 1 + 1, 0, none⟩) (by show w.heap.size ≤ w.heap.size + 1 + 1; omega) (.slice o1 S.length m1)).setCell (p := ⟨w.heap.size + 1 + 1, 1, none⟩) (by show w.heap.size ≤ w.heap.size + 1 + 1; omega) (.slice vo L vm)).setCell (p := ⟨w.heap.size + 1 + 1, 2, none⟩) (by show w.heap.size ≤ w.heap.size + 1 + 1; omega) (.slice o3 A.length m3))
              have HCF := hide (((HC5.out.set_box r0 (.slice o1 S.length m1)).set_box ((World.cell?_setCell_other _ _ _ _ (by simp)).trans r1) (.slice vo L vm)).set_box ((World.cell?_setCell_other _ _ _ _ (by simp)).trans ((World.cell?_setCell_other _ _ _ _ (by simp)).trans r2)) (.slice o3 A.length m3))
              refine bodyPost_ret (v := .tuple #[.agg #[.slice o1 S.length m1, .slice vo L vm, .slice o3 A.length m3], .int .i64 0]) ?_ rfl ⟨_, _, _, rfl, by rw [HQQ.out.1, HQQ.out.2.1, HQQ.out.2.2]; have hh := HCF.out; rw [HLL.out] at hh; exact hh, HBE.out⟩
              clear HCF HBE r0 r1 r2
              generalize (((wr.setCell ⟨w.heap.size + 1 + 1, 0, none⟩ (.slice o1 S.length m1)).setCell ⟨w.heap.size + 1 + 1, 1, none⟩ (.slice vo L vm)).setCell ⟨w.heap.size + 1 + 1, 2, none⟩ (.slice o3 A.length m3)) = W at *
              simp [results, Try.results12, go_sem, u0, u1, u2]
    · clear bc1 bc2 bX HC2 hR2
      have nR : w.heap.size + 1 + 1 ≠ w2.heap.size := by omega
      have HR3 := hide (And.intro r0 (And.intro r1 r2))
      clear HS HP HA HQ X c0 c1 c2 HNO HO3 r0 r1 r2 z0 z1 z2 q0 q1 q2 g0 g1 g2
      have hA : actFault S P A ⟨k, si, st, sg, pi, ps, pm, pp, pc, rs, rp, rn, rf, rb, rt, re, ro, rd, n, m, f0, f1, f2, f3, f4, f5, f6, body⟩ = 3 := by simp [actFault, n1, n2, n3, n4, n5, n6]
      obtain ⟨hq0, rfl, rfl, rfl⟩ := HF1.out (by rw [hA]; decide)
      rw [hA] at hq0
      subst hq0
      clear HF1 HF2 hA
      subst hW3 hO
      go_wp2_with fail
      obtain ⟨u0, u1, u2⟩ := set3 br0 br1 br2 (.slice none 0 0) (.slice none 0 0) (.slice none 0 0)
      have HBE := hide (((((k2.setCell (p := ⟨w.heap.size + 1 + 1, 0, none⟩) (by show w.heap.size ≤ w.heap.size + 1 + 1; omega) (.slice none 0 0)).setCell (p := ⟨w.heap.size + 1 + 1, 1, none⟩) (by show w.heap.size ≤ w.heap.size + 1 + 1; omega) (.slice none 0 0)).setCell (p := ⟨w.heap.size + 1 + 1, 2, none⟩) (by show w.heap.size ≤ w.heap.size + 1 + 1; omega) (.slice none 0 0)).alloc (by have := k2.size; simpa using this) (.cells #[.slice o1 S.length m1, .slice o2 P.length m2, .slice o3 A.length m3] 26)))
      have HCF := hide (⟨RowAt.nil _ _ _, RowAt.nil _ _ _, RowAt.nil _ _ _⟩ : CfAt ((((w2.setCell ⟨w.heap.size + 1 + 1, 0, none⟩ (.slice none 0 0)).setCell ⟨w.heap.size + 1 + 1, 1, none⟩ (.slice none 0 0)).setCell ⟨w.heap.size + 1 + 1, 2, none⟩ (.slice none 0 0)).alloc (.cells #[.slice o1 S.length m1, .slice o2 P.length m2, .slice o3 A.length m3] 26)) (.slice none 0 0) (.slice none 0 0) (.slice none 0 0) [] [] [])
      have v0 := old_cell u0 (.cells #[.slice o1 S.length m1, .slice o2 P.length m2, .slice o3 A.length m3] 26)
      have v1 := old_cell u1 (.cells #[.slice o1 S.length m1, .slice o2 P.length m2, .slice o3 A.length m3] 26)
      have v2 := old_cell u2 (.cells #[.slice o1 S.length m1, .slice o2 P.length m2, .slice o3 A.length m3] 26)
      refine bodyPost_ret (v := .tuple #[.agg #[.slice none 0 0, .slice none 0 0, .slice none 0 0], .int .i64 3]) ?_ rfl ⟨_, _, _, rfl, HCF.out, HBE.out⟩
      clear HCF HBE u0 u1 u2 HR3
      generalize ((((w2.setCell ⟨w.heap.size + 1 + 1, 0, none⟩ (.slice none 0 0)).setCell ⟨w.heap.size + 1 + 1, 1, none⟩ (.slice none 0 0)).setCell ⟨w.heap.size + 1 + 1, 2, none⟩ (.slice none 0 0)).alloc (.cells #[.slice o1 S.length m1, .slice o2 P.length m2, .slice o3 A.length m3] 26)) = W at *
      simp [results, Try.results12, go_sem, v0, v1, v2]

end Go.Proofs.Ytonhfgdnkkkikad
