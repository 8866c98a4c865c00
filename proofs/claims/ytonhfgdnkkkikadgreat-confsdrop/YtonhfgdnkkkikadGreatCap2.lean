/-
  What conf.Apply answers.
-/
import Derived.Test.YtonhfgdnkkkikadGreatCh
import Derived.Deep.MidRow
namespace Go.Proofs.YtonhfgdnkkkikadGreat
open Go.RowKit
set_option linter.unusedVariables false
set_option maxRecDepth 100000

theorem pr_small {S : List Sw} {P : List Pr} {x : Pr} (h : prFault S P x = 0) : P.length < 40 := by
  unfold prFault at h
  split at h
  · omega
  · split at h
    · omega
    · split at h
      · omega
      · split at h
        · omega
        · split at h
          · omega
          · omega
theorem ac_small {S : List Sw} {A : List Ac} {x : Ac} (h : acFault S A x = 0) : A.length < 40 := by
  unfold acFault at h
  split at h
  · omega
  · split at h
    · omega
    · split at h
      · omega
      · split at h
        · omega
        · omega
theorem sw_small {S : List Sw} {P : List Pr} {x : Sw} (h : swFault S P x = 0) : S.length < 12 := by
  unfold swFault at h
  split at h
  · omega
  · split at h
    · omega
    · split at h
      · omega
      · omega
theorem may_parts {S : List Sw} {P : List Pr} {A : List Ac} (h : may S P A = true) : swsMay S = true ∧ prsMay S P = true ∧ acsMay S A = true := by
  unfold may at h
  simp only [Bool.and_eq_true] at h
  exact ⟨h.1.1, h.1.2, h.2⟩
theorem may_len {S : List Sw} {P : List Pr} {A : List Ac} (h : may S P A = true) : S.length ≤ 12 ∧ P.length ≤ 40 ∧ A.length ≤ 40 := by
  obtain ⟨h1, h2, h3⟩ := may_parts h
  refine ⟨?_, ?_, ?_⟩
  · rcases Nat.lt_or_ge 12 S.length with h' | h'
    · unfold swsMay at h1
      rw [List.all_eq_true] at h1
      have := h1 12 (List.mem_range.2 h')
      have := sw_small (by simpa using this)
      rw [List.length_take] at this
      omega
    · exact h'
  · rcases Nat.lt_or_ge 40 P.length with h' | h'
    · unfold prsMay at h2
      rw [List.all_eq_true] at h2
      have := h2 40 (List.mem_range.2 h')
      have := pr_small (by simpa using this)
      rw [List.length_take] at this
      omega
    · exact h'
  · rcases Nat.lt_or_ge 40 A.length with h' | h'
    · unfold acsMay at h3
      rw [List.all_eq_true] at h3
      have := h3 40 (List.mem_range.2 h')
      have := ac_small (by simpa using this)
      rw [List.length_take] at this
      omega
    · exact h'

/-- No slice. -/
def notSl : Value → Bool
  | .slice _ _ _ => false
  | _ => true
theorem RowAt.set_box {α : Type} {C : α → List Value} {sz : Nat} (hC : ∀ x, (C x).all notSl = true) {w : World} {v : Value} {l : List α} (h : RowAt C sz w v l) {b o : Nat} {x : Option Addr} {y z : Nat} (hp : w.cell? ⟨b, o, none⟩ = some (.slice x y z)) (u : Value) : RowAt C sz (w.setCell ⟨b, o, none⟩ u) v l := by
  obtain ⟨a, cap, rfl, hn, h0 | ⟨b', off, rfl, hc, hL⟩⟩ := h
  · exact ⟨a, cap, rfl, hn, .inl h0⟩
  · refine ⟨_, cap, rfl, hn, .inr ⟨b', off, rfl, hc, fun i r hr j q hq => ?_⟩⟩
    have h1 := hL i r hr j q hq
    rw [World.cell?_setCell_other _ _ _ _ (fun e => ?_)]
    · exact h1
    · rw [← e, hp] at h1
      simp at h1
      have := List.all_eq_true.1 (hC r) q (List.mem_of_getElem? hq)
      rw [← h1] at this
      simp [notSl] at this
theorem CfAt.set_box {w : World} {sv pv av : Value} {S : List Sw} {P : List Pr} {A : List Ac} (h : CfAt w sv pv av S P A) {b o : Nat} {x : Option Addr} {y z : Nat} (hp : w.cell? ⟨b, o, none⟩ = some (.slice x y z)) (u : Value) : CfAt (w.setCell ⟨b, o, none⟩ u) sv pv av S P A :=
  ⟨RowAt.set_box (fun _ => rfl) h.1 hp u, RowAt.set_box (fun _ => rfl) h.2.1 hp u, RowAt.set_box (fun _ => rfl) h.2.2 hp u⟩
theorem rangeAt_beh {w w' : World} {B b o : Nat} {cs : List Value} (h : w.rangeAt b o cs) (hb : Below B w w') (hB : w.heap.size ≤ B) : w'.rangeAt b o cs := fun j v hv => cell_beh (h j v hv) hb hB
theorem rangeAt_set {w : World} {b o b' o' : Nat} {cs : List Value} {x : Value} (h : w.rangeAt b o cs) (hne : b' ≠ b) : (w.setCell ⟨b', o', none⟩ x).rangeAt b o cs := fun j v hv =>
  (World.cell?_setCell_other _ _ _ _ (fun e => hne (by simpa using congrArg Addr.block e))).trans (h j v hv)
theorem actInfo : (Tryz.prog.info? 43).map (·.size) = some 28 := by kernel_rfl

/-- P3.5: the code of an act. -/
def appE (S : List Sw) (P : List Pr) (A : List Ac) (a : Ax) : Int := if may S P A = true then actFault S P A a else 8
def apS (S : List Sw) (P : List Pr) (A : List Ac) (a : Ax) : List Sw := if appE S P A a = 0 then nxS S a else []
def apP (S : List Sw) (P : List Pr) (A : List Ac) (a : Ax) : List Pr := if appE S P A a = 0 then nxP P a else []
def apA (S : List Sw) (P : List Pr) (A : List Ac) (a : Ax) : List Ac := if appE S P A a = 0 then nxA A a else []

theorem act_port {S : List Sw} {P : List Pr} {A : List Ac} {a : Ax} (h : actFault S P A a = 0) (hk : a.k = 4 ∨ a.k = 6) : 0 ≤ pat P a.n := by
  unfold actFault at h
  by_cases hb : inB (pat P a.n) 0 ((P.length : Int) - 1) = true
  · simp [inB] at hb; omega
  · rcases hk with hk | hk
    · rw [if_neg (by omega), if_neg (by omega), if_neg (by omega), if_pos hk, if_neg hb] at h; omega
    · rw [if_neg (by omega), if_neg (by omega), if_neg (by omega), if_neg (by omega), if_pos hk, if_neg hb] at h; omega
theorem act_acl {S : List Sw} {P : List Pr} {A : List Ac} {a : Ax} (h : actFault S P A a = 0) (hk : a.k = 5) : 0 ≤ a.n ∧ a.n < A.length := by
  unfold actFault at h
  rw [if_neg (by omega), if_neg (by omega), if_neg (by omega), if_neg (by omega), if_neg (by omega), if_pos hk] at h
  by_cases hb : inB a.n 0 ((A.length : Int) - 1) = true
  · simp [inB] at hb; omega
  · rw [if_neg hb] at h; omega

set_option maxHeartbeats 8000000 in
theorem apply_any (sv pv av : Value) (S : List Sw) (P : List Pr) (A : List Ac) (a : Ax) (w : World) (hC : CfAt w sv pv av S P A) (h1 : S.length * 24 ≤ 140737488355328) (h2 : P.length * 40 ≤ 140737488355328) (h3 : A.length * 72 ≤ 140737488355328) :
    Calls Tryz.prog 7 #[.agg #[sv, pv, av], actV a] w fun e w' => ∃ su pu au, e = .returned (.tuple #[.agg #[su, pu, au], .int .i64 (appE S P A a)]) ∧ CfAt w' su pu au (apS S P A a) (apP S P A a) (apA S P A a) ∧ Below w.heap.size w w' := by
  have HCK := hide (fun W (hW : Below w.heap.size w W) => confCheck_any sv pv av S P A W (hC.below hW (Nat.le_refl _)) h1 h2 h3)
  have HCA := hide (fun W (hW : Below w.heap.size w W) => checkAct_any sv pv av S P A a W (hC.below hW (Nat.le_refl _)) h1 h2 h3)
  have HCY := hide (fun W (hW : Below w.heap.size w W) => copy_any sv pv av S P A W (hC.below hW (Nat.le_refl _)) h1 h2 h3)
  have HCH : Hid (∀ (W : World) (B : Nat) (x y z : Value), may S P A = true → actFault S P A a = 0 → Own3 W B x y z S P A → B ≤ W.heap.size → Calls Tryz.prog 19 #[.agg #[x, y, z], actV a] W fun e w' => ∃ su pu au, e = .returned (.agg #[su, pu, au]) ∧ CfAt w' su pu au (nxS S a) (nxP P a) (nxA A a) ∧ Below B W w') := fun W B x y z hm hf ho hB =>
    changed_any B x y z S P A a W ho hB (may_len hm).1 (may_len hm).2.1 (may_len hm).2.2 (act_port hf) (act_acl hf)
  have HE0 : Hid (may S P A = false → appE S P A a = 8 ∧ apS S P A a = [] ∧ apP S P A a = [] ∧ apA S P A a = []) := fun h => by
    have e : appE S P A a = 8 := by unfold appE; rw [h]; rfl
    exact ⟨e, by unfold apS; rw [e]; rfl, by unfold apP; rw [e]; rfl, by unfold apA; rw [e]; rfl⟩
  have HE1 : Hid (may S P A = true → actFault S P A a ≠ 0 → appE S P A a = actFault S P A a ∧ apS S P A a = [] ∧ apP S P A a = [] ∧ apA S P A a = []) := fun h hn => by
    have e : appE S P A a = actFault S P A a := by unfold appE; rw [if_pos h]
    exact ⟨e, by unfold apS; rw [e, if_neg hn], by unfold apP; rw [e, if_neg hn], by unfold apA; rw [e, if_neg hn]⟩
  have HE2 : Hid (may S P A = true → actFault S P A a = 0 → appE S P A a = 0 ∧ apS S P A a = nxS S a ∧ apP S P A a = nxP P a ∧ apA S P A a = nxA A a) := fun h hn => by
    have e : appE S P A a = 0 := by unfold appE; rw [if_pos h, hn]
    exact ⟨e, by unfold apS; rw [if_pos e], by unfold apP; rw [if_pos e], by unfold apA; rw [if_pos e]⟩
  obtain ⟨E, hE⟩ : ∃ E : Int, E = if may S P A = true then 0 else 8 := ⟨_, rfl⟩
  rw [← hE] at HCK
  have HE := hide hE
  clear hE
  generalize may S P A = M at *
  generalize actFault S P A a = G at *
  generalize appE S P A a = EE at *
  generalize apS S P A a = LS at *
  generalize apP S P A a = LP at *
  generalize apA S P A a = LA at *
  generalize nxS S a = NS at *
  generalize nxP P a = NP at *
  generalize nxA A a = NA at *
  obtain ⟨s1, s2, rfl⟩ := hC.1.slice
  obtain ⟨p1, p2, rfl⟩ := hC.2.1.slice
  obtain ⟨a1, a2, rfl⟩ := hC.2.2.slice
  clear hC
  obtain ⟨k, si, st, sg, pi, ps, pm, pp, pc, rs, rp, rn, rf, rb, rt, re, ro, rd, n, m, f0, f1, f2, f3, f4, f5, f6, body⟩ := a
  go_enter Tryz.func7, Tryz.ntmps7
  go_wp2_with fail
  obtain ⟨W0, hW0⟩ : ∃ W0, W0 = ((w.alloc (.cells #[.slice s1 S.length s2, .slice p1 P.length p2, .slice a1 A.length a2] 28)).alloc (.cells #[.int .i64 k, .int .i64 si, .int .i64 st, .int .i64 sg, .int .i64 pi, .int .i64 ps, .int .i64 pm, .int .i64 pp, .int .i64 pc, .int .i64 rs, .int .i64 rp, .bool rn, .int .i64 rf, .int .i64 rb, .int .i64 rt, .int .i64 re, .int .i64 ro, .bool rd, .int .i64 n, .int .i64 m, .int .i64 f0, .int .i64 f1, .int .i64 f2, .int .i64 f3, .int .i64 f4, .int .i64 f5, .int .i64 f6, .string body] 43)).alloc (.cells #[.slice none 0 0, .slice none 0 0, .slice none 0 0] 28) := ⟨_, rfl⟩
  have hb0 : Below w.heap.size w W0 := by rw [hW0]; exact (((Below.refl _ w).alloc (Nat.le_refl _) _).alloc (by simp) _).alloc (by simp; omega) _
  have hz0 : W0.heap.size = w.heap.size + 3 := by rw [hW0]; simp
  have c0 : W0.cell? ⟨w.heap.size, 0, none⟩ = some (.slice s1 S.length s2) := by rw [hW0]; exact old_cell (old_cell (new_cell w _ rfl _ _ _ _ rfl) _) _
  have c1 : W0.cell? ⟨w.heap.size, 1, none⟩ = some (.slice p1 P.length p2) := by rw [hW0]; exact old_cell (old_cell (new_cell w _ rfl _ _ _ _ rfl) _) _
  have c2 : W0.cell? ⟨w.heap.size, 2, none⟩ = some (.slice a1 A.length a2) := by rw [hW0]; exact old_cell (old_cell (new_cell w _ rfl _ _ _ _ rfl) _) _
  have X : Hid (W0.rangeAt (w.heap.size + 1) 0 [Value.int .i64 k, .int .i64 si, .int .i64 st, .int .i64 sg, .int .i64 pi, .int .i64 ps, .int .i64 pm, .int .i64 pp, .int .i64 pc, .int .i64 rs, .int .i64 rp, .bool rn, .int .i64 rf, .int .i64 rb, .int .i64 rt, .int .i64 re, .int .i64 ro, .bool rd, .int .i64 n, .int .i64 m, .int .i64 f0, .int .i64 f1, .int .i64 f2, .int .i64 f3, .int .i64 f4, .int .i64 f5, .int .i64 f6, .string body]) := by
    rw [hW0]
    intro j v hj
    rw [Nat.zero_add]
    exact old_cell (new_cell _ _ (by simp) #[.int .i64 k, .int .i64 si, .int .i64 st, .int .i64 sg, .int .i64 pi, .int .i64 ps, .int .i64 pm, .int .i64 pp, .int .i64 pc, .int .i64 rs, .int .i64 rp, .bool rn, .int .i64 rf, .int .i64 rb, .int .i64 rt, .int .i64 re, .int .i64 ro, .bool rd, .int .i64 n, .int .i64 m, .int .i64 f0, .int .i64 f1, .int .i64 f2, .int .i64 f3, .int .i64 f4, .int .i64 f5, .int .i64 f6, .string body] _ j v (by simpa using hj)) _
  have r0 : W0.cell? ⟨w.heap.size + 1 + 1, 0, none⟩ = some (.slice none 0 0) := by rw [hW0]; exact new_cell _ _ (by simp) _ _ _ _ rfl
  have r1 : W0.cell? ⟨w.heap.size + 1 + 1, 1, none⟩ = some (.slice none 0 0) := by rw [hW0]; exact new_cell _ _ (by simp) _ _ _ _ rfl
  have r2 : W0.cell? ⟨w.heap.size + 1 + 1, 2, none⟩ = some (.slice none 0 0) := by rw [hW0]; exact new_cell _ _ (by simp) _ _ _ _ rfl
  have z0 : W0.frozen? ⟨w.heap.size + 1 + 1, 0, none⟩ = false := by rw [hW0]; exact new_frozen _ _ (by simp) _ _ _
  have z1 : W0.frozen? ⟨w.heap.size + 1 + 1, 1, none⟩ = false := by rw [hW0]; exact new_frozen _ _ (by simp) _ _ _
  have z2 : W0.frozen? ⟨w.heap.size + 1 + 1, 2, none⟩ = false := by rw [hW0]; exact new_frozen _ _ (by simp) _ _ _
  have hRlt : w.heap.size + 1 + 1 < W0.heap.size := by omega
  rw [← hW0]
  clear hW0 hz0
  refine (unhide HCK _ hb0).mono ?_
  rintro e w1 ⟨rfl, hb1⟩
  have k1 := hb0.trans (hb1.mono hb0.size)
  have ac0 := cell_beh c0 hb1 (Nat.le_refl _)
  have ac1 := cell_beh c1 hb1 (Nat.le_refl _)
  have ac2 := cell_beh c2 hb1 (Nat.le_refl _)
  have aX := hide (rangeAt_beh X.out hb1 (Nat.le_refl _))
  have ar0 := cell_beh r0 hb1 (Nat.le_refl _)
  have ar1 := cell_beh r1 hb1 (Nat.le_refl _)
  have ar2 := cell_beh r2 hb1 (Nat.le_refl _)
  have az0 := (hb1.frozen (p := ⟨w.heap.size + 1 + 1, 0, none⟩) (by show _ < W0.heap.size; exact hRlt)).trans z0
  have az1 := (hb1.frozen (p := ⟨w.heap.size + 1 + 1, 1, none⟩) (by show _ < W0.heap.size; exact hRlt)).trans z1
  have az2 := (hb1.frozen (p := ⟨w.heap.size + 1 + 1, 2, none⟩) (by show _ < W0.heap.size; exact hRlt)).trans z2
  clear c0 c1 c2 r0 r1 r2 z0 z1 z2 X
  have hR1 : w.heap.size + 1 + 1 < w1.heap.size := Nat.lt_of_lt_of_le hRlt hb1.size
  clear hb0 hb1 HCK hRlt
  cases M
  · obtain rfl : E = 8 := HE.out
    obtain ⟨rfl, rfl, rfl, rfl⟩ := HE0.out rfl
    clear HCA HCY HCH HE HE0 HE1 HE2 ac0 ac1 ac2 aX
    go_wp2_with fail
    obtain ⟨u0, u1, u2⟩ := set3 ar0 ar1 ar2 (.slice none 0 0) (.slice none 0 0) (.slice none 0 0)
    have HBE := hide ((((k1).setCell (p := ⟨w.heap.size + 1 + 1, 0, none⟩) (by show w.heap.size ≤ w.heap.size + 1 + 1; omega) (.slice none 0 0)).setCell (p := ⟨w.heap.size + 1 + 1, 1, none⟩) (by show w.heap.size ≤ w.heap.size + 1 + 1; omega) (.slice none 0 0)).setCell (p := ⟨w.heap.size + 1 + 1, 2, none⟩) (by show w.heap.size ≤ w.heap.size + 1 + 1; omega) (.slice none 0 0))
    have HCF := hide ((⟨RowAt.nil _ _ _, RowAt.nil _ _ _, RowAt.nil _ _ _⟩ : CfAt (((w1.setCell ⟨w.heap.size + 1 + 1, 0, none⟩ (.slice none 0 0)).setCell ⟨w.heap.size + 1 + 1, 1, none⟩ (.slice none 0 0)).setCell ⟨w.heap.size + 1 + 1, 2, none⟩ (.slice none 0 0)) (.slice none 0 0) (.slice none 0 0) (.slice none 0 0) [] [] []))
    refine bodyPost_ret (v := .tuple #[.agg #[.slice none 0 0, .slice none 0 0, .slice none 0 0], .int .i64 8]) ?_ rfl ⟨_, _, _, rfl, HCF.out, HBE.out⟩
    clear HCF HBE ar0 az0 ar1 az1 ar2 az2
    generalize (((w1.setCell ⟨w.heap.size + 1 + 1, 0, none⟩ (.slice none 0 0)).setCell ⟨w.heap.size + 1 + 1, 1, none⟩ (.slice none 0 0)).setCell ⟨w.heap.size + 1 + 1, 2, none⟩ (.slice none 0 0)) = W at *
    simp [results, Tryz.results7, go_sem, u0, u1, u2]
  · obtain rfl : E = 0 := HE.out
    have HF1 := hide (HE1.out rfl)
    have HF2 := hide (HE2.out rfl)
    have HCH1 := hide (fun W B x y z => HCH.out W B x y z rfl)
    clear HE HE0 HE1 HE2 HCH
    go_wp2_with (refine wpList_load_mid rfl 43 (.tmp 3) rfl (w.heap.size + 1) 0 rfl [Value.int .i64 k, .int .i64 si, .int .i64 st, .int .i64 sg, .int .i64 pi, .int .i64 ps, .int .i64 pm, .int .i64 pp, .int .i64 pc, .int .i64 rs, .int .i64 rp, .bool rn, .int .i64 rf, .int .i64 rb, .int .i64 rt, .int .i64 re, .int .i64 ro, .bool rd, .int .i64 n, .int .i64 m, .int .i64 f0, .int .i64 f1, .int .i64 f2, .int .i64 f3, .int .i64 f4, .int .i64 f5, .int .i64 f6, .string body] _ aX.out Tryz.underlying43 rfl actInfo ?_)
    refine (unhide HCA _ k1).mono ?_
    rintro e w2 ⟨rfl, hb2⟩
    have k2 := k1.trans (hb2.mono k1.size)
    have bc0 := cell_beh ac0 hb2 (Nat.le_refl _)
    have bc1 := cell_beh ac1 hb2 (Nat.le_refl _)
    have bc2 := cell_beh ac2 hb2 (Nat.le_refl _)
    have bX := hide (rangeAt_beh aX.out hb2 (Nat.le_refl _))
    have br0 := cell_beh ar0 hb2 (Nat.le_refl _)
    have br1 := cell_beh ar1 hb2 (Nat.le_refl _)
    have br2 := cell_beh ar2 hb2 (Nat.le_refl _)
    have bz0 := (hb2.frozen (p := ⟨w.heap.size + 1 + 1, 0, none⟩) (by show _ < w1.heap.size; exact hR1)).trans az0
    have bz1 := (hb2.frozen (p := ⟨w.heap.size + 1 + 1, 1, none⟩) (by show _ < w1.heap.size; exact hR1)).trans az1
    have bz2 := (hb2.frozen (p := ⟨w.heap.size + 1 + 1, 2, none⟩) (by show _ < w1.heap.size; exact hR1)).trans az2
    clear ac0 ac1 ac2 ar0 ar1 ar2 az0 az1 az2 aX
    have hR2 : w.heap.size + 1 + 1 < w2.heap.size := Nat.lt_of_lt_of_le hR1 hb2.size
    clear k1 hb2 HCA hR1
    by_cases hG : G = 0
    · subst hG
      obtain ⟨rfl, rfl, rfl, rfl⟩ := HF2.out rfl
      have HCH2 := hide (fun W B x y z => HCH1.out W B x y z rfl)
      clear HF1 HF2 HCH1
      go_wp2_with fail
      refine wp_region_held_drew (S := (fun w' => w'.cell? ⟨w.heap.size, 0, none⟩ = some (.slice s1 S.length s2) ∧ w'.cell? ⟨w.heap.size, 1, none⟩ = some (.slice p1 P.length p2) ∧ w'.cell? ⟨w.heap.size, 2, none⟩ = some (.slice a1 A.length a2) ∧ w'.rangeAt (w.heap.size + 1) 0 [Value.int .i64 k, .int .i64 si, .int .i64 st, .int .i64 sg, .int .i64 pi, .int .i64 ps, .int .i64 pm, .int .i64 pp, .int .i64 pc, .int .i64 rs, .int .i64 rp, .bool rn, .int .i64 rf, .int .i64 rb, .int .i64 rt, .int .i64 re, .int .i64 ro, .bool rd, .int .i64 n, .int .i64 m, .int .i64 f0, .int .i64 f1, .int .i64 f2, .int .i64 f3, .int .i64 f4, .int .i64 f5, .int .i64 f6, .string body])) (by kernel_rfl) ⟨bc0, bc1, bc2, bX.out⟩ (fun hHeld => ?_)
      refine wpAnyH_take (i := 0) (oi := ⟨some 21, _, _, _, _, _⟩) (v := ?v1) rfl (by kernel_rfl) (by kernel_rfl) (by kernel_rfl) (fun _ _ _ h => h) (Or.inl ⟨by rfl, ?h1⟩) (by assumption) ?r1
      case h1 => (intro w hSw; (try dsimp only at hSw); go_simp <;> with_reducible rfl)
      (try simp only [Act.put, List.setIfInBounds_toArray, List.set_cons_zero, List.set_cons_succ])
      refine wpAnyH_take (i := 2) (oi := ⟨some 23, _, _, _, _, _⟩) (v := .agg #[.int .i64 k, .int .i64 si, .int .i64 st, .int .i64 sg, .int .i64 pi, .int .i64 ps, .int .i64 pm, .int .i64 pp, .int .i64 pc, .int .i64 rs, .int .i64 rp, .bool rn, .int .i64 rf, .int .i64 rb, .int .i64 rt, .int .i64 re, .int .i64 ro, .bool rd, .int .i64 n, .int .i64 m, .int .i64 f0, .int .i64 f1, .int .i64 f2, .int .i64 f3, .int .i64 f4, .int .i64 f5, .int .i64 f6, .string body]) rfl (by kernel_rfl) (by kernel_rfl) (by kernel_rfl) (fun _ _ _ h => h) (yieldsIf_load_mid (by rfl) 43 (.tmp 3) rfl (w.heap.size + 1) 0 rfl [Value.int .i64 k, .int .i64 si, .int .i64 st, .int .i64 sg, .int .i64 pi, .int .i64 ps, .int .i64 pm, .int .i64 pp, .int .i64 pc, .int .i64 rs, .int .i64 rp, .bool rn, .int .i64 rf, .int .i64 rb, .int .i64 rt, .int .i64 re, .int .i64 ro, .bool rd, .int .i64 n, .int .i64 m, .int .i64 f0, .int .i64 f1, .int .i64 f2, .int .i64 f3, .int .i64 f4, .int .i64 f5, .int .i64 f6, .string body] _ (fun w h => h.2.2.2) Tryz.underlying43 rfl actInfo) (by assumption) ?_
      (try simp only [Act.put, List.setIfInBounds_toArray, List.set_cons_zero, List.set_cons_succ])
      refine wpAnyH_ready (rs := [1]) (by kernel_rfl) (by simp) ?_
      refine AllReadyH.cons (o := ⟨some 22, _, _, _, _, _⟩) rfl (fun K hK => ?_) AllReadyH.nil
      go_simp
      refine (unhide HCY _ k2.drew).mono ?_
      rintro e w3 ⟨y1, y2, y3, rfl, ho3, hb3⟩
      obtain ⟨o1, m1, hv1⟩ := own_slc ho3.s
      obtain ⟨o2, m2, hv2⟩ := own_slc ho3.p
      obtain ⟨o3, m3, hv3⟩ := own_slc ho3.a
      subst hv1 hv2 hv3
      have HO3 := hide ho3
      clear ho3
      have g3 : Below w2.heap.size w2 w3 := ((Below.refl _ w2).drew).trans hb3
      have k3 := k2.trans (g3.mono k2.size)
      go_wp2_with fail
      refine hK.out _ _ ⟨cell_beh bc0 g3 (Nat.le_refl _), cell_beh bc1 g3 (Nat.le_refl _), cell_beh bc2 g3 (Nat.le_refl _), rangeAt_beh bX.out g3 (Nat.le_refl _)⟩ (fun hHeld => ?_)
      clear hK K
      (try simp only [Act.put, List.setIfInBounds_toArray, List.set_cons_zero, List.set_cons_succ])
      refine wpAnyH_ready (rs := [3]) (by kernel_rfl) (by simp) ?_
      refine AllReadyH.cons (o := ⟨some 24, _, _, _, _, _⟩) rfl (fun K hK => ?_) AllReadyH.nil
      go_simp
      refine (unhide HCH2 _ _ _ _ _ HO3.out (show w2.drew.heap.size ≤ w3.heap.size from g3.size)).mono ?_
      rintro e w4 ⟨z1, z2, z3, rfl, hcf4, hb4⟩
      have HC4 := hide hcf4
      obtain ⟨v1, n1, hv1⟩ := hcf4.1.slice
      obtain ⟨v2, n2, hv2⟩ := hcf4.2.1.slice
      obtain ⟨v3, n3, hv3⟩ := hcf4.2.2.slice
      subst hv1 hv2 hv3
      clear hcf4
      have g4 : Below w2.heap.size w2 w4 := g3.trans hb4
      have k4 := k2.trans (g4.mono k2.size)
      go_wp2_with fail
      refine hK.out _ _ ⟨cell_beh bc0 g4 (Nat.le_refl _), cell_beh bc1 g4 (Nat.le_refl _), cell_beh bc2 g4 (Nat.le_refl _), rangeAt_beh bX.out g4 (Nat.le_refl _)⟩ (fun hHeld => ?_)
      clear hK K
      (try simp only [Act.put, List.setIfInBounds_toArray, List.set_cons_zero, List.set_cons_succ])
      have dr0 := cell_beh br0 g4 (Nat.le_refl _)
      have dr1 := cell_beh br1 g4 (Nat.le_refl _)
      have dr2 := cell_beh br2 g4 (Nat.le_refl _)
      have dz0 := (g4.frozen (p := ⟨w.heap.size + 1 + 1, 0, none⟩) hR2).trans bz0
      have dz1 := (g4.frozen (p := ⟨w.heap.size + 1 + 1, 1, none⟩) hR2).trans bz1
      have dz2 := (g4.frozen (p := ⟨w.heap.size + 1 + 1, 2, none⟩) hR2).trans bz2
      have e0 := cell_beh bc0 g4 (Nat.le_refl _)
      have e1 := cell_beh bc1 g4 (Nat.le_refl _)
      have e2 := cell_beh bc2 g4 (Nat.le_refl _)
      have HXX := hide (rangeAt_beh bX.out g4 (Nat.le_refl _))
      refine wpAnyH_ready (rs := [4]) (by kernel_rfl) (by simp) ?_
      refine AllReadyH.cons (o := ⟨none, _, _, _, _, _⟩) rfl (fun K hK => ?_) AllReadyH.nil
      go_simp
      refine hK.out _ _ ⟨(World.cell?_setCell_other _ _ _ _ (by simp <;> omega)).trans ((World.cell?_setCell_other _ _ _ _ (by simp <;> omega)).trans ((World.cell?_setCell_other _ _ _ _ (by simp <;> omega)).trans e0)), (World.cell?_setCell_other _ _ _ _ (by simp <;> omega)).trans ((World.cell?_setCell_other _ _ _ _ (by simp <;> omega)).trans ((World.cell?_setCell_other _ _ _ _ (by simp <;> omega)).trans e1)), (World.cell?_setCell_other _ _ _ _ (by simp <;> omega)).trans ((World.cell?_setCell_other _ _ _ _ (by simp <;> omega)).trans ((World.cell?_setCell_other _ _ _ _ (by simp <;> omega)).trans e2)), rangeAt_set (rangeAt_set (rangeAt_set HXX.out (by omega)) (by omega)) (by omega)⟩ (fun hHeld => ?_)
      clear hK K
      (try simp only [Act.put, List.setIfInBounds_toArray, List.set_cons_zero, List.set_cons_succ])
      refine wpAnyH_take (i := 5) (oi := ⟨some 5, _, _, _, _, _⟩) (v := ?v2) rfl (by kernel_rfl) (by kernel_rfl) (by kernel_rfl) (fun _ _ _ h => h) (Or.inl ⟨by rfl, ?h2⟩) (by assumption) ?r2
      case h2 => (intro w hSw; (try dsimp only at hSw); go_simp <;> with_reducible rfl)
      (try simp only [Act.put, List.setIfInBounds_toArray, List.set_cons_zero, List.set_cons_succ])
      refine wpAnyH_done (by kernel_rfl) ?_ _
      clear hHeld bc0 bc1 bc2 br0 br1 br2 bz0 bz1 bz2 bX e0 e1 e2 HXX HCY HCH2 HO3 hb3 hb4 g3 k3
      obtain ⟨u0, u1, u2⟩ := set3 dr0 dr1 dr2 (.slice v1 LS.length n1) (.slice v2 LP.length n2) (.slice v3 LA.length n3)
      have HCF := hide (((HC4.out.set_box dr0 (.slice v1 LS.length n1)).set_box ((World.cell?_setCell_other _ _ _ _ (by simp)).trans dr1) (.slice v2 LP.length n2)).set_box ((World.cell?_setCell_other _ _ _ _ (by simp)).trans ((World.cell?_setCell_other _ _ _ _ (by simp)).trans dr2)) (.slice v3 LA.length n3))
      have HBE := hide ((((k4).setCell (p := ⟨w.heap.size + 1 + 1, 0, none⟩) (by show w.heap.size ≤ w.heap.size + 1 + 1; omega) (.slice v1 LS.length n1)).setCell (p := ⟨w.heap.size + 1 + 1, 1, none⟩) (by show w.heap.size ≤ w.heap.size + 1 + 1; omega) (.slice v2 LP.length n2)).setCell (p := ⟨w.heap.size + 1 + 1, 2, none⟩) (by show w.heap.size ≤ w.heap.size + 1 + 1; omega) (.slice v3 LA.length n3))
      clear HC4 k4 g4 dr0 dr1 dr2 dz0 dz1 dz2
      generalize (((w4.setCell ⟨w.heap.size + 1 + 1, 0, none⟩ (.slice v1 LS.length n1)).setCell ⟨w.heap.size + 1 + 1, 1, none⟩ (.slice v2 LP.length n2)).setCell ⟨w.heap.size + 1 + 1, 2, none⟩ (.slice v3 LA.length n3)) = W at *
      go_wp2_with fail
      refine bodyPost_ret (v := .tuple #[.agg #[.slice v1 LS.length n1, .slice v2 LP.length n2, .slice v3 LA.length n3], .int .i64 0]) ?_ rfl ⟨_, _, _, rfl, HCF.out, HBE.out⟩
      clear HCF HBE
      simp [results, Tryz.results7, go_sem, u0, u1, u2]
    · obtain ⟨rfl, rfl, rfl, rfl⟩ := HF1.out hG
      clear HF1 HF2 HCH1 HCY bc0 bc1 bc2 bX
      go_wp2_with fail
      obtain ⟨u0, u1, u2⟩ := set3 br0 br1 br2 (.slice none 0 0) (.slice none 0 0) (.slice none 0 0)
      have HBE := hide ((((k2).setCell (p := ⟨w.heap.size + 1 + 1, 0, none⟩) (by show w.heap.size ≤ w.heap.size + 1 + 1; omega) (.slice none 0 0)).setCell (p := ⟨w.heap.size + 1 + 1, 1, none⟩) (by show w.heap.size ≤ w.heap.size + 1 + 1; omega) (.slice none 0 0)).setCell (p := ⟨w.heap.size + 1 + 1, 2, none⟩) (by show w.heap.size ≤ w.heap.size + 1 + 1; omega) (.slice none 0 0))
      have HCF := hide ((⟨RowAt.nil _ _ _, RowAt.nil _ _ _, RowAt.nil _ _ _⟩ : CfAt (((w2.setCell ⟨w.heap.size + 1 + 1, 0, none⟩ (.slice none 0 0)).setCell ⟨w.heap.size + 1 + 1, 1, none⟩ (.slice none 0 0)).setCell ⟨w.heap.size + 1 + 1, 2, none⟩ (.slice none 0 0)) (.slice none 0 0) (.slice none 0 0) (.slice none 0 0) [] [] []))
      refine bodyPost_ret (v := .tuple #[.agg #[.slice none 0 0, .slice none 0 0, .slice none 0 0], .int .i64 EE]) ?_ rfl ⟨_, _, _, rfl, HCF.out, HBE.out⟩
      clear HCF HBE br0 bz0 br1 bz1 br2 bz2
      generalize (((w2.setCell ⟨w.heap.size + 1 + 1, 0, none⟩ (.slice none 0 0)).setCell ⟨w.heap.size + 1 + 1, 1, none⟩ (.slice none 0 0)).setCell ⟨w.heap.size + 1 + 1, 2, none⟩ (.slice none 0 0)) = W at *
      simp [results, Tryz.results7, go_sem, u0, u1, u2]
end Go.Proofs.YtonhfgdnkkkikadGreat
