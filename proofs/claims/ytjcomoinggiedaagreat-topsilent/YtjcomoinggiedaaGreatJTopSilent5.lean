/- Texts joined: Ch, Mf, Cap2, Ch2, Cap3, Xg. -/
import Derived.Deep.RegionLaw
import Derived.Deep.AppendLies
import Derived.Maps.AppendAt
import Derived.Deep.MidRow
import Derived.Test.YtjcomoinggiedaaGreatJTopSilent4
namespace Go.Proofs.YtjcomoinggiedaaGreat
open Go.RowKit
set_option linter.unusedVariables false
set_option maxRecDepth 100000

/-- P3.5: what is wanted behind an act. -/
def nxS (S : List Sw) (a : Ax) : List Sw := if a.k = 1 then S ++ [a.s] else S
def nxP (P : List Pr) (a : Ax) : List Pr := if a.k = 2 then P ++ [a.p] else if a.k = 4 then P.eraseIdx (pat P a.n).toNat else if a.k = 6 then P.set (pat P a.n).toNat ⟨(P.getD (pat P a.n).toNat pr0).i, (P.getD (pat P a.n).toNat pr0).s, (P.getD (pat P a.n).toNat pr0).m, (P.getD (pat P a.n).toNat pr0).p, a.m⟩ else P
def nxA (A : List Ac) (a : Ax) : List Ac := if a.k = 3 then A ++ [a.r] else if a.k = 5 then A.eraseIdx a.n.toNat else A

theorem RowAt.set_far {α : Type} {C : α → List Value} {sz : Nat} {w : World} {v : Value} {l : List α} (h : RowAt C sz w v l) {b : Nat} (hne : v.ownBlock ≠ some b) (o : Nat) (x : Value) : RowAt C sz (w.setCell ⟨b, o, none⟩ x) v l := by
  obtain ⟨a, cap, rfl, hn, h0 | ⟨b', off, rfl, hc, hL⟩⟩ := h
  · exact ⟨a, cap, rfl, hn, .inl h0⟩
  · refine ⟨_, cap, rfl, hn, .inr ⟨b', off, rfl, hc, fun i y hy j u hu => ?_⟩⟩
    rw [World.cell?_setCell_other _ _ _ _ (fun e => hne (by simp only [Addr.mk.injEq] at e; simp [Value.ownBlock, e.1]))]
    exact hL i y hy j u hu
theorem CfAt.set_far {w : World} {sv pv av : Value} {S : List Sw} {P : List Pr} {A : List Ac} (h : CfAt w sv pv av S P A) {b : Nat} (h1 : sv.ownBlock ≠ some b) (h2 : pv.ownBlock ≠ some b) (h3 : av.ownBlock ≠ some b) (o : Nat) (x : Value) : CfAt (w.setCell ⟨b, o, none⟩ x) sv pv av S P A :=
  ⟨RowAt.set_far h.1 h1 o x, RowAt.set_far h.2.1 h2 o x, RowAt.set_far h.2.2 h3 o x⟩
theorem sep_sym {u v : Value} (h : u.ownBlock = none ∨ u.ownBlock ≠ v.ownBlock) : v.ownBlock = none ∨ v.ownBlock ≠ u.ownBlock := by
  rcases h with h | h
  · rw [h]
    cases v.ownBlock
    · exact .inl rfl
    · exact .inr (by simp)
  · exact .inr fun e => h e.symm
theorem own_ne {w : World} {B e size n : Nat} {v : Value} {xs : List Value} (h : w.ownsRow B e size v n xs) {b : Nat} (hb : w.heap.size ≤ b) : v.ownBlock ≠ some b := fun e => by
  have := own_in h e
  omega
theorem gfrozen {w w' : World} {row : Option Nat} (hg : w.grownBy w' row) {b o : Nat} (hb : b < w.heap.size) (h : w.frozen? ⟨b, o, none⟩ = false) (hne : some b ≠ row) : w'.frozen? ⟨b, o, none⟩ = false :=
  (World.frozen?_of_block (w := w) (hg.block b hb hne)).trans h
theorem flat_snoc {α : Type} (C : α → List Value) (l : List α) (x : α) : l.flatMap C ++ C x = (l ++ [x]).flatMap C := by simp
theorem port_set : ∀ (l : List Pr) (k : Nat) (m : Int), k < l.length → (l.flatMap prC).set (k * 5 + 4) (.int .i64 m) = (l.set k ⟨(l.getD k pr0).i, (l.getD k pr0).s, (l.getD k pr0).m, (l.getD k pr0).p, m⟩).flatMap prC
  | [], k, m, h => by simp at h
  | y :: r, 0, m, _ => by simp [prC]
  | y :: r, k + 1, m, h => by
    have ih := port_set r k m (by simpa using h)
    have e : (k + 1) * 5 + 4 = (k * 5 + 4) + 5 := by omega
    simp only [List.flatMap_cons, List.set_cons_succ, List.getD_cons_succ] at ih ⊢
    rw [e, ← ih]
    simp [prC]

set_option maxHeartbeats 16000000 in
theorem changed_any (B : Nat) (sv pv av : Value) (S : List Sw) (P : List Pr) (A : List Ac) (a : Ax) (w : World) (ho : Own3 w B sv pv av S P A) (hB : B ≤ w.heap.size) (l1 : S.length ≤ 12) (l2 : P.length ≤ 40) (l3 : A.length ≤ 40)
    (hp : a.k = 4 ∨ a.k = 6 → 0 ≤ pat P a.n) (hn : a.k = 5 → 0 ≤ a.n ∧ a.n < A.length) :
    Calls Tryz.prog 41 #[.agg #[sv, pv, av], actV a] w fun e w' => ∃ su pu au, e = .returned (.agg #[su, pu, au]) ∧ CfAt w' su pu au (nxS S a) (nxP P a) (nxA A a) ∧ Below B w w' := by
  obtain ⟨iS, hiS, zS0, zS1, zS2⟩ := info_parts infoSw
  obtain ⟨iP, hiP, zP0, zP1, zP2⟩ := info_parts infoPr
  obtain ⟨iA, hiA, zA0, zA1, zA2⟩ := info_parts infoAc
  have HO := hide ho
  obtain ⟨s1, s2, rfl⟩ := own_slc ho.s
  obtain ⟨p1, p2, rfl⟩ := own_slc ho.p
  obtain ⟨a1, a2, rfl⟩ := own_slc ho.a
  clear ho
  have HAT := hide (fun W (hW : Below w.heap.size w W) => portAt_any _ _ _ S P A a.n W (HO.out.cf.below hW (Nat.le_refl _)) (by omega))
  obtain ⟨k, si, st, sg, pi, ps, pm, pp, pc, rs, rp, rn, rf, rb, rt, re, ro, rd, n, m, f0, f1, f2, f3, f4, f5, f6, body⟩ := a
  simp only at hp hn HAT ⊢
  have hcase : k = 1 ∨ k = 2 ∨ k = 3 ∨ k = 4 ∨ k = 5 ∨ k = 6 ∨ (¬ k = 1 ∧ ¬ k = 2 ∧ ¬ k = 3 ∧ ¬ k = 4 ∧ ¬ k = 5 ∧ ¬ k = 6) := by omega
  go_enter Tryz.func41, Tryz.ntmps41
  rcases hcase with rfl | rfl | rfl | rfl | rfl | rfl | ⟨k1, k2, k3, k4, k5, k6⟩
  · have hBR : B ≤ w.heap.size + 1 + 1 := by omega
    go_wp2_with (at_builtin; refine wpList_append_own_at _ rfl _ _ 25 rfl B 42 iS _ 3 24 Tryz.underlying25 hiS zS0 zS1 zS2 rfl (by decide) _ _ _ rfl ((((HO.out.s.alloc _).alloc _).alloc _).alloc _) ⟨w.heap.size + 1 + 1 + 1, 0, none⟩ 1 1 [.int .i64 si, .int .i64 st, .int .i64 sg] rfl rfl ?a2 (all_one rfl) ?a3 ?a4 ?a5 ?_)
    case a2 =>
      intro j u hj
      rw [add_fl, Nat.zero_add]
      exact new_cell _ _ (by simp) #[.int .i64 si, .int .i64 st, .int .i64 sg] _ j u (by simpa using hj)
    case a3 => unfold maxLen; omega
    case a4 => omega
    case a5 => simp; omega
    intro v1 w1 ho1 hg1 _ hat
    have c0 : ((((w.alloc (.cells #[.slice s1 S.length s2, .slice p1 P.length p2, .slice a1 A.length a2] 29)).alloc (.cells #[.int .i64 1, .int .i64 si, .int .i64 st, .int .i64 sg, .int .i64 pi, .int .i64 ps, .int .i64 pm, .int .i64 pp, .int .i64 pc, .int .i64 rs, .int .i64 rp, .bool rn, .int .i64 rf, .int .i64 rb, .int .i64 rt, .int .i64 re, .int .i64 ro, .bool rd, .int .i64 n, .int .i64 m, .int .i64 f0, .int .i64 f1, .int .i64 f2, .int .i64 f3, .int .i64 f4, .int .i64 f5, .int .i64 f6, .string body] 54)).alloc (.cells #[.slice none 0 0, .slice none 0 0, .slice none 0 0] 29)).alloc (.cells #[.int .i64 si, .int .i64 st, .int .i64 sg] 42)).cell? ⟨w.heap.size, 0, none⟩ = some (.slice s1 S.length s2) := old_cell (old_cell (old_cell (new_cell w _ rfl _ _ _ _ rfl) _) _) _
    have c1 : ((((w.alloc (.cells #[.slice s1 S.length s2, .slice p1 P.length p2, .slice a1 A.length a2] 29)).alloc (.cells #[.int .i64 1, .int .i64 si, .int .i64 st, .int .i64 sg, .int .i64 pi, .int .i64 ps, .int .i64 pm, .int .i64 pp, .int .i64 pc, .int .i64 rs, .int .i64 rp, .bool rn, .int .i64 rf, .int .i64 rb, .int .i64 rt, .int .i64 re, .int .i64 ro, .bool rd, .int .i64 n, .int .i64 m, .int .i64 f0, .int .i64 f1, .int .i64 f2, .int .i64 f3, .int .i64 f4, .int .i64 f5, .int .i64 f6, .string body] 54)).alloc (.cells #[.slice none 0 0, .slice none 0 0, .slice none 0 0] 29)).alloc (.cells #[.int .i64 si, .int .i64 st, .int .i64 sg] 42)).cell? ⟨w.heap.size, 1, none⟩ = some (.slice p1 P.length p2) := old_cell (old_cell (old_cell (new_cell w _ rfl _ _ _ _ rfl) _) _) _
    have c2 : ((((w.alloc (.cells #[.slice s1 S.length s2, .slice p1 P.length p2, .slice a1 A.length a2] 29)).alloc (.cells #[.int .i64 1, .int .i64 si, .int .i64 st, .int .i64 sg, .int .i64 pi, .int .i64 ps, .int .i64 pm, .int .i64 pp, .int .i64 pc, .int .i64 rs, .int .i64 rp, .bool rn, .int .i64 rf, .int .i64 rb, .int .i64 rt, .int .i64 re, .int .i64 ro, .bool rd, .int .i64 n, .int .i64 m, .int .i64 f0, .int .i64 f1, .int .i64 f2, .int .i64 f3, .int .i64 f4, .int .i64 f5, .int .i64 f6, .string body] 54)).alloc (.cells #[.slice none 0 0, .slice none 0 0, .slice none 0 0] 29)).alloc (.cells #[.int .i64 si, .int .i64 st, .int .i64 sg] 42)).cell? ⟨w.heap.size, 2, none⟩ = some (.slice a1 A.length a2) := old_cell (old_cell (old_cell (new_cell w _ rfl _ _ _ _ rfl) _) _) _
    have r0 : ((((w.alloc (.cells #[.slice s1 S.length s2, .slice p1 P.length p2, .slice a1 A.length a2] 29)).alloc (.cells #[.int .i64 1, .int .i64 si, .int .i64 st, .int .i64 sg, .int .i64 pi, .int .i64 ps, .int .i64 pm, .int .i64 pp, .int .i64 pc, .int .i64 rs, .int .i64 rp, .bool rn, .int .i64 rf, .int .i64 rb, .int .i64 rt, .int .i64 re, .int .i64 ro, .bool rd, .int .i64 n, .int .i64 m, .int .i64 f0, .int .i64 f1, .int .i64 f2, .int .i64 f3, .int .i64 f4, .int .i64 f5, .int .i64 f6, .string body] 54)).alloc (.cells #[.slice none 0 0, .slice none 0 0, .slice none 0 0] 29)).alloc (.cells #[.int .i64 si, .int .i64 st, .int .i64 sg] 42)).cell? ⟨w.heap.size + 1 + 1, 0, none⟩ = some (.slice none 0 0) := old_cell (new_cell _ _ (by simp) _ _ _ _ rfl) _
    have r1 : ((((w.alloc (.cells #[.slice s1 S.length s2, .slice p1 P.length p2, .slice a1 A.length a2] 29)).alloc (.cells #[.int .i64 1, .int .i64 si, .int .i64 st, .int .i64 sg, .int .i64 pi, .int .i64 ps, .int .i64 pm, .int .i64 pp, .int .i64 pc, .int .i64 rs, .int .i64 rp, .bool rn, .int .i64 rf, .int .i64 rb, .int .i64 rt, .int .i64 re, .int .i64 ro, .bool rd, .int .i64 n, .int .i64 m, .int .i64 f0, .int .i64 f1, .int .i64 f2, .int .i64 f3, .int .i64 f4, .int .i64 f5, .int .i64 f6, .string body] 54)).alloc (.cells #[.slice none 0 0, .slice none 0 0, .slice none 0 0] 29)).alloc (.cells #[.int .i64 si, .int .i64 st, .int .i64 sg] 42)).cell? ⟨w.heap.size + 1 + 1, 1, none⟩ = some (.slice none 0 0) := old_cell (new_cell _ _ (by simp) _ _ _ _ rfl) _
    have r2 : ((((w.alloc (.cells #[.slice s1 S.length s2, .slice p1 P.length p2, .slice a1 A.length a2] 29)).alloc (.cells #[.int .i64 1, .int .i64 si, .int .i64 st, .int .i64 sg, .int .i64 pi, .int .i64 ps, .int .i64 pm, .int .i64 pp, .int .i64 pc, .int .i64 rs, .int .i64 rp, .bool rn, .int .i64 rf, .int .i64 rb, .int .i64 rt, .int .i64 re, .int .i64 ro, .bool rd, .int .i64 n, .int .i64 m, .int .i64 f0, .int .i64 f1, .int .i64 f2, .int .i64 f3, .int .i64 f4, .int .i64 f5, .int .i64 f6, .string body] 54)).alloc (.cells #[.slice none 0 0, .slice none 0 0, .slice none 0 0] 29)).alloc (.cells #[.int .i64 si, .int .i64 st, .int .i64 sg] 42)).cell? ⟨w.heap.size + 1 + 1, 2, none⟩ = some (.slice none 0 0) := old_cell (new_cell _ _ (by simp) _ _ _ _ rfl) _
    have hnr : ∀ b, w.heap.size ≤ b → some b ≠ (Value.slice s1 S.length s2).ownBlock := fun b hb e => own_ne HO.out.s hb e.symm
    have d0 := hg1.cell c0 (hnr w.heap.size (Nat.le_refl _))
    have d1 := hg1.cell c1 (hnr w.heap.size (Nat.le_refl _))
    have d2 := hg1.cell c2 (hnr w.heap.size (Nat.le_refl _))
    have q0 := hg1.cell r0 (hnr (w.heap.size + 1 + 1) (by omega))
    have q1 := hg1.cell r1 (hnr (w.heap.size + 1 + 1) (by omega))
    have q2 := hg1.cell r2 (hnr (w.heap.size + 1 + 1) (by omega))
    have y0 : w1.frozen? ⟨w.heap.size, 0, none⟩ = false := gfrozen hg1 (by simp; omega) (old_frozen (by simp; omega) (old_frozen (by simp; omega) (old_frozen (by simp) (new_frozen w _ rfl _ _ _) _) _) _) (hnr w.heap.size (Nat.le_refl _))
    have f0 : w1.frozen? ⟨w.heap.size + 1 + 1, 0, none⟩ = false := gfrozen hg1 (by simp) (old_frozen (by simp) (new_frozen _ _ (by simp) _ _ _) _) (hnr (w.heap.size + 1 + 1) (by omega))
    have f1 : w1.frozen? ⟨w.heap.size + 1 + 1, 1, none⟩ = false := gfrozen hg1 (by simp) (old_frozen (by simp) (new_frozen _ _ (by simp) _ _ _) _) (hnr (w.heap.size + 1 + 1) (by omega))
    have f2 : w1.frozen? ⟨w.heap.size + 1 + 1, 2, none⟩ = false := gfrozen hg1 (by simp) (old_frozen (by simp) (new_frozen _ _ (by simp) _ _ _) _) (hnr (w.heap.size + 1 + 1) (by omega))
    have K1 := hide (World.ownsRow.kept ((((HO.out.p.alloc _).alloc _).alloc _).alloc _) hg1 (sep_sym HO.out.sp))
    have K2 := hide (World.ownsRow.kept ((((HO.out.a.alloc _).alloc _).alloc _).alloc _) hg1 (sep_sym HO.out.sa))
    have KN : Hid (w1.ownsRow B 42 3 v1 (S ++ [(⟨si, st, sg⟩ : Sw)]).length ((S ++ [(⟨si, st, sg⟩ : Sw)]).flatMap swC)) := by
      show World.ownsRow _ _ _ _ _ _ _
      rw [List.length_append, ← flat_snoc]
      exact ho1
    have hv1 : ∀ b, w.heap.size ≤ b → b < w.heap.size + 1 + 1 + 1 + 1 → v1.ownBlock ≠ some b := fun b hb hb2 e => by
      rcases hat with h | h
      · exact own_ne HO.out.s hb (h.symm.trans e)
      · rw [h] at e; simp at e; omega
    obtain ⟨o1, m1, hv⟩ := own_slc ho1
    have CF : CfAt w1 v1 (.slice p1 P.length p2) (.slice a1 A.length a2) (S ++ [(⟨si, st, sg⟩ : Sw)]) P A := ⟨RowAt.of_own swC_len (by omega) KN.out, RowAt.of_own prC_len (by omega) K1.out, RowAt.of_own acC_len (by omega) K2.out⟩
    have HB1 : Below B w w1 := (((((Below.refl _ w).alloc hB _).alloc (by simp; omega) _).alloc (by simp; omega) _).alloc (by simp; omega) _).grown hg1 (by simp; omega) (own_ge HO.out.s)
    subst hv
    have HCF1 := hide CF
    have HBE1 := hide HB1
    have HNE : Hid (∀ b, w.heap.size ≤ b → b < w.heap.size + 1 + 1 + 1 + 1 → (Value.slice o1 (S.length + 1) m1).ownBlock ≠ some b) := hv1
    clear CF HB1 hv1 hat hnr KN ho1 hg1 c0 c1 c2 r0 r1 r2 HAT K1 K2
    have nn1 : w.heap.size ≠ w.heap.size + 1 + 1 := by omega
    go_wp2_with fail
    have e0 : (w1.setCell ⟨w.heap.size, 0, none⟩ (.slice o1 (S.length + 1) m1)).cell? ⟨w.heap.size + 1 + 1, 0, none⟩ = some (.slice none 0 0) := (World.cell?_setCell_other _ _ _ _ (by simp <;> omega)).trans q0
    have e1 : (w1.setCell ⟨w.heap.size, 0, none⟩ (.slice o1 (S.length + 1) m1)).cell? ⟨w.heap.size + 1 + 1, 1, none⟩ = some (.slice none 0 0) := (World.cell?_setCell_other _ _ _ _ (by simp <;> omega)).trans q1
    have e2 : (w1.setCell ⟨w.heap.size, 0, none⟩ (.slice o1 (S.length + 1) m1)).cell? ⟨w.heap.size + 1 + 1, 2, none⟩ = some (.slice none 0 0) := (World.cell?_setCell_other _ _ _ _ (by simp <;> omega)).trans q2
    obtain ⟨u0, u1, u2⟩ := set3 e0 e1 e2 (.slice o1 (S.length + 1) m1) (.slice p1 P.length p2) (.slice a1 A.length a2)
    have HCF := hide (((((HCF1.out).set_far (HNE.out w.heap.size (Nat.le_refl _) (by omega)) (own_ne HO.out.p (b := w.heap.size) (Nat.le_refl _)) (own_ne HO.out.a (b := w.heap.size) (Nat.le_refl _)) 0 (.slice o1 (S.length + 1) m1)).set_far (HNE.out (w.heap.size + 1 + 1) (by omega) (by omega)) (own_ne HO.out.p (b := (w.heap.size + 1 + 1)) (by omega)) (own_ne HO.out.a (b := (w.heap.size + 1 + 1)) (by omega)) 0 (.slice o1 (S.length + 1) m1)).set_far (HNE.out (w.heap.size + 1 + 1) (by omega) (by omega)) (own_ne HO.out.p (b := (w.heap.size + 1 + 1)) (by omega)) (own_ne HO.out.a (b := (w.heap.size + 1 + 1)) (by omega)) 1 (.slice p1 P.length p2)).set_far (HNE.out (w.heap.size + 1 + 1) (by omega) (by omega)) (own_ne HO.out.p (b := (w.heap.size + 1 + 1)) (by omega)) (own_ne HO.out.a (b := (w.heap.size + 1 + 1)) (by omega)) 2 (.slice a1 A.length a2))
    have HBE := hide (((((HBE1.out).setCell (p := ⟨w.heap.size, 0, none⟩) hB (.slice o1 (S.length + 1) m1)).setCell (p := ⟨w.heap.size + 1 + 1, 0, none⟩) hBR (.slice o1 (S.length + 1) m1)).setCell (p := ⟨w.heap.size + 1 + 1, 1, none⟩) hBR (.slice p1 P.length p2)).setCell (p := ⟨w.heap.size + 1 + 1, 2, none⟩) hBR (.slice a1 A.length a2))
    refine bodyPost_ret (v := .agg #[.slice o1 (S.length + 1) m1, .slice p1 P.length p2, .slice a1 A.length a2]) ?_ rfl ⟨_, _, _, rfl, by simpa [nxS, nxP, nxA, Ax.s, Ax.p, Ax.r] using HCF.out, HBE.out⟩
    clear HCF HBE e0 e1 e2
    generalize ((((w1.setCell ⟨w.heap.size, 0, none⟩ (.slice o1 (S.length + 1) m1)).setCell ⟨w.heap.size + 1 + 1, 0, none⟩ (.slice o1 (S.length + 1) m1)).setCell ⟨w.heap.size + 1 + 1, 1, none⟩ (.slice p1 P.length p2)).setCell ⟨w.heap.size + 1 + 1, 2, none⟩ (.slice a1 A.length a2)) = W at *
    simp [results, Tryz.results41, go_sem, u0, u1, u2]
  · have hBR : B ≤ w.heap.size + 1 + 1 := by omega
    go_wp2_with (at_builtin; refine wpList_append_own_at _ rfl _ _ 26 rfl B 45 iP _ 5 40 Tryz.underlying26 hiP zP0 zP1 zP2 rfl (by decide) _ _ _ rfl ((((HO.out.p.alloc _).alloc _).alloc _).alloc _) ⟨w.heap.size + 1 + 1 + 1, 0, none⟩ 1 1 [.int .i64 pi, .int .i64 ps, .int .i64 pm, .int .i64 pp, .int .i64 pc] rfl rfl ?a2 (all_one rfl) ?a3 ?a4 ?a5 ?_)
    case a2 =>
      intro j u hj
      rw [add_fl, Nat.zero_add]
      exact new_cell _ _ (by simp) #[.int .i64 pi, .int .i64 ps, .int .i64 pm, .int .i64 pp, .int .i64 pc] _ j u (by simpa using hj)
    case a3 => unfold maxLen; omega
    case a4 => omega
    case a5 => simp; omega
    intro v1 w1 ho1 hg1 _ hat
    have c0 : ((((w.alloc (.cells #[.slice s1 S.length s2, .slice p1 P.length p2, .slice a1 A.length a2] 29)).alloc (.cells #[.int .i64 2, .int .i64 si, .int .i64 st, .int .i64 sg, .int .i64 pi, .int .i64 ps, .int .i64 pm, .int .i64 pp, .int .i64 pc, .int .i64 rs, .int .i64 rp, .bool rn, .int .i64 rf, .int .i64 rb, .int .i64 rt, .int .i64 re, .int .i64 ro, .bool rd, .int .i64 n, .int .i64 m, .int .i64 f0, .int .i64 f1, .int .i64 f2, .int .i64 f3, .int .i64 f4, .int .i64 f5, .int .i64 f6, .string body] 54)).alloc (.cells #[.slice none 0 0, .slice none 0 0, .slice none 0 0] 29)).alloc (.cells #[.int .i64 pi, .int .i64 ps, .int .i64 pm, .int .i64 pp, .int .i64 pc] 45)).cell? ⟨w.heap.size, 0, none⟩ = some (.slice s1 S.length s2) := old_cell (old_cell (old_cell (new_cell w _ rfl _ _ _ _ rfl) _) _) _
    have c1 : ((((w.alloc (.cells #[.slice s1 S.length s2, .slice p1 P.length p2, .slice a1 A.length a2] 29)).alloc (.cells #[.int .i64 2, .int .i64 si, .int .i64 st, .int .i64 sg, .int .i64 pi, .int .i64 ps, .int .i64 pm, .int .i64 pp, .int .i64 pc, .int .i64 rs, .int .i64 rp, .bool rn, .int .i64 rf, .int .i64 rb, .int .i64 rt, .int .i64 re, .int .i64 ro, .bool rd, .int .i64 n, .int .i64 m, .int .i64 f0, .int .i64 f1, .int .i64 f2, .int .i64 f3, .int .i64 f4, .int .i64 f5, .int .i64 f6, .string body] 54)).alloc (.cells #[.slice none 0 0, .slice none 0 0, .slice none 0 0] 29)).alloc (.cells #[.int .i64 pi, .int .i64 ps, .int .i64 pm, .int .i64 pp, .int .i64 pc] 45)).cell? ⟨w.heap.size, 1, none⟩ = some (.slice p1 P.length p2) := old_cell (old_cell (old_cell (new_cell w _ rfl _ _ _ _ rfl) _) _) _
    have c2 : ((((w.alloc (.cells #[.slice s1 S.length s2, .slice p1 P.length p2, .slice a1 A.length a2] 29)).alloc (.cells #[.int .i64 2, .int .i64 si, .int .i64 st, .int .i64 sg, .int .i64 pi, .int .i64 ps, .int .i64 pm, .int .i64 pp, .int .i64 pc, .int .i64 rs, .int .i64 rp, .bool rn, .int .i64 rf, .int .i64 rb, .int .i64 rt, .int .i64 re, .int .i64 ro, .bool rd, .int .i64 n, .int .i64 m, .int .i64 f0, .int .i64 f1, .int .i64 f2, .int .i64 f3, .int .i64 f4, .int .i64 f5, .int .i64 f6, .string body] 54)).alloc (.cells #[.slice none 0 0, .slice none 0 0, .slice none 0 0] 29)).alloc (.cells #[.int .i64 pi, .int .i64 ps, .int .i64 pm, .int .i64 pp, .int .i64 pc] 45)).cell? ⟨w.heap.size, 2, none⟩ = some (.slice a1 A.length a2) := old_cell (old_cell (old_cell (new_cell w _ rfl _ _ _ _ rfl) _) _) _
    have r0 : ((((w.alloc (.cells #[.slice s1 S.length s2, .slice p1 P.length p2, .slice a1 A.length a2] 29)).alloc (.cells #[.int .i64 2, .int .i64 si, .int .i64 st, .int .i64 sg, .int .i64 pi, .int .i64 ps, .int .i64 pm, .int .i64 pp, .int .i64 pc, .int .i64 rs, .int .i64 rp, .bool rn, .int .i64 rf, .int .i64 rb, .int .i64 rt, .int .i64 re, .int .i64 ro, .bool rd, .int .i64 n, .int .i64 m, .int .i64 f0, .int .i64 f1, .int .i64 f2, .int .i64 f3, .int .i64 f4, .int .i64 f5, .int .i64 f6, .string body] 54)).alloc (.cells #[.slice none 0 0, .slice none 0 0, .slice none 0 0] 29)).alloc (.cells #[.int .i64 pi, .int .i64 ps, .int .i64 pm, .int .i64 pp, .int .i64 pc] 45)).cell? ⟨w.heap.size + 1 + 1, 0, none⟩ = some (.slice none 0 0) := old_cell (new_cell _ _ (by simp) _ _ _ _ rfl) _
    have r1 : ((((w.alloc (.cells #[.slice s1 S.length s2, .slice p1 P.length p2, .slice a1 A.length a2] 29)).alloc (.cells #[.int .i64 2, .int .i64 si, .int .i64 st, .int .i64 sg, .int .i64 pi, .int .i64 ps, .int .i64 pm, .int .i64 pp, .int .i64 pc, .int .i64 rs, .int .i64 rp, .bool rn, .int .i64 rf, .int .i64 rb, .int .i64 rt, .int .i64 re, .int .i64 ro, .bool rd, .int .i64 n, .int .i64 m, .int .i64 f0, .int .i64 f1, .int .i64 f2, .int .i64 f3, .int .i64 f4, .int .i64 f5, .int .i64 f6, .string body] 54)).alloc (.cells #[.slice none 0 0, .slice none 0 0, .slice none 0 0] 29)).alloc (.cells #[.int .i64 pi, .int .i64 ps, .int .i64 pm, .int .i64 pp, .int .i64 pc] 45)).cell? ⟨w.heap.size + 1 + 1, 1, none⟩ = some (.slice none 0 0) := old_cell (new_cell _ _ (by simp) _ _ _ _ rfl) _
    have r2 : ((((w.alloc (.cells #[.slice s1 S.length s2, .slice p1 P.length p2, .slice a1 A.length a2] 29)).alloc (.cells #[.int .i64 2, .int .i64 si, .int .i64 st, .int .i64 sg, .int .i64 pi, .int .i64 ps, .int .i64 pm, .int .i64 pp, .int .i64 pc, .int .i64 rs, .int .i64 rp, .bool rn, .int .i64 rf, .int .i64 rb, .int .i64 rt, .int .i64 re, .int .i64 ro, .bool rd, .int .i64 n, .int .i64 m, .int .i64 f0, .int .i64 f1, .int .i64 f2, .int .i64 f3, .int .i64 f4, .int .i64 f5, .int .i64 f6, .string body] 54)).alloc (.cells #[.slice none 0 0, .slice none 0 0, .slice none 0 0] 29)).alloc (.cells #[.int .i64 pi, .int .i64 ps, .int .i64 pm, .int .i64 pp, .int .i64 pc] 45)).cell? ⟨w.heap.size + 1 + 1, 2, none⟩ = some (.slice none 0 0) := old_cell (new_cell _ _ (by simp) _ _ _ _ rfl) _
    have hnr : ∀ b, w.heap.size ≤ b → some b ≠ (Value.slice p1 P.length p2).ownBlock := fun b hb e => own_ne HO.out.p hb e.symm
    have d0 := hg1.cell c0 (hnr w.heap.size (Nat.le_refl _))
    have d1 := hg1.cell c1 (hnr w.heap.size (Nat.le_refl _))
    have d2 := hg1.cell c2 (hnr w.heap.size (Nat.le_refl _))
    have q0 := hg1.cell r0 (hnr (w.heap.size + 1 + 1) (by omega))
    have q1 := hg1.cell r1 (hnr (w.heap.size + 1 + 1) (by omega))
    have q2 := hg1.cell r2 (hnr (w.heap.size + 1 + 1) (by omega))
    have y0 : w1.frozen? ⟨w.heap.size, 1, none⟩ = false := gfrozen hg1 (by simp; omega) (old_frozen (by simp; omega) (old_frozen (by simp; omega) (old_frozen (by simp) (new_frozen w _ rfl _ _ _) _) _) _) (hnr w.heap.size (Nat.le_refl _))
    have f0 : w1.frozen? ⟨w.heap.size + 1 + 1, 0, none⟩ = false := gfrozen hg1 (by simp) (old_frozen (by simp) (new_frozen _ _ (by simp) _ _ _) _) (hnr (w.heap.size + 1 + 1) (by omega))
    have f1 : w1.frozen? ⟨w.heap.size + 1 + 1, 1, none⟩ = false := gfrozen hg1 (by simp) (old_frozen (by simp) (new_frozen _ _ (by simp) _ _ _) _) (hnr (w.heap.size + 1 + 1) (by omega))
    have f2 : w1.frozen? ⟨w.heap.size + 1 + 1, 2, none⟩ = false := gfrozen hg1 (by simp) (old_frozen (by simp) (new_frozen _ _ (by simp) _ _ _) _) (hnr (w.heap.size + 1 + 1) (by omega))
    have K0 := hide (World.ownsRow.kept ((((HO.out.s.alloc _).alloc _).alloc _).alloc _) hg1 (HO.out.sp))
    have K2 := hide (World.ownsRow.kept ((((HO.out.a.alloc _).alloc _).alloc _).alloc _) hg1 (sep_sym HO.out.pa))
    have KN : Hid (w1.ownsRow B 45 5 v1 (P ++ [(⟨pi, ps, pm, pp, pc⟩ : Pr)]).length ((P ++ [(⟨pi, ps, pm, pp, pc⟩ : Pr)]).flatMap prC)) := by
      show World.ownsRow _ _ _ _ _ _ _
      rw [List.length_append, ← flat_snoc]
      exact ho1
    have hv1 : ∀ b, w.heap.size ≤ b → b < w.heap.size + 1 + 1 + 1 + 1 → v1.ownBlock ≠ some b := fun b hb hb2 e => by
      rcases hat with h | h
      · exact own_ne HO.out.p hb (h.symm.trans e)
      · rw [h] at e; simp at e; omega
    obtain ⟨o1, m1, hv⟩ := own_slc ho1
    have CF : CfAt w1 (.slice s1 S.length s2) v1 (.slice a1 A.length a2) S (P ++ [(⟨pi, ps, pm, pp, pc⟩ : Pr)]) A := ⟨RowAt.of_own swC_len (by omega) K0.out, RowAt.of_own prC_len (by omega) KN.out, RowAt.of_own acC_len (by omega) K2.out⟩
    have HB1 : Below B w w1 := (((((Below.refl _ w).alloc hB _).alloc (by simp; omega) _).alloc (by simp; omega) _).alloc (by simp; omega) _).grown hg1 (by simp; omega) (own_ge HO.out.p)
    subst hv
    have HCF1 := hide CF
    have HBE1 := hide HB1
    have HNE : Hid (∀ b, w.heap.size ≤ b → b < w.heap.size + 1 + 1 + 1 + 1 → (Value.slice o1 (P.length + 1) m1).ownBlock ≠ some b) := hv1
    clear CF HB1 hv1 hat hnr KN ho1 hg1 c0 c1 c2 r0 r1 r2 HAT K0 K2
    have nn1 : w.heap.size ≠ w.heap.size + 1 + 1 := by omega
    go_wp2_with fail
    have e0 : (w1.setCell ⟨w.heap.size, 1, none⟩ (.slice o1 (P.length + 1) m1)).cell? ⟨w.heap.size + 1 + 1, 0, none⟩ = some (.slice none 0 0) := (World.cell?_setCell_other _ _ _ _ (by simp <;> omega)).trans q0
    have e1 : (w1.setCell ⟨w.heap.size, 1, none⟩ (.slice o1 (P.length + 1) m1)).cell? ⟨w.heap.size + 1 + 1, 1, none⟩ = some (.slice none 0 0) := (World.cell?_setCell_other _ _ _ _ (by simp <;> omega)).trans q1
    have e2 : (w1.setCell ⟨w.heap.size, 1, none⟩ (.slice o1 (P.length + 1) m1)).cell? ⟨w.heap.size + 1 + 1, 2, none⟩ = some (.slice none 0 0) := (World.cell?_setCell_other _ _ _ _ (by simp <;> omega)).trans q2
    obtain ⟨u0, u1, u2⟩ := set3 e0 e1 e2 (.slice s1 S.length s2) (.slice o1 (P.length + 1) m1) (.slice a1 A.length a2)
    have HCF := hide (((((HCF1.out).set_far (own_ne HO.out.s (b := w.heap.size) (Nat.le_refl _)) (HNE.out w.heap.size (Nat.le_refl _) (by omega)) (own_ne HO.out.a (b := w.heap.size) (Nat.le_refl _)) 1 (.slice o1 (P.length + 1) m1)).set_far (own_ne HO.out.s (b := (w.heap.size + 1 + 1)) (by omega)) (HNE.out (w.heap.size + 1 + 1) (by omega) (by omega)) (own_ne HO.out.a (b := (w.heap.size + 1 + 1)) (by omega)) 0 (.slice s1 S.length s2)).set_far (own_ne HO.out.s (b := (w.heap.size + 1 + 1)) (by omega)) (HNE.out (w.heap.size + 1 + 1) (by omega) (by omega)) (own_ne HO.out.a (b := (w.heap.size + 1 + 1)) (by omega)) 1 (.slice o1 (P.length + 1) m1)).set_far (own_ne HO.out.s (b := (w.heap.size + 1 + 1)) (by omega)) (HNE.out (w.heap.size + 1 + 1) (by omega) (by omega)) (own_ne HO.out.a (b := (w.heap.size + 1 + 1)) (by omega)) 2 (.slice a1 A.length a2))
    have HBE := hide (((((HBE1.out).setCell (p := ⟨w.heap.size, 1, none⟩) hB (.slice o1 (P.length + 1) m1)).setCell (p := ⟨w.heap.size + 1 + 1, 0, none⟩) hBR (.slice s1 S.length s2)).setCell (p := ⟨w.heap.size + 1 + 1, 1, none⟩) hBR (.slice o1 (P.length + 1) m1)).setCell (p := ⟨w.heap.size + 1 + 1, 2, none⟩) hBR (.slice a1 A.length a2))
    refine bodyPost_ret (v := .agg #[.slice s1 S.length s2, .slice o1 (P.length + 1) m1, .slice a1 A.length a2]) ?_ rfl ⟨_, _, _, rfl, by simpa [nxS, nxP, nxA, Ax.s, Ax.p, Ax.r] using HCF.out, HBE.out⟩
    clear HCF HBE e0 e1 e2
    generalize ((((w1.setCell ⟨w.heap.size, 1, none⟩ (.slice o1 (P.length + 1) m1)).setCell ⟨w.heap.size + 1 + 1, 0, none⟩ (.slice s1 S.length s2)).setCell ⟨w.heap.size + 1 + 1, 1, none⟩ (.slice o1 (P.length + 1) m1)).setCell ⟨w.heap.size + 1 + 1, 2, none⟩ (.slice a1 A.length a2)) = W at *
    simp [results, Tryz.results41, go_sem, u0, u1, u2]
  · have hBR : B ≤ w.heap.size + 1 + 1 := by omega
    go_wp2_with (at_builtin; refine wpList_append_own_at _ rfl _ _ 27 rfl B 52 iA _ 9 72 Tryz.underlying27 hiA zA0 zA1 zA2 rfl (by decide) _ _ _ rfl ((((HO.out.a.alloc _).alloc _).alloc _).alloc _) ⟨w.heap.size + 1 + 1 + 1, 0, none⟩ 1 1 [.int .i64 rs, .int .i64 rp, .bool rn, .int .i64 rf, .int .i64 rb, .int .i64 rt, .int .i64 re, .int .i64 ro, .bool rd] rfl rfl ?a2 (all_one rfl) ?a3 ?a4 ?a5 ?_)
    case a2 =>
      intro j u hj
      rw [add_fl, Nat.zero_add]
      exact new_cell _ _ (by simp) #[.int .i64 rs, .int .i64 rp, .bool rn, .int .i64 rf, .int .i64 rb, .int .i64 rt, .int .i64 re, .int .i64 ro, .bool rd] _ j u (by simpa using hj)
    case a3 => unfold maxLen; omega
    case a4 => omega
    case a5 => simp; omega
    intro v1 w1 ho1 hg1 _ hat
    have c0 : ((((w.alloc (.cells #[.slice s1 S.length s2, .slice p1 P.length p2, .slice a1 A.length a2] 29)).alloc (.cells #[.int .i64 3, .int .i64 si, .int .i64 st, .int .i64 sg, .int .i64 pi, .int .i64 ps, .int .i64 pm, .int .i64 pp, .int .i64 pc, .int .i64 rs, .int .i64 rp, .bool rn, .int .i64 rf, .int .i64 rb, .int .i64 rt, .int .i64 re, .int .i64 ro, .bool rd, .int .i64 n, .int .i64 m, .int .i64 f0, .int .i64 f1, .int .i64 f2, .int .i64 f3, .int .i64 f4, .int .i64 f5, .int .i64 f6, .string body] 54)).alloc (.cells #[.slice none 0 0, .slice none 0 0, .slice none 0 0] 29)).alloc (.cells #[.int .i64 rs, .int .i64 rp, .bool rn, .int .i64 rf, .int .i64 rb, .int .i64 rt, .int .i64 re, .int .i64 ro, .bool rd] 52)).cell? ⟨w.heap.size, 0, none⟩ = some (.slice s1 S.length s2) := old_cell (old_cell (old_cell (new_cell w _ rfl _ _ _ _ rfl) _) _) _
    have c1 : ((((w.alloc (.cells #[.slice s1 S.length s2, .slice p1 P.length p2, .slice a1 A.length a2] 29)).alloc (.cells #[.int .i64 3, .int .i64 si, .int .i64 st, .int .i64 sg, .int .i64 pi, .int .i64 ps, .int .i64 pm, .int .i64 pp, .int .i64 pc, .int .i64 rs, .int .i64 rp, .bool rn, .int .i64 rf, .int .i64 rb, .int .i64 rt, .int .i64 re, .int .i64 ro, .bool rd, .int .i64 n, .int .i64 m, .int .i64 f0, .int .i64 f1, .int .i64 f2, .int .i64 f3, .int .i64 f4, .int .i64 f5, .int .i64 f6, .string body] 54)).alloc (.cells #[.slice none 0 0, .slice none 0 0, .slice none 0 0] 29)).alloc (.cells #[.int .i64 rs, .int .i64 rp, .bool rn, .int .i64 rf, .int .i64 rb, .int .i64 rt, .int .i64 re, .int .i64 ro, .bool rd] 52)).cell? ⟨w.heap.size, 1, none⟩ = some (.slice p1 P.length p2) := old_cell (old_cell (old_cell (new_cell w _ rfl _ _ _ _ rfl) _) _) _
    have c2 : ((((w.alloc (.cells #[.slice s1 S.length s2, .slice p1 P.length p2, .slice a1 A.length a2] 29)).alloc (.cells #[.int .i64 3, .int .i64 si, .int .i64 st, .int .i64 sg, .int .i64 pi, .int .i64 ps, .int .i64 pm, .int .i64 pp, .int .i64 pc, .int .i64 rs, .int .i64 rp, .bool rn, .int .i64 rf, .int .i64 rb, .int .i64 rt, .int .i64 re, .int .i64 ro, .bool rd, .int .i64 n, .int .i64 m, .int .i64 f0, .int .i64 f1, .int .i64 f2, .int .i64 f3, .int .i64 f4, .int .i64 f5, .int .i64 f6, .string body] 54)).alloc (.cells #[.slice none 0 0, .slice none 0 0, .slice none 0 0] 29)).alloc (.cells #[.int .i64 rs, .int .i64 rp, .bool rn, .int .i64 rf, .int .i64 rb, .int .i64 rt, .int .i64 re, .int .i64 ro, .bool rd] 52)).cell? ⟨w.heap.size, 2, none⟩ = some (.slice a1 A.length a2) := old_cell (old_cell (old_cell (new_cell w _ rfl _ _ _ _ rfl) _) _) _
    have r0 : ((((w.alloc (.cells #[.slice s1 S.length s2, .slice p1 P.length p2, .slice a1 A.length a2] 29)).alloc (.cells #[.int .i64 3, .int .i64 si, .int .i64 st, .int .i64 sg, .int .i64 pi, .int .i64 ps, .int .i64 pm, .int .i64 pp, .int .i64 pc, .int .i64 rs, .int .i64 rp, .bool rn, .int .i64 rf, .int .i64 rb, .int .i64 rt, .int .i64 re, .int .i64 ro, .bool rd, .int .i64 n, .int .i64 m, .int .i64 f0, .int .i64 f1, .int .i64 f2, .int .i64 f3, .int .i64 f4, .int .i64 f5, .int .i64 f6, .string body] 54)).alloc (.cells #[.slice none 0 0, .slice none 0 0, .slice none 0 0] 29)).alloc (.cells #[.int .i64 rs, .int .i64 rp, .bool rn, .int .i64 rf, .int .i64 rb, .int .i64 rt, .int .i64 re, .int .i64 ro, .bool rd] 52)).cell? ⟨w.heap.size + 1 + 1, 0, none⟩ = some (.slice none 0 0) := old_cell (new_cell _ _ (by simp) _ _ _ _ rfl) _
    have r1 : ((((w.alloc (.cells #[.slice s1 S.length s2, .slice p1 P.length p2, .slice a1 A.length a2] 29)).alloc (.cells #[.int .i64 3, .int .i64 si, .int .i64 st, .int .i64 sg, .int .i64 pi, .int .i64 ps, .int .i64 pm, .int .i64 pp, .int .i64 pc, .int .i64 rs, .int .i64 rp, .bool rn, .int .i64 rf, .int .i64 rb, .int .i64 rt, .int .i64 re, .int .i64 ro, .bool rd, .int .i64 n, .int .i64 m, .int .i64 f0, .int .i64 f1, .int .i64 f2, .int .i64 f3, .int .i64 f4, .int .i64 f5, .int .i64 f6, .string body] 54)).alloc (.cells #[.slice none 0 0, .slice none 0 0, .slice none 0 0] 29)).alloc (.cells #[.int .i64 rs, .int .i64 rp, .bool rn, .int .i64 rf, .int .i64 rb, .int .i64 rt, .int .i64 re, .int .i64 ro, .bool rd] 52)).cell? ⟨w.heap.size + 1 + 1, 1, none⟩ = some (.slice none 0 0) := old_cell (new_cell _ _ (by simp) _ _ _ _ rfl) _
    have r2 : ((((w.alloc (.cells #[.slice s1 S.length s2, .slice p1 P.length p2, .slice a1 A.length a2] 29)).alloc (.cells #[.int .i64 3, .int .i64 si, .int .i64 st, .int .i64 sg, .int .i64 pi, .int .i64 ps, .int .i64 pm, .int .i64 pp, .int .i64 pc, .int .i64 rs, .int .i64 rp, .bool rn, .int .i64 rf, .int .i64 rb, .int .i64 rt, .int .i64 re, .int .i64 ro, .bool rd, .int .i64 n, .int .i64 m, .int .i64 f0, .int .i64 f1, .int .i64 f2, .int .i64 f3, .int .i64 f4, .int .i64 f5, .int .i64 f6, .string body] 54)).alloc (.cells #[.slice none 0 0, .slice none 0 0, .slice none 0 0] 29)).alloc (.cells #[.int .i64 rs, .int .i64 rp, .bool rn, .int .i64 rf, .int .i64 rb, .int .i64 rt, .int .i64 re, .int .i64 ro, .bool rd] 52)).cell? ⟨w.heap.size + 1 + 1, 2, none⟩ = some (.slice none 0 0) := old_cell (new_cell _ _ (by simp) _ _ _ _ rfl) _
    have hnr : ∀ b, w.heap.size ≤ b → some b ≠ (Value.slice a1 A.length a2).ownBlock := fun b hb e => own_ne HO.out.a hb e.symm
    have d0 := hg1.cell c0 (hnr w.heap.size (Nat.le_refl _))
    have d1 := hg1.cell c1 (hnr w.heap.size (Nat.le_refl _))
    have d2 := hg1.cell c2 (hnr w.heap.size (Nat.le_refl _))
    have q0 := hg1.cell r0 (hnr (w.heap.size + 1 + 1) (by omega))
    have q1 := hg1.cell r1 (hnr (w.heap.size + 1 + 1) (by omega))
    have q2 := hg1.cell r2 (hnr (w.heap.size + 1 + 1) (by omega))
    have y0 : w1.frozen? ⟨w.heap.size, 2, none⟩ = false := gfrozen hg1 (by simp; omega) (old_frozen (by simp; omega) (old_frozen (by simp; omega) (old_frozen (by simp) (new_frozen w _ rfl _ _ _) _) _) _) (hnr w.heap.size (Nat.le_refl _))
    have f0 : w1.frozen? ⟨w.heap.size + 1 + 1, 0, none⟩ = false := gfrozen hg1 (by simp) (old_frozen (by simp) (new_frozen _ _ (by simp) _ _ _) _) (hnr (w.heap.size + 1 + 1) (by omega))
    have f1 : w1.frozen? ⟨w.heap.size + 1 + 1, 1, none⟩ = false := gfrozen hg1 (by simp) (old_frozen (by simp) (new_frozen _ _ (by simp) _ _ _) _) (hnr (w.heap.size + 1 + 1) (by omega))
    have f2 : w1.frozen? ⟨w.heap.size + 1 + 1, 2, none⟩ = false := gfrozen hg1 (by simp) (old_frozen (by simp) (new_frozen _ _ (by simp) _ _ _) _) (hnr (w.heap.size + 1 + 1) (by omega))
    have K0 := hide (World.ownsRow.kept ((((HO.out.s.alloc _).alloc _).alloc _).alloc _) hg1 (HO.out.sa))
    have K1 := hide (World.ownsRow.kept ((((HO.out.p.alloc _).alloc _).alloc _).alloc _) hg1 (HO.out.pa))
    have KN : Hid (w1.ownsRow B 52 9 v1 (A ++ [(⟨rs, rp, rn, rf, rb, rt, re, ro, rd⟩ : Ac)]).length ((A ++ [(⟨rs, rp, rn, rf, rb, rt, re, ro, rd⟩ : Ac)]).flatMap acC)) := by
      show World.ownsRow _ _ _ _ _ _ _
      rw [List.length_append, ← flat_snoc]
      exact ho1
    have hv1 : ∀ b, w.heap.size ≤ b → b < w.heap.size + 1 + 1 + 1 + 1 → v1.ownBlock ≠ some b := fun b hb hb2 e => by
      rcases hat with h | h
      · exact own_ne HO.out.a hb (h.symm.trans e)
      · rw [h] at e; simp at e; omega
    obtain ⟨o1, m1, hv⟩ := own_slc ho1
    have CF : CfAt w1 (.slice s1 S.length s2) (.slice p1 P.length p2) v1 S P (A ++ [(⟨rs, rp, rn, rf, rb, rt, re, ro, rd⟩ : Ac)]) := ⟨RowAt.of_own swC_len (by omega) K0.out, RowAt.of_own prC_len (by omega) K1.out, RowAt.of_own acC_len (by omega) KN.out⟩
    have HB1 : Below B w w1 := (((((Below.refl _ w).alloc hB _).alloc (by simp; omega) _).alloc (by simp; omega) _).alloc (by simp; omega) _).grown hg1 (by simp; omega) (own_ge HO.out.a)
    subst hv
    have HCF1 := hide CF
    have HBE1 := hide HB1
    have HNE : Hid (∀ b, w.heap.size ≤ b → b < w.heap.size + 1 + 1 + 1 + 1 → (Value.slice o1 (A.length + 1) m1).ownBlock ≠ some b) := hv1
    clear CF HB1 hv1 hat hnr KN ho1 hg1 c0 c1 c2 r0 r1 r2 HAT K0 K1
    have nn1 : w.heap.size ≠ w.heap.size + 1 + 1 := by omega
    go_wp2_with fail
    have e0 : (w1.setCell ⟨w.heap.size, 2, none⟩ (.slice o1 (A.length + 1) m1)).cell? ⟨w.heap.size + 1 + 1, 0, none⟩ = some (.slice none 0 0) := (World.cell?_setCell_other _ _ _ _ (by simp <;> omega)).trans q0
    have e1 : (w1.setCell ⟨w.heap.size, 2, none⟩ (.slice o1 (A.length + 1) m1)).cell? ⟨w.heap.size + 1 + 1, 1, none⟩ = some (.slice none 0 0) := (World.cell?_setCell_other _ _ _ _ (by simp <;> omega)).trans q1
    have e2 : (w1.setCell ⟨w.heap.size, 2, none⟩ (.slice o1 (A.length + 1) m1)).cell? ⟨w.heap.size + 1 + 1, 2, none⟩ = some (.slice none 0 0) := (World.cell?_setCell_other _ _ _ _ (by simp <;> omega)).trans q2
    obtain ⟨u0, u1, u2⟩ := set3 e0 e1 e2 (.slice s1 S.length s2) (.slice p1 P.length p2) (.slice o1 (A.length + 1) m1)
    have HCF := hide (((((HCF1.out).set_far (own_ne HO.out.s (b := w.heap.size) (Nat.le_refl _)) (own_ne HO.out.p (b := w.heap.size) (Nat.le_refl _)) (HNE.out w.heap.size (Nat.le_refl _) (by omega)) 2 (.slice o1 (A.length + 1) m1)).set_far (own_ne HO.out.s (b := (w.heap.size + 1 + 1)) (by omega)) (own_ne HO.out.p (b := (w.heap.size + 1 + 1)) (by omega)) (HNE.out (w.heap.size + 1 + 1) (by omega) (by omega)) 0 (.slice s1 S.length s2)).set_far (own_ne HO.out.s (b := (w.heap.size + 1 + 1)) (by omega)) (own_ne HO.out.p (b := (w.heap.size + 1 + 1)) (by omega)) (HNE.out (w.heap.size + 1 + 1) (by omega) (by omega)) 1 (.slice p1 P.length p2)).set_far (own_ne HO.out.s (b := (w.heap.size + 1 + 1)) (by omega)) (own_ne HO.out.p (b := (w.heap.size + 1 + 1)) (by omega)) (HNE.out (w.heap.size + 1 + 1) (by omega) (by omega)) 2 (.slice o1 (A.length + 1) m1))
    have HBE := hide (((((HBE1.out).setCell (p := ⟨w.heap.size, 2, none⟩) hB (.slice o1 (A.length + 1) m1)).setCell (p := ⟨w.heap.size + 1 + 1, 0, none⟩) hBR (.slice s1 S.length s2)).setCell (p := ⟨w.heap.size + 1 + 1, 1, none⟩) hBR (.slice p1 P.length p2)).setCell (p := ⟨w.heap.size + 1 + 1, 2, none⟩) hBR (.slice o1 (A.length + 1) m1))
    refine bodyPost_ret (v := .agg #[.slice s1 S.length s2, .slice p1 P.length p2, .slice o1 (A.length + 1) m1]) ?_ rfl ⟨_, _, _, rfl, by simpa [nxS, nxP, nxA, Ax.s, Ax.p, Ax.r] using HCF.out, HBE.out⟩
    clear HCF HBE e0 e1 e2
    generalize ((((w1.setCell ⟨w.heap.size, 2, none⟩ (.slice o1 (A.length + 1) m1)).setCell ⟨w.heap.size + 1 + 1, 0, none⟩ (.slice s1 S.length s2)).setCell ⟨w.heap.size + 1 + 1, 1, none⟩ (.slice p1 P.length p2)).setCell ⟨w.heap.size + 1 + 1, 2, none⟩ (.slice o1 (A.length + 1) m1)) = W at *
    simp [results, Tryz.results41, go_sem, u0, u1, u2]
  · have hBR : B ≤ w.heap.size + 1 + 1 := by omega
    have hpp := hp (.inl rfl)
    have hbd := idx_bd (fun x : Pr => x.i == n) P
    obtain ⟨kk, hkk⟩ : ∃ kk : Nat, pat P n = (kk : Int) := ⟨(pat P n).toNat, by omega⟩
    have hkl : kk < P.length := by have : pat P n < P.length := hbd.2; omega
    rw [hkk] at HAT
    have HKK := hide hkk
    clear hkk hbd hpp hp hn
    obtain ⟨g, cap, hform, -, -⟩ := HO.out.p.form (by omega)
    simp only [Value.slice.injEq, true_and] at hform
    obtain ⟨rfl, rfl⟩ := hform
    have hgw : g < w.heap.size := own_in HO.out.p rfl
    go_wp2_with fail
    obtain ⟨W0, hW0⟩ : ∃ W0, W0 = (((w.alloc (.cells #[.slice s1 S.length s2, .slice (some ⟨g, 0, none⟩) P.length p2, .slice a1 A.length a2] 29)).alloc (.cells #[.int .i64 4, .int .i64 si, .int .i64 st, .int .i64 sg, .int .i64 pi, .int .i64 ps, .int .i64 pm, .int .i64 pp, .int .i64 pc, .int .i64 rs, .int .i64 rp, .bool rn, .int .i64 rf, .int .i64 rb, .int .i64 rt, .int .i64 re, .int .i64 ro, .bool rd, .int .i64 n, .int .i64 m, .int .i64 f0, .int .i64 f1, .int .i64 f2, .int .i64 f3, .int .i64 f4, .int .i64 f5, .int .i64 f6, .string body] 54)).alloc (.cells #[.slice none 0 0, .slice none 0 0, .slice none 0 0] 29)) := ⟨_, rfl⟩
    have hb0 : Below w.heap.size w W0 := by rw [hW0]; exact (((Below.refl _ w).alloc (Nat.le_refl _) _).alloc (by simp) _).alloc (by simp; omega) _
    have hz0 : W0.heap.size = w.heap.size + 3 := by rw [hW0]; simp
    have c0 : W0.cell? ⟨w.heap.size, 0, none⟩ = some (.slice s1 S.length s2) := by rw [hW0]; exact old_cell (old_cell (new_cell w _ rfl _ _ _ _ rfl) _) _
    have c1 : W0.cell? ⟨w.heap.size, 1, none⟩ = some (.slice (some ⟨g, 0, none⟩) P.length p2) := by rw [hW0]; exact old_cell (old_cell (new_cell w _ rfl _ _ _ _ rfl) _) _
    have c2 : W0.cell? ⟨w.heap.size, 2, none⟩ = some (.slice a1 A.length a2) := by rw [hW0]; exact old_cell (old_cell (new_cell w _ rfl _ _ _ _ rfl) _) _
    have r0 : W0.cell? ⟨w.heap.size + 1 + 1, 0, none⟩ = some (.slice none 0 0) := by rw [hW0]; exact new_cell _ _ (by simp) _ _ _ _ rfl
    have r1 : W0.cell? ⟨w.heap.size + 1 + 1, 1, none⟩ = some (.slice none 0 0) := by rw [hW0]; exact new_cell _ _ (by simp) _ _ _ _ rfl
    have r2 : W0.cell? ⟨w.heap.size + 1 + 1, 2, none⟩ = some (.slice none 0 0) := by rw [hW0]; exact new_cell _ _ (by simp) _ _ _ _ rfl
    have xn : W0.cell? ⟨w.heap.size + 1, 18, none⟩ = some (.int .i64 n) := by rw [hW0]; exact old_cell (new_cell _ _ (by simp) _ _ _ _ rfl) _
    have xm : W0.cell? ⟨w.heap.size + 1, 19, none⟩ = some (.int .i64 m) := by rw [hW0]; exact old_cell (new_cell _ _ (by simp) _ _ _ _ rfl) _
    have zc0 : W0.frozen? ⟨w.heap.size, 0, none⟩ = false := by rw [hW0]; exact old_frozen (by simp; omega) (old_frozen (by simp) (new_frozen w _ rfl _ _ _) _) _
    have zc1 : W0.frozen? ⟨w.heap.size, 1, none⟩ = false := by rw [hW0]; exact old_frozen (by simp; omega) (old_frozen (by simp) (new_frozen w _ rfl _ _ _) _) _
    have zc2 : W0.frozen? ⟨w.heap.size, 2, none⟩ = false := by rw [hW0]; exact old_frozen (by simp; omega) (old_frozen (by simp) (new_frozen w _ rfl _ _ _) _) _
    have zr0 : W0.frozen? ⟨w.heap.size + 1 + 1, 0, none⟩ = false := by rw [hW0]; exact new_frozen _ _ (by simp) _ _ _
    have zr1 : W0.frozen? ⟨w.heap.size + 1 + 1, 1, none⟩ = false := by rw [hW0]; exact new_frozen _ _ (by simp) _ _ _
    have zr2 : W0.frozen? ⟨w.heap.size + 1 + 1, 2, none⟩ = false := by rw [hW0]; exact new_frozen _ _ (by simp) _ _ _
    rw [← hW0]
    clear hW0
    have nn1 : w.heap.size ≠ w.heap.size + 1 + 1 := by omega
    refine (unhide HAT _ hb0).mono ?_
    rintro e w1 ⟨rfl, hb1⟩
    have k1 := hb0.trans (hb1.mono hb0.size)
    have dc0 := cell_beh c0 hb1 (Nat.le_refl _)
    have dc1 := cell_beh c1 hb1 (Nat.le_refl _)
    have dc2 := cell_beh c2 hb1 (Nat.le_refl _)
    have dr0 := cell_beh r0 hb1 (Nat.le_refl _)
    have dr1 := cell_beh r1 hb1 (Nat.le_refl _)
    have dr2 := cell_beh r2 hb1 (Nat.le_refl _)
    have fc0 := (hb1.frozen (p := ⟨w.heap.size, 0, none⟩) (show w.heap.size < W0.heap.size by omega)).trans zc0
    have fc1 := (hb1.frozen (p := ⟨w.heap.size, 1, none⟩) (show w.heap.size < W0.heap.size by omega)).trans zc1
    have fc2 := (hb1.frozen (p := ⟨w.heap.size, 2, none⟩) (show w.heap.size < W0.heap.size by omega)).trans zc2
    have fr0 := (hb1.frozen (p := ⟨w.heap.size + 1 + 1, 0, none⟩) (show w.heap.size + 1 + 1 < W0.heap.size by omega)).trans zr0
    have fr1 := (hb1.frozen (p := ⟨w.heap.size + 1 + 1, 1, none⟩) (show w.heap.size + 1 + 1 < W0.heap.size by omega)).trans zr1
    have fr2 := (hb1.frozen (p := ⟨w.heap.size + 1 + 1, 2, none⟩) (show w.heap.size + 1 + 1 < W0.heap.size by omega)).trans zr2
    have O0 := hide (own_below HO.out.s k1)
    have O1 := hide (own_below HO.out.p k1)
    have O2 := hide (own_below HO.out.a k1)
    have hsz1 := hb1.size
    clear HAT hb0 hb1 c0 c1 c2 r0 r1 r2 xn xm zc0 zc1 zc2 zr0 zr1 zr2
    go_wp2_with fail
    refine (deletePr_any P B g p2 kk w1 O1.out hkl (by omega)).mono ?_
    rintro e w2 ⟨rfl, ho2, hg2⟩
    have d0 := hg2.cell dc0 (show some w.heap.size ≠ some g by simp; omega)
    have d1 := hg2.cell dc1 (show some w.heap.size ≠ some g by simp; omega)
    have d2 := hg2.cell dc2 (show some w.heap.size ≠ some g by simp; omega)
    have q0 := hg2.cell dr0 (show some (w.heap.size + 1 + 1) ≠ some g by simp; omega)
    have q1 := hg2.cell dr1 (show some (w.heap.size + 1 + 1) ≠ some g by simp; omega)
    have q2 := hg2.cell dr2 (show some (w.heap.size + 1 + 1) ≠ some g by simp; omega)
    have y0 := gfrozen hg2 (show w.heap.size < w1.heap.size by omega) fc1 (show some w.heap.size ≠ some g by simp; omega)
    have f0 := gfrozen hg2 (show w.heap.size + 1 + 1 < w1.heap.size by omega) fr0 (show some (w.heap.size + 1 + 1) ≠ some g by simp; omega)
    have f1 := gfrozen hg2 (show w.heap.size + 1 + 1 < w1.heap.size by omega) fr1 (show some (w.heap.size + 1 + 1) ≠ some g by simp; omega)
    have f2 := gfrozen hg2 (show w.heap.size + 1 + 1 < w1.heap.size by omega) fr2 (show some (w.heap.size + 1 + 1) ≠ some g by simp; omega)
    have K0 := hide (World.ownsRow.kept O0.out hg2 HO.out.sp)
    have K2 := hide (World.ownsRow.kept O2.out hg2 (sep_sym HO.out.pa))
    have CF : CfAt w2 (.slice s1 S.length s2) (.slice (some ⟨g, 0, none⟩) (P.length - 1) p2) (.slice a1 A.length a2) S (P.eraseIdx kk) A := ⟨RowAt.of_own swC_len (by omega) K0.out, RowAt.of_own prC_len (by omega) (by rw [List.length_eraseIdx_of_lt hkl]; exact ho2), RowAt.of_own acC_len (by omega) K2.out⟩
    have HB1 : Below B w w2 := (k1.mono hB).grown hg2 (Nat.le_trans hB k1.size) (fun b e => by simp at e; subst e; exact own_ge HO.out.p _ rfl)
    have HCF1 := hide CF
    have HBE1 := hide HB1
    clear CF HB1 ho2 hg2 K0 K2 O0 O1 O2 dc0 dc1 dc2 dr0 dr1 dr2 fc0 fc1 fc2 fr0 fr1 fr2 k1 hsz1
    go_wp2_with fail
    have e0 : (w2.setCell ⟨w.heap.size, 1, none⟩ (.slice (some ⟨g, 0, none⟩) (P.length - 1) p2)).cell? ⟨w.heap.size + 1 + 1, 0, none⟩ = some (.slice none 0 0) := (World.cell?_setCell_other _ _ _ _ (by simp <;> omega)).trans q0
    have e1 : (w2.setCell ⟨w.heap.size, 1, none⟩ (.slice (some ⟨g, 0, none⟩) (P.length - 1) p2)).cell? ⟨w.heap.size + 1 + 1, 1, none⟩ = some (.slice none 0 0) := (World.cell?_setCell_other _ _ _ _ (by simp <;> omega)).trans q1
    have e2 : (w2.setCell ⟨w.heap.size, 1, none⟩ (.slice (some ⟨g, 0, none⟩) (P.length - 1) p2)).cell? ⟨w.heap.size + 1 + 1, 2, none⟩ = some (.slice none 0 0) := (World.cell?_setCell_other _ _ _ _ (by simp <;> omega)).trans q2
    obtain ⟨u0, u1, u2⟩ := set3 e0 e1 e2 (.slice s1 S.length s2) (.slice (some ⟨g, 0, none⟩) (P.length - 1) p2) (.slice a1 A.length a2)
    have HCF := hide (((((HCF1.out).set_far (own_ne HO.out.s (b := w.heap.size) (Nat.le_refl _)) (show (Value.slice (some ⟨g, 0, none⟩) _ _).ownBlock ≠ some (w.heap.size) by simp [Value.ownBlock]; omega) (own_ne HO.out.a (b := w.heap.size) (Nat.le_refl _)) 1 (.slice (some ⟨g, 0, none⟩) (P.length - 1) p2)).set_far (own_ne HO.out.s (b := (w.heap.size + 1 + 1)) (by omega)) (show (Value.slice (some ⟨g, 0, none⟩) _ _).ownBlock ≠ some ((w.heap.size + 1 + 1)) by simp [Value.ownBlock]; omega) (own_ne HO.out.a (b := (w.heap.size + 1 + 1)) (by omega)) 0 (.slice s1 S.length s2)).set_far (own_ne HO.out.s (b := (w.heap.size + 1 + 1)) (by omega)) (show (Value.slice (some ⟨g, 0, none⟩) _ _).ownBlock ≠ some ((w.heap.size + 1 + 1)) by simp [Value.ownBlock]; omega) (own_ne HO.out.a (b := (w.heap.size + 1 + 1)) (by omega)) 1 (.slice (some ⟨g, 0, none⟩) (P.length - 1) p2)).set_far (own_ne HO.out.s (b := (w.heap.size + 1 + 1)) (by omega)) (show (Value.slice (some ⟨g, 0, none⟩) _ _).ownBlock ≠ some ((w.heap.size + 1 + 1)) by simp [Value.ownBlock]; omega) (own_ne HO.out.a (b := (w.heap.size + 1 + 1)) (by omega)) 2 (.slice a1 A.length a2))
    have HBE := hide (((((HBE1.out).setCell (p := ⟨w.heap.size, 1, none⟩) hB (.slice (some ⟨g, 0, none⟩) (P.length - 1) p2)).setCell (p := ⟨w.heap.size + 1 + 1, 0, none⟩) hBR (.slice s1 S.length s2)).setCell (p := ⟨w.heap.size + 1 + 1, 1, none⟩) hBR (.slice (some ⟨g, 0, none⟩) (P.length - 1) p2)).setCell (p := ⟨w.heap.size + 1 + 1, 2, none⟩) hBR (.slice a1 A.length a2))
    refine bodyPost_ret (v := .agg #[.slice s1 S.length s2, .slice (some ⟨g, 0, none⟩) (P.length - 1) p2, .slice a1 A.length a2]) ?_ rfl ⟨_, _, _, rfl, by simpa [nxS, nxP, nxA, HKK.out] using HCF.out, HBE.out⟩
    clear HCF HBE e0 e1 e2
    generalize ((((w2.setCell ⟨w.heap.size, 1, none⟩ (.slice (some ⟨g, 0, none⟩) (P.length - 1) p2)).setCell ⟨w.heap.size + 1 + 1, 0, none⟩ (.slice s1 S.length s2)).setCell ⟨w.heap.size + 1 + 1, 1, none⟩ (.slice (some ⟨g, 0, none⟩) (P.length - 1) p2)).setCell ⟨w.heap.size + 1 + 1, 2, none⟩ (.slice a1 A.length a2)) = W at *
    simp [results, Tryz.results41, go_sem, u0, u1, u2]
  · have hBR : B ≤ w.heap.size + 1 + 1 := by omega
    obtain ⟨hn0, hn1⟩ := hn rfl
    obtain ⟨kk, rfl⟩ := Int.eq_ofNat_of_zero_le hn0
    have hkl : kk < A.length := by omega
    clear hn0 hn1 hp hn HAT
    obtain ⟨g, cap, hform, -, -⟩ := HO.out.a.form (by omega)
    simp only [Value.slice.injEq, true_and] at hform
    obtain ⟨rfl, rfl⟩ := hform
    have hgw : g < w.heap.size := own_in HO.out.a rfl
    go_wp2_with fail
    obtain ⟨W0, hW0⟩ : ∃ W0, W0 = (((w.alloc (.cells #[.slice s1 S.length s2, .slice p1 P.length p2, .slice (some ⟨g, 0, none⟩) A.length a2] 29)).alloc (.cells #[.int .i64 5, .int .i64 si, .int .i64 st, .int .i64 sg, .int .i64 pi, .int .i64 ps, .int .i64 pm, .int .i64 pp, .int .i64 pc, .int .i64 rs, .int .i64 rp, .bool rn, .int .i64 rf, .int .i64 rb, .int .i64 rt, .int .i64 re, .int .i64 ro, .bool rd, .int .i64 (kk : Int), .int .i64 m, .int .i64 f0, .int .i64 f1, .int .i64 f2, .int .i64 f3, .int .i64 f4, .int .i64 f5, .int .i64 f6, .string body] 54)).alloc (.cells #[.slice none 0 0, .slice none 0 0, .slice none 0 0] 29)) := ⟨_, rfl⟩
    have hb0 : Below w.heap.size w W0 := by rw [hW0]; exact (((Below.refl _ w).alloc (Nat.le_refl _) _).alloc (by simp) _).alloc (by simp; omega) _
    have hz0 : W0.heap.size = w.heap.size + 3 := by rw [hW0]; simp
    have c0 : W0.cell? ⟨w.heap.size, 0, none⟩ = some (.slice s1 S.length s2) := by rw [hW0]; exact old_cell (old_cell (new_cell w _ rfl _ _ _ _ rfl) _) _
    have c1 : W0.cell? ⟨w.heap.size, 1, none⟩ = some (.slice p1 P.length p2) := by rw [hW0]; exact old_cell (old_cell (new_cell w _ rfl _ _ _ _ rfl) _) _
    have c2 : W0.cell? ⟨w.heap.size, 2, none⟩ = some (.slice (some ⟨g, 0, none⟩) A.length a2) := by rw [hW0]; exact old_cell (old_cell (new_cell w _ rfl _ _ _ _ rfl) _) _
    have r0 : W0.cell? ⟨w.heap.size + 1 + 1, 0, none⟩ = some (.slice none 0 0) := by rw [hW0]; exact new_cell _ _ (by simp) _ _ _ _ rfl
    have r1 : W0.cell? ⟨w.heap.size + 1 + 1, 1, none⟩ = some (.slice none 0 0) := by rw [hW0]; exact new_cell _ _ (by simp) _ _ _ _ rfl
    have r2 : W0.cell? ⟨w.heap.size + 1 + 1, 2, none⟩ = some (.slice none 0 0) := by rw [hW0]; exact new_cell _ _ (by simp) _ _ _ _ rfl
    have xn : W0.cell? ⟨w.heap.size + 1, 18, none⟩ = some (.int .i64 (kk : Int)) := by rw [hW0]; exact old_cell (new_cell _ _ (by simp) _ _ _ _ rfl) _
    have xm : W0.cell? ⟨w.heap.size + 1, 19, none⟩ = some (.int .i64 m) := by rw [hW0]; exact old_cell (new_cell _ _ (by simp) _ _ _ _ rfl) _
    have zc0 : W0.frozen? ⟨w.heap.size, 0, none⟩ = false := by rw [hW0]; exact old_frozen (by simp; omega) (old_frozen (by simp) (new_frozen w _ rfl _ _ _) _) _
    have zc1 : W0.frozen? ⟨w.heap.size, 1, none⟩ = false := by rw [hW0]; exact old_frozen (by simp; omega) (old_frozen (by simp) (new_frozen w _ rfl _ _ _) _) _
    have zc2 : W0.frozen? ⟨w.heap.size, 2, none⟩ = false := by rw [hW0]; exact old_frozen (by simp; omega) (old_frozen (by simp) (new_frozen w _ rfl _ _ _) _) _
    have zr0 : W0.frozen? ⟨w.heap.size + 1 + 1, 0, none⟩ = false := by rw [hW0]; exact new_frozen _ _ (by simp) _ _ _
    have zr1 : W0.frozen? ⟨w.heap.size + 1 + 1, 1, none⟩ = false := by rw [hW0]; exact new_frozen _ _ (by simp) _ _ _
    have zr2 : W0.frozen? ⟨w.heap.size + 1 + 1, 2, none⟩ = false := by rw [hW0]; exact new_frozen _ _ (by simp) _ _ _
    rw [← hW0]
    clear hW0
    have nn1 : w.heap.size ≠ w.heap.size + 1 + 1 := by omega
    have k1 := hb0
    have O0 := hide (own_below HO.out.s k1)
    have O1 := hide (own_below HO.out.p k1)
    have O2 := hide (own_below HO.out.a k1)
    refine (deleteAc_any A B g a2 kk W0 O2.out hkl (by omega)).mono ?_
    rintro e w2 ⟨rfl, ho2, hg2⟩
    have d0 := hg2.cell c0 (show some w.heap.size ≠ some g by simp; omega)
    have d1 := hg2.cell c1 (show some w.heap.size ≠ some g by simp; omega)
    have d2 := hg2.cell c2 (show some w.heap.size ≠ some g by simp; omega)
    have q0 := hg2.cell r0 (show some (w.heap.size + 1 + 1) ≠ some g by simp; omega)
    have q1 := hg2.cell r1 (show some (w.heap.size + 1 + 1) ≠ some g by simp; omega)
    have q2 := hg2.cell r2 (show some (w.heap.size + 1 + 1) ≠ some g by simp; omega)
    have y0 := gfrozen hg2 (show w.heap.size < W0.heap.size by omega) zc2 (show some w.heap.size ≠ some g by simp; omega)
    have f0 := gfrozen hg2 (show w.heap.size + 1 + 1 < W0.heap.size by omega) zr0 (show some (w.heap.size + 1 + 1) ≠ some g by simp; omega)
    have f1 := gfrozen hg2 (show w.heap.size + 1 + 1 < W0.heap.size by omega) zr1 (show some (w.heap.size + 1 + 1) ≠ some g by simp; omega)
    have f2 := gfrozen hg2 (show w.heap.size + 1 + 1 < W0.heap.size by omega) zr2 (show some (w.heap.size + 1 + 1) ≠ some g by simp; omega)
    have K0 := hide (World.ownsRow.kept O0.out hg2 HO.out.sa)
    have K1 := hide (World.ownsRow.kept O1.out hg2 HO.out.pa)
    have CF : CfAt w2 (.slice s1 S.length s2) (.slice p1 P.length p2) (.slice (some ⟨g, 0, none⟩) (A.length - 1) a2) S P (A.eraseIdx kk) := ⟨RowAt.of_own swC_len (by omega) K0.out, RowAt.of_own prC_len (by omega) K1.out, RowAt.of_own acC_len (by omega) (by rw [List.length_eraseIdx_of_lt hkl]; exact ho2)⟩
    have HB1 : Below B w w2 := (k1.mono hB).grown hg2 (Nat.le_trans hB k1.size) (fun b e => by simp at e; subst e; exact own_ge HO.out.a _ rfl)
    have HCF1 := hide CF
    have HBE1 := hide HB1
    clear CF HB1 ho2 hg2 K0 K1 O0 O1 O2 k1 hb0 c0 c1 c2 r0 r1 r2 xn xm zc0 zc1 zc2 zr0 zr1 zr2
    go_wp2_with fail
    have e0 : (w2.setCell ⟨w.heap.size, 2, none⟩ (.slice (some ⟨g, 0, none⟩) (A.length - 1) a2)).cell? ⟨w.heap.size + 1 + 1, 0, none⟩ = some (.slice none 0 0) := (World.cell?_setCell_other _ _ _ _ (by simp <;> omega)).trans q0
    have e1 : (w2.setCell ⟨w.heap.size, 2, none⟩ (.slice (some ⟨g, 0, none⟩) (A.length - 1) a2)).cell? ⟨w.heap.size + 1 + 1, 1, none⟩ = some (.slice none 0 0) := (World.cell?_setCell_other _ _ _ _ (by simp <;> omega)).trans q1
    have e2 : (w2.setCell ⟨w.heap.size, 2, none⟩ (.slice (some ⟨g, 0, none⟩) (A.length - 1) a2)).cell? ⟨w.heap.size + 1 + 1, 2, none⟩ = some (.slice none 0 0) := (World.cell?_setCell_other _ _ _ _ (by simp <;> omega)).trans q2
    obtain ⟨u0, u1, u2⟩ := set3 e0 e1 e2 (.slice s1 S.length s2) (.slice p1 P.length p2) (.slice (some ⟨g, 0, none⟩) (A.length - 1) a2)
    have HCF := hide (((((HCF1.out).set_far (own_ne HO.out.s (b := w.heap.size) (Nat.le_refl _)) (own_ne HO.out.p (b := w.heap.size) (Nat.le_refl _)) (show (Value.slice (some ⟨g, 0, none⟩) _ _).ownBlock ≠ some (w.heap.size) by simp [Value.ownBlock]; omega) 2 (.slice (some ⟨g, 0, none⟩) (A.length - 1) a2)).set_far (own_ne HO.out.s (b := (w.heap.size + 1 + 1)) (by omega)) (own_ne HO.out.p (b := (w.heap.size + 1 + 1)) (by omega)) (show (Value.slice (some ⟨g, 0, none⟩) _ _).ownBlock ≠ some ((w.heap.size + 1 + 1)) by simp [Value.ownBlock]; omega) 0 (.slice s1 S.length s2)).set_far (own_ne HO.out.s (b := (w.heap.size + 1 + 1)) (by omega)) (own_ne HO.out.p (b := (w.heap.size + 1 + 1)) (by omega)) (show (Value.slice (some ⟨g, 0, none⟩) _ _).ownBlock ≠ some ((w.heap.size + 1 + 1)) by simp [Value.ownBlock]; omega) 1 (.slice p1 P.length p2)).set_far (own_ne HO.out.s (b := (w.heap.size + 1 + 1)) (by omega)) (own_ne HO.out.p (b := (w.heap.size + 1 + 1)) (by omega)) (show (Value.slice (some ⟨g, 0, none⟩) _ _).ownBlock ≠ some ((w.heap.size + 1 + 1)) by simp [Value.ownBlock]; omega) 2 (.slice (some ⟨g, 0, none⟩) (A.length - 1) a2))
    have HBE := hide (((((HBE1.out).setCell (p := ⟨w.heap.size, 2, none⟩) hB (.slice (some ⟨g, 0, none⟩) (A.length - 1) a2)).setCell (p := ⟨w.heap.size + 1 + 1, 0, none⟩) hBR (.slice s1 S.length s2)).setCell (p := ⟨w.heap.size + 1 + 1, 1, none⟩) hBR (.slice p1 P.length p2)).setCell (p := ⟨w.heap.size + 1 + 1, 2, none⟩) hBR (.slice (some ⟨g, 0, none⟩) (A.length - 1) a2))
    refine bodyPost_ret (v := .agg #[.slice s1 S.length s2, .slice p1 P.length p2, .slice (some ⟨g, 0, none⟩) (A.length - 1) a2]) ?_ rfl ⟨_, _, _, rfl, by simpa [nxS, nxP, nxA] using HCF.out, HBE.out⟩
    clear HCF HBE e0 e1 e2
    generalize ((((w2.setCell ⟨w.heap.size, 2, none⟩ (.slice (some ⟨g, 0, none⟩) (A.length - 1) a2)).setCell ⟨w.heap.size + 1 + 1, 0, none⟩ (.slice s1 S.length s2)).setCell ⟨w.heap.size + 1 + 1, 1, none⟩ (.slice p1 P.length p2)).setCell ⟨w.heap.size + 1 + 1, 2, none⟩ (.slice (some ⟨g, 0, none⟩) (A.length - 1) a2)) = W at *
    simp [results, Tryz.results41, go_sem, u0, u1, u2]
  · have hBR : B ≤ w.heap.size + 1 + 1 := by omega
    have hpp := hp (.inr rfl)
    have hbd := idx_bd (fun x : Pr => x.i == n) P
    obtain ⟨kk, hkk⟩ : ∃ kk : Nat, pat P n = (kk : Int) := ⟨(pat P n).toNat, by omega⟩
    have hkl : kk < P.length := by have : pat P n < P.length := hbd.2; omega
    rw [hkk] at HAT
    have HKK := hide hkk
    clear hkk hbd hpp hp hn
    obtain ⟨g, cap, hform, -, -⟩ := HO.out.p.form (by omega)
    simp only [Value.slice.injEq, true_and] at hform
    obtain ⟨rfl, rfl⟩ := hform
    have hgw : g < w.heap.size := own_in HO.out.p rfl
    have q3 : (0 : Int) ≤ (kk : Int) := by omega
    have q4 : (kk : Int) < (P.length : Int) := by omega
    go_wp2_with fail
    obtain ⟨W0, hW0⟩ : ∃ W0, W0 = (((w.alloc (.cells #[.slice s1 S.length s2, .slice (some ⟨g, 0, none⟩) P.length p2, .slice a1 A.length a2] 29)).alloc (.cells #[.int .i64 6, .int .i64 si, .int .i64 st, .int .i64 sg, .int .i64 pi, .int .i64 ps, .int .i64 pm, .int .i64 pp, .int .i64 pc, .int .i64 rs, .int .i64 rp, .bool rn, .int .i64 rf, .int .i64 rb, .int .i64 rt, .int .i64 re, .int .i64 ro, .bool rd, .int .i64 n, .int .i64 m, .int .i64 f0, .int .i64 f1, .int .i64 f2, .int .i64 f3, .int .i64 f4, .int .i64 f5, .int .i64 f6, .string body] 54)).alloc (.cells #[.slice none 0 0, .slice none 0 0, .slice none 0 0] 29)) := ⟨_, rfl⟩
    have hb0 : Below w.heap.size w W0 := by rw [hW0]; exact (((Below.refl _ w).alloc (Nat.le_refl _) _).alloc (by simp) _).alloc (by simp; omega) _
    have hz0 : W0.heap.size = w.heap.size + 3 := by rw [hW0]; simp
    have c0 : W0.cell? ⟨w.heap.size, 0, none⟩ = some (.slice s1 S.length s2) := by rw [hW0]; exact old_cell (old_cell (new_cell w _ rfl _ _ _ _ rfl) _) _
    have c1 : W0.cell? ⟨w.heap.size, 1, none⟩ = some (.slice (some ⟨g, 0, none⟩) P.length p2) := by rw [hW0]; exact old_cell (old_cell (new_cell w _ rfl _ _ _ _ rfl) _) _
    have c2 : W0.cell? ⟨w.heap.size, 2, none⟩ = some (.slice a1 A.length a2) := by rw [hW0]; exact old_cell (old_cell (new_cell w _ rfl _ _ _ _ rfl) _) _
    have r0 : W0.cell? ⟨w.heap.size + 1 + 1, 0, none⟩ = some (.slice none 0 0) := by rw [hW0]; exact new_cell _ _ (by simp) _ _ _ _ rfl
    have r1 : W0.cell? ⟨w.heap.size + 1 + 1, 1, none⟩ = some (.slice none 0 0) := by rw [hW0]; exact new_cell _ _ (by simp) _ _ _ _ rfl
    have r2 : W0.cell? ⟨w.heap.size + 1 + 1, 2, none⟩ = some (.slice none 0 0) := by rw [hW0]; exact new_cell _ _ (by simp) _ _ _ _ rfl
    have xn : W0.cell? ⟨w.heap.size + 1, 18, none⟩ = some (.int .i64 n) := by rw [hW0]; exact old_cell (new_cell _ _ (by simp) _ _ _ _ rfl) _
    have xm : W0.cell? ⟨w.heap.size + 1, 19, none⟩ = some (.int .i64 m) := by rw [hW0]; exact old_cell (new_cell _ _ (by simp) _ _ _ _ rfl) _
    have zc0 : W0.frozen? ⟨w.heap.size, 0, none⟩ = false := by rw [hW0]; exact old_frozen (by simp; omega) (old_frozen (by simp) (new_frozen w _ rfl _ _ _) _) _
    have zc1 : W0.frozen? ⟨w.heap.size, 1, none⟩ = false := by rw [hW0]; exact old_frozen (by simp; omega) (old_frozen (by simp) (new_frozen w _ rfl _ _ _) _) _
    have zc2 : W0.frozen? ⟨w.heap.size, 2, none⟩ = false := by rw [hW0]; exact old_frozen (by simp; omega) (old_frozen (by simp) (new_frozen w _ rfl _ _ _) _) _
    have zr0 : W0.frozen? ⟨w.heap.size + 1 + 1, 0, none⟩ = false := by rw [hW0]; exact new_frozen _ _ (by simp) _ _ _
    have zr1 : W0.frozen? ⟨w.heap.size + 1 + 1, 1, none⟩ = false := by rw [hW0]; exact new_frozen _ _ (by simp) _ _ _
    have zr2 : W0.frozen? ⟨w.heap.size + 1 + 1, 2, none⟩ = false := by rw [hW0]; exact new_frozen _ _ (by simp) _ _ _
    rw [← hW0]
    clear hW0
    have nn1 : w.heap.size ≠ w.heap.size + 1 + 1 := by omega
    have O1 := hide (own_below HO.out.p hb0)
    have hrow := (O1.out.cellAt (kk * 5 + 4) (by omega)).trans (flat_at prC_len P kk _ (getD_at pr0 hkl) 4 _ rfl)
    have hrf := O1.out.frozenAt (kk * 5 + 4)
    have hg1 : g ≠ w.heap.size := by omega
    have hg2 : g ≠ w.heap.size + 1 := by omega
    have hgW : g < W0.heap.size := by omega
    go_region_held3 (fun w' => w'.cell? ⟨w.heap.size, 0, none⟩ = some (.slice s1 S.length s2) ∧ w'.cell? ⟨w.heap.size, 1, none⟩ = some (.slice (some ⟨g, 0, none⟩) P.length p2) ∧ w'.cell? ⟨w.heap.size, 2, none⟩ = some (.slice a1 A.length a2) ∧ w'.cell? ⟨w.heap.size + 1, 18, none⟩ = some (.int .i64 n) ∧ w'.cell? ⟨w.heap.size + 1, 19, none⟩ = some (.int .i64 m)) (go_keep)
      (first | (go_at_call 65; refine (unhide HAT _ hb0.drew).mono ?_; rintro e w1 ⟨rfl, hc1⟩; have g1 : Below W0.heap.size W0 w1 := ((Below.refl _ W0).drew).trans hc1; have v0 := cell_beh c0 g1 (Nat.le_refl _); have v1 := cell_beh c1 g1 (Nat.le_refl _); have v2 := cell_beh c2 g1 (Nat.le_refl _); have v3 := cell_beh xn g1 (Nat.le_refl _); have v4 := cell_beh xm g1 (Nat.le_refl _); have vr := cell_beh hrow g1 (Nat.le_refl _); have vf := (g1.frozen (p := ⟨g, kk * 5 + 4, none⟩) hgW).trans hrf))
    have k1 := hb0.trans (g1.mono hb0.size)
    have tq0 := cell_beh r0 g1 (Nat.le_refl _)
    have tq1 := cell_beh r1 g1 (Nat.le_refl _)
    have tq2 := cell_beh r2 g1 (Nat.le_refl _)
    have q0 : (w1.setCell ⟨g, kk * 5 + 4, none⟩ (.int .i64 m)).cell? ⟨w.heap.size + 1 + 1, 0, none⟩ = some (.slice none 0 0) := (World.cell?_setCell_other _ _ _ _ (by simp <;> omega)).trans tq0
    have q1 : (w1.setCell ⟨g, kk * 5 + 4, none⟩ (.int .i64 m)).cell? ⟨w.heap.size + 1 + 1, 1, none⟩ = some (.slice none 0 0) := (World.cell?_setCell_other _ _ _ _ (by simp <;> omega)).trans tq1
    have q2 : (w1.setCell ⟨g, kk * 5 + 4, none⟩ (.int .i64 m)).cell? ⟨w.heap.size + 1 + 1, 2, none⟩ = some (.slice none 0 0) := (World.cell?_setCell_other _ _ _ _ (by simp <;> omega)).trans tq2
    have d0 : (w1.setCell ⟨g, kk * 5 + 4, none⟩ (.int .i64 m)).cell? ⟨w.heap.size, 0, none⟩ = some (.slice s1 S.length s2) := (World.cell?_setCell_other _ _ _ _ (by simp <;> omega)).trans v0
    have d1 : (w1.setCell ⟨g, kk * 5 + 4, none⟩ (.int .i64 m)).cell? ⟨w.heap.size, 1, none⟩ = some (.slice (some ⟨g, 0, none⟩) P.length p2) := (World.cell?_setCell_other _ _ _ _ (by simp <;> omega)).trans v1
    have d2 : (w1.setCell ⟨g, kk * 5 + 4, none⟩ (.int .i64 m)).cell? ⟨w.heap.size, 2, none⟩ = some (.slice a1 A.length a2) := (World.cell?_setCell_other _ _ _ _ (by simp <;> omega)).trans v2
    have f0 : (w1.setCell ⟨g, kk * 5 + 4, none⟩ (.int .i64 m)).frozen? ⟨w.heap.size + 1 + 1, 0, none⟩ = false := by rw [World.frozen?_setCell]; exact (g1.frozen (p := ⟨w.heap.size + 1 + 1, 0, none⟩) (show w.heap.size + 1 + 1 < W0.heap.size by omega)).trans zr0
    have f1 : (w1.setCell ⟨g, kk * 5 + 4, none⟩ (.int .i64 m)).frozen? ⟨w.heap.size + 1 + 1, 1, none⟩ = false := by rw [World.frozen?_setCell]; exact (g1.frozen (p := ⟨w.heap.size + 1 + 1, 1, none⟩) (show w.heap.size + 1 + 1 < W0.heap.size by omega)).trans zr1
    have f2 : (w1.setCell ⟨g, kk * 5 + 4, none⟩ (.int .i64 m)).frozen? ⟨w.heap.size + 1 + 1, 2, none⟩ = false := by rw [World.frozen?_setCell]; exact (g1.frozen (p := ⟨w.heap.size + 1 + 1, 2, none⟩) (show w.heap.size + 1 + 1 < W0.heap.size by omega)).trans zr2
    have O0 := hide (own_below HO.out.s k1)
    have O1b := hide (own_below HO.out.p k1)
    have O2 := hide (own_below HO.out.a k1)
    have K1 := own_set_c O1b.out (kk * 5 + 4) (.int .i64 m)
    rw [port_set P kk m hkl] at K1
    have K0 := World.ownsRow.kept O0.out (grown_set_c (j := kk * 5 + 4) (v := .int .i64 m) (grown_refl_c w1 (some g))) HO.out.sp
    have K2 := World.ownsRow.kept O2.out (grown_set_c (j := kk * 5 + 4) (v := .int .i64 m) (grown_refl_c w1 (some g))) (sep_sym HO.out.pa)
    have CF : CfAt (w1.setCell ⟨g, kk * 5 + 4, none⟩ (.int .i64 m)) (.slice s1 S.length s2) (.slice (some ⟨g, 0, none⟩) P.length p2) (.slice a1 A.length a2) S (P.set kk ⟨(P.getD kk pr0).i, (P.getD kk pr0).s, (P.getD kk pr0).m, (P.getD kk pr0).p, m⟩) A := ⟨RowAt.of_own swC_len (by omega) K0, RowAt.of_own prC_len (by omega) (by rw [List.length_set]; exact K1), RowAt.of_own acC_len (by omega) K2⟩
    have HB1 : Below B w (w1.setCell ⟨g, kk * 5 + 4, none⟩ (.int .i64 m)) := (k1.mono hB).setCell (p := ⟨g, kk * 5 + 4, none⟩) (own_ge HO.out.p _ rfl) _
    have HCF1 := hide CF
    have HBE1 := hide HB1
    clear CF HB1 K0 K1 K2 O0 O1 O1b O2 k1 g1 hc1 hb0 v0 v1 v2 v3 v4 vr vf tq0 tq1 tq2 hrow hrf HAT c0 c1 c2 r0 r1 r2 xn xm zc0 zc1 zc2 zr0 zr1 zr2
    generalize (w1.setCell ⟨g, kk * 5 + 4, none⟩ (.int .i64 m)) = w2 at *
    go_wp2_with fail
    have e0 : w2.cell? ⟨w.heap.size + 1 + 1, 0, none⟩ = some (.slice none 0 0) := q0
    have e1 : w2.cell? ⟨w.heap.size + 1 + 1, 1, none⟩ = some (.slice none 0 0) := q1
    have e2 : w2.cell? ⟨w.heap.size + 1 + 1, 2, none⟩ = some (.slice none 0 0) := q2
    obtain ⟨u0, u1, u2⟩ := set3 e0 e1 e2 (.slice s1 S.length s2) (.slice (some ⟨g, 0, none⟩) P.length p2) (.slice a1 A.length a2)
    have HCF := hide ((((HCF1.out).set_far (own_ne HO.out.s (b := (w.heap.size + 1 + 1)) (by omega)) (show (Value.slice (some ⟨g, 0, none⟩) _ _).ownBlock ≠ some ((w.heap.size + 1 + 1)) by simp [Value.ownBlock]; omega) (own_ne HO.out.a (b := (w.heap.size + 1 + 1)) (by omega)) 0 (.slice s1 S.length s2)).set_far (own_ne HO.out.s (b := (w.heap.size + 1 + 1)) (by omega)) (show (Value.slice (some ⟨g, 0, none⟩) _ _).ownBlock ≠ some ((w.heap.size + 1 + 1)) by simp [Value.ownBlock]; omega) (own_ne HO.out.a (b := (w.heap.size + 1 + 1)) (by omega)) 1 (.slice (some ⟨g, 0, none⟩) P.length p2)).set_far (own_ne HO.out.s (b := (w.heap.size + 1 + 1)) (by omega)) (show (Value.slice (some ⟨g, 0, none⟩) _ _).ownBlock ≠ some ((w.heap.size + 1 + 1)) by simp [Value.ownBlock]; omega) (own_ne HO.out.a (b := (w.heap.size + 1 + 1)) (by omega)) 2 (.slice a1 A.length a2))
    have HBE := hide ((((HBE1.out).setCell (p := ⟨w.heap.size + 1 + 1, 0, none⟩) hBR (.slice s1 S.length s2)).setCell (p := ⟨w.heap.size + 1 + 1, 1, none⟩) hBR (.slice (some ⟨g, 0, none⟩) P.length p2)).setCell (p := ⟨w.heap.size + 1 + 1, 2, none⟩) hBR (.slice a1 A.length a2))
    refine bodyPost_ret (v := .agg #[.slice s1 S.length s2, .slice (some ⟨g, 0, none⟩) P.length p2, .slice a1 A.length a2]) ?_ rfl ⟨_, _, _, rfl, by simpa [nxS, nxP, nxA, HKK.out] using HCF.out, HBE.out⟩
    clear HCF HBE e0 e1 e2
    generalize (((w2.setCell ⟨w.heap.size + 1 + 1, 0, none⟩ (.slice s1 S.length s2)).setCell ⟨w.heap.size + 1 + 1, 1, none⟩ (.slice (some ⟨g, 0, none⟩) P.length p2)).setCell ⟨w.heap.size + 1 + 1, 2, none⟩ (.slice a1 A.length a2)) = W at *
    simp [results, Tryz.results41, go_sem, u0, u1, u2]
  · have hBR : B ≤ w.heap.size + 1 + 1 := by omega
    clear HAT
    obtain ⟨W0, hW0⟩ : ∃ W0, W0 = (((w.alloc (.cells #[.slice s1 S.length s2, .slice p1 P.length p2, .slice a1 A.length a2] 29)).alloc (.cells #[.int .i64 k, .int .i64 si, .int .i64 st, .int .i64 sg, .int .i64 pi, .int .i64 ps, .int .i64 pm, .int .i64 pp, .int .i64 pc, .int .i64 rs, .int .i64 rp, .bool rn, .int .i64 rf, .int .i64 rb, .int .i64 rt, .int .i64 re, .int .i64 ro, .bool rd, .int .i64 n, .int .i64 m, .int .i64 f0, .int .i64 f1, .int .i64 f2, .int .i64 f3, .int .i64 f4, .int .i64 f5, .int .i64 f6, .string body] 54)).alloc (.cells #[.slice s1 S.length s2, .slice p1 P.length p2, .slice a1 A.length a2] 29)) := ⟨_, rfl⟩
    have hb0 : Below w.heap.size w W0 := by rw [hW0]; exact (((Below.refl _ w).alloc (Nat.le_refl _) _).alloc (by simp) _).alloc (by simp; omega) _
    have q0 : W0.cell? ⟨w.heap.size + 1 + 1, 0, none⟩ = some (.slice s1 S.length s2) := by rw [hW0]; exact new_cell _ _ (by simp) _ _ _ _ rfl
    have q1 : W0.cell? ⟨w.heap.size + 1 + 1, 1, none⟩ = some (.slice p1 P.length p2) := by rw [hW0]; exact new_cell _ _ (by simp) _ _ _ _ rfl
    have q2 : W0.cell? ⟨w.heap.size + 1 + 1, 2, none⟩ = some (.slice a1 A.length a2) := by rw [hW0]; exact new_cell _ _ (by simp) _ _ _ _ rfl
    have HCF := hide (HO.out.cf.below hb0 (Nat.le_refl _))
    have HBE := hide (hb0.mono hB)
    go_wp2_with fail
    rw [← hW0]
    clear hW0
    refine bodyPost_ret (v := .agg #[.slice s1 S.length s2, .slice p1 P.length p2, .slice a1 A.length a2]) ?_ rfl ⟨_, _, _, rfl, by simpa [nxS, nxP, nxA, k1, k2, k3, k4, k5, k6] using HCF.out, HBE.out⟩
    simp [results, Tryz.results41, go_sem, q0, q1, q2]

end Go.Proofs.YtjcomoinggiedaaGreat

namespace Go.Proofs.YtjcomoinggiedaaGreat
open Go.RowKit
set_option linter.unusedVariables false
set_option maxRecDepth 100000

theorem pr_small {S : List Sw} {P : List Pr} {x : Pr} (h : prFault S P x = 0) : P.length < 40 := by
  unfold prFault at h
  split at h
  · omega
  · split at h
    · omega
    · split at h
      · omega
      · split at h
        · omega
        · split at h
          · omega
          · omega
theorem ac_small {S : List Sw} {A : List Ac} {x : Ac} (h : acFault S A x = 0) : A.length < 40 := by
  unfold acFault at h
  split at h
  · omega
  · split at h
    · omega
    · split at h
      · omega
      · split at h
        · omega
        · omega
theorem sw_small {S : List Sw} {P : List Pr} {x : Sw} (h : swFault S P x = 0) : S.length < 12 := by
  unfold swFault at h
  split at h
  · omega
  · split at h
    · omega
    · split at h
      · omega
      · omega
theorem may_parts {S : List Sw} {P : List Pr} {A : List Ac} (h : may S P A = true) : swsMay S = true ∧ prsMay S P = true ∧ acsMay S A = true := by
  unfold may at h
  simp only [Bool.and_eq_true] at h
  exact ⟨h.1.1, h.1.2, h.2⟩
theorem may_len {S : List Sw} {P : List Pr} {A : List Ac} (h : may S P A = true) : S.length ≤ 12 ∧ P.length ≤ 40 ∧ A.length ≤ 40 := by
  obtain ⟨h1, h2, h3⟩ := may_parts h
  refine ⟨?_, ?_, ?_⟩
  · rcases Nat.lt_or_ge 12 S.length with h' | h'
    · unfold swsMay at h1
      rw [List.all_eq_true] at h1
      have := h1 12 (List.mem_range.2 h')
      have := sw_small (by simpa using this)
      rw [List.length_take] at this
      omega
    · exact h'
  · rcases Nat.lt_or_ge 40 P.length with h' | h'
    · unfold prsMay at h2
      rw [List.all_eq_true] at h2
      have := h2 40 (List.mem_range.2 h')
      have := pr_small (by simpa using this)
      rw [List.length_take] at this
      omega
    · exact h'
  · rcases Nat.lt_or_ge 40 A.length with h' | h'
    · unfold acsMay at h3
      rw [List.all_eq_true] at h3
      have := h3 40 (List.mem_range.2 h')
      have := ac_small (by simpa using this)
      rw [List.length_take] at this
      omega
    · exact h'
theorem prFault_zero {S : List Sw} {P : List Pr} {x : Pr} (h : prFault S P x = 0) : P.any (fun y => y.i == x.i || y.s == x.s && y.m == x.m) = false := by
  unfold prFault at h
  by_cases h1 : P.any (fun y => y.i == x.i || y.s == x.s && y.m == x.m) = true
  · rw [if_pos h1] at h
    split at h
    · omega
    · split at h <;> omega
  · exact Bool.not_eq_true _ |>.mp h1
theorem prs_at {S : List Sw} {P : List Pr} (h : prsMay S P = true) {k : Nat} (hk : k < P.length) : prFault S (P.take k) (P.getD k pr0) = 0 := by
  unfold prsMay at h
  rw [List.all_eq_true] at h
  simpa using h k (List.mem_range.2 hk)
theorem prs_lt {S : List Sw} {P : List Pr} (h : prsMay S P = true) {j k : Nat} (hk : k < P.length) (hj : j < k) : (P[j]'(by omega)).i ≠ P[k].i := by
  have h1 := prFault_zero (prs_at h hk)
  rw [List.any_eq_false] at h1
  have hm : P[j]'(by omega) ∈ P.take k := by
    rw [List.mem_take_iff_getElem]
    exact ⟨j, by omega, rfl⟩
  have := h1 _ hm
  simp only [List.getD, List.getElem?_eq_getElem hk, Option.getD_some, Bool.or_eq_true, not_or] at this
  simpa using this.1
theorem prs_pair {S : List Sw} {P : List Pr} (h : prsMay S P = true) : P.Pairwise (fun a b => a.i ≠ b.i) := by
  rw [List.pairwise_iff_getElem]
  exact fun j k _ hk hj => prs_lt h hk hj
theorem swFault_nil {S : List Sw} {P : List Pr} {x : Sw} (h : swFault S P x = 0) :
    (inB x.i 1 500 = true ∧ inB x.t 1 9 = true ∧ inB x.g 0 65535 = true) ∧ (S.any (fun s => s.i == x.i) = false ∧ (x.g != 0 && takenB S P x.t x.g) = false) ∧ S.length < 12 := by
  unfold swFault at h
  by_cases h0 : (inB x.i 1 500 && inB x.t 1 9 && inB x.g 0 65535) = false
  · rw [if_pos h0] at h; omega
  · rw [if_neg h0] at h
    by_cases h1 : (S.any (fun s => s.i == x.i) || (x.g != 0 && takenB S P x.t x.g)) = true
    · rw [if_pos h1] at h; omega
    · rw [if_neg h1] at h
      by_cases h2 : 12 ≤ S.length
      · rw [if_pos h2] at h; omega
      · have h0' := Bool.not_eq_false _ |>.mp h0
        have h1' := Bool.not_eq_true _ |>.mp h1
        simp only [Bool.and_eq_true] at h0'
        rw [Bool.or_eq_false_iff] at h1'
        exact ⟨⟨h0'.1.1, h0'.1.2, h0'.2⟩, h1', by omega⟩
theorem range_form {α : Type} (f : List α → α → Int) (d : α) (l : List α) : (List.range l.length).all (fun k => f (l.take k) (l.getD k d) == 0) = true ↔ ∀ L x R, l = L ++ x :: R → f L x = 0 := by
  rw [List.all_eq_true]
  constructor
  · rintro h L x R rfl
    have := h L.length (List.mem_range.2 (by simp))
    simpa using this
  · intro h k hk
    rw [List.mem_range] at hk
    have e : l = l.take k ++ l[k] :: l.drop (k + 1) := by
      conv => lhs; rw [← List.take_append_drop k l]
      rw [List.drop_eq_getElem_cons hk]
    have h1 := h _ _ _ e
    have hg : l.getD k d = l[k] := by simp [List.getD, List.getElem?_eq_getElem hk]
    rw [hg, h1]
    rfl
theorem sws_form (S : List Sw) : swsMay S = true ↔ ∀ L x R, S = L ++ x :: R → swFault L [] x = 0 := range_form (fun L x => swFault L [] x) sw0 S
theorem prs_form (S : List Sw) (P : List Pr) : prsMay S P = true ↔ ∀ L x R, P = L ++ x :: R → prFault S L x = 0 := range_form (fun L x => prFault S L x) pr0 P
theorem acs_form (S : List Sw) (A : List Ac) : acsMay S A = true ↔ ∀ L x R, A = L ++ x :: R → acFault S L x = 0 := range_form (fun L x => acFault S L x) ac0 A
theorem prefix_snoc {α : Type} {l L R : List α} {y x : α} (h : l ++ [y] = L ++ x :: R) : (L = l ∧ x = y) ∨ ∃ R', l = L ++ x :: R' := by
  rw [List.append_eq_append_iff] at h
  rcases h with ⟨a, h1, h2⟩ | ⟨a, h1, h2⟩
  · cases a with
    | nil =>
      simp at h1 h2
      exact .inl ⟨h1, h2.1.symm⟩
    | cons b c =>
      simp at h2
  · cases a with
    | nil =>
      simp at h1 h2
      exact .inl ⟨h1.symm, h2.1⟩
    | cons b c =>
      simp at h2
      obtain ⟨rfl, rfl⟩ := h2
      exact .inr ⟨c, h1⟩
/-- The tenant that a port's switch has. -/
def tn (S : List Sw) (id : Int) : Int := (S.getD (idx (fun s => s.i == id) S).toNat sw0).t
theorem pr_iff (S : List Sw) (P : List Pr) (x : Pr) : prFault S P x = 0 ↔ prInB x = true ∧ 0 ≤ idx (fun s => s.i == x.s) S ∧ P.any (fun y => y.i == x.i || y.s == x.s && y.m == x.m) = false ∧ takenB S P (tn S x.s) x.p = false ∧ P.length < 40 := by
  unfold prFault
  show (if prInB x = false then (2 : Int) else if idx (fun s => s.i == x.s) S < 0 then 6 else if P.any (fun y => y.i == x.i || y.s == x.s && y.m == x.m) = true then 7 else if takenB S P (tn S x.s) x.p = true then 7 else if 40 ≤ P.length then 1 else 0) = 0 ↔ _
  generalize idx (fun s : Sw => s.i == x.s) S = I
  generalize takenB S P (tn S x.s) x.p = B
  generalize P.any (fun y => y.i == x.i || y.s == x.s && y.m == x.m) = C
  generalize prInB x = D
  cases D <;> cases C <;> cases B <;> simp <;> (repeat' split) <;> omega
theorem prs_mem {S : List Sw} {P : List Pr} (h : prsMay S P = true) {x : Pr} (hx : x ∈ P) : prInB x = true ∧ 0 ≤ idx (fun s => s.i == x.s) S := by
  obtain ⟨L, R, rfl⟩ := List.append_of_mem hx
  have := (pr_iff _ _ _).1 ((prs_form S _).1 h L x R rfl)
  exact ⟨this.1, this.2.1⟩
theorem ac_iff (S : List Sw) (A : List Ac) (x : Ac) : acFault S A x = 0 ↔ acInB x = true ∧ (highB x.src x.sb && highB x.dst x.db) = true ∧ S.any (fun s => s.i == x.s) = true ∧ A.length < 40 := by
  unfold acFault
  generalize acInB x = B
  generalize (highB x.src x.sb && highB x.dst x.db) = C
  generalize S.any (fun s => s.i == x.s) = D
  cases B <;> cases C <;> cases D <;> simp <;> omega
end Go.Proofs.YtjcomoinggiedaaGreat

namespace Go.Proofs.YtjcomoinggiedaaGreat
open Go.RowKit
set_option linter.unusedVariables false
set_option maxRecDepth 100000

/-- No slice. -/
def notSl : Value → Bool
  | .slice _ _ _ => false
  | _ => true
theorem RowAt.set_box {α : Type} {C : α → List Value} {sz : Nat} (hC : ∀ x, (C x).all notSl = true) {w : World} {v : Value} {l : List α} (h : RowAt C sz w v l) {b o : Nat} {x : Option Addr} {y z : Nat} (hp : w.cell? ⟨b, o, none⟩ = some (.slice x y z)) (u : Value) : RowAt C sz (w.setCell ⟨b, o, none⟩ u) v l := by
  obtain ⟨a, cap, rfl, hn, h0 | ⟨b', off, rfl, hc, hL⟩⟩ := h
  · exact ⟨a, cap, rfl, hn, .inl h0⟩
  · refine ⟨_, cap, rfl, hn, .inr ⟨b', off, rfl, hc, fun i r hr j q hq => ?_⟩⟩
    have h1 := hL i r hr j q hq
    rw [World.cell?_setCell_other _ _ _ _ (fun e => ?_)]
    · exact h1
    · rw [← e, hp] at h1
      simp at h1
      have := List.all_eq_true.1 (hC r) q (List.mem_of_getElem? hq)
      rw [← h1] at this
      simp [notSl] at this
theorem CfAt.set_box {w : World} {sv pv av : Value} {S : List Sw} {P : List Pr} {A : List Ac} (h : CfAt w sv pv av S P A) {b o : Nat} {x : Option Addr} {y z : Nat} (hp : w.cell? ⟨b, o, none⟩ = some (.slice x y z)) (u : Value) : CfAt (w.setCell ⟨b, o, none⟩ u) sv pv av S P A :=
  ⟨RowAt.set_box (fun _ => rfl) h.1 hp u, RowAt.set_box (fun _ => rfl) h.2.1 hp u, RowAt.set_box (fun _ => rfl) h.2.2 hp u⟩
theorem rangeAt_beh {w w' : World} {B b o : Nat} {cs : List Value} (h : w.rangeAt b o cs) (hb : Below B w w') (hB : w.heap.size ≤ B) : w'.rangeAt b o cs := fun j v hv => cell_beh (h j v hv) hb hB
theorem rangeAt_set {w : World} {b o b' o' : Nat} {cs : List Value} {x : Value} (h : w.rangeAt b o cs) (hne : b' ≠ b) : (w.setCell ⟨b', o', none⟩ x).rangeAt b o cs := fun j v hv =>
  (World.cell?_setCell_other _ _ _ _ (fun e => hne (by simpa using congrArg Addr.block e))).trans (h j v hv)
theorem actInfo : (Tryz.prog.info? 54).map (·.size) = some 28 := by kernel_rfl

/-- P3.5: the code of an act. -/
def appE (S : List Sw) (P : List Pr) (A : List Ac) (a : Ax) : Int := if may S P A = true then actFault S P A a else 8
def apS (S : List Sw) (P : List Pr) (A : List Ac) (a : Ax) : List Sw := if appE S P A a = 0 then nxS S a else []
def apP (S : List Sw) (P : List Pr) (A : List Ac) (a : Ax) : List Pr := if appE S P A a = 0 then nxP P a else []
def apA (S : List Sw) (P : List Pr) (A : List Ac) (a : Ax) : List Ac := if appE S P A a = 0 then nxA A a else []

theorem act_port {S : List Sw} {P : List Pr} {A : List Ac} {a : Ax} (h : actFault S P A a = 0) (hk : a.k = 4 ∨ a.k = 6) : 0 ≤ pat P a.n := by
  unfold actFault at h
  by_cases hb : inB (pat P a.n) 0 ((P.length : Int) - 1) = true
  · simp [inB] at hb; omega
  · rcases hk with hk | hk
    · rw [if_neg (by omega), if_neg (by omega), if_neg (by omega), if_pos hk, if_neg hb] at h; omega
    · rw [if_neg (by omega), if_neg (by omega), if_neg (by omega), if_neg (by omega), if_pos hk, if_neg hb] at h; omega
theorem act_acl {S : List Sw} {P : List Pr} {A : List Ac} {a : Ax} (h : actFault S P A a = 0) (hk : a.k = 5) : 0 ≤ a.n ∧ a.n < A.length := by
  unfold actFault at h
  rw [if_neg (by omega), if_neg (by omega), if_neg (by omega), if_neg (by omega), if_neg (by omega), if_pos hk] at h
  by_cases hb : inB a.n 0 ((A.length : Int) - 1) = true
  · simp [inB] at hb; omega
  · rw [if_neg hb] at h; omega

set_option maxHeartbeats 8000000 in
theorem apply_any (sv pv av : Value) (S : List Sw) (P : List Pr) (A : List Ac) (a : Ax) (w : World) (hC : CfAt w sv pv av S P A) (h1 : S.length * 24 ≤ 140737488355328) (h2 : P.length * 40 ≤ 140737488355328) (h3 : A.length * 72 ≤ 140737488355328) :
    Calls Tryz.prog 23 #[.agg #[sv, pv, av], actV a] w fun e w' => ∃ su pu au, e = .returned (.tuple #[.agg #[su, pu, au], .int .i64 (appE S P A a)]) ∧ CfAt w' su pu au (apS S P A a) (apP S P A a) (apA S P A a) ∧ Below w.heap.size w w' := by
  have HCK := hide (fun W (hW : Below w.heap.size w W) => confCheck_any sv pv av S P A W (hC.below hW (Nat.le_refl _)) h1 h2 h3)
  have HCA := hide (fun W (hW : Below w.heap.size w W) => checkAct_any sv pv av S P A a W (hC.below hW (Nat.le_refl _)) h1 h2 h3)
  have HCY := hide (fun W (hW : Below w.heap.size w W) => copy_any sv pv av S P A W (hC.below hW (Nat.le_refl _)) h1 h2 h3)
  have HCH : Hid (∀ (W : World) (B : Nat) (x y z : Value), may S P A = true → actFault S P A a = 0 → Own3 W B x y z S P A → B ≤ W.heap.size → Calls Tryz.prog 41 #[.agg #[x, y, z], actV a] W fun e w' => ∃ su pu au, e = .returned (.agg #[su, pu, au]) ∧ CfAt w' su pu au (nxS S a) (nxP P a) (nxA A a) ∧ Below B W w') := fun W B x y z hm hf ho hB =>
    changed_any B x y z S P A a W ho hB (may_len hm).1 (may_len hm).2.1 (may_len hm).2.2 (act_port hf) (act_acl hf)
  have HE0 : Hid (may S P A = false → appE S P A a = 8 ∧ apS S P A a = [] ∧ apP S P A a = [] ∧ apA S P A a = []) := fun h => by
    have e : appE S P A a = 8 := by unfold appE; rw [h]; rfl
    exact ⟨e, by unfold apS; rw [e]; rfl, by unfold apP; rw [e]; rfl, by unfold apA; rw [e]; rfl⟩
  have HE1 : Hid (may S P A = true → actFault S P A a ≠ 0 → appE S P A a = actFault S P A a ∧ apS S P A a = [] ∧ apP S P A a = [] ∧ apA S P A a = []) := fun h hn => by
    have e : appE S P A a = actFault S P A a := by unfold appE; rw [if_pos h]
    exact ⟨e, by unfold apS; rw [e, if_neg hn], by unfold apP; rw [e, if_neg hn], by unfold apA; rw [e, if_neg hn]⟩
  have HE2 : Hid (may S P A = true → actFault S P A a = 0 → appE S P A a = 0 ∧ apS S P A a = nxS S a ∧ apP S P A a = nxP P a ∧ apA S P A a = nxA A a) := fun h hn => by
    have e : appE S P A a = 0 := by unfold appE; rw [if_pos h, hn]
    exact ⟨e, by unfold apS; rw [if_pos e], by unfold apP; rw [if_pos e], by unfold apA; rw [if_pos e]⟩
  obtain ⟨E, hE⟩ : ∃ E : Int, E = if may S P A = true then 0 else 8 := ⟨_, rfl⟩
  rw [← hE] at HCK
  have HE := hide hE
  clear hE
  generalize may S P A = M at *
  generalize actFault S P A a = G at *
  generalize appE S P A a = EE at *
  generalize apS S P A a = LS at *
  generalize apP S P A a = LP at *
  generalize apA S P A a = LA at *
  generalize nxS S a = NS at *
  generalize nxP P a = NP at *
  generalize nxA A a = NA at *
  obtain ⟨s1, s2, rfl⟩ := hC.1.slice
  obtain ⟨p1, p2, rfl⟩ := hC.2.1.slice
  obtain ⟨a1, a2, rfl⟩ := hC.2.2.slice
  clear hC
  obtain ⟨k, si, st, sg, pi, ps, pm, pp, pc, rs, rp, rn, rf, rb, rt, re, ro, rd, n, m, f0, f1, f2, f3, f4, f5, f6, body⟩ := a
  go_enter Tryz.func23, Tryz.ntmps23
  go_wp2_with fail
  obtain ⟨W0, hW0⟩ : ∃ W0, W0 = ((w.alloc (.cells #[.slice s1 S.length s2, .slice p1 P.length p2, .slice a1 A.length a2] 29)).alloc (.cells #[.int .i64 k, .int .i64 si, .int .i64 st, .int .i64 sg, .int .i64 pi, .int .i64 ps, .int .i64 pm, .int .i64 pp, .int .i64 pc, .int .i64 rs, .int .i64 rp, .bool rn, .int .i64 rf, .int .i64 rb, .int .i64 rt, .int .i64 re, .int .i64 ro, .bool rd, .int .i64 n, .int .i64 m, .int .i64 f0, .int .i64 f1, .int .i64 f2, .int .i64 f3, .int .i64 f4, .int .i64 f5, .int .i64 f6, .string body] 54)).alloc (.cells #[.slice none 0 0, .slice none 0 0, .slice none 0 0] 29) := ⟨_, rfl⟩
  have hb0 : Below w.heap.size w W0 := by rw [hW0]; exact (((Below.refl _ w).alloc (Nat.le_refl _) _).alloc (by simp) _).alloc (by simp; omega) _
  have hz0 : W0.heap.size = w.heap.size + 3 := by rw [hW0]; simp
  have c0 : W0.cell? ⟨w.heap.size, 0, none⟩ = some (.slice s1 S.length s2) := by rw [hW0]; exact old_cell (old_cell (new_cell w _ rfl _ _ _ _ rfl) _) _
  have c1 : W0.cell? ⟨w.heap.size, 1, none⟩ = some (.slice p1 P.length p2) := by rw [hW0]; exact old_cell (old_cell (new_cell w _ rfl _ _ _ _ rfl) _) _
  have c2 : W0.cell? ⟨w.heap.size, 2, none⟩ = some (.slice a1 A.length a2) := by rw [hW0]; exact old_cell (old_cell (new_cell w _ rfl _ _ _ _ rfl) _) _
  have X : Hid (W0.rangeAt (w.heap.size + 1) 0 [Value.int .i64 k, .int .i64 si, .int .i64 st, .int .i64 sg, .int .i64 pi, .int .i64 ps, .int .i64 pm, .int .i64 pp, .int .i64 pc, .int .i64 rs, .int .i64 rp, .bool rn, .int .i64 rf, .int .i64 rb, .int .i64 rt, .int .i64 re, .int .i64 ro, .bool rd, .int .i64 n, .int .i64 m, .int .i64 f0, .int .i64 f1, .int .i64 f2, .int .i64 f3, .int .i64 f4, .int .i64 f5, .int .i64 f6, .string body]) := by
    rw [hW0]
    intro j v hj
    rw [Nat.zero_add]
    exact old_cell (new_cell _ _ (by simp) #[.int .i64 k, .int .i64 si, .int .i64 st, .int .i64 sg, .int .i64 pi, .int .i64 ps, .int .i64 pm, .int .i64 pp, .int .i64 pc, .int .i64 rs, .int .i64 rp, .bool rn, .int .i64 rf, .int .i64 rb, .int .i64 rt, .int .i64 re, .int .i64 ro, .bool rd, .int .i64 n, .int .i64 m, .int .i64 f0, .int .i64 f1, .int .i64 f2, .int .i64 f3, .int .i64 f4, .int .i64 f5, .int .i64 f6, .string body] _ j v (by simpa using hj)) _
  have r0 : W0.cell? ⟨w.heap.size + 1 + 1, 0, none⟩ = some (.slice none 0 0) := by rw [hW0]; exact new_cell _ _ (by simp) _ _ _ _ rfl
  have r1 : W0.cell? ⟨w.heap.size + 1 + 1, 1, none⟩ = some (.slice none 0 0) := by rw [hW0]; exact new_cell _ _ (by simp) _ _ _ _ rfl
  have r2 : W0.cell? ⟨w.heap.size + 1 + 1, 2, none⟩ = some (.slice none 0 0) := by rw [hW0]; exact new_cell _ _ (by simp) _ _ _ _ rfl
  have z0 : W0.frozen? ⟨w.heap.size + 1 + 1, 0, none⟩ = false := by rw [hW0]; exact new_frozen _ _ (by simp) _ _ _
  have z1 : W0.frozen? ⟨w.heap.size + 1 + 1, 1, none⟩ = false := by rw [hW0]; exact new_frozen _ _ (by simp) _ _ _
  have z2 : W0.frozen? ⟨w.heap.size + 1 + 1, 2, none⟩ = false := by rw [hW0]; exact new_frozen _ _ (by simp) _ _ _
  have hRlt : w.heap.size + 1 + 1 < W0.heap.size := by omega
  rw [← hW0]
  clear hW0 hz0
  refine (unhide HCK _ hb0).mono ?_
  rintro e w1 ⟨rfl, hb1⟩
  have k1 := hb0.trans (hb1.mono hb0.size)
  have ac0 := cell_beh c0 hb1 (Nat.le_refl _)
  have ac1 := cell_beh c1 hb1 (Nat.le_refl _)
  have ac2 := cell_beh c2 hb1 (Nat.le_refl _)
  have aX := hide (rangeAt_beh X.out hb1 (Nat.le_refl _))
  have ar0 := cell_beh r0 hb1 (Nat.le_refl _)
  have ar1 := cell_beh r1 hb1 (Nat.le_refl _)
  have ar2 := cell_beh r2 hb1 (Nat.le_refl _)
  have az0 := (hb1.frozen (p := ⟨w.heap.size + 1 + 1, 0, none⟩) (by show _ < W0.heap.size; exact hRlt)).trans z0
  have az1 := (hb1.frozen (p := ⟨w.heap.size + 1 + 1, 1, none⟩) (by show _ < W0.heap.size; exact hRlt)).trans z1
  have az2 := (hb1.frozen (p := ⟨w.heap.size + 1 + 1, 2, none⟩) (by show _ < W0.heap.size; exact hRlt)).trans z2
  clear c0 c1 c2 r0 r1 r2 z0 z1 z2 X
  have hR1 : w.heap.size + 1 + 1 < w1.heap.size := Nat.lt_of_lt_of_le hRlt hb1.size
  clear hb0 hb1 HCK hRlt
  cases M
  · obtain rfl : E = 8 := HE.out
    obtain ⟨rfl, rfl, rfl, rfl⟩ := HE0.out rfl
    clear HCA HCY HCH HE HE0 HE1 HE2 ac0 ac1 ac2 aX
    go_wp2_with fail
    obtain ⟨u0, u1, u2⟩ := set3 ar0 ar1 ar2 (.slice none 0 0) (.slice none 0 0) (.slice none 0 0)
    have HBE := hide ((((k1).setCell (p := ⟨w.heap.size + 1 + 1, 0, none⟩) (by show w.heap.size ≤ w.heap.size + 1 + 1; omega) (.slice none 0 0)).setCell (p := ⟨w.heap.size + 1 + 1, 1, none⟩) (by show w.heap.size ≤ w.heap.size + 1 + 1; omega) (.slice none 0 0)).setCell (p := ⟨w.heap.size + 1 + 1, 2, none⟩) (by show w.heap.size ≤ w.heap.size + 1 + 1; omega) (.slice none 0 0))
    have HCF := hide ((⟨RowAt.nil _ _ _, RowAt.nil _ _ _, RowAt.nil _ _ _⟩ : CfAt (((w1.setCell ⟨w.heap.size + 1 + 1, 0, none⟩ (.slice none 0 0)).setCell ⟨w.heap.size + 1 + 1, 1, none⟩ (.slice none 0 0)).setCell ⟨w.heap.size + 1 + 1, 2, none⟩ (.slice none 0 0)) (.slice none 0 0) (.slice none 0 0) (.slice none 0 0) [] [] []))
    refine bodyPost_ret (v := .tuple #[.agg #[.slice none 0 0, .slice none 0 0, .slice none 0 0], .int .i64 8]) ?_ rfl ⟨_, _, _, rfl, HCF.out, HBE.out⟩
    clear HCF HBE ar0 az0 ar1 az1 ar2 az2
    generalize (((w1.setCell ⟨w.heap.size + 1 + 1, 0, none⟩ (.slice none 0 0)).setCell ⟨w.heap.size + 1 + 1, 1, none⟩ (.slice none 0 0)).setCell ⟨w.heap.size + 1 + 1, 2, none⟩ (.slice none 0 0)) = W at *
    simp [results, Tryz.results23, go_sem, u0, u1, u2]
  · obtain rfl : E = 0 := HE.out
    have HF1 := hide (HE1.out rfl)
    have HF2 := hide (HE2.out rfl)
    have HCH1 := hide (fun W B x y z => HCH.out W B x y z rfl)
    clear HE HE0 HE1 HE2 HCH
    go_wp2_with (refine wpList_load_mid rfl 54 (.tmp 3) rfl (w.heap.size + 1) 0 rfl [Value.int .i64 k, .int .i64 si, .int .i64 st, .int .i64 sg, .int .i64 pi, .int .i64 ps, .int .i64 pm, .int .i64 pp, .int .i64 pc, .int .i64 rs, .int .i64 rp, .bool rn, .int .i64 rf, .int .i64 rb, .int .i64 rt, .int .i64 re, .int .i64 ro, .bool rd, .int .i64 n, .int .i64 m, .int .i64 f0, .int .i64 f1, .int .i64 f2, .int .i64 f3, .int .i64 f4, .int .i64 f5, .int .i64 f6, .string body] _ aX.out Tryz.underlying54 rfl actInfo ?_)
    refine (unhide HCA _ k1).mono ?_
    rintro e w2 ⟨rfl, hb2⟩
    have k2 := k1.trans (hb2.mono k1.size)
    have bc0 := cell_beh ac0 hb2 (Nat.le_refl _)
    have bc1 := cell_beh ac1 hb2 (Nat.le_refl _)
    have bc2 := cell_beh ac2 hb2 (Nat.le_refl _)
    have bX := hide (rangeAt_beh aX.out hb2 (Nat.le_refl _))
    have br0 := cell_beh ar0 hb2 (Nat.le_refl _)
    have br1 := cell_beh ar1 hb2 (Nat.le_refl _)
    have br2 := cell_beh ar2 hb2 (Nat.le_refl _)
    have bz0 := (hb2.frozen (p := ⟨w.heap.size + 1 + 1, 0, none⟩) (by show _ < w1.heap.size; exact hR1)).trans az0
    have bz1 := (hb2.frozen (p := ⟨w.heap.size + 1 + 1, 1, none⟩) (by show _ < w1.heap.size; exact hR1)).trans az1
    have bz2 := (hb2.frozen (p := ⟨w.heap.size + 1 + 1, 2, none⟩) (by show _ < w1.heap.size; exact hR1)).trans az2
    clear ac0 ac1 ac2 ar0 ar1 ar2 az0 az1 az2 aX
    have hR2 : w.heap.size + 1 + 1 < w2.heap.size := Nat.lt_of_lt_of_le hR1 hb2.size
    clear k1 hb2 HCA hR1
    by_cases hG : G = 0
    · subst hG
      obtain ⟨rfl, rfl, rfl, rfl⟩ := HF2.out rfl
      have HCH2 := hide (fun W B x y z => HCH1.out W B x y z rfl)
      clear HF1 HF2 HCH1
      go_wp2_with fail
      refine wp_region_held_drew (S := (fun w' => w'.cell? ⟨w.heap.size, 0, none⟩ = some (.slice s1 S.length s2) ∧ w'.cell? ⟨w.heap.size, 1, none⟩ = some (.slice p1 P.length p2) ∧ w'.cell? ⟨w.heap.size, 2, none⟩ = some (.slice a1 A.length a2) ∧ w'.rangeAt (w.heap.size + 1) 0 [Value.int .i64 k, .int .i64 si, .int .i64 st, .int .i64 sg, .int .i64 pi, .int .i64 ps, .int .i64 pm, .int .i64 pp, .int .i64 pc, .int .i64 rs, .int .i64 rp, .bool rn, .int .i64 rf, .int .i64 rb, .int .i64 rt, .int .i64 re, .int .i64 ro, .bool rd, .int .i64 n, .int .i64 m, .int .i64 f0, .int .i64 f1, .int .i64 f2, .int .i64 f3, .int .i64 f4, .int .i64 f5, .int .i64 f6, .string body])) (by kernel_rfl) ⟨bc0, bc1, bc2, bX.out⟩ (fun hHeld => ?_)
      refine wpAnyH_take (i := 0) (oi := ⟨some 21, _, _, _, _, _⟩) (v := ?v1) rfl (by kernel_rfl) (by kernel_rfl) (by kernel_rfl) (fun _ _ _ h => h) (Or.inl ⟨by rfl, ?h1⟩) (by assumption) ?r1
      case h1 => (intro w hSw; (try dsimp only at hSw); go_simp <;> with_reducible rfl)
      (try simp only [Act.put, List.setIfInBounds_toArray, List.set_cons_zero, List.set_cons_succ])
      refine wpAnyH_take (i := 2) (oi := ⟨some 23, _, _, _, _, _⟩) (v := .agg #[.int .i64 k, .int .i64 si, .int .i64 st, .int .i64 sg, .int .i64 pi, .int .i64 ps, .int .i64 pm, .int .i64 pp, .int .i64 pc, .int .i64 rs, .int .i64 rp, .bool rn, .int .i64 rf, .int .i64 rb, .int .i64 rt, .int .i64 re, .int .i64 ro, .bool rd, .int .i64 n, .int .i64 m, .int .i64 f0, .int .i64 f1, .int .i64 f2, .int .i64 f3, .int .i64 f4, .int .i64 f5, .int .i64 f6, .string body]) rfl (by kernel_rfl) (by kernel_rfl) (by kernel_rfl) (fun _ _ _ h => h) (yieldsIf_load_mid (by rfl) 54 (.tmp 3) rfl (w.heap.size + 1) 0 rfl [Value.int .i64 k, .int .i64 si, .int .i64 st, .int .i64 sg, .int .i64 pi, .int .i64 ps, .int .i64 pm, .int .i64 pp, .int .i64 pc, .int .i64 rs, .int .i64 rp, .bool rn, .int .i64 rf, .int .i64 rb, .int .i64 rt, .int .i64 re, .int .i64 ro, .bool rd, .int .i64 n, .int .i64 m, .int .i64 f0, .int .i64 f1, .int .i64 f2, .int .i64 f3, .int .i64 f4, .int .i64 f5, .int .i64 f6, .string body] _ (fun w h => h.2.2.2) Tryz.underlying54 rfl actInfo) (by assumption) ?_
      (try simp only [Act.put, List.setIfInBounds_toArray, List.set_cons_zero, List.set_cons_succ])
      refine wpAnyH_ready (rs := [1]) (by kernel_rfl) (by simp) ?_
      refine AllReadyH.cons (o := ⟨some 22, _, _, _, _, _⟩) rfl (fun K hK => ?_) AllReadyH.nil
      go_simp
      refine (unhide HCY _ k2.drew).mono ?_
      rintro e w3 ⟨y1, y2, y3, rfl, ho3, hb3⟩
      obtain ⟨o1, m1, hv1⟩ := own_slc ho3.s
      obtain ⟨o2, m2, hv2⟩ := own_slc ho3.p
      obtain ⟨o3, m3, hv3⟩ := own_slc ho3.a
      subst hv1 hv2 hv3
      have HO3 := hide ho3
      clear ho3
      have g3 : Below w2.heap.size w2 w3 := ((Below.refl _ w2).drew).trans hb3
      have k3 := k2.trans (g3.mono k2.size)
      go_wp2_with fail
      refine hK.out _ _ ⟨cell_beh bc0 g3 (Nat.le_refl _), cell_beh bc1 g3 (Nat.le_refl _), cell_beh bc2 g3 (Nat.le_refl _), rangeAt_beh bX.out g3 (Nat.le_refl _)⟩ (fun hHeld => ?_)
      clear hK K
      (try simp only [Act.put, List.setIfInBounds_toArray, List.set_cons_zero, List.set_cons_succ])
      refine wpAnyH_ready (rs := [3]) (by kernel_rfl) (by simp) ?_
      refine AllReadyH.cons (o := ⟨some 24, _, _, _, _, _⟩) rfl (fun K hK => ?_) AllReadyH.nil
      go_simp
      refine (unhide HCH2 _ _ _ _ _ HO3.out (show w2.drew.heap.size ≤ w3.heap.size from g3.size)).mono ?_
      rintro e w4 ⟨z1, z2, z3, rfl, hcf4, hb4⟩
      have HC4 := hide hcf4
      obtain ⟨v1, n1, hv1⟩ := hcf4.1.slice
      obtain ⟨v2, n2, hv2⟩ := hcf4.2.1.slice
      obtain ⟨v3, n3, hv3⟩ := hcf4.2.2.slice
      subst hv1 hv2 hv3
      clear hcf4
      have g4 : Below w2.heap.size w2 w4 := g3.trans hb4
      have k4 := k2.trans (g4.mono k2.size)
      go_wp2_with fail
      refine hK.out _ _ ⟨cell_beh bc0 g4 (Nat.le_refl _), cell_beh bc1 g4 (Nat.le_refl _), cell_beh bc2 g4 (Nat.le_refl _), rangeAt_beh bX.out g4 (Nat.le_refl _)⟩ (fun hHeld => ?_)
      clear hK K
      (try simp only [Act.put, List.setIfInBounds_toArray, List.set_cons_zero, List.set_cons_succ])
      have dr0 := cell_beh br0 g4 (Nat.le_refl _)
      have dr1 := cell_beh br1 g4 (Nat.le_refl _)
      have dr2 := cell_beh br2 g4 (Nat.le_refl _)
      have dz0 := (g4.frozen (p := ⟨w.heap.size + 1 + 1, 0, none⟩) hR2).trans bz0
      have dz1 := (g4.frozen (p := ⟨w.heap.size + 1 + 1, 1, none⟩) hR2).trans bz1
      have dz2 := (g4.frozen (p := ⟨w.heap.size + 1 + 1, 2, none⟩) hR2).trans bz2
      have e0 := cell_beh bc0 g4 (Nat.le_refl _)
      have e1 := cell_beh bc1 g4 (Nat.le_refl _)
      have e2 := cell_beh bc2 g4 (Nat.le_refl _)
      have HXX := hide (rangeAt_beh bX.out g4 (Nat.le_refl _))
      refine wpAnyH_ready (rs := [4]) (by kernel_rfl) (by simp) ?_
      refine AllReadyH.cons (o := ⟨none, _, _, _, _, _⟩) rfl (fun K hK => ?_) AllReadyH.nil
      go_simp
      refine hK.out _ _ ⟨(World.cell?_setCell_other _ _ _ _ (by simp <;> omega)).trans ((World.cell?_setCell_other _ _ _ _ (by simp <;> omega)).trans ((World.cell?_setCell_other _ _ _ _ (by simp <;> omega)).trans e0)), (World.cell?_setCell_other _ _ _ _ (by simp <;> omega)).trans ((World.cell?_setCell_other _ _ _ _ (by simp <;> omega)).trans ((World.cell?_setCell_other _ _ _ _ (by simp <;> omega)).trans e1)), (World.cell?_setCell_other _ _ _ _ (by simp <;> omega)).trans ((World.cell?_setCell_other _ _ _ _ (by simp <;> omega)).trans ((World.cell?_setCell_other _ _ _ _ (by simp <;> omega)).trans e2)), rangeAt_set (rangeAt_set (rangeAt_set HXX.out (by omega)) (by omega)) (by omega)⟩ (fun hHeld => ?_)
      clear hK K
      (try simp only [Act.put, List.setIfInBounds_toArray, List.set_cons_zero, List.set_cons_succ])
      refine wpAnyH_take (i := 5) (oi := ⟨some 5, _, _, _, _, _⟩) (v := ?v2) rfl (by kernel_rfl) (by kernel_rfl) (by kernel_rfl) (fun _ _ _ h => h) (Or.inl ⟨by rfl, ?h2⟩) (by assumption) ?r2
      case h2 => (intro w hSw; (try dsimp only at hSw); go_simp <;> with_reducible rfl)
      (try simp only [Act.put, List.setIfInBounds_toArray, List.set_cons_zero, List.set_cons_succ])
      refine wpAnyH_done (by kernel_rfl) ?_ _
      clear hHeld bc0 bc1 bc2 br0 br1 br2 bz0 bz1 bz2 bX e0 e1 e2 HXX HCY HCH2 HO3 hb3 hb4 g3 k3
      obtain ⟨u0, u1, u2⟩ := set3 dr0 dr1 dr2 (.slice v1 LS.length n1) (.slice v2 LP.length n2) (.slice v3 LA.length n3)
      have HCF := hide (((HC4.out.set_box dr0 (.slice v1 LS.length n1)).set_box ((World.cell?_setCell_other _ _ _ _ (by simp)).trans dr1) (.slice v2 LP.length n2)).set_box ((World.cell?_setCell_other _ _ _ _ (by simp)).trans ((World.cell?_setCell_other _ _ _ _ (by simp)).trans dr2)) (.slice v3 LA.length n3))
      have HBE := hide ((((k4).setCell (p := ⟨w.heap.size + 1 + 1, 0, none⟩) (by show w.heap.size ≤ w.heap.size + 1 + 1; omega) (.slice v1 LS.length n1)).setCell (p := ⟨w.heap.size + 1 + 1, 1, none⟩) (by show w.heap.size ≤ w.heap.size + 1 + 1; omega) (.slice v2 LP.length n2)).setCell (p := ⟨w.heap.size + 1 + 1, 2, none⟩) (by show w.heap.size ≤ w.heap.size + 1 + 1; omega) (.slice v3 LA.length n3))
      clear HC4 k4 g4 dr0 dr1 dr2 dz0 dz1 dz2
      generalize (((w4.setCell ⟨w.heap.size + 1 + 1, 0, none⟩ (.slice v1 LS.length n1)).setCell ⟨w.heap.size + 1 + 1, 1, none⟩ (.slice v2 LP.length n2)).setCell ⟨w.heap.size + 1 + 1, 2, none⟩ (.slice v3 LA.length n3)) = W at *
      go_wp2_with fail
      refine bodyPost_ret (v := .tuple #[.agg #[.slice v1 LS.length n1, .slice v2 LP.length n2, .slice v3 LA.length n3], .int .i64 0]) ?_ rfl ⟨_, _, _, rfl, HCF.out, HBE.out⟩
      clear HCF HBE
      simp [results, Tryz.results23, go_sem, u0, u1, u2]
    · obtain ⟨rfl, rfl, rfl, rfl⟩ := HF1.out hG
      clear HF1 HF2 HCH1 HCY bc0 bc1 bc2 bX
      go_wp2_with fail
      obtain ⟨u0, u1, u2⟩ := set3 br0 br1 br2 (.slice none 0 0) (.slice none 0 0) (.slice none 0 0)
      have HBE := hide ((((k2).setCell (p := ⟨w.heap.size + 1 + 1, 0, none⟩) (by show w.heap.size ≤ w.heap.size + 1 + 1; omega) (.slice none 0 0)).setCell (p := ⟨w.heap.size + 1 + 1, 1, none⟩) (by show w.heap.size ≤ w.heap.size + 1 + 1; omega) (.slice none 0 0)).setCell (p := ⟨w.heap.size + 1 + 1, 2, none⟩) (by show w.heap.size ≤ w.heap.size + 1 + 1; omega) (.slice none 0 0))
      have HCF := hide ((⟨RowAt.nil _ _ _, RowAt.nil _ _ _, RowAt.nil _ _ _⟩ : CfAt (((w2.setCell ⟨w.heap.size + 1 + 1, 0, none⟩ (.slice none 0 0)).setCell ⟨w.heap.size + 1 + 1, 1, none⟩ (.slice none 0 0)).setCell ⟨w.heap.size + 1 + 1, 2, none⟩ (.slice none 0 0)) (.slice none 0 0) (.slice none 0 0) (.slice none 0 0) [] [] []))
      refine bodyPost_ret (v := .tuple #[.agg #[.slice none 0 0, .slice none 0 0, .slice none 0 0], .int .i64 EE]) ?_ rfl ⟨_, _, _, rfl, HCF.out, HBE.out⟩
      clear HCF HBE br0 bz0 br1 bz1 br2 bz2
      generalize (((w2.setCell ⟨w.heap.size + 1 + 1, 0, none⟩ (.slice none 0 0)).setCell ⟨w.heap.size + 1 + 1, 1, none⟩ (.slice none 0 0)).setCell ⟨w.heap.size + 1 + 1, 2, none⟩ (.slice none 0 0)) = W at *
      simp [results, Tryz.results23, go_sem, u0, u1, u2]
end Go.Proofs.YtjcomoinggiedaaGreat

namespace Go.Proofs.YtjcomoinggiedaaGreat
open Go.RowKit
set_option linter.unusedVariables false
set_option maxRecDepth 100000

/-- What lies nowhere, or from B on. -/
def Hi3 (B : Nat) (x y z : Value) : Prop := (∀ g, x.ownBlock = some g → B ≤ g) ∧ (∀ g, y.ownBlock = some g → B ≤ g) ∧ (∀ g, z.ownBlock = some g → B ≤ g)

set_option maxHeartbeats 16000000 in
theorem changed_own (B : Nat) (sv pv av : Value) (S : List Sw) (P : List Pr) (A : List Ac) (a : Ax) (w : World) (ho : Own3 w B sv pv av S P A) (hB : B ≤ w.heap.size) (l1 : S.length ≤ 12) (l2 : P.length ≤ 40) (l3 : A.length ≤ 40)
    (hp : a.k = 4 ∨ a.k = 6 → 0 ≤ pat P a.n) (hn : a.k = 5 → 0 ≤ a.n ∧ a.n < A.length) :
    Calls Tryz.prog 41 #[.agg #[sv, pv, av], actV a] w fun e w' => ∃ su pu au, e = .returned (.agg #[su, pu, au]) ∧ CfAt w' su pu au (nxS S a) (nxP P a) (nxA A a) ∧ Below B w w' ∧ Hi3 B su pu au := by
  obtain ⟨iS, hiS, zS0, zS1, zS2⟩ := info_parts infoSw
  obtain ⟨iP, hiP, zP0, zP1, zP2⟩ := info_parts infoPr
  obtain ⟨iA, hiA, zA0, zA1, zA2⟩ := info_parts infoAc
  have HO := hide ho
  obtain ⟨s1, s2, rfl⟩ := own_slc ho.s
  obtain ⟨p1, p2, rfl⟩ := own_slc ho.p
  obtain ⟨a1, a2, rfl⟩ := own_slc ho.a
  clear ho
  have HAT := hide (fun W (hW : Below w.heap.size w W) => portAt_any _ _ _ S P A a.n W (HO.out.cf.below hW (Nat.le_refl _)) (by omega))
  obtain ⟨k, si, st, sg, pi, ps, pm, pp, pc, rs, rp, rn, rf, rb, rt, re, ro, rd, n, m, f0, f1, f2, f3, f4, f5, f6, body⟩ := a
  simp only at hp hn HAT ⊢
  have hcase : k = 1 ∨ k = 2 ∨ k = 3 ∨ k = 4 ∨ k = 5 ∨ k = 6 ∨ (¬ k = 1 ∧ ¬ k = 2 ∧ ¬ k = 3 ∧ ¬ k = 4 ∧ ¬ k = 5 ∧ ¬ k = 6) := by omega
  go_enter Tryz.func41, Tryz.ntmps41
  rcases hcase with rfl | rfl | rfl | rfl | rfl | rfl | ⟨k1, k2, k3, k4, k5, k6⟩
  · have hBR : B ≤ w.heap.size + 1 + 1 := by omega
    go_wp2_with (at_builtin; refine wpList_append_own_at _ rfl _ _ 25 rfl B 42 iS _ 3 24 Tryz.underlying25 hiS zS0 zS1 zS2 rfl (by decide) _ _ _ rfl ((((HO.out.s.alloc _).alloc _).alloc _).alloc _) ⟨w.heap.size + 1 + 1 + 1, 0, none⟩ 1 1 [.int .i64 si, .int .i64 st, .int .i64 sg] rfl rfl ?a2 (all_one rfl) ?a3 ?a4 ?a5 ?_)
    case a2 =>
      intro j u hj
      rw [add_fl, Nat.zero_add]
      exact new_cell _ _ (by simp) #[.int .i64 si, .int .i64 st, .int .i64 sg] _ j u (by simpa using hj)
    case a3 => unfold maxLen; omega
    case a4 => omega
    case a5 => simp; omega
    intro v1 w1 ho1 hg1 _ hat
    have c0 : ((((w.alloc (.cells #[.slice s1 S.length s2, .slice p1 P.length p2, .slice a1 A.length a2] 29)).alloc (.cells #[.int .i64 1, .int .i64 si, .int .i64 st, .int .i64 sg, .int .i64 pi, .int .i64 ps, .int .i64 pm, .int .i64 pp, .int .i64 pc, .int .i64 rs, .int .i64 rp, .bool rn, .int .i64 rf, .int .i64 rb, .int .i64 rt, .int .i64 re, .int .i64 ro, .bool rd, .int .i64 n, .int .i64 m, .int .i64 f0, .int .i64 f1, .int .i64 f2, .int .i64 f3, .int .i64 f4, .int .i64 f5, .int .i64 f6, .string body] 54)).alloc (.cells #[.slice none 0 0, .slice none 0 0, .slice none 0 0] 29)).alloc (.cells #[.int .i64 si, .int .i64 st, .int .i64 sg] 42)).cell? ⟨w.heap.size, 0, none⟩ = some (.slice s1 S.length s2) := old_cell (old_cell (old_cell (new_cell w _ rfl _ _ _ _ rfl) _) _) _
    have c1 : ((((w.alloc (.cells #[.slice s1 S.length s2, .slice p1 P.length p2, .slice a1 A.length a2] 29)).alloc (.cells #[.int .i64 1, .int .i64 si, .int .i64 st, .int .i64 sg, .int .i64 pi, .int .i64 ps, .int .i64 pm, .int .i64 pp, .int .i64 pc, .int .i64 rs, .int .i64 rp, .bool rn, .int .i64 rf, .int .i64 rb, .int .i64 rt, .int .i64 re, .int .i64 ro, .bool rd, .int .i64 n, .int .i64 m, .int .i64 f0, .int .i64 f1, .int .i64 f2, .int .i64 f3, .int .i64 f4, .int .i64 f5, .int .i64 f6, .string body] 54)).alloc (.cells #[.slice none 0 0, .slice none 0 0, .slice none 0 0] 29)).alloc (.cells #[.int .i64 si, .int .i64 st, .int .i64 sg] 42)).cell? ⟨w.heap.size, 1, none⟩ = some (.slice p1 P.length p2) := old_cell (old_cell (old_cell (new_cell w _ rfl _ _ _ _ rfl) _) _) _
    have c2 : ((((w.alloc (.cells #[.slice s1 S.length s2, .slice p1 P.length p2, .slice a1 A.length a2] 29)).alloc (.cells #[.int .i64 1, .int .i64 si, .int .i64 st, .int .i64 sg, .int .i64 pi, .int .i64 ps, .int .i64 pm, .int .i64 pp, .int .i64 pc, .int .i64 rs, .int .i64 rp, .bool rn, .int .i64 rf, .int .i64 rb, .int .i64 rt, .int .i64 re, .int .i64 ro, .bool rd, .int .i64 n, .int .i64 m, .int .i64 f0, .int .i64 f1, .int .i64 f2, .int .i64 f3, .int .i64 f4, .int .i64 f5, .int .i64 f6, .string body] 54)).alloc (.cells #[.slice none 0 0, .slice none 0 0, .slice none 0 0] 29)).alloc (.cells #[.int .i64 si, .int .i64 st, .int .i64 sg] 42)).cell? ⟨w.heap.size, 2, none⟩ = some (.slice a1 A.length a2) := old_cell (old_cell (old_cell (new_cell w _ rfl _ _ _ _ rfl) _) _) _
    have r0 : ((((w.alloc (.cells #[.slice s1 S.length s2, .slice p1 P.length p2, .slice a1 A.length a2] 29)).alloc (.cells #[.int .i64 1, .int .i64 si, .int .i64 st, .int .i64 sg, .int .i64 pi, .int .i64 ps, .int .i64 pm, .int .i64 pp, .int .i64 pc, .int .i64 rs, .int .i64 rp, .bool rn, .int .i64 rf, .int .i64 rb, .int .i64 rt, .int .i64 re, .int .i64 ro, .bool rd, .int .i64 n, .int .i64 m, .int .i64 f0, .int .i64 f1, .int .i64 f2, .int .i64 f3, .int .i64 f4, .int .i64 f5, .int .i64 f6, .string body] 54)).alloc (.cells #[.slice none 0 0, .slice none 0 0, .slice none 0 0] 29)).alloc (.cells #[.int .i64 si, .int .i64 st, .int .i64 sg] 42)).cell? ⟨w.heap.size + 1 + 1, 0, none⟩ = some (.slice none 0 0) := old_cell (new_cell _ _ (by simp) _ _ _ _ rfl) _
    have r1 : ((((w.alloc (.cells #[.slice s1 S.length s2, .slice p1 P.length p2, .slice a1 A.length a2] 29)).alloc (.cells #[.int .i64 1, .int .i64 si, .int .i64 st, .int .i64 sg, .int .i64 pi, .int .i64 ps, .int .i64 pm, .int .i64 pp, .int .i64 pc, .int .i64 rs, .int .i64 rp, .bool rn, .int .i64 rf, .int .i64 rb, .int .i64 rt, .int .i64 re, .int .i64 ro, .bool rd, .int .i64 n, .int .i64 m, .int .i64 f0, .int .i64 f1, .int .i64 f2, .int .i64 f3, .int .i64 f4, .int .i64 f5, .int .i64 f6, .string body] 54)).alloc (.cells #[.slice none 0 0, .slice none 0 0, .slice none 0 0] 29)).alloc (.cells #[.int .i64 si, .int .i64 st, .int .i64 sg] 42)).cell? ⟨w.heap.size + 1 + 1, 1, none⟩ = some (.slice none 0 0) := old_cell (new_cell _ _ (by simp) _ _ _ _ rfl) _
    have r2 : ((((w.alloc (.cells #[.slice s1 S.length s2, .slice p1 P.length p2, .slice a1 A.length a2] 29)).alloc (.cells #[.int .i64 1, .int .i64 si, .int .i64 st, .int .i64 sg, .int .i64 pi, .int .i64 ps, .int .i64 pm, .int .i64 pp, .int .i64 pc, .int .i64 rs, .int .i64 rp, .bool rn, .int .i64 rf, .int .i64 rb, .int .i64 rt, .int .i64 re, .int .i64 ro, .bool rd, .int .i64 n, .int .i64 m, .int .i64 f0, .int .i64 f1, .int .i64 f2, .int .i64 f3, .int .i64 f4, .int .i64 f5, .int .i64 f6, .string body] 54)).alloc (.cells #[.slice none 0 0, .slice none 0 0, .slice none 0 0] 29)).alloc (.cells #[.int .i64 si, .int .i64 st, .int .i64 sg] 42)).cell? ⟨w.heap.size + 1 + 1, 2, none⟩ = some (.slice none 0 0) := old_cell (new_cell _ _ (by simp) _ _ _ _ rfl) _
    have hnr : ∀ b, w.heap.size ≤ b → some b ≠ (Value.slice s1 S.length s2).ownBlock := fun b hb e => own_ne HO.out.s hb e.symm
    have d0 := hg1.cell c0 (hnr w.heap.size (Nat.le_refl _))
    have d1 := hg1.cell c1 (hnr w.heap.size (Nat.le_refl _))
    have d2 := hg1.cell c2 (hnr w.heap.size (Nat.le_refl _))
    have q0 := hg1.cell r0 (hnr (w.heap.size + 1 + 1) (by omega))
    have q1 := hg1.cell r1 (hnr (w.heap.size + 1 + 1) (by omega))
    have q2 := hg1.cell r2 (hnr (w.heap.size + 1 + 1) (by omega))
    have y0 : w1.frozen? ⟨w.heap.size, 0, none⟩ = false := gfrozen hg1 (by simp; omega) (old_frozen (by simp; omega) (old_frozen (by simp; omega) (old_frozen (by simp) (new_frozen w _ rfl _ _ _) _) _) _) (hnr w.heap.size (Nat.le_refl _))
    have f0 : w1.frozen? ⟨w.heap.size + 1 + 1, 0, none⟩ = false := gfrozen hg1 (by simp) (old_frozen (by simp) (new_frozen _ _ (by simp) _ _ _) _) (hnr (w.heap.size + 1 + 1) (by omega))
    have f1 : w1.frozen? ⟨w.heap.size + 1 + 1, 1, none⟩ = false := gfrozen hg1 (by simp) (old_frozen (by simp) (new_frozen _ _ (by simp) _ _ _) _) (hnr (w.heap.size + 1 + 1) (by omega))
    have f2 : w1.frozen? ⟨w.heap.size + 1 + 1, 2, none⟩ = false := gfrozen hg1 (by simp) (old_frozen (by simp) (new_frozen _ _ (by simp) _ _ _) _) (hnr (w.heap.size + 1 + 1) (by omega))
    have K1 := hide (World.ownsRow.kept ((((HO.out.p.alloc _).alloc _).alloc _).alloc _) hg1 (sep_sym HO.out.sp))
    have K2 := hide (World.ownsRow.kept ((((HO.out.a.alloc _).alloc _).alloc _).alloc _) hg1 (sep_sym HO.out.sa))
    have KN : Hid (w1.ownsRow B 42 3 v1 (S ++ [(⟨si, st, sg⟩ : Sw)]).length ((S ++ [(⟨si, st, sg⟩ : Sw)]).flatMap swC)) := by
      show World.ownsRow _ _ _ _ _ _ _
      rw [List.length_append, ← flat_snoc]
      exact ho1
    have hv1 : ∀ b, w.heap.size ≤ b → b < w.heap.size + 1 + 1 + 1 + 1 → v1.ownBlock ≠ some b := fun b hb hb2 e => by
      rcases hat with h | h
      · exact own_ne HO.out.s hb (h.symm.trans e)
      · rw [h] at e; simp at e; omega
    obtain ⟨o1, m1, hv⟩ := own_slc ho1
    have CF : CfAt w1 v1 (.slice p1 P.length p2) (.slice a1 A.length a2) (S ++ [(⟨si, st, sg⟩ : Sw)]) P A := ⟨RowAt.of_own swC_len (by omega) KN.out, RowAt.of_own prC_len (by omega) K1.out, RowAt.of_own acC_len (by omega) K2.out⟩
    have HI3 := hide (And.intro (own_ge (KN.out)) (And.intro (own_ge (K1.out)) (own_ge (K2.out))))
    have HB1 : Below B w w1 := (((((Below.refl _ w).alloc hB _).alloc (by simp; omega) _).alloc (by simp; omega) _).alloc (by simp; omega) _).grown hg1 (by simp; omega) (own_ge HO.out.s)
    subst hv
    have HCF1 := hide CF
    have HBE1 := hide HB1
    have HNE : Hid (∀ b, w.heap.size ≤ b → b < w.heap.size + 1 + 1 + 1 + 1 → (Value.slice o1 (S.length + 1) m1).ownBlock ≠ some b) := hv1
    clear CF HB1 hv1 hat hnr KN ho1 hg1 c0 c1 c2 r0 r1 r2 HAT K1 K2
    have nn1 : w.heap.size ≠ w.heap.size + 1 + 1 := by omega
    go_wp2_with fail
    have e0 : (w1.setCell ⟨w.heap.size, 0, none⟩ (.slice o1 (S.length + 1) m1)).cell? ⟨w.heap.size + 1 + 1, 0, none⟩ = some (.slice none 0 0) := (World.cell?_setCell_other _ _ _ _ (by simp <;> omega)).trans q0
    have e1 : (w1.setCell ⟨w.heap.size, 0, none⟩ (.slice o1 (S.length + 1) m1)).cell? ⟨w.heap.size + 1 + 1, 1, none⟩ = some (.slice none 0 0) := (World.cell?_setCell_other _ _ _ _ (by simp <;> omega)).trans q1
    have e2 : (w1.setCell ⟨w.heap.size, 0, none⟩ (.slice o1 (S.length + 1) m1)).cell? ⟨w.heap.size + 1 + 1, 2, none⟩ = some (.slice none 0 0) := (World.cell?_setCell_other _ _ _ _ (by simp <;> omega)).trans q2
    obtain ⟨u0, u1, u2⟩ := set3 e0 e1 e2 (.slice o1 (S.length + 1) m1) (.slice p1 P.length p2) (.slice a1 A.length a2)
    have HCF := hide (((((HCF1.out).set_far (HNE.out w.heap.size (Nat.le_refl _) (by omega)) (own_ne HO.out.p (b := w.heap.size) (Nat.le_refl _)) (own_ne HO.out.a (b := w.heap.size) (Nat.le_refl _)) 0 (.slice o1 (S.length + 1) m1)).set_far (HNE.out (w.heap.size + 1 + 1) (by omega) (by omega)) (own_ne HO.out.p (b := (w.heap.size + 1 + 1)) (by omega)) (own_ne HO.out.a (b := (w.heap.size + 1 + 1)) (by omega)) 0 (.slice o1 (S.length + 1) m1)).set_far (HNE.out (w.heap.size + 1 + 1) (by omega) (by omega)) (own_ne HO.out.p (b := (w.heap.size + 1 + 1)) (by omega)) (own_ne HO.out.a (b := (w.heap.size + 1 + 1)) (by omega)) 1 (.slice p1 P.length p2)).set_far (HNE.out (w.heap.size + 1 + 1) (by omega) (by omega)) (own_ne HO.out.p (b := (w.heap.size + 1 + 1)) (by omega)) (own_ne HO.out.a (b := (w.heap.size + 1 + 1)) (by omega)) 2 (.slice a1 A.length a2))
    have HBE := hide (((((HBE1.out).setCell (p := ⟨w.heap.size, 0, none⟩) hB (.slice o1 (S.length + 1) m1)).setCell (p := ⟨w.heap.size + 1 + 1, 0, none⟩) hBR (.slice o1 (S.length + 1) m1)).setCell (p := ⟨w.heap.size + 1 + 1, 1, none⟩) hBR (.slice p1 P.length p2)).setCell (p := ⟨w.heap.size + 1 + 1, 2, none⟩) hBR (.slice a1 A.length a2))
    refine bodyPost_ret (v := .agg #[.slice o1 (S.length + 1) m1, .slice p1 P.length p2, .slice a1 A.length a2]) ?_ rfl ⟨_, _, _, rfl, by simpa [nxS, nxP, nxA, Ax.s, Ax.p, Ax.r] using HCF.out, HBE.out, HI3.out⟩
    clear HCF HBE HI3 e0 e1 e2
    generalize ((((w1.setCell ⟨w.heap.size, 0, none⟩ (.slice o1 (S.length + 1) m1)).setCell ⟨w.heap.size + 1 + 1, 0, none⟩ (.slice o1 (S.length + 1) m1)).setCell ⟨w.heap.size + 1 + 1, 1, none⟩ (.slice p1 P.length p2)).setCell ⟨w.heap.size + 1 + 1, 2, none⟩ (.slice a1 A.length a2)) = W at *
    simp [results, Tryz.results41, go_sem, u0, u1, u2]
  · have hBR : B ≤ w.heap.size + 1 + 1 := by omega
    go_wp2_with (at_builtin; refine wpList_append_own_at _ rfl _ _ 26 rfl B 45 iP _ 5 40 Tryz.underlying26 hiP zP0 zP1 zP2 rfl (by decide) _ _ _ rfl ((((HO.out.p.alloc _).alloc _).alloc _).alloc _) ⟨w.heap.size + 1 + 1 + 1, 0, none⟩ 1 1 [.int .i64 pi, .int .i64 ps, .int .i64 pm, .int .i64 pp, .int .i64 pc] rfl rfl ?a2 (all_one rfl) ?a3 ?a4 ?a5 ?_)
    case a2 =>
      intro j u hj
      rw [add_fl, Nat.zero_add]
      exact new_cell _ _ (by simp) #[.int .i64 pi, .int .i64 ps, .int .i64 pm, .int .i64 pp, .int .i64 pc] _ j u (by simpa using hj)
    case a3 => unfold maxLen; omega
    case a4 => omega
    case a5 => simp; omega
    intro v1 w1 ho1 hg1 _ hat
    have c0 : ((((w.alloc (.cells #[.slice s1 S.length s2, .slice p1 P.length p2, .slice a1 A.length a2] 29)).alloc (.cells #[.int .i64 2, .int .i64 si, .int .i64 st, .int .i64 sg, .int .i64 pi, .int .i64 ps, .int .i64 pm, .int .i64 pp, .int .i64 pc, .int .i64 rs, .int .i64 rp, .bool rn, .int .i64 rf, .int .i64 rb, .int .i64 rt, .int .i64 re, .int .i64 ro, .bool rd, .int .i64 n, .int .i64 m, .int .i64 f0, .int .i64 f1, .int .i64 f2, .int .i64 f3, .int .i64 f4, .int .i64 f5, .int .i64 f6, .string body] 54)).alloc (.cells #[.slice none 0 0, .slice none 0 0, .slice none 0 0] 29)).alloc (.cells #[.int .i64 pi, .int .i64 ps, .int .i64 pm, .int .i64 pp, .int .i64 pc] 45)).cell? ⟨w.heap.size, 0, none⟩ = some (.slice s1 S.length s2) := old_cell (old_cell (old_cell (new_cell w _ rfl _ _ _ _ rfl) _) _) _
    have c1 : ((((w.alloc (.cells #[.slice s1 S.length s2, .slice p1 P.length p2, .slice a1 A.length a2] 29)).alloc (.cells #[.int .i64 2, .int .i64 si, .int .i64 st, .int .i64 sg, .int .i64 pi, .int .i64 ps, .int .i64 pm, .int .i64 pp, .int .i64 pc, .int .i64 rs, .int .i64 rp, .bool rn, .int .i64 rf, .int .i64 rb, .int .i64 rt, .int .i64 re, .int .i64 ro, .bool rd, .int .i64 n, .int .i64 m, .int .i64 f0, .int .i64 f1, .int .i64 f2, .int .i64 f3, .int .i64 f4, .int .i64 f5, .int .i64 f6, .string body] 54)).alloc (.cells #[.slice none 0 0, .slice none 0 0, .slice none 0 0] 29)).alloc (.cells #[.int .i64 pi, .int .i64 ps, .int .i64 pm, .int .i64 pp, .int .i64 pc] 45)).cell? ⟨w.heap.size, 1, none⟩ = some (.slice p1 P.length p2) := old_cell (old_cell (old_cell (new_cell w _ rfl _ _ _ _ rfl) _) _) _
    have c2 : ((((w.alloc (.cells #[.slice s1 S.length s2, .slice p1 P.length p2, .slice a1 A.length a2] 29)).alloc (.cells #[.int .i64 2, .int .i64 si, .int .i64 st, .int .i64 sg, .int .i64 pi, .int .i64 ps, .int .i64 pm, .int .i64 pp, .int .i64 pc, .int .i64 rs, .int .i64 rp, .bool rn, .int .i64 rf, .int .i64 rb, .int .i64 rt, .int .i64 re, .int .i64 ro, .bool rd, .int .i64 n, .int .i64 m, .int .i64 f0, .int .i64 f1, .int .i64 f2, .int .i64 f3, .int .i64 f4, .int .i64 f5, .int .i64 f6, .string body] 54)).alloc (.cells #[.slice none 0 0, .slice none 0 0, .slice none 0 0] 29)).alloc (.cells #[.int .i64 pi, .int .i64 ps, .int .i64 pm, .int .i64 pp, .int .i64 pc] 45)).cell? ⟨w.heap.size, 2, none⟩ = some (.slice a1 A.length a2) := old_cell (old_cell (old_cell (new_cell w _ rfl _ _ _ _ rfl) _) _) _
    have r0 : ((((w.alloc (.cells #[.slice s1 S.length s2, .slice p1 P.length p2, .slice a1 A.length a2] 29)).alloc (.cells #[.int .i64 2, .int .i64 si, .int .i64 st, .int .i64 sg, .int .i64 pi, .int .i64 ps, .int .i64 pm, .int .i64 pp, .int .i64 pc, .int .i64 rs, .int .i64 rp, .bool rn, .int .i64 rf, .int .i64 rb, .int .i64 rt, .int .i64 re, .int .i64 ro, .bool rd, .int .i64 n, .int .i64 m, .int .i64 f0, .int .i64 f1, .int .i64 f2, .int .i64 f3, .int .i64 f4, .int .i64 f5, .int .i64 f6, .string body] 54)).alloc (.cells #[.slice none 0 0, .slice none 0 0, .slice none 0 0] 29)).alloc (.cells #[.int .i64 pi, .int .i64 ps, .int .i64 pm, .int .i64 pp, .int .i64 pc] 45)).cell? ⟨w.heap.size + 1 + 1, 0, none⟩ = some (.slice none 0 0) := old_cell (new_cell _ _ (by simp) _ _ _ _ rfl) _
    have r1 : ((((w.alloc (.cells #[.slice s1 S.length s2, .slice p1 P.length p2, .slice a1 A.length a2] 29)).alloc (.cells #[.int .i64 2, .int .i64 si, .int .i64 st, .int .i64 sg, .int .i64 pi, .int .i64 ps, .int .i64 pm, .int .i64 pp, .int .i64 pc, .int .i64 rs, .int .i64 rp, .bool rn, .int .i64 rf, .int .i64 rb, .int .i64 rt, .int .i64 re, .int .i64 ro, .bool rd, .int .i64 n, .int .i64 m, .int .i64 f0, .int .i64 f1, .int .i64 f2, .int .i64 f3, .int .i64 f4, .int .i64 f5, .int .i64 f6, .string body] 54)).alloc (.cells #[.slice none 0 0, .slice none 0 0, .slice none 0 0] 29)).alloc (.cells #[.int .i64 pi, .int .i64 ps, .int .i64 pm, .int .i64 pp, .int .i64 pc] 45)).cell? ⟨w.heap.size + 1 + 1, 1, none⟩ = some (.slice none 0 0) := old_cell (new_cell _ _ (by simp) _ _ _ _ rfl) _
    have r2 : ((((w.alloc (.cells #[.slice s1 S.length s2, .slice p1 P.length p2, .slice a1 A.length a2] 29)).alloc (.cells #[.int .i64 2, .int .i64 si, .int .i64 st, .int .i64 sg, .int .i64 pi, .int .i64 ps, .int .i64 pm, .int .i64 pp, .int .i64 pc, .int .i64 rs, .int .i64 rp, .bool rn, .int .i64 rf, .int .i64 rb, .int .i64 rt, .int .i64 re, .int .i64 ro, .bool rd, .int .i64 n, .int .i64 m, .int .i64 f0, .int .i64 f1, .int .i64 f2, .int .i64 f3, .int .i64 f4, .int .i64 f5, .int .i64 f6, .string body] 54)).alloc (.cells #[.slice none 0 0, .slice none 0 0, .slice none 0 0] 29)).alloc (.cells #[.int .i64 pi, .int .i64 ps, .int .i64 pm, .int .i64 pp, .int .i64 pc] 45)).cell? ⟨w.heap.size + 1 + 1, 2, none⟩ = some (.slice none 0 0) := old_cell (new_cell _ _ (by simp) _ _ _ _ rfl) _
    have hnr : ∀ b, w.heap.size ≤ b → some b ≠ (Value.slice p1 P.length p2).ownBlock := fun b hb e => own_ne HO.out.p hb e.symm
    have d0 := hg1.cell c0 (hnr w.heap.size (Nat.le_refl _))
    have d1 := hg1.cell c1 (hnr w.heap.size (Nat.le_refl _))
    have d2 := hg1.cell c2 (hnr w.heap.size (Nat.le_refl _))
    have q0 := hg1.cell r0 (hnr (w.heap.size + 1 + 1) (by omega))
    have q1 := hg1.cell r1 (hnr (w.heap.size + 1 + 1) (by omega))
    have q2 := hg1.cell r2 (hnr (w.heap.size + 1 + 1) (by omega))
    have y0 : w1.frozen? ⟨w.heap.size, 1, none⟩ = false := gfrozen hg1 (by simp; omega) (old_frozen (by simp; omega) (old_frozen (by simp; omega) (old_frozen (by simp) (new_frozen w _ rfl _ _ _) _) _) _) (hnr w.heap.size (Nat.le_refl _))
    have f0 : w1.frozen? ⟨w.heap.size + 1 + 1, 0, none⟩ = false := gfrozen hg1 (by simp) (old_frozen (by simp) (new_frozen _ _ (by simp) _ _ _) _) (hnr (w.heap.size + 1 + 1) (by omega))
    have f1 : w1.frozen? ⟨w.heap.size + 1 + 1, 1, none⟩ = false := gfrozen hg1 (by simp) (old_frozen (by simp) (new_frozen _ _ (by simp) _ _ _) _) (hnr (w.heap.size + 1 + 1) (by omega))
    have f2 : w1.frozen? ⟨w.heap.size + 1 + 1, 2, none⟩ = false := gfrozen hg1 (by simp) (old_frozen (by simp) (new_frozen _ _ (by simp) _ _ _) _) (hnr (w.heap.size + 1 + 1) (by omega))
    have K0 := hide (World.ownsRow.kept ((((HO.out.s.alloc _).alloc _).alloc _).alloc _) hg1 (HO.out.sp))
    have K2 := hide (World.ownsRow.kept ((((HO.out.a.alloc _).alloc _).alloc _).alloc _) hg1 (sep_sym HO.out.pa))
    have KN : Hid (w1.ownsRow B 45 5 v1 (P ++ [(⟨pi, ps, pm, pp, pc⟩ : Pr)]).length ((P ++ [(⟨pi, ps, pm, pp, pc⟩ : Pr)]).flatMap prC)) := by
      show World.ownsRow _ _ _ _ _ _ _
      rw [List.length_append, ← flat_snoc]
      exact ho1
    have hv1 : ∀ b, w.heap.size ≤ b → b < w.heap.size + 1 + 1 + 1 + 1 → v1.ownBlock ≠ some b := fun b hb hb2 e => by
      rcases hat with h | h
      · exact own_ne HO.out.p hb (h.symm.trans e)
      · rw [h] at e; simp at e; omega
    obtain ⟨o1, m1, hv⟩ := own_slc ho1
    have CF : CfAt w1 (.slice s1 S.length s2) v1 (.slice a1 A.length a2) S (P ++ [(⟨pi, ps, pm, pp, pc⟩ : Pr)]) A := ⟨RowAt.of_own swC_len (by omega) K0.out, RowAt.of_own prC_len (by omega) KN.out, RowAt.of_own acC_len (by omega) K2.out⟩
    have HI3 := hide (And.intro (own_ge (K0.out)) (And.intro (own_ge (KN.out)) (own_ge (K2.out))))
    have HB1 : Below B w w1 := (((((Below.refl _ w).alloc hB _).alloc (by simp; omega) _).alloc (by simp; omega) _).alloc (by simp; omega) _).grown hg1 (by simp; omega) (own_ge HO.out.p)
    subst hv
    have HCF1 := hide CF
    have HBE1 := hide HB1
    have HNE : Hid (∀ b, w.heap.size ≤ b → b < w.heap.size + 1 + 1 + 1 + 1 → (Value.slice o1 (P.length + 1) m1).ownBlock ≠ some b) := hv1
    clear CF HB1 hv1 hat hnr KN ho1 hg1 c0 c1 c2 r0 r1 r2 HAT K0 K2
    have nn1 : w.heap.size ≠ w.heap.size + 1 + 1 := by omega
    go_wp2_with fail
    have e0 : (w1.setCell ⟨w.heap.size, 1, none⟩ (.slice o1 (P.length + 1) m1)).cell? ⟨w.heap.size + 1 + 1, 0, none⟩ = some (.slice none 0 0) := (World.cell?_setCell_other _ _ _ _ (by simp <;> omega)).trans q0
    have e1 : (w1.setCell ⟨w.heap.size, 1, none⟩ (.slice o1 (P.length + 1) m1)).cell? ⟨w.heap.size + 1 + 1, 1, none⟩ = some (.slice none 0 0) := (World.cell?_setCell_other _ _ _ _ (by simp <;> omega)).trans q1
    have e2 : (w1.setCell ⟨w.heap.size, 1, none⟩ (.slice o1 (P.length + 1) m1)).cell? ⟨w.heap.size + 1 + 1, 2, none⟩ = some (.slice none 0 0) := (World.cell?_setCell_other _ _ _ _ (by simp <;> omega)).trans q2
    obtain ⟨u0, u1, u2⟩ := set3 e0 e1 e2 (.slice s1 S.length s2) (.slice o1 (P.length + 1) m1) (.slice a1 A.length a2)
    have HCF := hide (((((HCF1.out).set_far (own_ne HO.out.s (b := w.heap.size) (Nat.le_refl _)) (HNE.out w.heap.size (Nat.le_refl _) (by omega)) (own_ne HO.out.a (b := w.heap.size) (Nat.le_refl _)) 1 (.slice o1 (P.length + 1) m1)).set_far (own_ne HO.out.s (b := (w.heap.size + 1 + 1)) (by omega)) (HNE.out (w.heap.size + 1 + 1) (by omega) (by omega)) (own_ne HO.out.a (b := (w.heap.size + 1 + 1)) (by omega)) 0 (.slice s1 S.length s2)).set_far (own_ne HO.out.s (b := (w.heap.size + 1 + 1)) (by omega)) (HNE.out (w.heap.size + 1 + 1) (by omega) (by omega)) (own_ne HO.out.a (b := (w.heap.size + 1 + 1)) (by omega)) 1 (.slice o1 (P.length + 1) m1)).set_far (own_ne HO.out.s (b := (w.heap.size + 1 + 1)) (by omega)) (HNE.out (w.heap.size + 1 + 1) (by omega) (by omega)) (own_ne HO.out.a (b := (w.heap.size + 1 + 1)) (by omega)) 2 (.slice a1 A.length a2))
    have HBE := hide (((((HBE1.out).setCell (p := ⟨w.heap.size, 1, none⟩) hB (.slice o1 (P.length + 1) m1)).setCell (p := ⟨w.heap.size + 1 + 1, 0, none⟩) hBR (.slice s1 S.length s2)).setCell (p := ⟨w.heap.size + 1 + 1, 1, none⟩) hBR (.slice o1 (P.length + 1) m1)).setCell (p := ⟨w.heap.size + 1 + 1, 2, none⟩) hBR (.slice a1 A.length a2))
    refine bodyPost_ret (v := .agg #[.slice s1 S.length s2, .slice o1 (P.length + 1) m1, .slice a1 A.length a2]) ?_ rfl ⟨_, _, _, rfl, by simpa [nxS, nxP, nxA, Ax.s, Ax.p, Ax.r] using HCF.out, HBE.out, HI3.out⟩
    clear HCF HBE HI3 e0 e1 e2
    generalize ((((w1.setCell ⟨w.heap.size, 1, none⟩ (.slice o1 (P.length + 1) m1)).setCell ⟨w.heap.size + 1 + 1, 0, none⟩ (.slice s1 S.length s2)).setCell ⟨w.heap.size + 1 + 1, 1, none⟩ (.slice o1 (P.length + 1) m1)).setCell ⟨w.heap.size + 1 + 1, 2, none⟩ (.slice a1 A.length a2)) = W at *
    simp [results, Tryz.results41, go_sem, u0, u1, u2]
  · have hBR : B ≤ w.heap.size + 1 + 1 := by omega
    go_wp2_with (at_builtin; refine wpList_append_own_at _ rfl _ _ 27 rfl B 52 iA _ 9 72 Tryz.underlying27 hiA zA0 zA1 zA2 rfl (by decide) _ _ _ rfl ((((HO.out.a.alloc _).alloc _).alloc _).alloc _) ⟨w.heap.size + 1 + 1 + 1, 0, none⟩ 1 1 [.int .i64 rs, .int .i64 rp, .bool rn, .int .i64 rf, .int .i64 rb, .int .i64 rt, .int .i64 re, .int .i64 ro, .bool rd] rfl rfl ?a2 (all_one rfl) ?a3 ?a4 ?a5 ?_)
    case a2 =>
      intro j u hj
      rw [add_fl, Nat.zero_add]
      exact new_cell _ _ (by simp) #[.int .i64 rs, .int .i64 rp, .bool rn, .int .i64 rf, .int .i64 rb, .int .i64 rt, .int .i64 re, .int .i64 ro, .bool rd] _ j u (by simpa using hj)
    case a3 => unfold maxLen; omega
    case a4 => omega
    case a5 => simp; omega
    intro v1 w1 ho1 hg1 _ hat
    have c0 : ((((w.alloc (.cells #[.slice s1 S.length s2, .slice p1 P.length p2, .slice a1 A.length a2] 29)).alloc (.cells #[.int .i64 3, .int .i64 si, .int .i64 st, .int .i64 sg, .int .i64 pi, .int .i64 ps, .int .i64 pm, .int .i64 pp, .int .i64 pc, .int .i64 rs, .int .i64 rp, .bool rn, .int .i64 rf, .int .i64 rb, .int .i64 rt, .int .i64 re, .int .i64 ro, .bool rd, .int .i64 n, .int .i64 m, .int .i64 f0, .int .i64 f1, .int .i64 f2, .int .i64 f3, .int .i64 f4, .int .i64 f5, .int .i64 f6, .string body] 54)).alloc (.cells #[.slice none 0 0, .slice none 0 0, .slice none 0 0] 29)).alloc (.cells #[.int .i64 rs, .int .i64 rp, .bool rn, .int .i64 rf, .int .i64 rb, .int .i64 rt, .int .i64 re, .int .i64 ro, .bool rd] 52)).cell? ⟨w.heap.size, 0, none⟩ = some (.slice s1 S.length s2) := old_cell (old_cell (old_cell (new_cell w _ rfl _ _ _ _ rfl) _) _) _
    have c1 : ((((w.alloc (.cells #[.slice s1 S.length s2, .slice p1 P.length p2, .slice a1 A.length a2] 29)).alloc (.cells #[.int .i64 3, .int .i64 si, .int .i64 st, .int .i64 sg, .int .i64 pi, .int .i64 ps, .int .i64 pm, .int .i64 pp, .int .i64 pc, .int .i64 rs, .int .i64 rp, .bool rn, .int .i64 rf, .int .i64 rb, .int .i64 rt, .int .i64 re, .int .i64 ro, .bool rd, .int .i64 n, .int .i64 m, .int .i64 f0, .int .i64 f1, .int .i64 f2, .int .i64 f3, .int .i64 f4, .int .i64 f5, .int .i64 f6, .string body] 54)).alloc (.cells #[.slice none 0 0, .slice none 0 0, .slice none 0 0] 29)).alloc (.cells #[.int .i64 rs, .int .i64 rp, .bool rn, .int .i64 rf, .int .i64 rb, .int .i64 rt, .int .i64 re, .int .i64 ro, .bool rd] 52)).cell? ⟨w.heap.size, 1, none⟩ = some (.slice p1 P.length p2) := old_cell (old_cell (old_cell (new_cell w _ rfl _ _ _ _ rfl) _) _) _
    have c2 : ((((w.alloc (.cells #[.slice s1 S.length s2, .slice p1 P.length p2, .slice a1 A.length a2] 29)).alloc (.cells #[.int .i64 3, .int .i64 si, .int .i64 st, .int .i64 sg, .int .i64 pi, .int .i64 ps, .int .i64 pm, .int .i64 pp, .int .i64 pc, .int .i64 rs, .int .i64 rp, .bool rn, .int .i64 rf, .int .i64 rb, .int .i64 rt, .int .i64 re, .int .i64 ro, .bool rd, .int .i64 n, .int .i64 m, .int .i64 f0, .int .i64 f1, .int .i64 f2, .int .i64 f3, .int .i64 f4, .int .i64 f5, .int .i64 f6, .string body] 54)).alloc (.cells #[.slice none 0 0, .slice none 0 0, .slice none 0 0] 29)).alloc (.cells #[.int .i64 rs, .int .i64 rp, .bool rn, .int .i64 rf, .int .i64 rb, .int .i64 rt, .int .i64 re, .int .i64 ro, .bool rd] 52)).cell? ⟨w.heap.size, 2, none⟩ = some (.slice a1 A.length a2) := old_cell (old_cell (old_cell (new_cell w _ rfl _ _ _ _ rfl) _) _) _
    have r0 : ((((w.alloc (.cells #[.slice s1 S.length s2, .slice p1 P.length p2, .slice a1 A.length a2] 29)).alloc (.cells #[.int .i64 3, .int .i64 si, .int .i64 st, .int .i64 sg, .int .i64 pi, .int .i64 ps, .int .i64 pm, .int .i64 pp, .int .i64 pc, .int .i64 rs, .int .i64 rp, .bool rn, .int .i64 rf, .int .i64 rb, .int .i64 rt, .int .i64 re, .int .i64 ro, .bool rd, .int .i64 n, .int .i64 m, .int .i64 f0, .int .i64 f1, .int .i64 f2, .int .i64 f3, .int .i64 f4, .int .i64 f5, .int .i64 f6, .string body] 54)).alloc (.cells #[.slice none 0 0, .slice none 0 0, .slice none 0 0] 29)).alloc (.cells #[.int .i64 rs, .int .i64 rp, .bool rn, .int .i64 rf, .int .i64 rb, .int .i64 rt, .int .i64 re, .int .i64 ro, .bool rd] 52)).cell? ⟨w.heap.size + 1 + 1, 0, none⟩ = some (.slice none 0 0) := old_cell (new_cell _ _ (by simp) _ _ _ _ rfl) _
    have r1 : ((((w.alloc (.cells #[.slice s1 S.length s2, .slice p1 P.length p2, .slice a1 A.length a2] 29)).alloc (.cells #[.int .i64 3, .int .i64 si, .int .i64 st, .int .i64 sg, .int .i64 pi, .int .i64 ps, .int .i64 pm, .int .i64 pp, .int .i64 pc, .int .i64 rs, .int .i64 rp, .bool rn, .int .i64 rf, .int .i64 rb, .int .i64 rt, .int .i64 re, .int .i64 ro, .bool rd, .int .i64 n, .int .i64 m, .int .i64 f0, .int .i64 f1, .int .i64 f2, .int .i64 f3, .int .i64 f4, .int .i64 f5, .int .i64 f6, .string body] 54)).alloc (.cells #[.slice none 0 0, .slice none 0 0, .slice none 0 0] 29)).alloc (.cells #[.int .i64 rs, .int .i64 rp, .bool rn, .int .i64 rf, .int .i64 rb, .int .i64 rt, .int .i64 re, .int .i64 ro, .bool rd] 52)).cell? ⟨w.heap.size + 1 + 1, 1, none⟩ = some (.slice none 0 0) := old_cell (new_cell _ _ (by simp) _ _ _ _ rfl) _
    have r2 : ((((w.alloc (.cells #[.slice s1 S.length s2, .slice p1 P.length p2, .slice a1 A.length a2] 29)).alloc (.cells #[.int .i64 3, .int .i64 si, .int .i64 st, .int .i64 sg, .int .i64 pi, .int .i64 ps, .int .i64 pm, .int .i64 pp, .int .i64 pc, .int .i64 rs, .int .i64 rp, .bool rn, .int .i64 rf, .int .i64 rb, .int .i64 rt, .int .i64 re, .int .i64 ro, .bool rd, .int .i64 n, .int .i64 m, .int .i64 f0, .int .i64 f1, .int .i64 f2, .int .i64 f3, .int .i64 f4, .int .i64 f5, .int .i64 f6, .string body] 54)).alloc (.cells #[.slice none 0 0, .slice none 0 0, .slice none 0 0] 29)).alloc (.cells #[.int .i64 rs, .int .i64 rp, .bool rn, .int .i64 rf, .int .i64 rb, .int .i64 rt, .int .i64 re, .int .i64 ro, .bool rd] 52)).cell? ⟨w.heap.size + 1 + 1, 2, none⟩ = some (.slice none 0 0) := old_cell (new_cell _ _ (by simp) _ _ _ _ rfl) _
    have hnr : ∀ b, w.heap.size ≤ b → some b ≠ (Value.slice a1 A.length a2).ownBlock := fun b hb e => own_ne HO.out.a hb e.symm
    have d0 := hg1.cell c0 (hnr w.heap.size (Nat.le_refl _))
    have d1 := hg1.cell c1 (hnr w.heap.size (Nat.le_refl _))
    have d2 := hg1.cell c2 (hnr w.heap.size (Nat.le_refl _))
    have q0 := hg1.cell r0 (hnr (w.heap.size + 1 + 1) (by omega))
    have q1 := hg1.cell r1 (hnr (w.heap.size + 1 + 1) (by omega))
    have q2 := hg1.cell r2 (hnr (w.heap.size + 1 + 1) (by omega))
    have y0 : w1.frozen? ⟨w.heap.size, 2, none⟩ = false := gfrozen hg1 (by simp; omega) (old_frozen (by simp; omega) (old_frozen (by simp; omega) (old_frozen (by simp) (new_frozen w _ rfl _ _ _) _) _) _) (hnr w.heap.size (Nat.le_refl _))
    have f0 : w1.frozen? ⟨w.heap.size + 1 + 1, 0, none⟩ = false := gfrozen hg1 (by simp) (old_frozen (by simp) (new_frozen _ _ (by simp) _ _ _) _) (hnr (w.heap.size + 1 + 1) (by omega))
    have f1 : w1.frozen? ⟨w.heap.size + 1 + 1, 1, none⟩ = false := gfrozen hg1 (by simp) (old_frozen (by simp) (new_frozen _ _ (by simp) _ _ _) _) (hnr (w.heap.size + 1 + 1) (by omega))
    have f2 : w1.frozen? ⟨w.heap.size + 1 + 1, 2, none⟩ = false := gfrozen hg1 (by simp) (old_frozen (by simp) (new_frozen _ _ (by simp) _ _ _) _) (hnr (w.heap.size + 1 + 1) (by omega))
    have K0 := hide (World.ownsRow.kept ((((HO.out.s.alloc _).alloc _).alloc _).alloc _) hg1 (HO.out.sa))
    have K1 := hide (World.ownsRow.kept ((((HO.out.p.alloc _).alloc _).alloc _).alloc _) hg1 (HO.out.pa))
    have KN : Hid (w1.ownsRow B 52 9 v1 (A ++ [(⟨rs, rp, rn, rf, rb, rt, re, ro, rd⟩ : Ac)]).length ((A ++ [(⟨rs, rp, rn, rf, rb, rt, re, ro, rd⟩ : Ac)]).flatMap acC)) := by
      show World.ownsRow _ _ _ _ _ _ _
      rw [List.length_append, ← flat_snoc]
      exact ho1
    have hv1 : ∀ b, w.heap.size ≤ b → b < w.heap.size + 1 + 1 + 1 + 1 → v1.ownBlock ≠ some b := fun b hb hb2 e => by
      rcases hat with h | h
      · exact own_ne HO.out.a hb (h.symm.trans e)
      · rw [h] at e; simp at e; omega
    obtain ⟨o1, m1, hv⟩ := own_slc ho1
    have CF : CfAt w1 (.slice s1 S.length s2) (.slice p1 P.length p2) v1 S P (A ++ [(⟨rs, rp, rn, rf, rb, rt, re, ro, rd⟩ : Ac)]) := ⟨RowAt.of_own swC_len (by omega) K0.out, RowAt.of_own prC_len (by omega) K1.out, RowAt.of_own acC_len (by omega) KN.out⟩
    have HI3 := hide (And.intro (own_ge (K0.out)) (And.intro (own_ge (K1.out)) (own_ge (KN.out))))
    have HB1 : Below B w w1 := (((((Below.refl _ w).alloc hB _).alloc (by simp; omega) _).alloc (by simp; omega) _).alloc (by simp; omega) _).grown hg1 (by simp; omega) (own_ge HO.out.a)
    subst hv
    have HCF1 := hide CF
    have HBE1 := hide HB1
    have HNE : Hid (∀ b, w.heap.size ≤ b → b < w.heap.size + 1 + 1 + 1 + 1 → (Value.slice o1 (A.length + 1) m1).ownBlock ≠ some b) := hv1
    clear CF HB1 hv1 hat hnr KN ho1 hg1 c0 c1 c2 r0 r1 r2 HAT K0 K1
    have nn1 : w.heap.size ≠ w.heap.size + 1 + 1 := by omega
    go_wp2_with fail
    have e0 : (w1.setCell ⟨w.heap.size, 2, none⟩ (.slice o1 (A.length + 1) m1)).cell? ⟨w.heap.size + 1 + 1, 0, none⟩ = some (.slice none 0 0) := (World.cell?_setCell_other _ _ _ _ (by simp <;> omega)).trans q0
    have e1 : (w1.setCell ⟨w.heap.size, 2, none⟩ (.slice o1 (A.length + 1) m1)).cell? ⟨w.heap.size + 1 + 1, 1, none⟩ = some (.slice none 0 0) := (World.cell?_setCell_other _ _ _ _ (by simp <;> omega)).trans q1
    have e2 : (w1.setCell ⟨w.heap.size, 2, none⟩ (.slice o1 (A.length + 1) m1)).cell? ⟨w.heap.size + 1 + 1, 2, none⟩ = some (.slice none 0 0) := (World.cell?_setCell_other _ _ _ _ (by simp <;> omega)).trans q2
    obtain ⟨u0, u1, u2⟩ := set3 e0 e1 e2 (.slice s1 S.length s2) (.slice p1 P.length p2) (.slice o1 (A.length + 1) m1)
    have HCF := hide (((((HCF1.out).set_far (own_ne HO.out.s (b := w.heap.size) (Nat.le_refl _)) (own_ne HO.out.p (b := w.heap.size) (Nat.le_refl _)) (HNE.out w.heap.size (Nat.le_refl _) (by omega)) 2 (.slice o1 (A.length + 1) m1)).set_far (own_ne HO.out.s (b := (w.heap.size + 1 + 1)) (by omega)) (own_ne HO.out.p (b := (w.heap.size + 1 + 1)) (by omega)) (HNE.out (w.heap.size + 1 + 1) (by omega) (by omega)) 0 (.slice s1 S.length s2)).set_far (own_ne HO.out.s (b := (w.heap.size + 1 + 1)) (by omega)) (own_ne HO.out.p (b := (w.heap.size + 1 + 1)) (by omega)) (HNE.out (w.heap.size + 1 + 1) (by omega) (by omega)) 1 (.slice p1 P.length p2)).set_far (own_ne HO.out.s (b := (w.heap.size + 1 + 1)) (by omega)) (own_ne HO.out.p (b := (w.heap.size + 1 + 1)) (by omega)) (HNE.out (w.heap.size + 1 + 1) (by omega) (by omega)) 2 (.slice o1 (A.length + 1) m1))
    have HBE := hide (((((HBE1.out).setCell (p := ⟨w.heap.size, 2, none⟩) hB (.slice o1 (A.length + 1) m1)).setCell (p := ⟨w.heap.size + 1 + 1, 0, none⟩) hBR (.slice s1 S.length s2)).setCell (p := ⟨w.heap.size + 1 + 1, 1, none⟩) hBR (.slice p1 P.length p2)).setCell (p := ⟨w.heap.size + 1 + 1, 2, none⟩) hBR (.slice o1 (A.length + 1) m1))
    refine bodyPost_ret (v := .agg #[.slice s1 S.length s2, .slice p1 P.length p2, .slice o1 (A.length + 1) m1]) ?_ rfl ⟨_, _, _, rfl, by simpa [nxS, nxP, nxA, Ax.s, Ax.p, Ax.r] using HCF.out, HBE.out, HI3.out⟩
    clear HCF HBE HI3 e0 e1 e2
    generalize ((((w1.setCell ⟨w.heap.size, 2, none⟩ (.slice o1 (A.length + 1) m1)).setCell ⟨w.heap.size + 1 + 1, 0, none⟩ (.slice s1 S.length s2)).setCell ⟨w.heap.size + 1 + 1, 1, none⟩ (.slice p1 P.length p2)).setCell ⟨w.heap.size + 1 + 1, 2, none⟩ (.slice o1 (A.length + 1) m1)) = W at *
    simp [results, Tryz.results41, go_sem, u0, u1, u2]
  · have hBR : B ≤ w.heap.size + 1 + 1 := by omega
    have hpp := hp (.inl rfl)
    have hbd := idx_bd (fun x : Pr => x.i == n) P
    obtain ⟨kk, hkk⟩ : ∃ kk : Nat, pat P n = (kk : Int) := ⟨(pat P n).toNat, by omega⟩
    have hkl : kk < P.length := by have : pat P n < P.length := hbd.2; omega
    rw [hkk] at HAT
    have HKK := hide hkk
    clear hkk hbd hpp hp hn
    obtain ⟨g, cap, hform, -, -⟩ := HO.out.p.form (by omega)
    simp only [Value.slice.injEq, true_and] at hform
    obtain ⟨rfl, rfl⟩ := hform
    have hgw : g < w.heap.size := own_in HO.out.p rfl
    go_wp2_with fail
    obtain ⟨W0, hW0⟩ : ∃ W0, W0 = (((w.alloc (.cells #[.slice s1 S.length s2, .slice (some ⟨g, 0, none⟩) P.length p2, .slice a1 A.length a2] 29)).alloc (.cells #[.int .i64 4, .int .i64 si, .int .i64 st, .int .i64 sg, .int .i64 pi, .int .i64 ps, .int .i64 pm, .int .i64 pp, .int .i64 pc, .int .i64 rs, .int .i64 rp, .bool rn, .int .i64 rf, .int .i64 rb, .int .i64 rt, .int .i64 re, .int .i64 ro, .bool rd, .int .i64 n, .int .i64 m, .int .i64 f0, .int .i64 f1, .int .i64 f2, .int .i64 f3, .int .i64 f4, .int .i64 f5, .int .i64 f6, .string body] 54)).alloc (.cells #[.slice none 0 0, .slice none 0 0, .slice none 0 0] 29)) := ⟨_, rfl⟩
    have hb0 : Below w.heap.size w W0 := by rw [hW0]; exact (((Below.refl _ w).alloc (Nat.le_refl _) _).alloc (by simp) _).alloc (by simp; omega) _
    have hz0 : W0.heap.size = w.heap.size + 3 := by rw [hW0]; simp
    have c0 : W0.cell? ⟨w.heap.size, 0, none⟩ = some (.slice s1 S.length s2) := by rw [hW0]; exact old_cell (old_cell (new_cell w _ rfl _ _ _ _ rfl) _) _
    have c1 : W0.cell? ⟨w.heap.size, 1, none⟩ = some (.slice (some ⟨g, 0, none⟩) P.length p2) := by rw [hW0]; exact old_cell (old_cell (new_cell w _ rfl _ _ _ _ rfl) _) _
    have c2 : W0.cell? ⟨w.heap.size, 2, none⟩ = some (.slice a1 A.length a2) := by rw [hW0]; exact old_cell (old_cell (new_cell w _ rfl _ _ _ _ rfl) _) _
    have r0 : W0.cell? ⟨w.heap.size + 1 + 1, 0, none⟩ = some (.slice none 0 0) := by rw [hW0]; exact new_cell _ _ (by simp) _ _ _ _ rfl
    have r1 : W0.cell? ⟨w.heap.size + 1 + 1, 1, none⟩ = some (.slice none 0 0) := by rw [hW0]; exact new_cell _ _ (by simp) _ _ _ _ rfl
    have r2 : W0.cell? ⟨w.heap.size + 1 + 1, 2, none⟩ = some (.slice none 0 0) := by rw [hW0]; exact new_cell _ _ (by simp) _ _ _ _ rfl
    have xn : W0.cell? ⟨w.heap.size + 1, 18, none⟩ = some (.int .i64 n) := by rw [hW0]; exact old_cell (new_cell _ _ (by simp) _ _ _ _ rfl) _
    have xm : W0.cell? ⟨w.heap.size + 1, 19, none⟩ = some (.int .i64 m) := by rw [hW0]; exact old_cell (new_cell _ _ (by simp) _ _ _ _ rfl) _
    have zc0 : W0.frozen? ⟨w.heap.size, 0, none⟩ = false := by rw [hW0]; exact old_frozen (by simp; omega) (old_frozen (by simp) (new_frozen w _ rfl _ _ _) _) _
    have zc1 : W0.frozen? ⟨w.heap.size, 1, none⟩ = false := by rw [hW0]; exact old_frozen (by simp; omega) (old_frozen (by simp) (new_frozen w _ rfl _ _ _) _) _
    have zc2 : W0.frozen? ⟨w.heap.size, 2, none⟩ = false := by rw [hW0]; exact old_frozen (by simp; omega) (old_frozen (by simp) (new_frozen w _ rfl _ _ _) _) _
    have zr0 : W0.frozen? ⟨w.heap.size + 1 + 1, 0, none⟩ = false := by rw [hW0]; exact new_frozen _ _ (by simp) _ _ _
    have zr1 : W0.frozen? ⟨w.heap.size + 1 + 1, 1, none⟩ = false := by rw [hW0]; exact new_frozen _ _ (by simp) _ _ _
    have zr2 : W0.frozen? ⟨w.heap.size + 1 + 1, 2, none⟩ = false := by rw [hW0]; exact new_frozen _ _ (by simp) _ _ _
    rw [← hW0]
    clear hW0
    have nn1 : w.heap.size ≠ w.heap.size + 1 + 1 := by omega
    refine (unhide HAT _ hb0).mono ?_
    rintro e w1 ⟨rfl, hb1⟩
    have k1 := hb0.trans (hb1.mono hb0.size)
    have dc0 := cell_beh c0 hb1 (Nat.le_refl _)
    have dc1 := cell_beh c1 hb1 (Nat.le_refl _)
    have dc2 := cell_beh c2 hb1 (Nat.le_refl _)
    have dr0 := cell_beh r0 hb1 (Nat.le_refl _)
    have dr1 := cell_beh r1 hb1 (Nat.le_refl _)
    have dr2 := cell_beh r2 hb1 (Nat.le_refl _)
    have fc0 := (hb1.frozen (p := ⟨w.heap.size, 0, none⟩) (show w.heap.size < W0.heap.size by omega)).trans zc0
    have fc1 := (hb1.frozen (p := ⟨w.heap.size, 1, none⟩) (show w.heap.size < W0.heap.size by omega)).trans zc1
    have fc2 := (hb1.frozen (p := ⟨w.heap.size, 2, none⟩) (show w.heap.size < W0.heap.size by omega)).trans zc2
    have fr0 := (hb1.frozen (p := ⟨w.heap.size + 1 + 1, 0, none⟩) (show w.heap.size + 1 + 1 < W0.heap.size by omega)).trans zr0
    have fr1 := (hb1.frozen (p := ⟨w.heap.size + 1 + 1, 1, none⟩) (show w.heap.size + 1 + 1 < W0.heap.size by omega)).trans zr1
    have fr2 := (hb1.frozen (p := ⟨w.heap.size + 1 + 1, 2, none⟩) (show w.heap.size + 1 + 1 < W0.heap.size by omega)).trans zr2
    have O0 := hide (own_below HO.out.s k1)
    have O1 := hide (own_below HO.out.p k1)
    have O2 := hide (own_below HO.out.a k1)
    have hsz1 := hb1.size
    clear HAT hb0 hb1 c0 c1 c2 r0 r1 r2 xn xm zc0 zc1 zc2 zr0 zr1 zr2
    go_wp2_with fail
    refine (deletePr_any P B g p2 kk w1 O1.out hkl (by omega)).mono ?_
    rintro e w2 ⟨rfl, ho2, hg2⟩
    have d0 := hg2.cell dc0 (show some w.heap.size ≠ some g by simp; omega)
    have d1 := hg2.cell dc1 (show some w.heap.size ≠ some g by simp; omega)
    have d2 := hg2.cell dc2 (show some w.heap.size ≠ some g by simp; omega)
    have q0 := hg2.cell dr0 (show some (w.heap.size + 1 + 1) ≠ some g by simp; omega)
    have q1 := hg2.cell dr1 (show some (w.heap.size + 1 + 1) ≠ some g by simp; omega)
    have q2 := hg2.cell dr2 (show some (w.heap.size + 1 + 1) ≠ some g by simp; omega)
    have y0 := gfrozen hg2 (show w.heap.size < w1.heap.size by omega) fc1 (show some w.heap.size ≠ some g by simp; omega)
    have f0 := gfrozen hg2 (show w.heap.size + 1 + 1 < w1.heap.size by omega) fr0 (show some (w.heap.size + 1 + 1) ≠ some g by simp; omega)
    have f1 := gfrozen hg2 (show w.heap.size + 1 + 1 < w1.heap.size by omega) fr1 (show some (w.heap.size + 1 + 1) ≠ some g by simp; omega)
    have f2 := gfrozen hg2 (show w.heap.size + 1 + 1 < w1.heap.size by omega) fr2 (show some (w.heap.size + 1 + 1) ≠ some g by simp; omega)
    have K0 := hide (World.ownsRow.kept O0.out hg2 HO.out.sp)
    have K2 := hide (World.ownsRow.kept O2.out hg2 (sep_sym HO.out.pa))
    have CF : CfAt w2 (.slice s1 S.length s2) (.slice (some ⟨g, 0, none⟩) (P.length - 1) p2) (.slice a1 A.length a2) S (P.eraseIdx kk) A := ⟨RowAt.of_own swC_len (by omega) K0.out, RowAt.of_own prC_len (by omega) (by rw [List.length_eraseIdx_of_lt hkl]; exact ho2), RowAt.of_own acC_len (by omega) K2.out⟩
    have HI3 := hide (And.intro (own_ge (K0.out)) (And.intro (own_ge (ho2)) (own_ge (K2.out))))
    have HB1 : Below B w w2 := (k1.mono hB).grown hg2 (Nat.le_trans hB k1.size) (fun b e => by simp at e; subst e; exact own_ge HO.out.p _ rfl)
    have HCF1 := hide CF
    have HBE1 := hide HB1
    clear CF HB1 ho2 hg2 K0 K2 O0 O1 O2 dc0 dc1 dc2 dr0 dr1 dr2 fc0 fc1 fc2 fr0 fr1 fr2 k1 hsz1
    go_wp2_with fail
    have e0 : (w2.setCell ⟨w.heap.size, 1, none⟩ (.slice (some ⟨g, 0, none⟩) (P.length - 1) p2)).cell? ⟨w.heap.size + 1 + 1, 0, none⟩ = some (.slice none 0 0) := (World.cell?_setCell_other _ _ _ _ (by simp <;> omega)).trans q0
    have e1 : (w2.setCell ⟨w.heap.size, 1, none⟩ (.slice (some ⟨g, 0, none⟩) (P.length - 1) p2)).cell? ⟨w.heap.size + 1 + 1, 1, none⟩ = some (.slice none 0 0) := (World.cell?_setCell_other _ _ _ _ (by simp <;> omega)).trans q1
    have e2 : (w2.setCell ⟨w.heap.size, 1, none⟩ (.slice (some ⟨g, 0, none⟩) (P.length - 1) p2)).cell? ⟨w.heap.size + 1 + 1, 2, none⟩ = some (.slice none 0 0) := (World.cell?_setCell_other _ _ _ _ (by simp <;> omega)).trans q2
    obtain ⟨u0, u1, u2⟩ := set3 e0 e1 e2 (.slice s1 S.length s2) (.slice (some ⟨g, 0, none⟩) (P.length - 1) p2) (.slice a1 A.length a2)
    have HCF := hide (((((HCF1.out).set_far (own_ne HO.out.s (b := w.heap.size) (Nat.le_refl _)) (show (Value.slice (some ⟨g, 0, none⟩) _ _).ownBlock ≠ some (w.heap.size) by simp [Value.ownBlock]; omega) (own_ne HO.out.a (b := w.heap.size) (Nat.le_refl _)) 1 (.slice (some ⟨g, 0, none⟩) (P.length - 1) p2)).set_far (own_ne HO.out.s (b := (w.heap.size + 1 + 1)) (by omega)) (show (Value.slice (some ⟨g, 0, none⟩) _ _).ownBlock ≠ some ((w.heap.size + 1 + 1)) by simp [Value.ownBlock]; omega) (own_ne HO.out.a (b := (w.heap.size + 1 + 1)) (by omega)) 0 (.slice s1 S.length s2)).set_far (own_ne HO.out.s (b := (w.heap.size + 1 + 1)) (by omega)) (show (Value.slice (some ⟨g, 0, none⟩) _ _).ownBlock ≠ some ((w.heap.size + 1 + 1)) by simp [Value.ownBlock]; omega) (own_ne HO.out.a (b := (w.heap.size + 1 + 1)) (by omega)) 1 (.slice (some ⟨g, 0, none⟩) (P.length - 1) p2)).set_far (own_ne HO.out.s (b := (w.heap.size + 1 + 1)) (by omega)) (show (Value.slice (some ⟨g, 0, none⟩) _ _).ownBlock ≠ some ((w.heap.size + 1 + 1)) by simp [Value.ownBlock]; omega) (own_ne HO.out.a (b := (w.heap.size + 1 + 1)) (by omega)) 2 (.slice a1 A.length a2))
    have HBE := hide (((((HBE1.out).setCell (p := ⟨w.heap.size, 1, none⟩) hB (.slice (some ⟨g, 0, none⟩) (P.length - 1) p2)).setCell (p := ⟨w.heap.size + 1 + 1, 0, none⟩) hBR (.slice s1 S.length s2)).setCell (p := ⟨w.heap.size + 1 + 1, 1, none⟩) hBR (.slice (some ⟨g, 0, none⟩) (P.length - 1) p2)).setCell (p := ⟨w.heap.size + 1 + 1, 2, none⟩) hBR (.slice a1 A.length a2))
    refine bodyPost_ret (v := .agg #[.slice s1 S.length s2, .slice (some ⟨g, 0, none⟩) (P.length - 1) p2, .slice a1 A.length a2]) ?_ rfl ⟨_, _, _, rfl, by simpa [nxS, nxP, nxA, HKK.out] using HCF.out, HBE.out, HI3.out⟩
    clear HCF HBE HI3 e0 e1 e2
    generalize ((((w2.setCell ⟨w.heap.size, 1, none⟩ (.slice (some ⟨g, 0, none⟩) (P.length - 1) p2)).setCell ⟨w.heap.size + 1 + 1, 0, none⟩ (.slice s1 S.length s2)).setCell ⟨w.heap.size + 1 + 1, 1, none⟩ (.slice (some ⟨g, 0, none⟩) (P.length - 1) p2)).setCell ⟨w.heap.size + 1 + 1, 2, none⟩ (.slice a1 A.length a2)) = W at *
    simp [results, Tryz.results41, go_sem, u0, u1, u2]
  · have hBR : B ≤ w.heap.size + 1 + 1 := by omega
    obtain ⟨hn0, hn1⟩ := hn rfl
    obtain ⟨kk, rfl⟩ := Int.eq_ofNat_of_zero_le hn0
    have hkl : kk < A.length := by omega
    clear hn0 hn1 hp hn HAT
    obtain ⟨g, cap, hform, -, -⟩ := HO.out.a.form (by omega)
    simp only [Value.slice.injEq, true_and] at hform
    obtain ⟨rfl, rfl⟩ := hform
    have hgw : g < w.heap.size := own_in HO.out.a rfl
    go_wp2_with fail
    obtain ⟨W0, hW0⟩ : ∃ W0, W0 = (((w.alloc (.cells #[.slice s1 S.length s2, .slice p1 P.length p2, .slice (some ⟨g, 0, none⟩) A.length a2] 29)).alloc (.cells #[.int .i64 5, .int .i64 si, .int .i64 st, .int .i64 sg, .int .i64 pi, .int .i64 ps, .int .i64 pm, .int .i64 pp, .int .i64 pc, .int .i64 rs, .int .i64 rp, .bool rn, .int .i64 rf, .int .i64 rb, .int .i64 rt, .int .i64 re, .int .i64 ro, .bool rd, .int .i64 (kk : Int), .int .i64 m, .int .i64 f0, .int .i64 f1, .int .i64 f2, .int .i64 f3, .int .i64 f4, .int .i64 f5, .int .i64 f6, .string body] 54)).alloc (.cells #[.slice none 0 0, .slice none 0 0, .slice none 0 0] 29)) := ⟨_, rfl⟩
    have hb0 : Below w.heap.size w W0 := by rw [hW0]; exact (((Below.refl _ w).alloc (Nat.le_refl _) _).alloc (by simp) _).alloc (by simp; omega) _
    have hz0 : W0.heap.size = w.heap.size + 3 := by rw [hW0]; simp
    have c0 : W0.cell? ⟨w.heap.size, 0, none⟩ = some (.slice s1 S.length s2) := by rw [hW0]; exact old_cell (old_cell (new_cell w _ rfl _ _ _ _ rfl) _) _
    have c1 : W0.cell? ⟨w.heap.size, 1, none⟩ = some (.slice p1 P.length p2) := by rw [hW0]; exact old_cell (old_cell (new_cell w _ rfl _ _ _ _ rfl) _) _
    have c2 : W0.cell? ⟨w.heap.size, 2, none⟩ = some (.slice (some ⟨g, 0, none⟩) A.length a2) := by rw [hW0]; exact old_cell (old_cell (new_cell w _ rfl _ _ _ _ rfl) _) _
    have r0 : W0.cell? ⟨w.heap.size + 1 + 1, 0, none⟩ = some (.slice none 0 0) := by rw [hW0]; exact new_cell _ _ (by simp) _ _ _ _ rfl
    have r1 : W0.cell? ⟨w.heap.size + 1 + 1, 1, none⟩ = some (.slice none 0 0) := by rw [hW0]; exact new_cell _ _ (by simp) _ _ _ _ rfl
    have r2 : W0.cell? ⟨w.heap.size + 1 + 1, 2, none⟩ = some (.slice none 0 0) := by rw [hW0]; exact new_cell _ _ (by simp) _ _ _ _ rfl
    have xn : W0.cell? ⟨w.heap.size + 1, 18, none⟩ = some (.int .i64 (kk : Int)) := by rw [hW0]; exact old_cell (new_cell _ _ (by simp) _ _ _ _ rfl) _
    have xm : W0.cell? ⟨w.heap.size + 1, 19, none⟩ = some (.int .i64 m) := by rw [hW0]; exact old_cell (new_cell _ _ (by simp) _ _ _ _ rfl) _
    have zc0 : W0.frozen? ⟨w.heap.size, 0, none⟩ = false := by rw [hW0]; exact old_frozen (by simp; omega) (old_frozen (by simp) (new_frozen w _ rfl _ _ _) _) _
    have zc1 : W0.frozen? ⟨w.heap.size, 1, none⟩ = false := by rw [hW0]; exact old_frozen (by simp; omega) (old_frozen (by simp) (new_frozen w _ rfl _ _ _) _) _
    have zc2 : W0.frozen? ⟨w.heap.size, 2, none⟩ = false := by rw [hW0]; exact old_frozen (by simp; omega) (old_frozen (by simp) (new_frozen w _ rfl _ _ _) _) _
    have zr0 : W0.frozen? ⟨w.heap.size + 1 + 1, 0, none⟩ = false := by rw [hW0]; exact new_frozen _ _ (by simp) _ _ _
    have zr1 : W0.frozen? ⟨w.heap.size + 1 + 1, 1, none⟩ = false := by rw [hW0]; exact new_frozen _ _ (by simp) _ _ _
    have zr2 : W0.frozen? ⟨w.heap.size + 1 + 1, 2, none⟩ = false := by rw [hW0]; exact new_frozen _ _ (by simp) _ _ _
    rw [← hW0]
    clear hW0
    have nn1 : w.heap.size ≠ w.heap.size + 1 + 1 := by omega
    have k1 := hb0
    have O0 := hide (own_below HO.out.s k1)
    have O1 := hide (own_below HO.out.p k1)
    have O2 := hide (own_below HO.out.a k1)
    refine (deleteAc_any A B g a2 kk W0 O2.out hkl (by omega)).mono ?_
    rintro e w2 ⟨rfl, ho2, hg2⟩
    have d0 := hg2.cell c0 (show some w.heap.size ≠ some g by simp; omega)
    have d1 := hg2.cell c1 (show some w.heap.size ≠ some g by simp; omega)
    have d2 := hg2.cell c2 (show some w.heap.size ≠ some g by simp; omega)
    have q0 := hg2.cell r0 (show some (w.heap.size + 1 + 1) ≠ some g by simp; omega)
    have q1 := hg2.cell r1 (show some (w.heap.size + 1 + 1) ≠ some g by simp; omega)
    have q2 := hg2.cell r2 (show some (w.heap.size + 1 + 1) ≠ some g by simp; omega)
    have y0 := gfrozen hg2 (show w.heap.size < W0.heap.size by omega) zc2 (show some w.heap.size ≠ some g by simp; omega)
    have f0 := gfrozen hg2 (show w.heap.size + 1 + 1 < W0.heap.size by omega) zr0 (show some (w.heap.size + 1 + 1) ≠ some g by simp; omega)
    have f1 := gfrozen hg2 (show w.heap.size + 1 + 1 < W0.heap.size by omega) zr1 (show some (w.heap.size + 1 + 1) ≠ some g by simp; omega)
    have f2 := gfrozen hg2 (show w.heap.size + 1 + 1 < W0.heap.size by omega) zr2 (show some (w.heap.size + 1 + 1) ≠ some g by simp; omega)
    have K0 := hide (World.ownsRow.kept O0.out hg2 HO.out.sa)
    have K1 := hide (World.ownsRow.kept O1.out hg2 HO.out.pa)
    have CF : CfAt w2 (.slice s1 S.length s2) (.slice p1 P.length p2) (.slice (some ⟨g, 0, none⟩) (A.length - 1) a2) S P (A.eraseIdx kk) := ⟨RowAt.of_own swC_len (by omega) K0.out, RowAt.of_own prC_len (by omega) K1.out, RowAt.of_own acC_len (by omega) (by rw [List.length_eraseIdx_of_lt hkl]; exact ho2)⟩
    have HI3 := hide (And.intro (own_ge (K0.out)) (And.intro (own_ge (K1.out)) (own_ge (ho2))))
    have HB1 : Below B w w2 := (k1.mono hB).grown hg2 (Nat.le_trans hB k1.size) (fun b e => by simp at e; subst e; exact own_ge HO.out.a _ rfl)
    have HCF1 := hide CF
    have HBE1 := hide HB1
    clear CF HB1 ho2 hg2 K0 K1 O0 O1 O2 k1 hb0 c0 c1 c2 r0 r1 r2 xn xm zc0 zc1 zc2 zr0 zr1 zr2
    go_wp2_with fail
    have e0 : (w2.setCell ⟨w.heap.size, 2, none⟩ (.slice (some ⟨g, 0, none⟩) (A.length - 1) a2)).cell? ⟨w.heap.size + 1 + 1, 0, none⟩ = some (.slice none 0 0) := (World.cell?_setCell_other _ _ _ _ (by simp <;> omega)).trans q0
    have e1 : (w2.setCell ⟨w.heap.size, 2, none⟩ (.slice (some ⟨g, 0, none⟩) (A.length - 1) a2)).cell? ⟨w.heap.size + 1 + 1, 1, none⟩ = some (.slice none 0 0) := (World.cell?_setCell_other _ _ _ _ (by simp <;> omega)).trans q1
    have e2 : (w2.setCell ⟨w.heap.size, 2, none⟩ (.slice (some ⟨g, 0, none⟩) (A.length - 1) a2)).cell? ⟨w.heap.size + 1 + 1, 2, none⟩ = some (.slice none 0 0) := (World.cell?_setCell_other _ _ _ _ (by simp <;> omega)).trans q2
    obtain ⟨u0, u1, u2⟩ := set3 e0 e1 e2 (.slice s1 S.length s2) (.slice p1 P.length p2) (.slice (some ⟨g, 0, none⟩) (A.length - 1) a2)
    have HCF := hide (((((HCF1.out).set_far (own_ne HO.out.s (b := w.heap.size) (Nat.le_refl _)) (own_ne HO.out.p (b := w.heap.size) (Nat.le_refl _)) (show (Value.slice (some ⟨g, 0, none⟩) _ _).ownBlock ≠ some (w.heap.size) by simp [Value.ownBlock]; omega) 2 (.slice (some ⟨g, 0, none⟩) (A.length - 1) a2)).set_far (own_ne HO.out.s (b := (w.heap.size + 1 + 1)) (by omega)) (own_ne HO.out.p (b := (w.heap.size + 1 + 1)) (by omega)) (show (Value.slice (some ⟨g, 0, none⟩) _ _).ownBlock ≠ some ((w.heap.size + 1 + 1)) by simp [Value.ownBlock]; omega) 0 (.slice s1 S.length s2)).set_far (own_ne HO.out.s (b := (w.heap.size + 1 + 1)) (by omega)) (own_ne HO.out.p (b := (w.heap.size + 1 + 1)) (by omega)) (show (Value.slice (some ⟨g, 0, none⟩) _ _).ownBlock ≠ some ((w.heap.size + 1 + 1)) by simp [Value.ownBlock]; omega) 1 (.slice p1 P.length p2)).set_far (own_ne HO.out.s (b := (w.heap.size + 1 + 1)) (by omega)) (own_ne HO.out.p (b := (w.heap.size + 1 + 1)) (by omega)) (show (Value.slice (some ⟨g, 0, none⟩) _ _).ownBlock ≠ some ((w.heap.size + 1 + 1)) by simp [Value.ownBlock]; omega) 2 (.slice (some ⟨g, 0, none⟩) (A.length - 1) a2))
    have HBE := hide (((((HBE1.out).setCell (p := ⟨w.heap.size, 2, none⟩) hB (.slice (some ⟨g, 0, none⟩) (A.length - 1) a2)).setCell (p := ⟨w.heap.size + 1 + 1, 0, none⟩) hBR (.slice s1 S.length s2)).setCell (p := ⟨w.heap.size + 1 + 1, 1, none⟩) hBR (.slice p1 P.length p2)).setCell (p := ⟨w.heap.size + 1 + 1, 2, none⟩) hBR (.slice (some ⟨g, 0, none⟩) (A.length - 1) a2))
    refine bodyPost_ret (v := .agg #[.slice s1 S.length s2, .slice p1 P.length p2, .slice (some ⟨g, 0, none⟩) (A.length - 1) a2]) ?_ rfl ⟨_, _, _, rfl, by simpa [nxS, nxP, nxA] using HCF.out, HBE.out, HI3.out⟩
    clear HCF HBE HI3 e0 e1 e2
    generalize ((((w2.setCell ⟨w.heap.size, 2, none⟩ (.slice (some ⟨g, 0, none⟩) (A.length - 1) a2)).setCell ⟨w.heap.size + 1 + 1, 0, none⟩ (.slice s1 S.length s2)).setCell ⟨w.heap.size + 1 + 1, 1, none⟩ (.slice p1 P.length p2)).setCell ⟨w.heap.size + 1 + 1, 2, none⟩ (.slice (some ⟨g, 0, none⟩) (A.length - 1) a2)) = W at *
    simp [results, Tryz.results41, go_sem, u0, u1, u2]
  · have hBR : B ≤ w.heap.size + 1 + 1 := by omega
    have hpp := hp (.inr rfl)
    have hbd := idx_bd (fun x : Pr => x.i == n) P
    obtain ⟨kk, hkk⟩ : ∃ kk : Nat, pat P n = (kk : Int) := ⟨(pat P n).toNat, by omega⟩
    have hkl : kk < P.length := by have : pat P n < P.length := hbd.2; omega
    rw [hkk] at HAT
    have HKK := hide hkk
    clear hkk hbd hpp hp hn
    obtain ⟨g, cap, hform, -, -⟩ := HO.out.p.form (by omega)
    simp only [Value.slice.injEq, true_and] at hform
    obtain ⟨rfl, rfl⟩ := hform
    have hgw : g < w.heap.size := own_in HO.out.p rfl
    have q3 : (0 : Int) ≤ (kk : Int) := by omega
    have q4 : (kk : Int) < (P.length : Int) := by omega
    go_wp2_with fail
    obtain ⟨W0, hW0⟩ : ∃ W0, W0 = (((w.alloc (.cells #[.slice s1 S.length s2, .slice (some ⟨g, 0, none⟩) P.length p2, .slice a1 A.length a2] 29)).alloc (.cells #[.int .i64 6, .int .i64 si, .int .i64 st, .int .i64 sg, .int .i64 pi, .int .i64 ps, .int .i64 pm, .int .i64 pp, .int .i64 pc, .int .i64 rs, .int .i64 rp, .bool rn, .int .i64 rf, .int .i64 rb, .int .i64 rt, .int .i64 re, .int .i64 ro, .bool rd, .int .i64 n, .int .i64 m, .int .i64 f0, .int .i64 f1, .int .i64 f2, .int .i64 f3, .int .i64 f4, .int .i64 f5, .int .i64 f6, .string body] 54)).alloc (.cells #[.slice none 0 0, .slice none 0 0, .slice none 0 0] 29)) := ⟨_, rfl⟩
    have hb0 : Below w.heap.size w W0 := by rw [hW0]; exact (((Below.refl _ w).alloc (Nat.le_refl _) _).alloc (by simp) _).alloc (by simp; omega) _
    have hz0 : W0.heap.size = w.heap.size + 3 := by rw [hW0]; simp
    have c0 : W0.cell? ⟨w.heap.size, 0, none⟩ = some (.slice s1 S.length s2) := by rw [hW0]; exact old_cell (old_cell (new_cell w _ rfl _ _ _ _ rfl) _) _
    have c1 : W0.cell? ⟨w.heap.size, 1, none⟩ = some (.slice (some ⟨g, 0, none⟩) P.length p2) := by rw [hW0]; exact old_cell (old_cell (new_cell w _ rfl _ _ _ _ rfl) _) _
    have c2 : W0.cell? ⟨w.heap.size, 2, none⟩ = some (.slice a1 A.length a2) := by rw [hW0]; exact old_cell (old_cell (new_cell w _ rfl _ _ _ _ rfl) _) _
    have r0 : W0.cell? ⟨w.heap.size + 1 + 1, 0, none⟩ = some (.slice none 0 0) := by rw [hW0]; exact new_cell _ _ (by simp) _ _ _ _ rfl
    have r1 : W0.cell? ⟨w.heap.size + 1 + 1, 1, none⟩ = some (.slice none 0 0) := by rw [hW0]; exact new_cell _ _ (by simp) _ _ _ _ rfl
    have r2 : W0.cell? ⟨w.heap.size + 1 + 1, 2, none⟩ = some (.slice none 0 0) := by rw [hW0]; exact new_cell _ _ (by simp) _ _ _ _ rfl
    have xn : W0.cell? ⟨w.heap.size + 1, 18, none⟩ = some (.int .i64 n) := by rw [hW0]; exact old_cell (new_cell _ _ (by simp) _ _ _ _ rfl) _
    have xm : W0.cell? ⟨w.heap.size + 1, 19, none⟩ = some (.int .i64 m) := by rw [hW0]; exact old_cell (new_cell _ _ (by simp) _ _ _ _ rfl) _
    have zc0 : W0.frozen? ⟨w.heap.size, 0, none⟩ = false := by rw [hW0]; exact old_frozen (by simp; omega) (old_frozen (by simp) (new_frozen w _ rfl _ _ _) _) _
    have zc1 : W0.frozen? ⟨w.heap.size, 1, none⟩ = false := by rw [hW0]; exact old_frozen (by simp; omega) (old_frozen (by simp) (new_frozen w _ rfl _ _ _) _) _
    have zc2 : W0.frozen? ⟨w.heap.size, 2, none⟩ = false := by rw [hW0]; exact old_frozen (by simp; omega) (old_frozen (by simp) (new_frozen w _ rfl _ _ _) _) _
    have zr0 : W0.frozen? ⟨w.heap.size + 1 + 1, 0, none⟩ = false := by rw [hW0]; exact new_frozen _ _ (by simp) _ _ _
    have zr1 : W0.frozen? ⟨w.heap.size + 1 + 1, 1, none⟩ = false := by rw [hW0]; exact new_frozen _ _ (by simp) _ _ _
    have zr2 : W0.frozen? ⟨w.heap.size + 1 + 1, 2, none⟩ = false := by rw [hW0]; exact new_frozen _ _ (by simp) _ _ _
    rw [← hW0]
    clear hW0
    have nn1 : w.heap.size ≠ w.heap.size + 1 + 1 := by omega
    have O1 := hide (own_below HO.out.p hb0)
    have hrow := (O1.out.cellAt (kk * 5 + 4) (by omega)).trans (flat_at prC_len P kk _ (getD_at pr0 hkl) 4 _ rfl)
    have hrf := O1.out.frozenAt (kk * 5 + 4)
    have hg1 : g ≠ w.heap.size := by omega
    have hg2 : g ≠ w.heap.size + 1 := by omega
    have hgW : g < W0.heap.size := by omega
    go_region_held3 (fun w' => w'.cell? ⟨w.heap.size, 0, none⟩ = some (.slice s1 S.length s2) ∧ w'.cell? ⟨w.heap.size, 1, none⟩ = some (.slice (some ⟨g, 0, none⟩) P.length p2) ∧ w'.cell? ⟨w.heap.size, 2, none⟩ = some (.slice a1 A.length a2) ∧ w'.cell? ⟨w.heap.size + 1, 18, none⟩ = some (.int .i64 n) ∧ w'.cell? ⟨w.heap.size + 1, 19, none⟩ = some (.int .i64 m)) (go_keep)
      (first | (go_at_call 65; refine (unhide HAT _ hb0.drew).mono ?_; rintro e w1 ⟨rfl, hc1⟩; have g1 : Below W0.heap.size W0 w1 := ((Below.refl _ W0).drew).trans hc1; have v0 := cell_beh c0 g1 (Nat.le_refl _); have v1 := cell_beh c1 g1 (Nat.le_refl _); have v2 := cell_beh c2 g1 (Nat.le_refl _); have v3 := cell_beh xn g1 (Nat.le_refl _); have v4 := cell_beh xm g1 (Nat.le_refl _); have vr := cell_beh hrow g1 (Nat.le_refl _); have vf := (g1.frozen (p := ⟨g, kk * 5 + 4, none⟩) hgW).trans hrf))
    have k1 := hb0.trans (g1.mono hb0.size)
    have tq0 := cell_beh r0 g1 (Nat.le_refl _)
    have tq1 := cell_beh r1 g1 (Nat.le_refl _)
    have tq2 := cell_beh r2 g1 (Nat.le_refl _)
    have q0 : (w1.setCell ⟨g, kk * 5 + 4, none⟩ (.int .i64 m)).cell? ⟨w.heap.size + 1 + 1, 0, none⟩ = some (.slice none 0 0) := (World.cell?_setCell_other _ _ _ _ (by simp <;> omega)).trans tq0
    have q1 : (w1.setCell ⟨g, kk * 5 + 4, none⟩ (.int .i64 m)).cell? ⟨w.heap.size + 1 + 1, 1, none⟩ = some (.slice none 0 0) := (World.cell?_setCell_other _ _ _ _ (by simp <;> omega)).trans tq1
    have q2 : (w1.setCell ⟨g, kk * 5 + 4, none⟩ (.int .i64 m)).cell? ⟨w.heap.size + 1 + 1, 2, none⟩ = some (.slice none 0 0) := (World.cell?_setCell_other _ _ _ _ (by simp <;> omega)).trans tq2
    have d0 : (w1.setCell ⟨g, kk * 5 + 4, none⟩ (.int .i64 m)).cell? ⟨w.heap.size, 0, none⟩ = some (.slice s1 S.length s2) := (World.cell?_setCell_other _ _ _ _ (by simp <;> omega)).trans v0
    have d1 : (w1.setCell ⟨g, kk * 5 + 4, none⟩ (.int .i64 m)).cell? ⟨w.heap.size, 1, none⟩ = some (.slice (some ⟨g, 0, none⟩) P.length p2) := (World.cell?_setCell_other _ _ _ _ (by simp <;> omega)).trans v1
    have d2 : (w1.setCell ⟨g, kk * 5 + 4, none⟩ (.int .i64 m)).cell? ⟨w.heap.size, 2, none⟩ = some (.slice a1 A.length a2) := (World.cell?_setCell_other _ _ _ _ (by simp <;> omega)).trans v2
    have f0 : (w1.setCell ⟨g, kk * 5 + 4, none⟩ (.int .i64 m)).frozen? ⟨w.heap.size + 1 + 1, 0, none⟩ = false := by rw [World.frozen?_setCell]; exact (g1.frozen (p := ⟨w.heap.size + 1 + 1, 0, none⟩) (show w.heap.size + 1 + 1 < W0.heap.size by omega)).trans zr0
    have f1 : (w1.setCell ⟨g, kk * 5 + 4, none⟩ (.int .i64 m)).frozen? ⟨w.heap.size + 1 + 1, 1, none⟩ = false := by rw [World.frozen?_setCell]; exact (g1.frozen (p := ⟨w.heap.size + 1 + 1, 1, none⟩) (show w.heap.size + 1 + 1 < W0.heap.size by omega)).trans zr1
    have f2 : (w1.setCell ⟨g, kk * 5 + 4, none⟩ (.int .i64 m)).frozen? ⟨w.heap.size + 1 + 1, 2, none⟩ = false := by rw [World.frozen?_setCell]; exact (g1.frozen (p := ⟨w.heap.size + 1 + 1, 2, none⟩) (show w.heap.size + 1 + 1 < W0.heap.size by omega)).trans zr2
    have O0 := hide (own_below HO.out.s k1)
    have O1b := hide (own_below HO.out.p k1)
    have O2 := hide (own_below HO.out.a k1)
    have K1 := own_set_c O1b.out (kk * 5 + 4) (.int .i64 m)
    rw [port_set P kk m hkl] at K1
    have K0 := World.ownsRow.kept O0.out (grown_set_c (j := kk * 5 + 4) (v := .int .i64 m) (grown_refl_c w1 (some g))) HO.out.sp
    have K2 := World.ownsRow.kept O2.out (grown_set_c (j := kk * 5 + 4) (v := .int .i64 m) (grown_refl_c w1 (some g))) (sep_sym HO.out.pa)
    have CF : CfAt (w1.setCell ⟨g, kk * 5 + 4, none⟩ (.int .i64 m)) (.slice s1 S.length s2) (.slice (some ⟨g, 0, none⟩) P.length p2) (.slice a1 A.length a2) S (P.set kk ⟨(P.getD kk pr0).i, (P.getD kk pr0).s, (P.getD kk pr0).m, (P.getD kk pr0).p, m⟩) A := ⟨RowAt.of_own swC_len (by omega) K0, RowAt.of_own prC_len (by omega) (by rw [List.length_set]; exact K1), RowAt.of_own acC_len (by omega) K2⟩
    have HI3 := hide (And.intro (own_ge (K0)) (And.intro (own_ge (K1)) (own_ge (K2))))
    have HB1 : Below B w (w1.setCell ⟨g, kk * 5 + 4, none⟩ (.int .i64 m)) := (k1.mono hB).setCell (p := ⟨g, kk * 5 + 4, none⟩) (own_ge HO.out.p _ rfl) _
    have HCF1 := hide CF
    have HBE1 := hide HB1
    clear CF HB1 K0 K1 K2 O0 O1 O1b O2 k1 g1 hc1 hb0 v0 v1 v2 v3 v4 vr vf tq0 tq1 tq2 hrow hrf HAT c0 c1 c2 r0 r1 r2 xn xm zc0 zc1 zc2 zr0 zr1 zr2
    generalize (w1.setCell ⟨g, kk * 5 + 4, none⟩ (.int .i64 m)) = w2 at *
    go_wp2_with fail
    have e0 : w2.cell? ⟨w.heap.size + 1 + 1, 0, none⟩ = some (.slice none 0 0) := q0
    have e1 : w2.cell? ⟨w.heap.size + 1 + 1, 1, none⟩ = some (.slice none 0 0) := q1
    have e2 : w2.cell? ⟨w.heap.size + 1 + 1, 2, none⟩ = some (.slice none 0 0) := q2
    obtain ⟨u0, u1, u2⟩ := set3 e0 e1 e2 (.slice s1 S.length s2) (.slice (some ⟨g, 0, none⟩) P.length p2) (.slice a1 A.length a2)
    have HCF := hide ((((HCF1.out).set_far (own_ne HO.out.s (b := (w.heap.size + 1 + 1)) (by omega)) (show (Value.slice (some ⟨g, 0, none⟩) _ _).ownBlock ≠ some ((w.heap.size + 1 + 1)) by simp [Value.ownBlock]; omega) (own_ne HO.out.a (b := (w.heap.size + 1 + 1)) (by omega)) 0 (.slice s1 S.length s2)).set_far (own_ne HO.out.s (b := (w.heap.size + 1 + 1)) (by omega)) (show (Value.slice (some ⟨g, 0, none⟩) _ _).ownBlock ≠ some ((w.heap.size + 1 + 1)) by simp [Value.ownBlock]; omega) (own_ne HO.out.a (b := (w.heap.size + 1 + 1)) (by omega)) 1 (.slice (some ⟨g, 0, none⟩) P.length p2)).set_far (own_ne HO.out.s (b := (w.heap.size + 1 + 1)) (by omega)) (show (Value.slice (some ⟨g, 0, none⟩) _ _).ownBlock ≠ some ((w.heap.size + 1 + 1)) by simp [Value.ownBlock]; omega) (own_ne HO.out.a (b := (w.heap.size + 1 + 1)) (by omega)) 2 (.slice a1 A.length a2))
    have HBE := hide ((((HBE1.out).setCell (p := ⟨w.heap.size + 1 + 1, 0, none⟩) hBR (.slice s1 S.length s2)).setCell (p := ⟨w.heap.size + 1 + 1, 1, none⟩) hBR (.slice (some ⟨g, 0, none⟩) P.length p2)).setCell (p := ⟨w.heap.size + 1 + 1, 2, none⟩) hBR (.slice a1 A.length a2))
    refine bodyPost_ret (v := .agg #[.slice s1 S.length s2, .slice (some ⟨g, 0, none⟩) P.length p2, .slice a1 A.length a2]) ?_ rfl ⟨_, _, _, rfl, by simpa [nxS, nxP, nxA, HKK.out] using HCF.out, HBE.out, HI3.out⟩
    clear HCF HBE HI3 e0 e1 e2
    generalize (((w2.setCell ⟨w.heap.size + 1 + 1, 0, none⟩ (.slice s1 S.length s2)).setCell ⟨w.heap.size + 1 + 1, 1, none⟩ (.slice (some ⟨g, 0, none⟩) P.length p2)).setCell ⟨w.heap.size + 1 + 1, 2, none⟩ (.slice a1 A.length a2)) = W at *
    simp [results, Tryz.results41, go_sem, u0, u1, u2]
  · have hBR : B ≤ w.heap.size + 1 + 1 := by omega
    clear HAT
    obtain ⟨W0, hW0⟩ : ∃ W0, W0 = (((w.alloc (.cells #[.slice s1 S.length s2, .slice p1 P.length p2, .slice a1 A.length a2] 29)).alloc (.cells #[.int .i64 k, .int .i64 si, .int .i64 st, .int .i64 sg, .int .i64 pi, .int .i64 ps, .int .i64 pm, .int .i64 pp, .int .i64 pc, .int .i64 rs, .int .i64 rp, .bool rn, .int .i64 rf, .int .i64 rb, .int .i64 rt, .int .i64 re, .int .i64 ro, .bool rd, .int .i64 n, .int .i64 m, .int .i64 f0, .int .i64 f1, .int .i64 f2, .int .i64 f3, .int .i64 f4, .int .i64 f5, .int .i64 f6, .string body] 54)).alloc (.cells #[.slice s1 S.length s2, .slice p1 P.length p2, .slice a1 A.length a2] 29)) := ⟨_, rfl⟩
    have hb0 : Below w.heap.size w W0 := by rw [hW0]; exact (((Below.refl _ w).alloc (Nat.le_refl _) _).alloc (by simp) _).alloc (by simp; omega) _
    have q0 : W0.cell? ⟨w.heap.size + 1 + 1, 0, none⟩ = some (.slice s1 S.length s2) := by rw [hW0]; exact new_cell _ _ (by simp) _ _ _ _ rfl
    have q1 : W0.cell? ⟨w.heap.size + 1 + 1, 1, none⟩ = some (.slice p1 P.length p2) := by rw [hW0]; exact new_cell _ _ (by simp) _ _ _ _ rfl
    have q2 : W0.cell? ⟨w.heap.size + 1 + 1, 2, none⟩ = some (.slice a1 A.length a2) := by rw [hW0]; exact new_cell _ _ (by simp) _ _ _ _ rfl
    have HCF := hide (HO.out.cf.below hb0 (Nat.le_refl _))
    have HI3 := hide (And.intro (own_ge HO.out.s) (And.intro (own_ge HO.out.p) (own_ge HO.out.a)))
    have HBE := hide (hb0.mono hB)
    go_wp2_with fail
    rw [← hW0]
    clear hW0
    refine bodyPost_ret (v := .agg #[.slice s1 S.length s2, .slice p1 P.length p2, .slice a1 A.length a2]) ?_ rfl ⟨_, _, _, rfl, by simpa [nxS, nxP, nxA, k1, k2, k3, k4, k5, k6] using HCF.out, HBE.out, HI3.out⟩
    simp [results, Tryz.results41, go_sem, q0, q1, q2]

end Go.Proofs.YtjcomoinggiedaaGreat

namespace Go.Proofs.YtjcomoinggiedaaGreat
open Go.RowKit
set_option linter.unusedVariables false
set_option maxRecDepth 100000

theorem Hi3.none (B : Nat) : Hi3 B (.slice none 0 0) (.slice none 0 0) (.slice none 0 0) := ⟨fun g h => by simp [Value.ownBlock] at h, fun g h => by simp [Value.ownBlock] at h, fun g h => by simp [Value.ownBlock] at h⟩
theorem Hi3.mono {B B' : Nat} {x y z : Value} (h : Hi3 B x y z) (hb : B' ≤ B) : Hi3 B' x y z := ⟨fun g e => Nat.le_trans hb (h.1 g e), fun g e => Nat.le_trans hb (h.2.1 g e), fun g e => Nat.le_trans hb (h.2.2 g e)⟩

set_option maxHeartbeats 8000000 in
theorem apply_own (sv pv av : Value) (S : List Sw) (P : List Pr) (A : List Ac) (a : Ax) (w : World) (hC : CfAt w sv pv av S P A) (h1 : S.length * 24 ≤ 140737488355328) (h2 : P.length * 40 ≤ 140737488355328) (h3 : A.length * 72 ≤ 140737488355328) :
    Calls Tryz.prog 23 #[.agg #[sv, pv, av], actV a] w fun e w' => ∃ su pu au, e = .returned (.tuple #[.agg #[su, pu, au], .int .i64 (appE S P A a)]) ∧ CfAt w' su pu au (apS S P A a) (apP S P A a) (apA S P A a) ∧ Below w.heap.size w w' ∧ Hi3 w.heap.size su pu au := by
  have HCK := hide (fun W (hW : Below w.heap.size w W) => confCheck_any sv pv av S P A W (hC.below hW (Nat.le_refl _)) h1 h2 h3)
  have HCA := hide (fun W (hW : Below w.heap.size w W) => checkAct_any sv pv av S P A a W (hC.below hW (Nat.le_refl _)) h1 h2 h3)
  have HCY := hide (fun W (hW : Below w.heap.size w W) => copy_any sv pv av S P A W (hC.below hW (Nat.le_refl _)) h1 h2 h3)
  have HCH : Hid (∀ (W : World) (B : Nat) (x y z : Value), may S P A = true → actFault S P A a = 0 → Own3 W B x y z S P A → B ≤ W.heap.size → Calls Tryz.prog 41 #[.agg #[x, y, z], actV a] W fun e w' => ∃ su pu au, e = .returned (.agg #[su, pu, au]) ∧ CfAt w' su pu au (nxS S a) (nxP P a) (nxA A a) ∧ Below B W w' ∧ Hi3 B su pu au) := fun W B x y z hm hf ho hB =>
    changed_own B x y z S P A a W ho hB (may_len hm).1 (may_len hm).2.1 (may_len hm).2.2 (act_port hf) (act_acl hf)
  have HE0 : Hid (may S P A = false → appE S P A a = 8 ∧ apS S P A a = [] ∧ apP S P A a = [] ∧ apA S P A a = []) := fun h => by
    have e : appE S P A a = 8 := by unfold appE; rw [h]; rfl
    exact ⟨e, by unfold apS; rw [e]; rfl, by unfold apP; rw [e]; rfl, by unfold apA; rw [e]; rfl⟩
  have HE1 : Hid (may S P A = true → actFault S P A a ≠ 0 → appE S P A a = actFault S P A a ∧ apS S P A a = [] ∧ apP S P A a = [] ∧ apA S P A a = []) := fun h hn => by
    have e : appE S P A a = actFault S P A a := by unfold appE; rw [if_pos h]
    exact ⟨e, by unfold apS; rw [e, if_neg hn], by unfold apP; rw [e, if_neg hn], by unfold apA; rw [e, if_neg hn]⟩
  have HE2 : Hid (may S P A = true → actFault S P A a = 0 → appE S P A a = 0 ∧ apS S P A a = nxS S a ∧ apP S P A a = nxP P a ∧ apA S P A a = nxA A a) := fun h hn => by
    have e : appE S P A a = 0 := by unfold appE; rw [if_pos h, hn]
    exact ⟨e, by unfold apS; rw [if_pos e], by unfold apP; rw [if_pos e], by unfold apA; rw [if_pos e]⟩
  obtain ⟨E, hE⟩ : ∃ E : Int, E = if may S P A = true then 0 else 8 := ⟨_, rfl⟩
  rw [← hE] at HCK
  have HE := hide hE
  clear hE
  generalize may S P A = M at *
  generalize actFault S P A a = G at *
  generalize appE S P A a = EE at *
  generalize apS S P A a = LS at *
  generalize apP S P A a = LP at *
  generalize apA S P A a = LA at *
  generalize nxS S a = NS at *
  generalize nxP P a = NP at *
  generalize nxA A a = NA at *
  obtain ⟨s1, s2, rfl⟩ := hC.1.slice
  obtain ⟨p1, p2, rfl⟩ := hC.2.1.slice
  obtain ⟨a1, a2, rfl⟩ := hC.2.2.slice
  clear hC
  obtain ⟨k, si, st, sg, pi, ps, pm, pp, pc, rs, rp, rn, rf, rb, rt, re, ro, rd, n, m, f0, f1, f2, f3, f4, f5, f6, body⟩ := a
  go_enter Tryz.func23, Tryz.ntmps23
  go_wp2_with fail
  obtain ⟨W0, hW0⟩ : ∃ W0, W0 = ((w.alloc (.cells #[.slice s1 S.length s2, .slice p1 P.length p2, .slice a1 A.length a2] 29)).alloc (.cells #[.int .i64 k, .int .i64 si, .int .i64 st, .int .i64 sg, .int .i64 pi, .int .i64 ps, .int .i64 pm, .int .i64 pp, .int .i64 pc, .int .i64 rs, .int .i64 rp, .bool rn, .int .i64 rf, .int .i64 rb, .int .i64 rt, .int .i64 re, .int .i64 ro, .bool rd, .int .i64 n, .int .i64 m, .int .i64 f0, .int .i64 f1, .int .i64 f2, .int .i64 f3, .int .i64 f4, .int .i64 f5, .int .i64 f6, .string body] 54)).alloc (.cells #[.slice none 0 0, .slice none 0 0, .slice none 0 0] 29) := ⟨_, rfl⟩
  have hb0 : Below w.heap.size w W0 := by rw [hW0]; exact (((Below.refl _ w).alloc (Nat.le_refl _) _).alloc (by simp) _).alloc (by simp; omega) _
  have hz0 : W0.heap.size = w.heap.size + 3 := by rw [hW0]; simp
  have c0 : W0.cell? ⟨w.heap.size, 0, none⟩ = some (.slice s1 S.length s2) := by rw [hW0]; exact old_cell (old_cell (new_cell w _ rfl _ _ _ _ rfl) _) _
  have c1 : W0.cell? ⟨w.heap.size, 1, none⟩ = some (.slice p1 P.length p2) := by rw [hW0]; exact old_cell (old_cell (new_cell w _ rfl _ _ _ _ rfl) _) _
  have c2 : W0.cell? ⟨w.heap.size, 2, none⟩ = some (.slice a1 A.length a2) := by rw [hW0]; exact old_cell (old_cell (new_cell w _ rfl _ _ _ _ rfl) _) _
  have X : Hid (W0.rangeAt (w.heap.size + 1) 0 [Value.int .i64 k, .int .i64 si, .int .i64 st, .int .i64 sg, .int .i64 pi, .int .i64 ps, .int .i64 pm, .int .i64 pp, .int .i64 pc, .int .i64 rs, .int .i64 rp, .bool rn, .int .i64 rf, .int .i64 rb, .int .i64 rt, .int .i64 re, .int .i64 ro, .bool rd, .int .i64 n, .int .i64 m, .int .i64 f0, .int .i64 f1, .int .i64 f2, .int .i64 f3, .int .i64 f4, .int .i64 f5, .int .i64 f6, .string body]) := by
    rw [hW0]
    intro j v hj
    rw [Nat.zero_add]
    exact old_cell (new_cell _ _ (by simp) #[.int .i64 k, .int .i64 si, .int .i64 st, .int .i64 sg, .int .i64 pi, .int .i64 ps, .int .i64 pm, .int .i64 pp, .int .i64 pc, .int .i64 rs, .int .i64 rp, .bool rn, .int .i64 rf, .int .i64 rb, .int .i64 rt, .int .i64 re, .int .i64 ro, .bool rd, .int .i64 n, .int .i64 m, .int .i64 f0, .int .i64 f1, .int .i64 f2, .int .i64 f3, .int .i64 f4, .int .i64 f5, .int .i64 f6, .string body] _ j v (by simpa using hj)) _
  have r0 : W0.cell? ⟨w.heap.size + 1 + 1, 0, none⟩ = some (.slice none 0 0) := by rw [hW0]; exact new_cell _ _ (by simp) _ _ _ _ rfl
  have r1 : W0.cell? ⟨w.heap.size + 1 + 1, 1, none⟩ = some (.slice none 0 0) := by rw [hW0]; exact new_cell _ _ (by simp) _ _ _ _ rfl
  have r2 : W0.cell? ⟨w.heap.size + 1 + 1, 2, none⟩ = some (.slice none 0 0) := by rw [hW0]; exact new_cell _ _ (by simp) _ _ _ _ rfl
  have z0 : W0.frozen? ⟨w.heap.size + 1 + 1, 0, none⟩ = false := by rw [hW0]; exact new_frozen _ _ (by simp) _ _ _
  have z1 : W0.frozen? ⟨w.heap.size + 1 + 1, 1, none⟩ = false := by rw [hW0]; exact new_frozen _ _ (by simp) _ _ _
  have z2 : W0.frozen? ⟨w.heap.size + 1 + 1, 2, none⟩ = false := by rw [hW0]; exact new_frozen _ _ (by simp) _ _ _
  have hRlt : w.heap.size + 1 + 1 < W0.heap.size := by omega
  rw [← hW0]
  clear hW0 hz0
  refine (unhide HCK _ hb0).mono ?_
  rintro e w1 ⟨rfl, hb1⟩
  have k1 := hb0.trans (hb1.mono hb0.size)
  have ac0 := cell_beh c0 hb1 (Nat.le_refl _)
  have ac1 := cell_beh c1 hb1 (Nat.le_refl _)
  have ac2 := cell_beh c2 hb1 (Nat.le_refl _)
  have aX := hide (rangeAt_beh X.out hb1 (Nat.le_refl _))
  have ar0 := cell_beh r0 hb1 (Nat.le_refl _)
  have ar1 := cell_beh r1 hb1 (Nat.le_refl _)
  have ar2 := cell_beh r2 hb1 (Nat.le_refl _)
  have az0 := (hb1.frozen (p := ⟨w.heap.size + 1 + 1, 0, none⟩) (by show _ < W0.heap.size; exact hRlt)).trans z0
  have az1 := (hb1.frozen (p := ⟨w.heap.size + 1 + 1, 1, none⟩) (by show _ < W0.heap.size; exact hRlt)).trans z1
  have az2 := (hb1.frozen (p := ⟨w.heap.size + 1 + 1, 2, none⟩) (by show _ < W0.heap.size; exact hRlt)).trans z2
  clear c0 c1 c2 r0 r1 r2 z0 z1 z2 X
  have hR1 : w.heap.size + 1 + 1 < w1.heap.size := Nat.lt_of_lt_of_le hRlt hb1.size
  clear hb0 hb1 HCK hRlt
  cases M
  · obtain rfl : E = 8 := HE.out
    obtain ⟨rfl, rfl, rfl, rfl⟩ := HE0.out rfl
    clear HCA HCY HCH HE HE0 HE1 HE2 ac0 ac1 ac2 aX
    go_wp2_with fail
    obtain ⟨u0, u1, u2⟩ := set3 ar0 ar1 ar2 (.slice none 0 0) (.slice none 0 0) (.slice none 0 0)
    have HBE := hide ((((k1).setCell (p := ⟨w.heap.size + 1 + 1, 0, none⟩) (by show w.heap.size ≤ w.heap.size + 1 + 1; omega) (.slice none 0 0)).setCell (p := ⟨w.heap.size + 1 + 1, 1, none⟩) (by show w.heap.size ≤ w.heap.size + 1 + 1; omega) (.slice none 0 0)).setCell (p := ⟨w.heap.size + 1 + 1, 2, none⟩) (by show w.heap.size ≤ w.heap.size + 1 + 1; omega) (.slice none 0 0))
    have HCF := hide ((⟨RowAt.nil _ _ _, RowAt.nil _ _ _, RowAt.nil _ _ _⟩ : CfAt (((w1.setCell ⟨w.heap.size + 1 + 1, 0, none⟩ (.slice none 0 0)).setCell ⟨w.heap.size + 1 + 1, 1, none⟩ (.slice none 0 0)).setCell ⟨w.heap.size + 1 + 1, 2, none⟩ (.slice none 0 0)) (.slice none 0 0) (.slice none 0 0) (.slice none 0 0) [] [] []))
    refine bodyPost_ret (v := .tuple #[.agg #[.slice none 0 0, .slice none 0 0, .slice none 0 0], .int .i64 8]) ?_ rfl ⟨_, _, _, rfl, HCF.out, HBE.out, Hi3.none _⟩
    clear HCF HBE ar0 az0 ar1 az1 ar2 az2
    generalize (((w1.setCell ⟨w.heap.size + 1 + 1, 0, none⟩ (.slice none 0 0)).setCell ⟨w.heap.size + 1 + 1, 1, none⟩ (.slice none 0 0)).setCell ⟨w.heap.size + 1 + 1, 2, none⟩ (.slice none 0 0)) = W at *
    simp [results, Tryz.results23, go_sem, u0, u1, u2]
  · obtain rfl : E = 0 := HE.out
    have HF1 := hide (HE1.out rfl)
    have HF2 := hide (HE2.out rfl)
    have HCH1 := hide (fun W B x y z => HCH.out W B x y z rfl)
    clear HE HE0 HE1 HE2 HCH
    go_wp2_with (refine wpList_load_mid rfl 54 (.tmp 3) rfl (w.heap.size + 1) 0 rfl [Value.int .i64 k, .int .i64 si, .int .i64 st, .int .i64 sg, .int .i64 pi, .int .i64 ps, .int .i64 pm, .int .i64 pp, .int .i64 pc, .int .i64 rs, .int .i64 rp, .bool rn, .int .i64 rf, .int .i64 rb, .int .i64 rt, .int .i64 re, .int .i64 ro, .bool rd, .int .i64 n, .int .i64 m, .int .i64 f0, .int .i64 f1, .int .i64 f2, .int .i64 f3, .int .i64 f4, .int .i64 f5, .int .i64 f6, .string body] _ aX.out Tryz.underlying54 rfl actInfo ?_)
    refine (unhide HCA _ k1).mono ?_
    rintro e w2 ⟨rfl, hb2⟩
    have k2 := k1.trans (hb2.mono k1.size)
    have bc0 := cell_beh ac0 hb2 (Nat.le_refl _)
    have bc1 := cell_beh ac1 hb2 (Nat.le_refl _)
    have bc2 := cell_beh ac2 hb2 (Nat.le_refl _)
    have bX := hide (rangeAt_beh aX.out hb2 (Nat.le_refl _))
    have br0 := cell_beh ar0 hb2 (Nat.le_refl _)
    have br1 := cell_beh ar1 hb2 (Nat.le_refl _)
    have br2 := cell_beh ar2 hb2 (Nat.le_refl _)
    have bz0 := (hb2.frozen (p := ⟨w.heap.size + 1 + 1, 0, none⟩) (by show _ < w1.heap.size; exact hR1)).trans az0
    have bz1 := (hb2.frozen (p := ⟨w.heap.size + 1 + 1, 1, none⟩) (by show _ < w1.heap.size; exact hR1)).trans az1
    have bz2 := (hb2.frozen (p := ⟨w.heap.size + 1 + 1, 2, none⟩) (by show _ < w1.heap.size; exact hR1)).trans az2
    clear ac0 ac1 ac2 ar0 ar1 ar2 az0 az1 az2 aX
    have hR2 : w.heap.size + 1 + 1 < w2.heap.size := Nat.lt_of_lt_of_le hR1 hb2.size
    clear k1 hb2 HCA hR1
    by_cases hG : G = 0
    · subst hG
      obtain ⟨rfl, rfl, rfl, rfl⟩ := HF2.out rfl
      have HCH2 := hide (fun W B x y z => HCH1.out W B x y z rfl)
      clear HF1 HF2 HCH1
      go_wp2_with fail
      refine wp_region_held_drew (S := (fun w' => w'.cell? ⟨w.heap.size, 0, none⟩ = some (.slice s1 S.length s2) ∧ w'.cell? ⟨w.heap.size, 1, none⟩ = some (.slice p1 P.length p2) ∧ w'.cell? ⟨w.heap.size, 2, none⟩ = some (.slice a1 A.length a2) ∧ w'.rangeAt (w.heap.size + 1) 0 [Value.int .i64 k, .int .i64 si, .int .i64 st, .int .i64 sg, .int .i64 pi, .int .i64 ps, .int .i64 pm, .int .i64 pp, .int .i64 pc, .int .i64 rs, .int .i64 rp, .bool rn, .int .i64 rf, .int .i64 rb, .int .i64 rt, .int .i64 re, .int .i64 ro, .bool rd, .int .i64 n, .int .i64 m, .int .i64 f0, .int .i64 f1, .int .i64 f2, .int .i64 f3, .int .i64 f4, .int .i64 f5, .int .i64 f6, .string body])) (by kernel_rfl) ⟨bc0, bc1, bc2, bX.out⟩ (fun hHeld => ?_)
      refine wpAnyH_take (i := 0) (oi := ⟨some 21, _, _, _, _, _⟩) (v := ?v1) rfl (by kernel_rfl) (by kernel_rfl) (by kernel_rfl) (fun _ _ _ h => h) (Or.inl ⟨by rfl, ?h1⟩) (by assumption) ?r1
      case h1 => (intro w hSw; (try dsimp only at hSw); go_simp <;> with_reducible rfl)
      (try simp only [Act.put, List.setIfInBounds_toArray, List.set_cons_zero, List.set_cons_succ])
      refine wpAnyH_take (i := 2) (oi := ⟨some 23, _, _, _, _, _⟩) (v := .agg #[.int .i64 k, .int .i64 si, .int .i64 st, .int .i64 sg, .int .i64 pi, .int .i64 ps, .int .i64 pm, .int .i64 pp, .int .i64 pc, .int .i64 rs, .int .i64 rp, .bool rn, .int .i64 rf, .int .i64 rb, .int .i64 rt, .int .i64 re, .int .i64 ro, .bool rd, .int .i64 n, .int .i64 m, .int .i64 f0, .int .i64 f1, .int .i64 f2, .int .i64 f3, .int .i64 f4, .int .i64 f5, .int .i64 f6, .string body]) rfl (by kernel_rfl) (by kernel_rfl) (by kernel_rfl) (fun _ _ _ h => h) (yieldsIf_load_mid (by rfl) 54 (.tmp 3) rfl (w.heap.size + 1) 0 rfl [Value.int .i64 k, .int .i64 si, .int .i64 st, .int .i64 sg, .int .i64 pi, .int .i64 ps, .int .i64 pm, .int .i64 pp, .int .i64 pc, .int .i64 rs, .int .i64 rp, .bool rn, .int .i64 rf, .int .i64 rb, .int .i64 rt, .int .i64 re, .int .i64 ro, .bool rd, .int .i64 n, .int .i64 m, .int .i64 f0, .int .i64 f1, .int .i64 f2, .int .i64 f3, .int .i64 f4, .int .i64 f5, .int .i64 f6, .string body] _ (fun w h => h.2.2.2) Tryz.underlying54 rfl actInfo) (by assumption) ?_
      (try simp only [Act.put, List.setIfInBounds_toArray, List.set_cons_zero, List.set_cons_succ])
      refine wpAnyH_ready (rs := [1]) (by kernel_rfl) (by simp) ?_
      refine AllReadyH.cons (o := ⟨some 22, _, _, _, _, _⟩) rfl (fun K hK => ?_) AllReadyH.nil
      go_simp
      refine (unhide HCY _ k2.drew).mono ?_
      rintro e w3 ⟨y1, y2, y3, rfl, ho3, hb3⟩
      obtain ⟨o1, m1, hv1⟩ := own_slc ho3.s
      obtain ⟨o2, m2, hv2⟩ := own_slc ho3.p
      obtain ⟨o3, m3, hv3⟩ := own_slc ho3.a
      subst hv1 hv2 hv3
      have HO3 := hide ho3
      clear ho3
      have g3 : Below w2.heap.size w2 w3 := ((Below.refl _ w2).drew).trans hb3
      have k3 := k2.trans (g3.mono k2.size)
      go_wp2_with fail
      refine hK.out _ _ ⟨cell_beh bc0 g3 (Nat.le_refl _), cell_beh bc1 g3 (Nat.le_refl _), cell_beh bc2 g3 (Nat.le_refl _), rangeAt_beh bX.out g3 (Nat.le_refl _)⟩ (fun hHeld => ?_)
      clear hK K
      (try simp only [Act.put, List.setIfInBounds_toArray, List.set_cons_zero, List.set_cons_succ])
      refine wpAnyH_ready (rs := [3]) (by kernel_rfl) (by simp) ?_
      refine AllReadyH.cons (o := ⟨some 24, _, _, _, _, _⟩) rfl (fun K hK => ?_) AllReadyH.nil
      go_simp
      refine (unhide HCH2 _ _ _ _ _ HO3.out (show w2.drew.heap.size ≤ w3.heap.size from g3.size)).mono ?_
      rintro e w4 ⟨z1, z2, z3, rfl, hcf4, hb4, hi4⟩
      have HI4 := hide hi4
      clear hi4
      have HC4 := hide hcf4
      obtain ⟨v1, n1, hv1⟩ := hcf4.1.slice
      obtain ⟨v2, n2, hv2⟩ := hcf4.2.1.slice
      obtain ⟨v3, n3, hv3⟩ := hcf4.2.2.slice
      subst hv1 hv2 hv3
      clear hcf4
      have g4 : Below w2.heap.size w2 w4 := g3.trans hb4
      have HI5 := hide (HI4.out.mono (show w.heap.size ≤ w2.drew.heap.size from k2.size))
      clear HI4
      have k4 := k2.trans (g4.mono k2.size)
      go_wp2_with fail
      refine hK.out _ _ ⟨cell_beh bc0 g4 (Nat.le_refl _), cell_beh bc1 g4 (Nat.le_refl _), cell_beh bc2 g4 (Nat.le_refl _), rangeAt_beh bX.out g4 (Nat.le_refl _)⟩ (fun hHeld => ?_)
      clear hK K
      (try simp only [Act.put, List.setIfInBounds_toArray, List.set_cons_zero, List.set_cons_succ])
      have dr0 := cell_beh br0 g4 (Nat.le_refl _)
      have dr1 := cell_beh br1 g4 (Nat.le_refl _)
      have dr2 := cell_beh br2 g4 (Nat.le_refl _)
      have dz0 := (g4.frozen (p := ⟨w.heap.size + 1 + 1, 0, none⟩) hR2).trans bz0
      have dz1 := (g4.frozen (p := ⟨w.heap.size + 1 + 1, 1, none⟩) hR2).trans bz1
      have dz2 := (g4.frozen (p := ⟨w.heap.size + 1 + 1, 2, none⟩) hR2).trans bz2
      have e0 := cell_beh bc0 g4 (Nat.le_refl _)
      have e1 := cell_beh bc1 g4 (Nat.le_refl _)
      have e2 := cell_beh bc2 g4 (Nat.le_refl _)
      have HXX := hide (rangeAt_beh bX.out g4 (Nat.le_refl _))
      refine wpAnyH_ready (rs := [4]) (by kernel_rfl) (by simp) ?_
      refine AllReadyH.cons (o := ⟨none, _, _, _, _, _⟩) rfl (fun K hK => ?_) AllReadyH.nil
      go_simp
      refine hK.out _ _ ⟨(World.cell?_setCell_other _ _ _ _ (by simp <;> omega)).trans ((World.cell?_setCell_other _ _ _ _ (by simp <;> omega)).trans ((World.cell?_setCell_other _ _ _ _ (by simp <;> omega)).trans e0)), (World.cell?_setCell_other _ _ _ _ (by simp <;> omega)).trans ((World.cell?_setCell_other _ _ _ _ (by simp <;> omega)).trans ((World.cell?_setCell_other _ _ _ _ (by simp <;> omega)).trans e1)), (World.cell?_setCell_other _ _ _ _ (by simp <;> omega)).trans ((World.cell?_setCell_other _ _ _ _ (by simp <;> omega)).trans ((World.cell?_setCell_other _ _ _ _ (by simp <;> omega)).trans e2)), rangeAt_set (rangeAt_set (rangeAt_set HXX.out (by omega)) (by omega)) (by omega)⟩ (fun hHeld => ?_)
      clear hK K
      (try simp only [Act.put, List.setIfInBounds_toArray, List.set_cons_zero, List.set_cons_succ])
      refine wpAnyH_take (i := 5) (oi := ⟨some 5, _, _, _, _, _⟩) (v := ?v2) rfl (by kernel_rfl) (by kernel_rfl) (by kernel_rfl) (fun _ _ _ h => h) (Or.inl ⟨by rfl, ?h2⟩) (by assumption) ?r2
      case h2 => (intro w hSw; (try dsimp only at hSw); go_simp <;> with_reducible rfl)
      (try simp only [Act.put, List.setIfInBounds_toArray, List.set_cons_zero, List.set_cons_succ])
      refine wpAnyH_done (by kernel_rfl) ?_ _
      clear hHeld bc0 bc1 bc2 br0 br1 br2 bz0 bz1 bz2 bX e0 e1 e2 HXX HCY HCH2 HO3 hb3 hb4 g3 k3
      obtain ⟨u0, u1, u2⟩ := set3 dr0 dr1 dr2 (.slice v1 LS.length n1) (.slice v2 LP.length n2) (.slice v3 LA.length n3)
      have HCF := hide (((HC4.out.set_box dr0 (.slice v1 LS.length n1)).set_box ((World.cell?_setCell_other _ _ _ _ (by simp)).trans dr1) (.slice v2 LP.length n2)).set_box ((World.cell?_setCell_other _ _ _ _ (by simp)).trans ((World.cell?_setCell_other _ _ _ _ (by simp)).trans dr2)) (.slice v3 LA.length n3))
      have HBE := hide ((((k4).setCell (p := ⟨w.heap.size + 1 + 1, 0, none⟩) (by show w.heap.size ≤ w.heap.size + 1 + 1; omega) (.slice v1 LS.length n1)).setCell (p := ⟨w.heap.size + 1 + 1, 1, none⟩) (by show w.heap.size ≤ w.heap.size + 1 + 1; omega) (.slice v2 LP.length n2)).setCell (p := ⟨w.heap.size + 1 + 1, 2, none⟩) (by show w.heap.size ≤ w.heap.size + 1 + 1; omega) (.slice v3 LA.length n3))
      clear HC4 k4 g4 dr0 dr1 dr2 dz0 dz1 dz2
      generalize (((w4.setCell ⟨w.heap.size + 1 + 1, 0, none⟩ (.slice v1 LS.length n1)).setCell ⟨w.heap.size + 1 + 1, 1, none⟩ (.slice v2 LP.length n2)).setCell ⟨w.heap.size + 1 + 1, 2, none⟩ (.slice v3 LA.length n3)) = W at *
      go_wp2_with fail
      refine bodyPost_ret (v := .tuple #[.agg #[.slice v1 LS.length n1, .slice v2 LP.length n2, .slice v3 LA.length n3], .int .i64 0]) ?_ rfl ⟨_, _, _, rfl, HCF.out, HBE.out, HI5.out⟩
      clear HCF HBE
      simp [results, Tryz.results23, go_sem, u0, u1, u2]
    · obtain ⟨rfl, rfl, rfl, rfl⟩ := HF1.out hG
      clear HF1 HF2 HCH1 HCY bc0 bc1 bc2 bX
      go_wp2_with fail
      obtain ⟨u0, u1, u2⟩ := set3 br0 br1 br2 (.slice none 0 0) (.slice none 0 0) (.slice none 0 0)
      have HBE := hide ((((k2).setCell (p := ⟨w.heap.size + 1 + 1, 0, none⟩) (by show w.heap.size ≤ w.heap.size + 1 + 1; omega) (.slice none 0 0)).setCell (p := ⟨w.heap.size + 1 + 1, 1, none⟩) (by show w.heap.size ≤ w.heap.size + 1 + 1; omega) (.slice none 0 0)).setCell (p := ⟨w.heap.size + 1 + 1, 2, none⟩) (by show w.heap.size ≤ w.heap.size + 1 + 1; omega) (.slice none 0 0))
      have HCF := hide ((⟨RowAt.nil _ _ _, RowAt.nil _ _ _, RowAt.nil _ _ _⟩ : CfAt (((w2.setCell ⟨w.heap.size + 1 + 1, 0, none⟩ (.slice none 0 0)).setCell ⟨w.heap.size + 1 + 1, 1, none⟩ (.slice none 0 0)).setCell ⟨w.heap.size + 1 + 1, 2, none⟩ (.slice none 0 0)) (.slice none 0 0) (.slice none 0 0) (.slice none 0 0) [] [] []))
      refine bodyPost_ret (v := .tuple #[.agg #[.slice none 0 0, .slice none 0 0, .slice none 0 0], .int .i64 EE]) ?_ rfl ⟨_, _, _, rfl, HCF.out, HBE.out, Hi3.none _⟩
      clear HCF HBE br0 bz0 br1 bz1 br2 bz2
      generalize (((w2.setCell ⟨w.heap.size + 1 + 1, 0, none⟩ (.slice none 0 0)).setCell ⟨w.heap.size + 1 + 1, 1, none⟩ (.slice none 0 0)).setCell ⟨w.heap.size + 1 + 1, 2, none⟩ (.slice none 0 0)) = W at *
      simp [results, Tryz.results23, go_sem, u0, u1, u2]
end Go.Proofs.YtjcomoinggiedaaGreat

namespace Go.Proofs.YtjcomoinggiedaaGreat
open Go.RowKit
set_option linter.unusedVariables false
set_option maxRecDepth 100000

def cS (S : List Sw) (P : List Pr) (A : List Ac) (a : Ax) : List Sw := if appE S P A a = 0 then apS S P A a else S
def cP (S : List Sw) (P : List Pr) (A : List Ac) (a : Ax) : List Pr := if appE S P A a = 0 then apP S P A a else P
def cA (S : List Sw) (P : List Pr) (A : List Ac) (a : Ax) : List Ac := if appE S P A a = 0 then apA S P A a else A
theorem row_set {α : Type} {C : α → List Value} {sz : Nat} {w : World} {v : Value} {l : List α} (h : RowAt C sz w v l) (b o : Nat) {vs : List Value} (hne : l.length = 0 ∨ ∀ g, v.ownBlock = some g → g ≠ b) : RowAt C sz (w.setCells b o vs) v l := by
  obtain ⟨a, cap, rfl, hn, hr⟩ := h
  refine ⟨a, cap, rfl, hn, ?_⟩
  rcases hr with h0 | ⟨b', off, rfl, hc, hx⟩
  · exact .inl h0
  · rcases hne with h0 | hne
    · exact .inl h0
    · refine .inr ⟨b', off, rfl, hc, fun i x hi j u hj => ?_⟩
      rw [World.cell?_setCells_out b vs o w _ (fun hb _ => absurd hb (hne b' rfl))]
      exact hx i x hi j u hj
theorem row_lt {α : Type} {C : α → List Value} {sz : Nat} {w : World} {v : Value} {l : List α} (hC : ∀ x, C x ≠ []) (h : RowAt C sz w v l) : l.length = 0 ∨ ∀ g, v.ownBlock = some g → g < w.heap.size := by
  obtain ⟨a, cap, rfl, hn, hr⟩ := h
  rcases hr with h0 | ⟨b', off, rfl, hc, hx⟩
  · exact .inl h0
  · by_cases h0 : l.length = 0
    · exact .inl h0
    · refine .inr fun g hg => ?_
      obtain rfl : b' = g := by simpa [Value.ownBlock] using hg
      have hl : 0 < l.length := by omega
      have hc0 : 0 < (C l[0]).length := List.length_pos_iff.2 (hC _)
      exact cell_in (hx 0 l[0] (List.getElem?_eq_getElem hl) 0 _ (List.getElem?_eq_getElem hc0))
theorem cf_set {w : World} {sv pv av : Value} {S : List Sw} {P : List Pr} {A : List Ac} (h : CfAt w sv pv av S P A) (b o : Nat) {vs : List Value} (h1 : S.length = 0 ∨ ∀ g, sv.ownBlock = some g → g ≠ b) (h2 : P.length = 0 ∨ ∀ g, pv.ownBlock = some g → g ≠ b) (h3 : A.length = 0 ∨ ∀ g, av.ownBlock = some g → g ≠ b) : CfAt (w.setCells b o vs) sv pv av S P A :=
  ⟨row_set h.1 b o h1, row_set h.2.1 b o h2, row_set h.2.2 b o h3⟩
theorem sizeConf : (Tryz.prog.info? 29).map (·.size) = some 3 := by kernel_rfl

set_option maxHeartbeats 8000000 in
theorem changedF_any (s1 p1 a1 : Option Addr) (s2 p2 a2 : Nat) (S : List Sw) (P : List Pr) (A : List Ac) (a : Ax) (w : World) (hC : CfAt w (.slice s1 S.length s2) (.slice p1 P.length p2) (.slice a1 A.length a2) S P A) (h1 : S.length ≤ 1000) (h2 : P.length ≤ 1000) (h3 : A.length ≤ 1000) :
    Calls Tryz.prog 52 #[.agg #[.slice s1 S.length s2, .slice p1 P.length p2, .slice a1 A.length a2], actV a] w fun e w' => ∃ su pu au, e = .returned (.tuple #[.agg #[su, pu, au], .int .i64 (appE S P A a)]) ∧ CfAt w' su pu au (cS S P A a) (cP S P A a) (cA S P A a) ∧ Below w.heap.size w w' ∧ (Hi3 w.heap.size su pu au ∨ ((cS S P A a = S ∧ cP S P A a = P ∧ cA S P A a = A) ∧ su = .slice s1 S.length s2 ∧ pu = .slice p1 P.length p2 ∧ au = .slice a1 A.length a2)) := by
  have HC := hide hC
  have HCW := hide hC
  have HAP := hide (fun W (h : CfAt W (.slice s1 S.length s2) (.slice p1 P.length p2) (.slice a1 A.length a2) S P A) => apply_own _ _ _ S P A a W h (by omega) (by omega) (by omega))
  clear hC
  have HS : Hid (cS S P A a = if appE S P A a = 0 then apS S P A a else S) := rfl
  have HPP : Hid (cP S P A a = if appE S P A a = 0 then apP S P A a else P) := rfl
  have HAA : Hid (cA S P A a = if appE S P A a = 0 then apA S P A a else A) := rfl
  rw [HS.out, HPP.out, HAA.out]
  clear HS HPP HAA
  generalize apS S P A a = S2 at *
  generalize apP S P A a = P2 at *
  generalize apA S P A a = A2 at *
  generalize appE S P A a = E at *
  obtain ⟨W0, hW0⟩ : ∃ W0, W0 = (((w.alloc (.cells #[.slice s1 S.length s2, .slice p1 P.length p2, .slice a1 A.length a2] 29)).alloc (.cells #[.int .i64 a.k, .int .i64 a.si, .int .i64 a.st, .int .i64 a.sg, .int .i64 a.pi, .int .i64 a.ps, .int .i64 a.pm, .int .i64 a.pp, .int .i64 a.pc, .int .i64 a.rs, .int .i64 a.rp, .bool a.rn, .int .i64 a.rf, .int .i64 a.rb, .int .i64 a.rt, .int .i64 a.re, .int .i64 a.ro, .bool a.rd, .int .i64 a.n, .int .i64 a.m, .int .i64 a.f0, .int .i64 a.f1, .int .i64 a.f2, .int .i64 a.f3, .int .i64 a.f4, .int .i64 a.f5, .int .i64 a.f6, .string a.body] 54)).alloc (.cells #[.slice none 0 0, .slice none 0 0, .slice none 0 0] 29)) := ⟨_, rfl⟩
  have kb : Below w.heap.size w W0 := by rw [hW0]; exact (((Below.refl _ w).alloc (Nat.le_refl _) _).alloc (by simp) _).alloc (by simp; omega) _
  have HCB : Hid (Box W0 w.heap.size [.slice s1 S.length s2, .slice p1 P.length p2, .slice a1 A.length a2]) := by rw [hW0]; have h := ((Box.new w [.slice s1 S.length s2, .slice p1 P.length p2, .slice a1 A.length a2] 29).alloc (.cells #[.int .i64 a.k, .int .i64 a.si, .int .i64 a.st, .int .i64 a.sg, .int .i64 a.pi, .int .i64 a.ps, .int .i64 a.pm, .int .i64 a.pp, .int .i64 a.pc, .int .i64 a.rs, .int .i64 a.rp, .bool a.rn, .int .i64 a.rf, .int .i64 a.rb, .int .i64 a.rt, .int .i64 a.re, .int .i64 a.ro, .bool a.rd, .int .i64 a.n, .int .i64 a.m, .int .i64 a.f0, .int .i64 a.f1, .int .i64 a.f2, .int .i64 a.f3, .int .i64 a.f4, .int .i64 a.f5, .int .i64 a.f6, .string a.body] 54)).alloc (.cells #[.slice none 0 0, .slice none 0 0, .slice none 0 0] 29); simpa using hide h
  have HAB : Hid (Box W0 (w.heap.size + 1) [.int .i64 a.k, .int .i64 a.si, .int .i64 a.st, .int .i64 a.sg, .int .i64 a.pi, .int .i64 a.ps, .int .i64 a.pm, .int .i64 a.pp, .int .i64 a.pc, .int .i64 a.rs, .int .i64 a.rp, .bool a.rn, .int .i64 a.rf, .int .i64 a.rb, .int .i64 a.rt, .int .i64 a.re, .int .i64 a.ro, .bool a.rd, .int .i64 a.n, .int .i64 a.m, .int .i64 a.f0, .int .i64 a.f1, .int .i64 a.f2, .int .i64 a.f3, .int .i64 a.f4, .int .i64 a.f5, .int .i64 a.f6, .string a.body]) := by rw [hW0]; have h := (Box.new (w.alloc (.cells #[.slice s1 S.length s2, .slice p1 P.length p2, .slice a1 A.length a2] 29)) [.int .i64 a.k, .int .i64 a.si, .int .i64 a.st, .int .i64 a.sg, .int .i64 a.pi, .int .i64 a.ps, .int .i64 a.pm, .int .i64 a.pp, .int .i64 a.pc, .int .i64 a.rs, .int .i64 a.rp, .bool a.rn, .int .i64 a.rf, .int .i64 a.rb, .int .i64 a.rt, .int .i64 a.re, .int .i64 a.ro, .bool a.rd, .int .i64 a.n, .int .i64 a.m, .int .i64 a.f0, .int .i64 a.f1, .int .i64 a.f2, .int .i64 a.f3, .int .i64 a.f4, .int .i64 a.f5, .int .i64 a.f6, .string a.body] 54).alloc (.cells #[.slice none 0 0, .slice none 0 0, .slice none 0 0] 29); simpa using hide h
  have HRB : Hid (Box W0 (w.heap.size + 1 + 1) [.slice none 0 0, .slice none 0 0, .slice none 0 0]) := by rw [hW0]; have h := Box.new ((w.alloc (.cells #[.slice s1 S.length s2, .slice p1 P.length p2, .slice a1 A.length a2] 29)).alloc (.cells #[.int .i64 a.k, .int .i64 a.si, .int .i64 a.st, .int .i64 a.sg, .int .i64 a.pi, .int .i64 a.ps, .int .i64 a.pm, .int .i64 a.pp, .int .i64 a.pc, .int .i64 a.rs, .int .i64 a.rp, .bool a.rn, .int .i64 a.rf, .int .i64 a.rb, .int .i64 a.rt, .int .i64 a.re, .int .i64 a.ro, .bool a.rd, .int .i64 a.n, .int .i64 a.m, .int .i64 a.f0, .int .i64 a.f1, .int .i64 a.f2, .int .i64 a.f3, .int .i64 a.f4, .int .i64 a.f5, .int .i64 a.f6, .string a.body] 54)) [.slice none 0 0, .slice none 0 0, .slice none 0 0] 29; simpa using hide h
  have HW0 : Hid ((((w.alloc (.cells #[.slice s1 S.length s2, .slice p1 P.length p2, .slice a1 A.length a2] 29)).alloc (.cells #[.int .i64 a.k, .int .i64 a.si, .int .i64 a.st, .int .i64 a.sg, .int .i64 a.pi, .int .i64 a.ps, .int .i64 a.pm, .int .i64 a.pp, .int .i64 a.pc, .int .i64 a.rs, .int .i64 a.rp, .bool a.rn, .int .i64 a.rf, .int .i64 a.rb, .int .i64 a.rt, .int .i64 a.re, .int .i64 a.ro, .bool a.rd, .int .i64 a.n, .int .i64 a.m, .int .i64 a.f0, .int .i64 a.f1, .int .i64 a.f2, .int .i64 a.f3, .int .i64 a.f4, .int .i64 a.f5, .int .i64 a.f6, .string a.body] 54)).alloc (.cells #[.slice none 0 0, .slice none 0 0, .slice none 0 0] 29)) = W0) := hW0.symm
  clear hW0
  replace HC := hide (HC.out.below kb (Nat.le_refl _))
  go_enter Tryz.func52, Tryz.ntmps52
  go_wp2_with (first | rw [HW0.out] | (refine wpList_load_mid rfl 29 (.tmp 2) rfl w.heap.size 0 rfl _ _ HCB.out.range Tryz.underlying29 rfl sizeConf ?_) | (refine wpList_load_mid rfl 54 (.tmp 3) rfl (w.heap.size + 1) 0 rfl _ _ HAB.out.range Tryz.underlying54 rfl actInfo ?_))
  refine (unhide HAP _ HC.out).mono ?_
  rintro e w1 ⟨su, pu, au, rfl, hc1, hb1, hh1⟩
  have HC1 := hide hc1
  have HH := hide hh1
  have sz0 := HRB.out.lt
  obtain ⟨t1, t2, rfl⟩ := hc1.1.slice
  obtain ⟨t3, t4, rfl⟩ := hc1.2.1.slice
  obtain ⟨t5, t6, rfl⟩ := hc1.2.2.slice
  clear hc1 hh1
  replace HCB := hide (HCB.out.below hb1)
  replace HRB := hide (HRB.out.below hb1)
  replace HC := hide (HC.out.below hb1 (Nat.le_refl _))
  replace kb := kb.trans (hb1.mono kb.size)
  clear hb1 HAP HAB HW0
  obtain ⟨W2, hW2⟩ : ∃ W2, W2 = w1.alloc (.cells #[.slice t1 S2.length t2, .slice t3 P2.length t4, .slice t5 A2.length t6] 29) := ⟨_, rfl⟩
  have hbN : Below w1.heap.size w1 W2 := by rw [hW2]; exact (Below.refl _ _).alloc (Nat.le_refl _) _
  have HNB : Hid (Box W2 w1.heap.size [.slice t1 S2.length t2, .slice t3 P2.length t4, .slice t5 A2.length t6]) := by rw [hW2]; exact hide (Box.new w1 [.slice t1 S2.length t2, .slice t3 P2.length t4, .slice t5 A2.length t6] 29)
  replace HCB := hide (HCB.out.below hbN)
  replace HRB := hide (HRB.out.below hbN)
  replace HC := hide (HC.out.below hbN (Nat.le_refl _))
  replace HC1 := hide (HC1.out.below hbN (Nat.le_refl _))
  replace kb := kb.trans (hbN.mono kb.size)
  have HW2 := hide hW2.symm
  clear hbN hW2
  by_cases hE : E = 0
  · subst hE
    go_wp2_with (first | rw [HW2.out] | (refine wpList_load_mid rfl 29 (.tmp 6) rfl w1.heap.size 0 rfl _ _ HNB.out.range Tryz.underlying29 rfl sizeConf ?_) | (refine wpList_store_mid rfl 29 (.tmp 4) (.tmp 18) rfl (w.heap.size + 1 + 1) 0 _ rfl rfl (HRB.out.fit 3 rfl) sizeConf (ones rfl) ?_))
    refine bodyPost_ret (v := .tuple #[.agg #[.slice t1 S2.length t2, .slice t3 P2.length t4, .slice t5 A2.length t6], .int .i64 0]) ?_ rfl ⟨_, _, _, rfl, ?_, setCells_below _ (by omega) _ _ kb, .inl (HH.out.mono (by omega))⟩
    · exact results_ct (cs := [.slice t1 S2.length t2, .slice t3 P2.length t4, .slice t5 A2.length t6]) Tryz.results52 rfl (HRB.out.set ([.slice t1 S2.length t2, .slice t3 P2.length t4, .slice t5 A2.length t6] : List Value) rfl).range Tryz.underlying29 rfl sizeConf
    · exact cf_set HC1.out _ _ (.inr fun g hg => by have := HH.out.1 g hg; omega) (.inr fun g hg => by have := HH.out.2.1 g hg; omega) (.inr fun g hg => by have := HH.out.2.2 g hg; omega)
  · have hEb : (E != 0) = true := by simpa using hE
    go_wp2_with (first | rw [HW2.out] | (refine wpList_load_mid rfl 29 (.tmp 2) rfl w.heap.size 0 rfl _ _ HCB.out.range Tryz.underlying29 rfl sizeConf ?_) | (refine wpList_store_mid rfl 29 (.tmp 4) (.tmp 16) rfl (w.heap.size + 1 + 1) 0 _ rfl rfl (HRB.out.fit 3 rfl) sizeConf (ones rfl) ?_))
    refine bodyPost_ret (v := .tuple #[.agg #[.slice s1 S.length s2, .slice p1 P.length p2, .slice a1 A.length a2], .int .i64 E]) ?_ rfl ⟨_, _, _, rfl, ?_, setCells_below _ (by omega) _ _ kb, .inr (by simp)⟩
    · exact results_ct (cs := [.slice s1 S.length s2, .slice p1 P.length p2, .slice a1 A.length a2]) Tryz.results52 rfl (HRB.out.set ([.slice s1 S.length s2, .slice p1 P.length p2, .slice a1 A.length a2] : List Value) rfl).range Tryz.underlying29 rfl sizeConf
    · exact cf_set HC.out _ _ ((row_lt (C := swC) (fun _ => by simp [swC]) HCW.out.1).imp id fun h g hg => by have := h g hg; omega) ((row_lt (C := prC) (fun _ => by simp [prC]) HCW.out.2.1).imp id fun h g hg => by have := h g hg; omega) ((row_lt (C := acC) (fun _ => by simp [acC]) HCW.out.2.2).imp id fun h g hg => by have := h g hg; omega)

end Go.Proofs.YtjcomoinggiedaaGreat
