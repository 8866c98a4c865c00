/-
  conf.changed and conf.Apply: what they answer lies in memory of the call's own.
-/
import Derived.Test.YtonhfgdnkkkikadGreatCh
namespace Go.Proofs.YtonhfgdnkkkikadGreat
open Go.RowKit
set_option linter.unusedVariables false
set_option maxRecDepth 100000

/-- What lies nowhere, or from B on. -/
def Hi3 (B : Nat) (x y z : Value) : Prop := (∀ g, x.ownBlock = some g → B ≤ g) ∧ (∀ g, y.ownBlock = some g → B ≤ g) ∧ (∀ g, z.ownBlock = some g → B ≤ g)

set_option maxHeartbeats 16000000 in
theorem changed_own (B : Nat) (sv pv av : Value) (S : List Sw) (P : List Pr) (A : List Ac) (a : Ax) (w : World) (ho : Own3 w B sv pv av S P A) (hB : B ≤ w.heap.size) (l1 : S.length ≤ 12) (l2 : P.length ≤ 40) (l3 : A.length ≤ 40)
    (hp : a.k = 4 ∨ a.k = 6 → 0 ≤ pat P a.n) (hn : a.k = 5 → 0 ≤ a.n ∧ a.n < A.length) :
    Calls Tryz.prog 19 #[.agg #[sv, pv, av], actV a] w fun e w' => ∃ su pu au, e = .returned (.agg #[su, pu, au]) ∧ CfAt w' su pu au (nxS S a) (nxP P a) (nxA A a) ∧ Below B w w' ∧ Hi3 B su pu au := by
  obtain ⟨iS, hiS, zS0, zS1, zS2⟩ := info_parts infoSw
  obtain ⟨iP, hiP, zP0, zP1, zP2⟩ := info_parts infoPr
  obtain ⟨iA, hiA, zA0, zA1, zA2⟩ := info_parts infoAc
  have HO := hide ho
  obtain ⟨s1, s2, rfl⟩ := own_slc ho.s
  obtain ⟨p1, p2, rfl⟩ := own_slc ho.p
  obtain ⟨a1, a2, rfl⟩ := own_slc ho.a
  clear ho
  have HAT := hide (fun W (hW : Below w.heap.size w W) => portAt_any _ _ _ S P A a.n W (HO.out.cf.below hW (Nat.le_refl _)) (by omega))
  obtain ⟨k, si, st, sg, pi, ps, pm, pp, pc, rs, rp, rn, rf, rb, rt, re, ro, rd, n, m, f0, f1, f2, f3, f4, f5, f6, body⟩ := a
  simp only at hp hn HAT ⊢
  have hcase : k = 1 ∨ k = 2 ∨ k = 3 ∨ k = 4 ∨ k = 5 ∨ k = 6 ∨ (¬ k = 1 ∧ ¬ k = 2 ∧ ¬ k = 3 ∧ ¬ k = 4 ∧ ¬ k = 5 ∧ ¬ k = 6) := by omega
  go_enter Tryz.func19, Tryz.ntmps19
  rcases hcase with rfl | rfl | rfl | rfl | rfl | rfl | ⟨k1, k2, k3, k4, k5, k6⟩
  · have hBR : B ≤ w.heap.size + 1 + 1 := by omega
    go_wp2_with (at_builtin; refine wpList_append_own_at _ rfl _ _ 24 rfl B 37 iS _ 3 24 Tryz.underlying24 hiS zS0 zS1 zS2 rfl (by decide) _ _ _ rfl ((((HO.out.s.alloc _).alloc _).alloc _).alloc _) ⟨w.heap.size + 1 + 1 + 1, 0, none⟩ 1 1 [.int .i64 si, .int .i64 st, .int .i64 sg] rfl rfl ?a2 (all_one rfl) ?a3 ?a4 ?a5 ?_)
    case a2 =>
      intro j u hj
      rw [add_fl, Nat.zero_add]
      exact new_cell _ _ (by simp) #[.int .i64 si, .int .i64 st, .int .i64 sg] _ j u (by simpa using hj)
    case a3 => unfold maxLen; omega
    case a4 => omega
    case a5 => simp; omega
    intro v1 w1 ho1 hg1 _ hat
    have c0 : ((((w.alloc (.cells #[.slice s1 S.length s2, .slice p1 P.length p2, .slice a1 A.length a2] 28)).alloc (.cells #[.int .i64 1, .int .i64 si, .int .i64 st, .int .i64 sg, .int .i64 pi, .int .i64 ps, .int .i64 pm, .int .i64 pp, .int .i64 pc, .int .i64 rs, .int .i64 rp, .bool rn, .int .i64 rf, .int .i64 rb, .int .i64 rt, .int .i64 re, .int .i64 ro, .bool rd, .int .i64 n, .int .i64 m, .int .i64 f0, .int .i64 f1, .int .i64 f2, .int .i64 f3, .int .i64 f4, .int .i64 f5, .int .i64 f6, .string body] 43)).alloc (.cells #[.slice none 0 0, .slice none 0 0, .slice none 0 0] 28)).alloc (.cells #[.int .i64 si, .int .i64 st, .int .i64 sg] 37)).cell? ⟨w.heap.size, 0, none⟩ = some (.slice s1 S.length s2) := old_cell (old_cell (old_cell (new_cell w _ rfl _ _ _ _ rfl) _) _) _
    have c1 : ((((w.alloc (.cells #[.slice s1 S.length s2, .slice p1 P.length p2, .slice a1 A.length a2] 28)).alloc (.cells #[.int .i64 1, .int .i64 si, .int .i64 st, .int .i64 sg, .int .i64 pi, .int .i64 ps, .int .i64 pm, .int .i64 pp, .int .i64 pc, .int .i64 rs, .int .i64 rp, .bool rn, .int .i64 rf, .int .i64 rb, .int .i64 rt, .int .i64 re, .int .i64 ro, .bool rd, .int .i64 n, .int .i64 m, .int .i64 f0, .int .i64 f1, .int .i64 f2, .int .i64 f3, .int .i64 f4, .int .i64 f5, .int .i64 f6, .string body] 43)).alloc (.cells #[.slice none 0 0, .slice none 0 0, .slice none 0 0] 28)).alloc (.cells #[.int .i64 si, .int .i64 st, .int .i64 sg] 37)).cell? ⟨w.heap.size, 1, none⟩ = some (.slice p1 P.length p2) := old_cell (old_cell (old_cell (new_cell w _ rfl _ _ _ _ rfl) _) _) _
    have c2 : ((((w.alloc (.cells #[.slice s1 S.length s2, .slice p1 P.length p2, .slice a1 A.length a2] 28)).alloc (.cells #[.int .i64 1, .int .i64 si, .int .i64 st, .int .i64 sg, .int .i64 pi, .int .i64 ps, .int .i64 pm, .int .i64 pp, .int .i64 pc, .int .i64 rs, .int .i64 rp, .bool rn, .int .i64 rf, .int .i64 rb, .int .i64 rt, .int .i64 re, .int .i64 ro, .bool rd, .int .i64 n, .int .i64 m, .int .i64 f0, .int .i64 f1, .int .i64 f2, .int .i64 f3, .int .i64 f4, .int .i64 f5, .int .i64 f6, .string body] 43)).alloc (.cells #[.slice none 0 0, .slice none 0 0, .slice none 0 0] 28)).alloc (.cells #[.int .i64 si, .int .i64 st, .int .i64 sg] 37)).cell? ⟨w.heap.size, 2, none⟩ = some (.slice a1 A.length a2) := old_cell (old_cell (old_cell (new_cell w _ rfl _ _ _ _ rfl) _) _) _
    have r0 : ((((w.alloc (.cells #[.slice s1 S.length s2, .slice p1 P.length p2, .slice a1 A.length a2] 28)).alloc (.cells #[.int .i64 1, .int .i64 si, .int .i64 st, .int .i64 sg, .int .i64 pi, .int .i64 ps, .int .i64 pm, .int .i64 pp, .int .i64 pc, .int .i64 rs, .int .i64 rp, .bool rn, .int .i64 rf, .int .i64 rb, .int .i64 rt, .int .i64 re, .int .i64 ro, .bool rd, .int .i64 n, .int .i64 m, .int .i64 f0, .int .i64 f1, .int .i64 f2, .int .i64 f3, .int .i64 f4, .int .i64 f5, .int .i64 f6, .string body] 43)).alloc (.cells #[.slice none 0 0, .slice none 0 0, .slice none 0 0] 28)).alloc (.cells #[.int .i64 si, .int .i64 st, .int .i64 sg] 37)).cell? ⟨w.heap.size + 1 + 1, 0, none⟩ = some (.slice none 0 0) := old_cell (new_cell _ _ (by simp) _ _ _ _ rfl) _
    have r1 : ((((w.alloc (.cells #[.slice s1 S.length s2, .slice p1 P.length p2, .slice a1 A.length a2] 28)).alloc (.cells #[.int .i64 1, .int .i64 si, .int .i64 st, .int .i64 sg, .int .i64 pi, .int .i64 ps, .int .i64 pm, .int .i64 pp, .int .i64 pc, .int .i64 rs, .int .i64 rp, .bool rn, .int .i64 rf, .int .i64 rb, .int .i64 rt, .int .i64 re, .int .i64 ro, .bool rd, .int .i64 n, .int .i64 m, .int .i64 f0, .int .i64 f1, .int .i64 f2, .int .i64 f3, .int .i64 f4, .int .i64 f5, .int .i64 f6, .string body] 43)).alloc (.cells #[.slice none 0 0, .slice none 0 0, .slice none 0 0] 28)).alloc (.cells #[.int .i64 si, .int .i64 st, .int .i64 sg] 37)).cell? ⟨w.heap.size + 1 + 1, 1, none⟩ = some (.slice none 0 0) := old_cell (new_cell _ _ (by simp) _ _ _ _ rfl) _
    have r2 : ((((w.alloc (.cells #[.slice s1 S.length s2, .slice p1 P.length p2, .slice a1 A.length a2] 28)).alloc (.cells #[.int .i64 1, .int .i64 si, .int .i64 st, .int .i64 sg, .int .i64 pi, .int .i64 ps, .int .i64 pm, .int .i64 pp, .int .i64 pc, .int .i64 rs, .int .i64 rp, .bool rn, .int .i64 rf, .int .i64 rb, .int .i64 rt, .int .i64 re, .int .i64 ro, .bool rd, .int .i64 n, .int .i64 m, .int .i64 f0, .int .i64 f1, .int .i64 f2, .int .i64 f3, .int .i64 f4, .int .i64 f5, .int .i64 f6, .string body] 43)).alloc (.cells #[.slice none 0 0, .slice none 0 0, .slice none 0 0] 28)).alloc (.cells #[.int .i64 si, .int .i64 st, .int .i64 sg] 37)).cell? ⟨w.heap.size + 1 + 1, 2, none⟩ = some (.slice none 0 0) := old_cell (new_cell _ _ (by simp) _ _ _ _ rfl) _
    have hnr : ∀ b, w.heap.size ≤ b → some b ≠ (Value.slice s1 S.length s2).ownBlock := fun b hb e => own_ne HO.out.s hb e.symm
    have d0 := hg1.cell c0 (hnr w.heap.size (Nat.le_refl _))
    have d1 := hg1.cell c1 (hnr w.heap.size (Nat.le_refl _))
    have d2 := hg1.cell c2 (hnr w.heap.size (Nat.le_refl _))
    have q0 := hg1.cell r0 (hnr (w.heap.size + 1 + 1) (by omega))
    have q1 := hg1.cell r1 (hnr (w.heap.size + 1 + 1) (by omega))
    have q2 := hg1.cell r2 (hnr (w.heap.size + 1 + 1) (by omega))
    have y0 : w1.frozen? ⟨w.heap.size, 0, none⟩ = false := gfrozen hg1 (by simp; omega) (old_frozen (by simp; omega) (old_frozen (by simp; omega) (old_frozen (by simp) (new_frozen w _ rfl _ _ _) _) _) _) (hnr w.heap.size (Nat.le_refl _))
    have f0 : w1.frozen? ⟨w.heap.size + 1 + 1, 0, none⟩ = false := gfrozen hg1 (by simp) (old_frozen (by simp) (new_frozen _ _ (by simp) _ _ _) _) (hnr (w.heap.size + 1 + 1) (by omega))
    have f1 : w1.frozen? ⟨w.heap.size + 1 + 1, 1, none⟩ = false := gfrozen hg1 (by simp) (old_frozen (by simp) (new_frozen _ _ (by simp) _ _ _) _) (hnr (w.heap.size + 1 + 1) (by omega))
    have f2 : w1.frozen? ⟨w.heap.size + 1 + 1, 2, none⟩ = false := gfrozen hg1 (by simp) (old_frozen (by simp) (new_frozen _ _ (by simp) _ _ _) _) (hnr (w.heap.size + 1 + 1) (by omega))
    have K1 := hide (World.ownsRow.kept ((((HO.out.p.alloc _).alloc _).alloc _).alloc _) hg1 (sep_sym HO.out.sp))
    have K2 := hide (World.ownsRow.kept ((((HO.out.a.alloc _).alloc _).alloc _).alloc _) hg1 (sep_sym HO.out.sa))
    have KN : Hid (w1.ownsRow B 37 3 v1 (S ++ [(⟨si, st, sg⟩ : Sw)]).length ((S ++ [(⟨si, st, sg⟩ : Sw)]).flatMap swC)) := by
      show World.ownsRow _ _ _ _ _ _ _
      rw [List.length_append, ← flat_snoc]
      exact ho1
    have hv1 : ∀ b, w.heap.size ≤ b → b < w.heap.size + 1 + 1 + 1 + 1 → v1.ownBlock ≠ some b := fun b hb hb2 e => by
      rcases hat with h | h
      · exact own_ne HO.out.s hb (h.symm.trans e)
      · rw [h] at e; simp at e; omega
    obtain ⟨o1, m1, hv⟩ := own_slc ho1
    have CF : CfAt w1 v1 (.slice p1 P.length p2) (.slice a1 A.length a2) (S ++ [(⟨si, st, sg⟩ : Sw)]) P A := ⟨RowAt.of_own swC_len (by omega) KN.out, RowAt.of_own prC_len (by omega) K1.out, RowAt.of_own acC_len (by omega) K2.out⟩
    have HI3 := hide (And.intro (own_ge (KN.out)) (And.intro (own_ge (K1.out)) (own_ge (K2.out))))
    have HB1 : Below B w w1 := (((((Below.refl _ w).alloc hB _).alloc (by simp; omega) _).alloc (by simp; omega) _).alloc (by simp; omega) _).grown hg1 (by simp; omega) (own_ge HO.out.s)
    subst hv
    have HCF1 := hide CF
    have HBE1 := hide HB1
    have HNE : Hid (∀ b, w.heap.size ≤ b → b < w.heap.size + 1 + 1 + 1 + 1 → (Value.slice o1 (S.length + 1) m1).ownBlock ≠ some b) := hv1
    clear CF HB1 hv1 hat hnr KN ho1 hg1 c0 c1 c2 r0 r1 r2 HAT K1 K2
    have nn1 : w.heap.size ≠ w.heap.size + 1 + 1 := by omega
    go_wp2_with fail
    have e0 : (w1.setCell ⟨w.heap.size, 0, none⟩ (.slice o1 (S.length + 1) m1)).cell? ⟨w.heap.size + 1 + 1, 0, none⟩ = some (.slice none 0 0) := (World.cell?_setCell_other _ _ _ _ (by simp <;> omega)).trans q0
    have e1 : (w1.setCell ⟨w.heap.size, 0, none⟩ (.slice o1 (S.length + 1) m1)).cell? ⟨w.heap.size + 1 + 1, 1, none⟩ = some (.slice none 0 0) := (World.cell?_setCell_other _ _ _ _ (by simp <;> omega)).trans q1
    have e2 : (w1.setCell ⟨w.heap.size, 0, none⟩ (.slice o1 (S.length + 1) m1)).cell? ⟨w.heap.size + 1 + 1, 2, none⟩ = some (.slice none 0 0) := (World.cell?_setCell_other _ _ _ _ (by simp <;> omega)).trans q2
    obtain ⟨u0, u1, u2⟩ := set3 e0 e1 e2 (.slice o1 (S.length + 1) m1) (.slice p1 P.length p2) (.slice a1 A.length a2)
    have HCF := hide (((((HCF1.out).set_far (HNE.out w.heap.size (Nat.le_refl _) (by omega)) (own_ne HO.out.p (b := w.heap.size) (Nat.le_refl _)) (own_ne HO.out.a (b := w.heap.size) (Nat.le_refl _)) 0 (.slice o1 (S.length + 1) m1)).set_far (HNE.out (w.heap.size + 1 + 1) (by omega) (by omega)) (own_ne HO.out.p (b := (w.heap.size + 1 + 1)) (by omega)) (own_ne HO.out.a (b := (w.heap.size + 1 + 1)) (by omega)) 0 (.slice o1 (S.length + 1) m1)).set_far (HNE.out (w.heap.size + 1 + 1) (by omega) (by omega)) (own_ne HO.out.p (b := (w.heap.size + 1 + 1)) (by omega)) (own_ne HO.out.a (b := (w.heap.size + 1 + 1)) (by omega)) 1 (.slice p1 P.length p2)).set_far (HNE.out (w.heap.size + 1 + 1) (by omega) (by omega)) (own_ne HO.out.p (b := (w.heap.size + 1 + 1)) (by omega)) (own_ne HO.out.a (b := (w.heap.size + 1 + 1)) (by omega)) 2 (.slice a1 A.length a2))
    have HBE := hide (((((HBE1.out).setCell (p := ⟨w.heap.size, 0, none⟩) hB (.slice o1 (S.length + 1) m1)).setCell (p := ⟨w.heap.size + 1 + 1, 0, none⟩) hBR (.slice o1 (S.length + 1) m1)).setCell (p := ⟨w.heap.size + 1 + 1, 1, none⟩) hBR (.slice p1 P.length p2)).setCell (p := ⟨w.heap.size + 1 + 1, 2, none⟩) hBR (.slice a1 A.length a2))
    refine bodyPost_ret (v := .agg #[.slice o1 (S.length + 1) m1, .slice p1 P.length p2, .slice a1 A.length a2]) ?_ rfl ⟨_, _, _, rfl, by simpa [nxS, nxP, nxA, Ax.s, Ax.p, Ax.r] using HCF.out, HBE.out, HI3.out⟩
    clear HCF HBE HI3 e0 e1 e2
    generalize ((((w1.setCell ⟨w.heap.size, 0, none⟩ (.slice o1 (S.length + 1) m1)).setCell ⟨w.heap.size + 1 + 1, 0, none⟩ (.slice o1 (S.length + 1) m1)).setCell ⟨w.heap.size + 1 + 1, 1, none⟩ (.slice p1 P.length p2)).setCell ⟨w.heap.size + 1 + 1, 2, none⟩ (.slice a1 A.length a2)) = W at *
    simp [results, Tryz.results19, go_sem, u0, u1, u2]
  · have hBR : B ≤ w.heap.size + 1 + 1 := by omega
    go_wp2_with (at_builtin; refine wpList_append_own_at _ rfl _ _ 25 rfl B 32 iP _ 5 40 Tryz.underlying25 hiP zP0 zP1 zP2 rfl (by decide) _ _ _ rfl ((((HO.out.p.alloc _).alloc _).alloc _).alloc _) ⟨w.heap.size + 1 + 1 + 1, 0, none⟩ 1 1 [.int .i64 pi, .int .i64 ps, .int .i64 pm, .int .i64 pp, .int .i64 pc] rfl rfl ?a2 (all_one rfl) ?a3 ?a4 ?a5 ?_)
    case a2 =>
      intro j u hj
      rw [add_fl, Nat.zero_add]
      exact new_cell _ _ (by simp) #[.int .i64 pi, .int .i64 ps, .int .i64 pm, .int .i64 pp, .int .i64 pc] _ j u (by simpa using hj)
    case a3 => unfold maxLen; omega
    case a4 => omega
    case a5 => simp; omega
    intro v1 w1 ho1 hg1 _ hat
    have c0 : ((((w.alloc (.cells #[.slice s1 S.length s2, .slice p1 P.length p2, .slice a1 A.length a2] 28)).alloc (.cells #[.int .i64 2, .int .i64 si, .int .i64 st, .int .i64 sg, .int .i64 pi, .int .i64 ps, .int .i64 pm, .int .i64 pp, .int .i64 pc, .int .i64 rs, .int .i64 rp, .bool rn, .int .i64 rf, .int .i64 rb, .int .i64 rt, .int .i64 re, .int .i64 ro, .bool rd, .int .i64 n, .int .i64 m, .int .i64 f0, .int .i64 f1, .int .i64 f2, .int .i64 f3, .int .i64 f4, .int .i64 f5, .int .i64 f6, .string body] 43)).alloc (.cells #[.slice none 0 0, .slice none 0 0, .slice none 0 0] 28)).alloc (.cells #[.int .i64 pi, .int .i64 ps, .int .i64 pm, .int .i64 pp, .int .i64 pc] 32)).cell? ⟨w.heap.size, 0, none⟩ = some (.slice s1 S.length s2) := old_cell (old_cell (old_cell (new_cell w _ rfl _ _ _ _ rfl) _) _) _
    have c1 : ((((w.alloc (.cells #[.slice s1 S.length s2, .slice p1 P.length p2, .slice a1 A.length a2] 28)).alloc (.cells #[.int .i64 2, .int .i64 si, .int .i64 st, .int .i64 sg, .int .i64 pi, .int .i64 ps, .int .i64 pm, .int .i64 pp, .int .i64 pc, .int .i64 rs, .int .i64 rp, .bool rn, .int .i64 rf, .int .i64 rb, .int .i64 rt, .int .i64 re, .int .i64 ro, .bool rd, .int .i64 n, .int .i64 m, .int .i64 f0, .int .i64 f1, .int .i64 f2, .int .i64 f3, .int .i64 f4, .int .i64 f5, .int .i64 f6, .string body] 43)).alloc (.cells #[.slice none 0 0, .slice none 0 0, .slice none 0 0] 28)).alloc (.cells #[.int .i64 pi, .int .i64 ps, .int .i64 pm, .int .i64 pp, .int .i64 pc] 32)).cell? ⟨w.heap.size, 1, none⟩ = some (.slice p1 P.length p2) := old_cell (old_cell (old_cell (new_cell w _ rfl _ _ _ _ rfl) _) _) _
    have c2 : ((((w.alloc (.cells #[.slice s1 S.length s2, .slice p1 P.length p2, .slice a1 A.length a2] 28)).alloc (.cells #[.int .i64 2, .int .i64 si, .int .i64 st, .int .i64 sg, .int .i64 pi, .int .i64 ps, .int .i64 pm, .int .i64 pp, .int .i64 pc, .int .i64 rs, .int .i64 rp, .bool rn, .int .i64 rf, .int .i64 rb, .int .i64 rt, .int .i64 re, .int .i64 ro, .bool rd, .int .i64 n, .int .i64 m, .int .i64 f0, .int .i64 f1, .int .i64 f2, .int .i64 f3, .int .i64 f4, .int .i64 f5, .int .i64 f6, .string body] 43)).alloc (.cells #[.slice none 0 0, .slice none 0 0, .slice none 0 0] 28)).alloc (.cells #[.int .i64 pi, .int .i64 ps, .int .i64 pm, .int .i64 pp, .int .i64 pc] 32)).cell? ⟨w.heap.size, 2, none⟩ = some (.slice a1 A.length a2) := old_cell (old_cell (old_cell (new_cell w _ rfl _ _ _ _ rfl) _) _) _
    have r0 : ((((w.alloc (.cells #[.slice s1 S.length s2, .slice p1 P.length p2, .slice a1 A.length a2] 28)).alloc (.cells #[.int .i64 2, .int .i64 si, .int .i64 st, .int .i64 sg, .int .i64 pi, .int .i64 ps, .int .i64 pm, .int .i64 pp, .int .i64 pc, .int .i64 rs, .int .i64 rp, .bool rn, .int .i64 rf, .int .i64 rb, .int .i64 rt, .int .i64 re, .int .i64 ro, .bool rd, .int .i64 n, .int .i64 m, .int .i64 f0, .int .i64 f1, .int .i64 f2, .int .i64 f3, .int .i64 f4, .int .i64 f5, .int .i64 f6, .string body] 43)).alloc (.cells #[.slice none 0 0, .slice none 0 0, .slice none 0 0] 28)).alloc (.cells #[.int .i64 pi, .int .i64 ps, .int .i64 pm, .int .i64 pp, .int .i64 pc] 32)).cell? ⟨w.heap.size + 1 + 1, 0, none⟩ = some (.slice none 0 0) := old_cell (new_cell _ _ (by simp) _ _ _ _ rfl) _
    have r1 : ((((w.alloc (.cells #[.slice s1 S.length s2, .slice p1 P.length p2, .slice a1 A.length a2] 28)).alloc (.cells #[.int .i64 2, .int .i64 si, .int .i64 st, .int .i64 sg, .int .i64 pi, .int .i64 ps, .int .i64 pm, .int .i64 pp, .int .i64 pc, .int .i64 rs, .int .i64 rp, .bool rn, .int .i64 rf, .int .i64 rb, .int .i64 rt, .int .i64 re, .int .i64 ro, .bool rd, .int .i64 n, .int .i64 m, .int .i64 f0, .int .i64 f1, .int .i64 f2, .int .i64 f3, .int .i64 f4, .int .i64 f5, .int .i64 f6, .string body] 43)).alloc (.cells #[.slice none 0 0, .slice none 0 0, .slice none 0 0] 28)).alloc (.cells #[.int .i64 pi, .int .i64 ps, .int .i64 pm, .int .i64 pp, .int .i64 pc] 32)).cell? ⟨w.heap.size + 1 + 1, 1, none⟩ = some (.slice none 0 0) := old_cell (new_cell _ _ (by simp) _ _ _ _ rfl) _
    have r2 : ((((w.alloc (.cells #[.slice s1 S.length s2, .slice p1 P.length p2, .slice a1 A.length a2] 28)).alloc (.cells #[.int .i64 2, .int .i64 si, .int .i64 st, .int .i64 sg, .int .i64 pi, .int .i64 ps, .int .i64 pm, .int .i64 pp, .int .i64 pc, .int .i64 rs, .int .i64 rp, .bool rn, .int .i64 rf, .int .i64 rb, .int .i64 rt, .int .i64 re, .int .i64 ro, .bool rd, .int .i64 n, .int .i64 m, .int .i64 f0, .int .i64 f1, .int .i64 f2, .int .i64 f3, .int .i64 f4, .int .i64 f5, .int .i64 f6, .string body] 43)).alloc (.cells #[.slice none 0 0, .slice none 0 0, .slice none 0 0] 28)).alloc (.cells #[.int .i64 pi, .int .i64 ps, .int .i64 pm, .int .i64 pp, .int .i64 pc] 32)).cell? ⟨w.heap.size + 1 + 1, 2, none⟩ = some (.slice none 0 0) := old_cell (new_cell _ _ (by simp) _ _ _ _ rfl) _
    have hnr : ∀ b, w.heap.size ≤ b → some b ≠ (Value.slice p1 P.length p2).ownBlock := fun b hb e => own_ne HO.out.p hb e.symm
    have d0 := hg1.cell c0 (hnr w.heap.size (Nat.le_refl _))
    have d1 := hg1.cell c1 (hnr w.heap.size (Nat.le_refl _))
    have d2 := hg1.cell c2 (hnr w.heap.size (Nat.le_refl _))
    have q0 := hg1.cell r0 (hnr (w.heap.size + 1 + 1) (by omega))
    have q1 := hg1.cell r1 (hnr (w.heap.size + 1 + 1) (by omega))
    have q2 := hg1.cell r2 (hnr (w.heap.size + 1 + 1) (by omega))
    have y0 : w1.frozen? ⟨w.heap.size, 1, none⟩ = false := gfrozen hg1 (by simp; omega) (old_frozen (by simp; omega) (old_frozen (by simp; omega) (old_frozen (by simp) (new_frozen w _ rfl _ _ _) _) _) _) (hnr w.heap.size (Nat.le_refl _))
    have f0 : w1.frozen? ⟨w.heap.size + 1 + 1, 0, none⟩ = false := gfrozen hg1 (by simp) (old_frozen (by simp) (new_frozen _ _ (by simp) _ _ _) _) (hnr (w.heap.size + 1 + 1) (by omega))
    have f1 : w1.frozen? ⟨w.heap.size + 1 + 1, 1, none⟩ = false := gfrozen hg1 (by simp) (old_frozen (by simp) (new_frozen _ _ (by simp) _ _ _) _) (hnr (w.heap.size + 1 + 1) (by omega))
    have f2 : w1.frozen? ⟨w.heap.size + 1 + 1, 2, none⟩ = false := gfrozen hg1 (by simp) (old_frozen (by simp) (new_frozen _ _ (by simp) _ _ _) _) (hnr (w.heap.size + 1 + 1) (by omega))
    have K0 := hide (World.ownsRow.kept ((((HO.out.s.alloc _).alloc _).alloc _).alloc _) hg1 (HO.out.sp))
    have K2 := hide (World.ownsRow.kept ((((HO.out.a.alloc _).alloc _).alloc _).alloc _) hg1 (sep_sym HO.out.pa))
    have KN : Hid (w1.ownsRow B 32 5 v1 (P ++ [(⟨pi, ps, pm, pp, pc⟩ : Pr)]).length ((P ++ [(⟨pi, ps, pm, pp, pc⟩ : Pr)]).flatMap prC)) := by
      show World.ownsRow _ _ _ _ _ _ _
      rw [List.length_append, ← flat_snoc]
      exact ho1
    have hv1 : ∀ b, w.heap.size ≤ b → b < w.heap.size + 1 + 1 + 1 + 1 → v1.ownBlock ≠ some b := fun b hb hb2 e => by
      rcases hat with h | h
      · exact own_ne HO.out.p hb (h.symm.trans e)
      · rw [h] at e; simp at e; omega
    obtain ⟨o1, m1, hv⟩ := own_slc ho1
    have CF : CfAt w1 (.slice s1 S.length s2) v1 (.slice a1 A.length a2) S (P ++ [(⟨pi, ps, pm, pp, pc⟩ : Pr)]) A := ⟨RowAt.of_own swC_len (by omega) K0.out, RowAt.of_own prC_len (by omega) KN.out, RowAt.of_own acC_len (by omega) K2.out⟩
    have HI3 := hide (And.intro (own_ge (K0.out)) (And.intro (own_ge (KN.out)) (own_ge (K2.out))))
    have HB1 : Below B w w1 := (((((Below.refl _ w).alloc hB _).alloc (by simp; omega) _).alloc (by simp; omega) _).alloc (by simp; omega) _).grown hg1 (by simp; omega) (own_ge HO.out.p)
    subst hv
    have HCF1 := hide CF
    have HBE1 := hide HB1
    have HNE : Hid (∀ b, w.heap.size ≤ b → b < w.heap.size + 1 + 1 + 1 + 1 → (Value.slice o1 (P.length + 1) m1).ownBlock ≠ some b) := hv1
    clear CF HB1 hv1 hat hnr KN ho1 hg1 c0 c1 c2 r0 r1 r2 HAT K0 K2
    have nn1 : w.heap.size ≠ w.heap.size + 1 + 1 := by omega
    go_wp2_with fail
    have e0 : (w1.setCell ⟨w.heap.size, 1, none⟩ (.slice o1 (P.length + 1) m1)).cell? ⟨w.heap.size + 1 + 1, 0, none⟩ = some (.slice none 0 0) := (World.cell?_setCell_other _ _ _ _ (by simp <;> omega)).trans q0
    have e1 : (w1.setCell ⟨w.heap.size, 1, none⟩ (.slice o1 (P.length + 1) m1)).cell? ⟨w.heap.size + 1 + 1, 1, none⟩ = some (.slice none 0 0) := (World.cell?_setCell_other _ _ _ _ (by simp <;> omega)).trans q1
    have e2 : (w1.setCell ⟨w.heap.size, 1, none⟩ (.slice o1 (P.length + 1) m1)).cell? ⟨w.heap.size + 1 + 1, 2, none⟩ = some (.slice none 0 0) := (World.cell?_setCell_other _ _ _ _ (by simp <;> omega)).trans q2
    obtain ⟨u0, u1, u2⟩ := set3 e0 e1 e2 (.slice s1 S.length s2) (.slice o1 (P.length + 1) m1) (.slice a1 A.length a2)
    have HCF := hide (((((HCF1.out).set_far (own_ne HO.out.s (b := w.heap.size) (Nat.le_refl _)) (HNE.out w.heap.size (Nat.le_refl _) (by omega)) (own_ne HO.out.a (b := w.heap.size) (Nat.le_refl _)) 1 (.slice o1 (P.length + 1) m1)).set_far (own_ne HO.out.s (b := (w.heap.size + 1 + 1)) (by omega)) (HNE.out (w.heap.size + 1 + 1) (by omega) (by omega)) (own_ne HO.out.a (b := (w.heap.size + 1 + 1)) (by omega)) 0 (.slice s1 S.length s2)).set_far (own_ne HO.out.s (b := (w.heap.size + 1 + 1)) (by omega)) (HNE.out (w.heap.size + 1 + 1) (by omega) (by omega)) (own_ne HO.out.a (b := (w.heap.size + 1 + 1)) (by omega)) 1 (.slice o1 (P.length + 1) m1)).set_far (own_ne HO.out.s (b := (w.heap.size + 1 + 1)) (by omega)) (HNE.out (w.heap.size + 1 + 1) (by omega) (by omega)) (own_ne HO.out.a (b := (w.heap.size + 1 + 1)) (by omega)) 2 (.slice a1 A.length a2))
    have HBE := hide (((((HBE1.out).setCell (p := ⟨w.heap.size, 1, none⟩) hB (.slice o1 (P.length + 1) m1)).setCell (p := ⟨w.heap.size + 1 + 1, 0, none⟩) hBR (.slice s1 S.length s2)).setCell (p := ⟨w.heap.size + 1 + 1, 1, none⟩) hBR (.slice o1 (P.length + 1) m1)).setCell (p := ⟨w.heap.size + 1 + 1, 2, none⟩) hBR (.slice a1 A.length a2))
    refine bodyPost_ret (v := .agg #[.slice s1 S.length s2, .slice o1 (P.length + 1) m1, .slice a1 A.length a2]) ?_ rfl ⟨_, _, _, rfl, by simpa [nxS, nxP, nxA, Ax.s, Ax.p, Ax.r] using HCF.out, HBE.out, HI3.out⟩
    clear HCF HBE HI3 e0 e1 e2
    generalize ((((w1.setCell ⟨w.heap.size, 1, none⟩ (.slice o1 (P.length + 1) m1)).setCell ⟨w.heap.size + 1 + 1, 0, none⟩ (.slice s1 S.length s2)).setCell ⟨w.heap.size + 1 + 1, 1, none⟩ (.slice o1 (P.length + 1) m1)).setCell ⟨w.heap.size + 1 + 1, 2, none⟩ (.slice a1 A.length a2)) = W at *
    simp [results, Tryz.results19, go_sem, u0, u1, u2]
  · have hBR : B ≤ w.heap.size + 1 + 1 := by omega
    go_wp2_with (at_builtin; refine wpList_append_own_at _ rfl _ _ 26 rfl B 39 iA _ 9 72 Tryz.underlying26 hiA zA0 zA1 zA2 rfl (by decide) _ _ _ rfl ((((HO.out.a.alloc _).alloc _).alloc _).alloc _) ⟨w.heap.size + 1 + 1 + 1, 0, none⟩ 1 1 [.int .i64 rs, .int .i64 rp, .bool rn, .int .i64 rf, .int .i64 rb, .int .i64 rt, .int .i64 re, .int .i64 ro, .bool rd] rfl rfl ?a2 (all_one rfl) ?a3 ?a4 ?a5 ?_)
    case a2 =>
      intro j u hj
      rw [add_fl, Nat.zero_add]
      exact new_cell _ _ (by simp) #[.int .i64 rs, .int .i64 rp, .bool rn, .int .i64 rf, .int .i64 rb, .int .i64 rt, .int .i64 re, .int .i64 ro, .bool rd] _ j u (by simpa using hj)
    case a3 => unfold maxLen; omega
    case a4 => omega
    case a5 => simp; omega
    intro v1 w1 ho1 hg1 _ hat
    have c0 : ((((w.alloc (.cells #[.slice s1 S.length s2, .slice p1 P.length p2, .slice a1 A.length a2] 28)).alloc (.cells #[.int .i64 3, .int .i64 si, .int .i64 st, .int .i64 sg, .int .i64 pi, .int .i64 ps, .int .i64 pm, .int .i64 pp, .int .i64 pc, .int .i64 rs, .int .i64 rp, .bool rn, .int .i64 rf, .int .i64 rb, .int .i64 rt, .int .i64 re, .int .i64 ro, .bool rd, .int .i64 n, .int .i64 m, .int .i64 f0, .int .i64 f1, .int .i64 f2, .int .i64 f3, .int .i64 f4, .int .i64 f5, .int .i64 f6, .string body] 43)).alloc (.cells #[.slice none 0 0, .slice none 0 0, .slice none 0 0] 28)).alloc (.cells #[.int .i64 rs, .int .i64 rp, .bool rn, .int .i64 rf, .int .i64 rb, .int .i64 rt, .int .i64 re, .int .i64 ro, .bool rd] 39)).cell? ⟨w.heap.size, 0, none⟩ = some (.slice s1 S.length s2) := old_cell (old_cell (old_cell (new_cell w _ rfl _ _ _ _ rfl) _) _) _
    have c1 : ((((w.alloc (.cells #[.slice s1 S.length s2, .slice p1 P.length p2, .slice a1 A.length a2] 28)).alloc (.cells #[.int .i64 3, .int .i64 si, .int .i64 st, .int .i64 sg, .int .i64 pi, .int .i64 ps, .int .i64 pm, .int .i64 pp, .int .i64 pc, .int .i64 rs, .int .i64 rp, .bool rn, .int .i64 rf, .int .i64 rb, .int .i64 rt, .int .i64 re, .int .i64 ro, .bool rd, .int .i64 n, .int .i64 m, .int .i64 f0, .int .i64 f1, .int .i64 f2, .int .i64 f3, .int .i64 f4, .int .i64 f5, .int .i64 f6, .string body] 43)).alloc (.cells #[.slice none 0 0, .slice none 0 0, .slice none 0 0] 28)).alloc (.cells #[.int .i64 rs, .int .i64 rp, .bool rn, .int .i64 rf, .int .i64 rb, .int .i64 rt, .int .i64 re, .int .i64 ro, .bool rd] 39)).cell? ⟨w.heap.size, 1, none⟩ = some (.slice p1 P.length p2) := old_cell (old_cell (old_cell (new_cell w _ rfl _ _ _ _ rfl) _) _) _
    have c2 : ((((w.alloc (.cells #[.slice s1 S.length s2, .slice p1 P.length p2, .slice a1 A.length a2] 28)).alloc (.cells #[.int .i64 3, .int .i64 si, .int .i64 st, .int .i64 sg, .int .i64 pi, .int .i64 ps, .int .i64 pm, .int .i64 pp, .int .i64 pc, .int .i64 rs, .int .i64 rp, .bool rn, .int .i64 rf, .int .i64 rb, .int .i64 rt, .int .i64 re, .int .i64 ro, .bool rd, .int .i64 n, .int .i64 m, .int .i64 f0, .int .i64 f1, .int .i64 f2, .int .i64 f3, .int .i64 f4, .int .i64 f5, .int .i64 f6, .string body] 43)).alloc (.cells #[.slice none 0 0, .slice none 0 0, .slice none 0 0] 28)).alloc (.cells #[.int .i64 rs, .int .i64 rp, .bool rn, .int .i64 rf, .int .i64 rb, .int .i64 rt, .int .i64 re, .int .i64 ro, .bool rd] 39)).cell? ⟨w.heap.size, 2, none⟩ = some (.slice a1 A.length a2) := old_cell (old_cell (old_cell (new_cell w _ rfl _ _ _ _ rfl) _) _) _
    have r0 : ((((w.alloc (.cells #[.slice s1 S.length s2, .slice p1 P.length p2, .slice a1 A.length a2] 28)).alloc (.cells #[.int .i64 3, .int .i64 si, .int .i64 st, .int .i64 sg, .int .i64 pi, .int .i64 ps, .int .i64 pm, .int .i64 pp, .int .i64 pc, .int .i64 rs, .int .i64 rp, .bool rn, .int .i64 rf, .int .i64 rb, .int .i64 rt, .int .i64 re, .int .i64 ro, .bool rd, .int .i64 n, .int .i64 m, .int .i64 f0, .int .i64 f1, .int .i64 f2, .int .i64 f3, .int .i64 f4, .int .i64 f5, .int .i64 f6, .string body] 43)).alloc (.cells #[.slice none 0 0, .slice none 0 0, .slice none 0 0] 28)).alloc (.cells #[.int .i64 rs, .int .i64 rp, .bool rn, .int .i64 rf, .int .i64 rb, .int .i64 rt, .int .i64 re, .int .i64 ro, .bool rd] 39)).cell? ⟨w.heap.size + 1 + 1, 0, none⟩ = some (.slice none 0 0) := old_cell (new_cell _ _ (by simp) _ _ _ _ rfl) _
    have r1 : ((((w.alloc (.cells #[.slice s1 S.length s2, .slice p1 P.length p2, .slice a1 A.length a2] 28)).alloc (.cells #[.int .i64 3, .int .i64 si, .int .i64 st, .int .i64 sg, .int .i64 pi, .int .i64 ps, .int .i64 pm, .int .i64 pp, .int .i64 pc, .int .i64 rs, .int .i64 rp, .bool rn, .int .i64 rf, .int .i64 rb, .int .i64 rt, .int .i64 re, .int .i64 ro, .bool rd, .int .i64 n, .int .i64 m, .int .i64 f0, .int .i64 f1, .int .i64 f2, .int .i64 f3, .int .i64 f4, .int .i64 f5, .int .i64 f6, .string body] 43)).alloc (.cells #[.slice none 0 0, .slice none 0 0, .slice none 0 0] 28)).alloc (.cells #[.int .i64 rs, .int .i64 rp, .bool rn, .int .i64 rf, .int .i64 rb, .int .i64 rt, .int .i64 re, .int .i64 ro, .bool rd] 39)).cell? ⟨w.heap.size + 1 + 1, 1, none⟩ = some (.slice none 0 0) := old_cell (new_cell _ _ (by simp) _ _ _ _ rfl) _
    have r2 : ((((w.alloc (.cells #[.slice s1 S.length s2, .slice p1 P.length p2, .slice a1 A.length a2] 28)).alloc (.cells #[.int .i64 3, .int .i64 si, .int .i64 st, .int .i64 sg, .int .i64 pi, .int .i64 ps, .int .i64 pm, .int .i64 pp, .int .i64 pc, .int .i64 rs, .int .i64 rp, .bool rn, .int .i64 rf, .int .i64 rb, .int .i64 rt, .int .i64 re, .int .i64 ro, .bool rd, .int .i64 n, .int .i64 m, .int .i64 f0, .int .i64 f1, .int .i64 f2, .int .i64 f3, .int .i64 f4, .int .i64 f5, .int .i64 f6, .string body] 43)).alloc (.cells #[.slice none 0 0, .slice none 0 0, .slice none 0 0] 28)).alloc (.cells #[.int .i64 rs, .int .i64 rp, .bool rn, .int .i64 rf, .int .i64 rb, .int .i64 rt, .int .i64 re, .int .i64 ro, .bool rd] 39)).cell? ⟨w.heap.size + 1 + 1, 2, none⟩ = some (.slice none 0 0) := old_cell (new_cell _ _ (by simp) _ _ _ _ rfl) _
    have hnr : ∀ b, w.heap.size ≤ b → some b ≠ (Value.slice a1 A.length a2).ownBlock := fun b hb e => own_ne HO.out.a hb e.symm
    have d0 := hg1.cell c0 (hnr w.heap.size (Nat.le_refl _))
    have d1 := hg1.cell c1 (hnr w.heap.size (Nat.le_refl _))
    have d2 := hg1.cell c2 (hnr w.heap.size (Nat.le_refl _))
    have q0 := hg1.cell r0 (hnr (w.heap.size + 1 + 1) (by omega))
    have q1 := hg1.cell r1 (hnr (w.heap.size + 1 + 1) (by omega))
    have q2 := hg1.cell r2 (hnr (w.heap.size + 1 + 1) (by omega))
    have y0 : w1.frozen? ⟨w.heap.size, 2, none⟩ = false := gfrozen hg1 (by simp; omega) (old_frozen (by simp; omega) (old_frozen (by simp; omega) (old_frozen (by simp) (new_frozen w _ rfl _ _ _) _) _) _) (hnr w.heap.size (Nat.le_refl _))
    have f0 : w1.frozen? ⟨w.heap.size + 1 + 1, 0, none⟩ = false := gfrozen hg1 (by simp) (old_frozen (by simp) (new_frozen _ _ (by simp) _ _ _) _) (hnr (w.heap.size + 1 + 1) (by omega))
    have f1 : w1.frozen? ⟨w.heap.size + 1 + 1, 1, none⟩ = false := gfrozen hg1 (by simp) (old_frozen (by simp) (new_frozen _ _ (by simp) _ _ _) _) (hnr (w.heap.size + 1 + 1) (by omega))
    have f2 : w1.frozen? ⟨w.heap.size + 1 + 1, 2, none⟩ = false := gfrozen hg1 (by simp) (old_frozen (by simp) (new_frozen _ _ (by simp) _ _ _) _) (hnr (w.heap.size + 1 + 1) (by omega))
    have K0 := hide (World.ownsRow.kept ((((HO.out.s.alloc _).alloc _).alloc _).alloc _) hg1 (HO.out.sa))
    have K1 := hide (World.ownsRow.kept ((((HO.out.p.alloc _).alloc _).alloc _).alloc _) hg1 (HO.out.pa))
    have KN : Hid (w1.ownsRow B 39 9 v1 (A ++ [(⟨rs, rp, rn, rf, rb, rt, re, ro, rd⟩ : Ac)]).length ((A ++ [(⟨rs, rp, rn, rf, rb, rt, re, ro, rd⟩ : Ac)]).flatMap acC)) := by
      show World.ownsRow _ _ _ _ _ _ _
      rw [List.length_append, ← flat_snoc]
      exact ho1
    have hv1 : ∀ b, w.heap.size ≤ b → b < w.heap.size + 1 + 1 + 1 + 1 → v1.ownBlock ≠ some b := fun b hb hb2 e => by
      rcases hat with h | h
      · exact own_ne HO.out.a hb (h.symm.trans e)
      · rw [h] at e; simp at e; omega
    obtain ⟨o1, m1, hv⟩ := own_slc ho1
    have CF : CfAt w1 (.slice s1 S.length s2) (.slice p1 P.length p2) v1 S P (A ++ [(⟨rs, rp, rn, rf, rb, rt, re, ro, rd⟩ : Ac)]) := ⟨RowAt.of_own swC_len (by omega) K0.out, RowAt.of_own prC_len (by omega) K1.out, RowAt.of_own acC_len (by omega) KN.out⟩
    have HI3 := hide (And.intro (own_ge (K0.out)) (And.intro (own_ge (K1.out)) (own_ge (KN.out))))
    have HB1 : Below B w w1 := (((((Below.refl _ w).alloc hB _).alloc (by simp; omega) _).alloc (by simp; omega) _).alloc (by simp; omega) _).grown hg1 (by simp; omega) (own_ge HO.out.a)
    subst hv
    have HCF1 := hide CF
    have HBE1 := hide HB1
    have HNE : Hid (∀ b, w.heap.size ≤ b → b < w.heap.size + 1 + 1 + 1 + 1 → (Value.slice o1 (A.length + 1) m1).ownBlock ≠ some b) := hv1
    clear CF HB1 hv1 hat hnr KN ho1 hg1 c0 c1 c2 r0 r1 r2 HAT K0 K1
    have nn1 : w.heap.size ≠ w.heap.size + 1 + 1 := by omega
    go_wp2_with fail
    have e0 : (w1.setCell ⟨w.heap.size, 2, none⟩ (.slice o1 (A.length + 1) m1)).cell? ⟨w.heap.size + 1 + 1, 0, none⟩ = some (.slice none 0 0) := (World.cell?_setCell_other _ _ _ _ (by simp <;> omega)).trans q0
    have e1 : (w1.setCell ⟨w.heap.size, 2, none⟩ (.slice o1 (A.length + 1) m1)).cell? ⟨w.heap.size + 1 + 1, 1, none⟩ = some (.slice none 0 0) := (World.cell?_setCell_other _ _ _ _ (by simp <;> omega)).trans q1
    have e2 : (w1.setCell ⟨w.heap.size, 2, none⟩ (.slice o1 (A.length + 1) m1)).cell? ⟨w.heap.size + 1 + 1, 2, none⟩ = some (.slice none 0 0) := (World.cell?_setCell_other _ _ _ _ (by simp <;> omega)).trans q2
    obtain ⟨u0, u1, u2⟩ := set3 e0 e1 e2 (.slice s1 S.length s2) (.slice p1 P.length p2) (.slice o1 (A.length + 1) m1)
    have HCF := hide (((((HCF1.out).set_far (own_ne HO.out.s (b := w.heap.size) (Nat.le_refl _)) (own_ne HO.out.p (b := w.heap.size) (Nat.le_refl _)) (HNE.out w.heap.size (Nat.le_refl _) (by omega)) 2 (.slice o1 (A.length + 1) m1)).set_far (own_ne HO.out.s (b := (w.heap.size + 1 + 1)) (by omega)) (own_ne HO.out.p (b := (w.heap.size + 1 + 1)) (by omega)) (HNE.out (w.heap.size + 1 + 1) (by omega) (by omega)) 0 (.slice s1 S.length s2)).set_far (own_ne HO.out.s (b := (w.heap.size + 1 + 1)) (by omega)) (own_ne HO.out.p (b := (w.heap.size + 1 + 1)) (by omega)) (HNE.out (w.heap.size + 1 + 1) (by omega) (by omega)) 1 (.slice p1 P.length p2)).set_far (own_ne HO.out.s (b := (w.heap.size + 1 + 1)) (by omega)) (own_ne HO.out.p (b := (w.heap.size + 1 + 1)) (by omega)) (HNE.out (w.heap.size + 1 + 1) (by omega) (by omega)) 2 (.slice o1 (A.length + 1) m1))
    have HBE := hide (((((HBE1.out).setCell (p := ⟨w.heap.size, 2, none⟩) hB (.slice o1 (A.length + 1) m1)).setCell (p := ⟨w.heap.size + 1 + 1, 0, none⟩) hBR (.slice s1 S.length s2)).setCell (p := ⟨w.heap.size + 1 + 1, 1, none⟩) hBR (.slice p1 P.length p2)).setCell (p := ⟨w.heap.size + 1 + 1, 2, none⟩) hBR (.slice o1 (A.length + 1) m1))
    refine bodyPost_ret (v := .agg #[.slice s1 S.length s2, .slice p1 P.length p2, .slice o1 (A.length + 1) m1]) ?_ rfl ⟨_, _, _, rfl, by simpa [nxS, nxP, nxA, Ax.s, Ax.p, Ax.r] using HCF.out, HBE.out, HI3.out⟩
    clear HCF HBE HI3 e0 e1 e2
    generalize ((((w1.setCell ⟨w.heap.size, 2, none⟩ (.slice o1 (A.length + 1) m1)).setCell ⟨w.heap.size + 1 + 1, 0, none⟩ (.slice s1 S.length s2)).setCell ⟨w.heap.size + 1 + 1, 1, none⟩ (.slice p1 P.length p2)).setCell ⟨w.heap.size + 1 + 1, 2, none⟩ (.slice o1 (A.length + 1) m1)) = W at *
    simp [results, Tryz.results19, go_sem, u0, u1, u2]
  · have hBR : B ≤ w.heap.size + 1 + 1 := by omega
    have hpp := hp (.inl rfl)
    have hbd := idx_bd (fun x : Pr => x.i == n) P
    obtain ⟨kk, hkk⟩ : ∃ kk : Nat, pat P n = (kk : Int) := ⟨(pat P n).toNat, by omega⟩
    have hkl : kk < P.length := by have : pat P n < P.length := hbd.2; omega
    rw [hkk] at HAT
    have HKK := hide hkk
    clear hkk hbd hpp hp hn
    obtain ⟨g, cap, hform, -, -⟩ := HO.out.p.form (by omega)
    simp only [Value.slice.injEq, true_and] at hform
    obtain ⟨rfl, rfl⟩ := hform
    have hgw : g < w.heap.size := own_in HO.out.p rfl
    go_wp2_with fail
    obtain ⟨W0, hW0⟩ : ∃ W0, W0 = (((w.alloc (.cells #[.slice s1 S.length s2, .slice (some ⟨g, 0, none⟩) P.length p2, .slice a1 A.length a2] 28)).alloc (.cells #[.int .i64 4, .int .i64 si, .int .i64 st, .int .i64 sg, .int .i64 pi, .int .i64 ps, .int .i64 pm, .int .i64 pp, .int .i64 pc, .int .i64 rs, .int .i64 rp, .bool rn, .int .i64 rf, .int .i64 rb, .int .i64 rt, .int .i64 re, .int .i64 ro, .bool rd, .int .i64 n, .int .i64 m, .int .i64 f0, .int .i64 f1, .int .i64 f2, .int .i64 f3, .int .i64 f4, .int .i64 f5, .int .i64 f6, .string body] 43)).alloc (.cells #[.slice none 0 0, .slice none 0 0, .slice none 0 0] 28)) := ⟨_, rfl⟩
    have hb0 : Below w.heap.size w W0 := by rw [hW0]; exact (((Below.refl _ w).alloc (Nat.le_refl _) _).alloc (by simp) _).alloc (by simp; omega) _
    have hz0 : W0.heap.size = w.heap.size + 3 := by rw [hW0]; simp
    have c0 : W0.cell? ⟨w.heap.size, 0, none⟩ = some (.slice s1 S.length s2) := by rw [hW0]; exact old_cell (old_cell (new_cell w _ rfl _ _ _ _ rfl) _) _
    have c1 : W0.cell? ⟨w.heap.size, 1, none⟩ = some (.slice (some ⟨g, 0, none⟩) P.length p2) := by rw [hW0]; exact old_cell (old_cell (new_cell w _ rfl _ _ _ _ rfl) _) _
    have c2 : W0.cell? ⟨w.heap.size, 2, none⟩ = some (.slice a1 A.length a2) := by rw [hW0]; exact old_cell (old_cell (new_cell w _ rfl _ _ _ _ rfl) _) _
    have r0 : W0.cell? ⟨w.heap.size + 1 + 1, 0, none⟩ = some (.slice none 0 0) := by rw [hW0]; exact new_cell _ _ (by simp) _ _ _ _ rfl
    have r1 : W0.cell? ⟨w.heap.size + 1 + 1, 1, none⟩ = some (.slice none 0 0) := by rw [hW0]; exact new_cell _ _ (by simp) _ _ _ _ rfl
    have r2 : W0.cell? ⟨w.heap.size + 1 + 1, 2, none⟩ = some (.slice none 0 0) := by rw [hW0]; exact new_cell _ _ (by simp) _ _ _ _ rfl
    have xn : W0.cell? ⟨w.heap.size + 1, 18, none⟩ = some (.int .i64 n) := by rw [hW0]; exact old_cell (new_cell _ _ (by simp) _ _ _ _ rfl) _
    have xm : W0.cell? ⟨w.heap.size + 1, 19, none⟩ = some (.int .i64 m) := by rw [hW0]; exact old_cell (new_cell _ _ (by simp) _ _ _ _ rfl) _
    have zc0 : W0.frozen? ⟨w.heap.size, 0, none⟩ = false := by rw [hW0]; exact old_frozen (by simp; omega) (old_frozen (by simp) (new_frozen w _ rfl _ _ _) _) _
    have zc1 : W0.frozen? ⟨w.heap.size, 1, none⟩ = false := by rw [hW0]; exact old_frozen (by simp; omega) (old_frozen (by simp) (new_frozen w _ rfl _ _ _) _) _
    have zc2 : W0.frozen? ⟨w.heap.size, 2, none⟩ = false := by rw [hW0]; exact old_frozen (by simp; omega) (old_frozen (by simp) (new_frozen w _ rfl _ _ _) _) _
    have zr0 : W0.frozen? ⟨w.heap.size + 1 + 1, 0, none⟩ = false := by rw [hW0]; exact new_frozen _ _ (by simp) _ _ _
    have zr1 : W0.frozen? ⟨w.heap.size + 1 + 1, 1, none⟩ = false := by rw [hW0]; exact new_frozen _ _ (by simp) _ _ _
    have zr2 : W0.frozen? ⟨w.heap.size + 1 + 1, 2, none⟩ = false := by rw [hW0]; exact new_frozen _ _ (by simp) _ _ _
    rw [← hW0]
    clear hW0
    have nn1 : w.heap.size ≠ w.heap.size + 1 + 1 := by omega
    refine (unhide HAT _ hb0).mono ?_
    rintro e w1 ⟨rfl, hb1⟩
    have k1 := hb0.trans (hb1.mono hb0.size)
    have dc0 := cell_beh c0 hb1 (Nat.le_refl _)
    have dc1 := cell_beh c1 hb1 (Nat.le_refl _)
    have dc2 := cell_beh c2 hb1 (Nat.le_refl _)
    have dr0 := cell_beh r0 hb1 (Nat.le_refl _)
    have dr1 := cell_beh r1 hb1 (Nat.le_refl _)
    have dr2 := cell_beh r2 hb1 (Nat.le_refl _)
    have fc0 := (hb1.frozen (p := ⟨w.heap.size, 0, none⟩) (show w.heap.size < W0.heap.size by omega)).trans zc0
    have fc1 := (hb1.frozen (p := ⟨w.heap.size, 1, none⟩) (show w.heap.size < W0.heap.size by omega)).trans zc1
    have fc2 := (hb1.frozen (p := ⟨w.heap.size, 2, none⟩) (show w.heap.size < W0.heap.size by omega)).trans zc2
    have fr0 := (hb1.frozen (p := ⟨w.heap.size + 1 + 1, 0, none⟩) (show w.heap.size + 1 + 1 < W0.heap.size by omega)).trans zr0
    have fr1 := (hb1.frozen (p := ⟨w.heap.size + 1 + 1, 1, none⟩) (show w.heap.size + 1 + 1 < W0.heap.size by omega)).trans zr1
    have fr2 := (hb1.frozen (p := ⟨w.heap.size + 1 + 1, 2, none⟩) (show w.heap.size + 1 + 1 < W0.heap.size by omega)).trans zr2
    have O0 := hide (own_below HO.out.s k1)
    have O1 := hide (own_below HO.out.p k1)
    have O2 := hide (own_below HO.out.a k1)
    have hsz1 := hb1.size
    clear HAT hb0 hb1 c0 c1 c2 r0 r1 r2 xn xm zc0 zc1 zc2 zr0 zr1 zr2
    go_wp2_with fail
    refine (deletePr_any P B g p2 kk w1 O1.out hkl (by omega)).mono ?_
    rintro e w2 ⟨rfl, ho2, hg2⟩
    have d0 := hg2.cell dc0 (show some w.heap.size ≠ some g by simp; omega)
    have d1 := hg2.cell dc1 (show some w.heap.size ≠ some g by simp; omega)
    have d2 := hg2.cell dc2 (show some w.heap.size ≠ some g by simp; omega)
    have q0 := hg2.cell dr0 (show some (w.heap.size + 1 + 1) ≠ some g by simp; omega)
    have q1 := hg2.cell dr1 (show some (w.heap.size + 1 + 1) ≠ some g by simp; omega)
    have q2 := hg2.cell dr2 (show some (w.heap.size + 1 + 1) ≠ some g by simp; omega)
    have y0 := gfrozen hg2 (show w.heap.size < w1.heap.size by omega) fc1 (show some w.heap.size ≠ some g by simp; omega)
    have f0 := gfrozen hg2 (show w.heap.size + 1 + 1 < w1.heap.size by omega) fr0 (show some (w.heap.size + 1 + 1) ≠ some g by simp; omega)
    have f1 := gfrozen hg2 (show w.heap.size + 1 + 1 < w1.heap.size by omega) fr1 (show some (w.heap.size + 1 + 1) ≠ some g by simp; omega)
    have f2 := gfrozen hg2 (show w.heap.size + 1 + 1 < w1.heap.size by omega) fr2 (show some (w.heap.size + 1 + 1) ≠ some g by simp; omega)
    have K0 := hide (World.ownsRow.kept O0.out hg2 HO.out.sp)
    have K2 := hide (World.ownsRow.kept O2.out hg2 (sep_sym HO.out.pa))
    have CF : CfAt w2 (.slice s1 S.length s2) (.slice (some ⟨g, 0, none⟩) (P.length - 1) p2) (.slice a1 A.length a2) S (P.eraseIdx kk) A := ⟨RowAt.of_own swC_len (by omega) K0.out, RowAt.of_own prC_len (by omega) (by rw [List.length_eraseIdx_of_lt hkl]; exact ho2), RowAt.of_own acC_len (by omega) K2.out⟩
    have HI3 := hide (And.intro (own_ge (K0.out)) (And.intro (own_ge (ho2)) (own_ge (K2.out))))
    have HB1 : Below B w w2 := (k1.mono hB).grown hg2 (Nat.le_trans hB k1.size) (fun b e => by simp at e; subst e; exact own_ge HO.out.p _ rfl)
    have HCF1 := hide CF
    have HBE1 := hide HB1
    clear CF HB1 ho2 hg2 K0 K2 O0 O1 O2 dc0 dc1 dc2 dr0 dr1 dr2 fc0 fc1 fc2 fr0 fr1 fr2 k1 hsz1
    go_wp2_with fail
    have e0 : (w2.setCell ⟨w.heap.size, 1, none⟩ (.slice (some ⟨g, 0, none⟩) (P.length - 1) p2)).cell? ⟨w.heap.size + 1 + 1, 0, none⟩ = some (.slice none 0 0) := (World.cell?_setCell_other _ _ _ _ (by simp <;> omega)).trans q0
    have e1 : (w2.setCell ⟨w.heap.size, 1, none⟩ (.slice (some ⟨g, 0, none⟩) (P.length - 1) p2)).cell? ⟨w.heap.size + 1 + 1, 1, none⟩ = some (.slice none 0 0) := (World.cell?_setCell_other _ _ _ _ (by simp <;> omega)).trans q1
    have e2 : (w2.setCell ⟨w.heap.size, 1, none⟩ (.slice (some ⟨g, 0, none⟩) (P.length - 1) p2)).cell? ⟨w.heap.size + 1 + 1, 2, none⟩ = some (.slice none 0 0) := (World.cell?_setCell_other _ _ _ _ (by simp <;> omega)).trans q2
    obtain ⟨u0, u1, u2⟩ := set3 e0 e1 e2 (.slice s1 S.length s2) (.slice (some ⟨g, 0, none⟩) (P.length - 1) p2) (.slice a1 A.length a2)
    have HCF := hide (((((HCF1.out).set_far (own_ne HO.out.s (b := w.heap.size) (Nat.le_refl _)) (show (Value.slice (some ⟨g, 0, none⟩) _ _).ownBlock ≠ some (w.heap.size) by simp [Value.ownBlock]; omega) (own_ne HO.out.a (b := w.heap.size) (Nat.le_refl _)) 1 (.slice (some ⟨g, 0, none⟩) (P.length - 1) p2)).set_far (own_ne HO.out.s (b := (w.heap.size + 1 + 1)) (by omega)) (show (Value.slice (some ⟨g, 0, none⟩) _ _).ownBlock ≠ some ((w.heap.size + 1 + 1)) by simp [Value.ownBlock]; omega) (own_ne HO.out.a (b := (w.heap.size + 1 + 1)) (by omega)) 0 (.slice s1 S.length s2)).set_far (own_ne HO.out.s (b := (w.heap.size + 1 + 1)) (by omega)) (show (Value.slice (some ⟨g, 0, none⟩) _ _).ownBlock ≠ some ((w.heap.size + 1 + 1)) by simp [Value.ownBlock]; omega) (own_ne HO.out.a (b := (w.heap.size + 1 + 1)) (by omega)) 1 (.slice (some ⟨g, 0, none⟩) (P.length - 1) p2)).set_far (own_ne HO.out.s (b := (w.heap.size + 1 + 1)) (by omega)) (show (Value.slice (some ⟨g, 0, none⟩) _ _).ownBlock ≠ some ((w.heap.size + 1 + 1)) by simp [Value.ownBlock]; omega) (own_ne HO.out.a (b := (w.heap.size + 1 + 1)) (by omega)) 2 (.slice a1 A.length a2))
    have HBE := hide (((((HBE1.out).setCell (p := ⟨w.heap.size, 1, none⟩) hB (.slice (some ⟨g, 0, none⟩) (P.length - 1) p2)).setCell (p := ⟨w.heap.size + 1 + 1, 0, none⟩) hBR (.slice s1 S.length s2)).setCell (p := ⟨w.heap.size + 1 + 1, 1, none⟩) hBR (.slice (some ⟨g, 0, none⟩) (P.length - 1) p2)).setCell (p := ⟨w.heap.size + 1 + 1, 2, none⟩) hBR (.slice a1 A.length a2))
    refine bodyPost_ret (v := .agg #[.slice s1 S.length s2, .slice (some ⟨g, 0, none⟩) (P.length - 1) p2, .slice a1 A.length a2]) ?_ rfl ⟨_, _, _, rfl, by simpa [nxS, nxP, nxA, HKK.out] using HCF.out, HBE.out, HI3.out⟩
    clear HCF HBE HI3 e0 e1 e2
    generalize ((((w2.setCell ⟨w.heap.size, 1, none⟩ (.slice (some ⟨g, 0, none⟩) (P.length - 1) p2)).setCell ⟨w.heap.size + 1 + 1, 0, none⟩ (.slice s1 S.length s2)).setCell ⟨w.heap.size + 1 + 1, 1, none⟩ (.slice (some ⟨g, 0, none⟩) (P.length - 1) p2)).setCell ⟨w.heap.size + 1 + 1, 2, none⟩ (.slice a1 A.length a2)) = W at *
    simp [results, Tryz.results19, go_sem, u0, u1, u2]
  · have hBR : B ≤ w.heap.size + 1 + 1 := by omega
    obtain ⟨hn0, hn1⟩ := hn rfl
    obtain ⟨kk, rfl⟩ := Int.eq_ofNat_of_zero_le hn0
    have hkl : kk < A.length := by omega
    clear hn0 hn1 hp hn HAT
    obtain ⟨g, cap, hform, -, -⟩ := HO.out.a.form (by omega)
    simp only [Value.slice.injEq, true_and] at hform
    obtain ⟨rfl, rfl⟩ := hform
    have hgw : g < w.heap.size := own_in HO.out.a rfl
    go_wp2_with fail
    obtain ⟨W0, hW0⟩ : ∃ W0, W0 = (((w.alloc (.cells #[.slice s1 S.length s2, .slice p1 P.length p2, .slice (some ⟨g, 0, none⟩) A.length a2] 28)).alloc (.cells #[.int .i64 5, .int .i64 si, .int .i64 st, .int .i64 sg, .int .i64 pi, .int .i64 ps, .int .i64 pm, .int .i64 pp, .int .i64 pc, .int .i64 rs, .int .i64 rp, .bool rn, .int .i64 rf, .int .i64 rb, .int .i64 rt, .int .i64 re, .int .i64 ro, .bool rd, .int .i64 (kk : Int), .int .i64 m, .int .i64 f0, .int .i64 f1, .int .i64 f2, .int .i64 f3, .int .i64 f4, .int .i64 f5, .int .i64 f6, .string body] 43)).alloc (.cells #[.slice none 0 0, .slice none 0 0, .slice none 0 0] 28)) := ⟨_, rfl⟩
    have hb0 : Below w.heap.size w W0 := by rw [hW0]; exact (((Below.refl _ w).alloc (Nat.le_refl _) _).alloc (by simp) _).alloc (by simp; omega) _
    have hz0 : W0.heap.size = w.heap.size + 3 := by rw [hW0]; simp
    have c0 : W0.cell? ⟨w.heap.size, 0, none⟩ = some (.slice s1 S.length s2) := by rw [hW0]; exact old_cell (old_cell (new_cell w _ rfl _ _ _ _ rfl) _) _
    have c1 : W0.cell? ⟨w.heap.size, 1, none⟩ = some (.slice p1 P.length p2) := by rw [hW0]; exact old_cell (old_cell (new_cell w _ rfl _ _ _ _ rfl) _) _
    have c2 : W0.cell? ⟨w.heap.size, 2, none⟩ = some (.slice (some ⟨g, 0, none⟩) A.length a2) := by rw [hW0]; exact old_cell (old_cell (new_cell w _ rfl _ _ _ _ rfl) _) _
    have r0 : W0.cell? ⟨w.heap.size + 1 + 1, 0, none⟩ = some (.slice none 0 0) := by rw [hW0]; exact new_cell _ _ (by simp) _ _ _ _ rfl
    have r1 : W0.cell? ⟨w.heap.size + 1 + 1, 1, none⟩ = some (.slice none 0 0) := by rw [hW0]; exact new_cell _ _ (by simp) _ _ _ _ rfl
    have r2 : W0.cell? ⟨w.heap.size + 1 + 1, 2, none⟩ = some (.slice none 0 0) := by rw [hW0]; exact new_cell _ _ (by simp) _ _ _ _ rfl
    have xn : W0.cell? ⟨w.heap.size + 1, 18, none⟩ = some (.int .i64 (kk : Int)) := by rw [hW0]; exact old_cell (new_cell _ _ (by simp) _ _ _ _ rfl) _
    have xm : W0.cell? ⟨w.heap.size + 1, 19, none⟩ = some (.int .i64 m) := by rw [hW0]; exact old_cell (new_cell _ _ (by simp) _ _ _ _ rfl) _
    have zc0 : W0.frozen? ⟨w.heap.size, 0, none⟩ = false := by rw [hW0]; exact old_frozen (by simp; omega) (old_frozen (by simp) (new_frozen w _ rfl _ _ _) _) _
    have zc1 : W0.frozen? ⟨w.heap.size, 1, none⟩ = false := by rw [hW0]; exact old_frozen (by simp; omega) (old_frozen (by simp) (new_frozen w _ rfl _ _ _) _) _
    have zc2 : W0.frozen? ⟨w.heap.size, 2, none⟩ = false := by rw [hW0]; exact old_frozen (by simp; omega) (old_frozen (by simp) (new_frozen w _ rfl _ _ _) _) _
    have zr0 : W0.frozen? ⟨w.heap.size + 1 + 1, 0, none⟩ = false := by rw [hW0]; exact new_frozen _ _ (by simp) _ _ _
    have zr1 : W0.frozen? ⟨w.heap.size + 1 + 1, 1, none⟩ = false := by rw [hW0]; exact new_frozen _ _ (by simp) _ _ _
    have zr2 : W0.frozen? ⟨w.heap.size + 1 + 1, 2, none⟩ = false := by rw [hW0]; exact new_frozen _ _ (by simp) _ _ _
    rw [← hW0]
    clear hW0
    have nn1 : w.heap.size ≠ w.heap.size + 1 + 1 := by omega
    have k1 := hb0
    have O0 := hide (own_below HO.out.s k1)
    have O1 := hide (own_below HO.out.p k1)
    have O2 := hide (own_below HO.out.a k1)
    refine (deleteAc_any A B g a2 kk W0 O2.out hkl (by omega)).mono ?_
    rintro e w2 ⟨rfl, ho2, hg2⟩
    have d0 := hg2.cell c0 (show some w.heap.size ≠ some g by simp; omega)
    have d1 := hg2.cell c1 (show some w.heap.size ≠ some g by simp; omega)
    have d2 := hg2.cell c2 (show some w.heap.size ≠ some g by simp; omega)
    have q0 := hg2.cell r0 (show some (w.heap.size + 1 + 1) ≠ some g by simp; omega)
    have q1 := hg2.cell r1 (show some (w.heap.size + 1 + 1) ≠ some g by simp; omega)
    have q2 := hg2.cell r2 (show some (w.heap.size + 1 + 1) ≠ some g by simp; omega)
    have y0 := gfrozen hg2 (show w.heap.size < W0.heap.size by omega) zc2 (show some w.heap.size ≠ some g by simp; omega)
    have f0 := gfrozen hg2 (show w.heap.size + 1 + 1 < W0.heap.size by omega) zr0 (show some (w.heap.size + 1 + 1) ≠ some g by simp; omega)
    have f1 := gfrozen hg2 (show w.heap.size + 1 + 1 < W0.heap.size by omega) zr1 (show some (w.heap.size + 1 + 1) ≠ some g by simp; omega)
    have f2 := gfrozen hg2 (show w.heap.size + 1 + 1 < W0.heap.size by omega) zr2 (show some (w.heap.size + 1 + 1) ≠ some g by simp; omega)
    have K0 := hide (World.ownsRow.kept O0.out hg2 HO.out.sa)
    have K1 := hide (World.ownsRow.kept O1.out hg2 HO.out.pa)
    have CF : CfAt w2 (.slice s1 S.length s2) (.slice p1 P.length p2) (.slice (some ⟨g, 0, none⟩) (A.length - 1) a2) S P (A.eraseIdx kk) := ⟨RowAt.of_own swC_len (by omega) K0.out, RowAt.of_own prC_len (by omega) K1.out, RowAt.of_own acC_len (by omega) (by rw [List.length_eraseIdx_of_lt hkl]; exact ho2)⟩
    have HI3 := hide (And.intro (own_ge (K0.out)) (And.intro (own_ge (K1.out)) (own_ge (ho2))))
    have HB1 : Below B w w2 := (k1.mono hB).grown hg2 (Nat.le_trans hB k1.size) (fun b e => by simp at e; subst e; exact own_ge HO.out.a _ rfl)
    have HCF1 := hide CF
    have HBE1 := hide HB1
    clear CF HB1 ho2 hg2 K0 K1 O0 O1 O2 k1 hb0 c0 c1 c2 r0 r1 r2 xn xm zc0 zc1 zc2 zr0 zr1 zr2
    go_wp2_with fail
    have e0 : (w2.setCell ⟨w.heap.size, 2, none⟩ (.slice (some ⟨g, 0, none⟩) (A.length - 1) a2)).cell? ⟨w.heap.size + 1 + 1, 0, none⟩ = some (.slice none 0 0) := (World.cell?_setCell_other _ _ _ _ (by simp <;> omega)).trans q0
    have e1 : (w2.setCell ⟨w.heap.size, 2, none⟩ (.slice (some ⟨g, 0, none⟩) (A.length - 1) a2)).cell? ⟨w.heap.size + 1 + 1, 1, none⟩ = some (.slice none 0 0) := (World.cell?_setCell_other _ _ _ _ (by simp <;> omega)).trans q1
    have e2 : (w2.setCell ⟨w.heap.size, 2, none⟩ (.slice (some ⟨g, 0, none⟩) (A.length - 1) a2)).cell? ⟨w.heap.size + 1 + 1, 2, none⟩ = some (.slice none 0 0) := (World.cell?_setCell_other _ _ _ _ (by simp <;> omega)).trans q2
    obtain ⟨u0, u1, u2⟩ := set3 e0 e1 e2 (.slice s1 S.length s2) (.slice p1 P.length p2) (.slice (some ⟨g, 0, none⟩) (A.length - 1) a2)
    have HCF := hide (((((HCF1.out).set_far (own_ne HO.out.s (b := w.heap.size) (Nat.le_refl _)) (own_ne HO.out.p (b := w.heap.size) (Nat.le_refl _)) (show (Value.slice (some ⟨g, 0, none⟩) _ _).ownBlock ≠ some (w.heap.size) by simp [Value.ownBlock]; omega) 2 (.slice (some ⟨g, 0, none⟩) (A.length - 1) a2)).set_far (own_ne HO.out.s (b := (w.heap.size + 1 + 1)) (by omega)) (own_ne HO.out.p (b := (w.heap.size + 1 + 1)) (by omega)) (show (Value.slice (some ⟨g, 0, none⟩) _ _).ownBlock ≠ some ((w.heap.size + 1 + 1)) by simp [Value.ownBlock]; omega) 0 (.slice s1 S.length s2)).set_far (own_ne HO.out.s (b := (w.heap.size + 1 + 1)) (by omega)) (own_ne HO.out.p (b := (w.heap.size + 1 + 1)) (by omega)) (show (Value.slice (some ⟨g, 0, none⟩) _ _).ownBlock ≠ some ((w.heap.size + 1 + 1)) by simp [Value.ownBlock]; omega) 1 (.slice p1 P.length p2)).set_far (own_ne HO.out.s (b := (w.heap.size + 1 + 1)) (by omega)) (own_ne HO.out.p (b := (w.heap.size + 1 + 1)) (by omega)) (show (Value.slice (some ⟨g, 0, none⟩) _ _).ownBlock ≠ some ((w.heap.size + 1 + 1)) by simp [Value.ownBlock]; omega) 2 (.slice (some ⟨g, 0, none⟩) (A.length - 1) a2))
    have HBE := hide (((((HBE1.out).setCell (p := ⟨w.heap.size, 2, none⟩) hB (.slice (some ⟨g, 0, none⟩) (A.length - 1) a2)).setCell (p := ⟨w.heap.size + 1 + 1, 0, none⟩) hBR (.slice s1 S.length s2)).setCell (p := ⟨w.heap.size + 1 + 1, 1, none⟩) hBR (.slice p1 P.length p2)).setCell (p := ⟨w.heap.size + 1 + 1, 2, none⟩) hBR (.slice (some ⟨g, 0, none⟩) (A.length - 1) a2))
    refine bodyPost_ret (v := .agg #[.slice s1 S.length s2, .slice p1 P.length p2, .slice (some ⟨g, 0, none⟩) (A.length - 1) a2]) ?_ rfl ⟨_, _, _, rfl, by simpa [nxS, nxP, nxA] using HCF.out, HBE.out, HI3.out⟩
    clear HCF HBE HI3 e0 e1 e2
    generalize ((((w2.setCell ⟨w.heap.size, 2, none⟩ (.slice (some ⟨g, 0, none⟩) (A.length - 1) a2)).setCell ⟨w.heap.size + 1 + 1, 0, none⟩ (.slice s1 S.length s2)).setCell ⟨w.heap.size + 1 + 1, 1, none⟩ (.slice p1 P.length p2)).setCell ⟨w.heap.size + 1 + 1, 2, none⟩ (.slice (some ⟨g, 0, none⟩) (A.length - 1) a2)) = W at *
    simp [results, Tryz.results19, go_sem, u0, u1, u2]
  · have hBR : B ≤ w.heap.size + 1 + 1 := by omega
    have hpp := hp (.inr rfl)
    have hbd := idx_bd (fun x : Pr => x.i == n) P
    obtain ⟨kk, hkk⟩ : ∃ kk : Nat, pat P n = (kk : Int) := ⟨(pat P n).toNat, by omega⟩
    have hkl : kk < P.length := by have : pat P n < P.length := hbd.2; omega
    rw [hkk] at HAT
    have HKK := hide hkk
    clear hkk hbd hpp hp hn
    obtain ⟨g, cap, hform, -, -⟩ := HO.out.p.form (by omega)
    simp only [Value.slice.injEq, true_and] at hform
    obtain ⟨rfl, rfl⟩ := hform
    have hgw : g < w.heap.size := own_in HO.out.p rfl
    have q3 : (0 : Int) ≤ (kk : Int) := by omega
    have q4 : (kk : Int) < (P.length : Int) := by omega
    go_wp2_with fail
    obtain ⟨W0, hW0⟩ : ∃ W0, W0 = (((w.alloc (.cells #[.slice s1 S.length s2, .slice (some ⟨g, 0, none⟩) P.length p2, .slice a1 A.length a2] 28)).alloc (.cells #[.int .i64 6, .int .i64 si, .int .i64 st, .int .i64 sg, .int .i64 pi, .int .i64 ps, .int .i64 pm, .int .i64 pp, .int .i64 pc, .int .i64 rs, .int .i64 rp, .bool rn, .int .i64 rf, .int .i64 rb, .int .i64 rt, .int .i64 re, .int .i64 ro, .bool rd, .int .i64 n, .int .i64 m, .int .i64 f0, .int .i64 f1, .int .i64 f2, .int .i64 f3, .int .i64 f4, .int .i64 f5, .int .i64 f6, .string body] 43)).alloc (.cells #[.slice none 0 0, .slice none 0 0, .slice none 0 0] 28)) := ⟨_, rfl⟩
    have hb0 : Below w.heap.size w W0 := by rw [hW0]; exact (((Below.refl _ w).alloc (Nat.le_refl _) _).alloc (by simp) _).alloc (by simp; omega) _
    have hz0 : W0.heap.size = w.heap.size + 3 := by rw [hW0]; simp
    have c0 : W0.cell? ⟨w.heap.size, 0, none⟩ = some (.slice s1 S.length s2) := by rw [hW0]; exact old_cell (old_cell (new_cell w _ rfl _ _ _ _ rfl) _) _
    have c1 : W0.cell? ⟨w.heap.size, 1, none⟩ = some (.slice (some ⟨g, 0, none⟩) P.length p2) := by rw [hW0]; exact old_cell (old_cell (new_cell w _ rfl _ _ _ _ rfl) _) _
    have c2 : W0.cell? ⟨w.heap.size, 2, none⟩ = some (.slice a1 A.length a2) := by rw [hW0]; exact old_cell (old_cell (new_cell w _ rfl _ _ _ _ rfl) _) _
    have r0 : W0.cell? ⟨w.heap.size + 1 + 1, 0, none⟩ = some (.slice none 0 0) := by rw [hW0]; exact new_cell _ _ (by simp) _ _ _ _ rfl
    have r1 : W0.cell? ⟨w.heap.size + 1 + 1, 1, none⟩ = some (.slice none 0 0) := by rw [hW0]; exact new_cell _ _ (by simp) _ _ _ _ rfl
    have r2 : W0.cell? ⟨w.heap.size + 1 + 1, 2, none⟩ = some (.slice none 0 0) := by rw [hW0]; exact new_cell _ _ (by simp) _ _ _ _ rfl
    have xn : W0.cell? ⟨w.heap.size + 1, 18, none⟩ = some (.int .i64 n) := by rw [hW0]; exact old_cell (new_cell _ _ (by simp) _ _ _ _ rfl) _
    have xm : W0.cell? ⟨w.heap.size + 1, 19, none⟩ = some (.int .i64 m) := by rw [hW0]; exact old_cell (new_cell _ _ (by simp) _ _ _ _ rfl) _
    have zc0 : W0.frozen? ⟨w.heap.size, 0, none⟩ = false := by rw [hW0]; exact old_frozen (by simp; omega) (old_frozen (by simp) (new_frozen w _ rfl _ _ _) _) _
    have zc1 : W0.frozen? ⟨w.heap.size, 1, none⟩ = false := by rw [hW0]; exact old_frozen (by simp; omega) (old_frozen (by simp) (new_frozen w _ rfl _ _ _) _) _
    have zc2 : W0.frozen? ⟨w.heap.size, 2, none⟩ = false := by rw [hW0]; exact old_frozen (by simp; omega) (old_frozen (by simp) (new_frozen w _ rfl _ _ _) _) _
    have zr0 : W0.frozen? ⟨w.heap.size + 1 + 1, 0, none⟩ = false := by rw [hW0]; exact new_frozen _ _ (by simp) _ _ _
    have zr1 : W0.frozen? ⟨w.heap.size + 1 + 1, 1, none⟩ = false := by rw [hW0]; exact new_frozen _ _ (by simp) _ _ _
    have zr2 : W0.frozen? ⟨w.heap.size + 1 + 1, 2, none⟩ = false := by rw [hW0]; exact new_frozen _ _ (by simp) _ _ _
    rw [← hW0]
    clear hW0
    have nn1 : w.heap.size ≠ w.heap.size + 1 + 1 := by omega
    have O1 := hide (own_below HO.out.p hb0)
    have hrow := (O1.out.cellAt (kk * 5 + 4) (by omega)).trans (flat_at prC_len P kk _ (getD_at pr0 hkl) 4 _ rfl)
    have hrf := O1.out.frozenAt (kk * 5 + 4)
    have hg1 : g ≠ w.heap.size := by omega
    have hg2 : g ≠ w.heap.size + 1 := by omega
    have hgW : g < W0.heap.size := by omega
    go_region_held3 (fun w' => w'.cell? ⟨w.heap.size, 0, none⟩ = some (.slice s1 S.length s2) ∧ w'.cell? ⟨w.heap.size, 1, none⟩ = some (.slice (some ⟨g, 0, none⟩) P.length p2) ∧ w'.cell? ⟨w.heap.size, 2, none⟩ = some (.slice a1 A.length a2) ∧ w'.cell? ⟨w.heap.size + 1, 18, none⟩ = some (.int .i64 n) ∧ w'.cell? ⟨w.heap.size + 1, 19, none⟩ = some (.int .i64 m)) (go_keep)
      (first | (go_at_call 33; refine (unhide HAT _ hb0.drew).mono ?_; rintro e w1 ⟨rfl, hc1⟩; have g1 : Below W0.heap.size W0 w1 := ((Below.refl _ W0).drew).trans hc1; have v0 := cell_beh c0 g1 (Nat.le_refl _); have v1 := cell_beh c1 g1 (Nat.le_refl _); have v2 := cell_beh c2 g1 (Nat.le_refl _); have v3 := cell_beh xn g1 (Nat.le_refl _); have v4 := cell_beh xm g1 (Nat.le_refl _); have vr := cell_beh hrow g1 (Nat.le_refl _); have vf := (g1.frozen (p := ⟨g, kk * 5 + 4, none⟩) hgW).trans hrf))
    have k1 := hb0.trans (g1.mono hb0.size)
    have tq0 := cell_beh r0 g1 (Nat.le_refl _)
    have tq1 := cell_beh r1 g1 (Nat.le_refl _)
    have tq2 := cell_beh r2 g1 (Nat.le_refl _)
    have q0 : (w1.setCell ⟨g, kk * 5 + 4, none⟩ (.int .i64 m)).cell? ⟨w.heap.size + 1 + 1, 0, none⟩ = some (.slice none 0 0) := (World.cell?_setCell_other _ _ _ _ (by simp <;> omega)).trans tq0
    have q1 : (w1.setCell ⟨g, kk * 5 + 4, none⟩ (.int .i64 m)).cell? ⟨w.heap.size + 1 + 1, 1, none⟩ = some (.slice none 0 0) := (World.cell?_setCell_other _ _ _ _ (by simp <;> omega)).trans tq1
    have q2 : (w1.setCell ⟨g, kk * 5 + 4, none⟩ (.int .i64 m)).cell? ⟨w.heap.size + 1 + 1, 2, none⟩ = some (.slice none 0 0) := (World.cell?_setCell_other _ _ _ _ (by simp <;> omega)).trans tq2
    have d0 : (w1.setCell ⟨g, kk * 5 + 4, none⟩ (.int .i64 m)).cell? ⟨w.heap.size, 0, none⟩ = some (.slice s1 S.length s2) := (World.cell?_setCell_other _ _ _ _ (by simp <;> omega)).trans v0
    have d1 : (w1.setCell ⟨g, kk * 5 + 4, none⟩ (.int .i64 m)).cell? ⟨w.heap.size, 1, none⟩ = some (.slice (some ⟨g, 0, none⟩) P.length p2) := (World.cell?_setCell_other _ _ _ _ (by simp <;> omega)).trans v1
    have d2 : (w1.setCell ⟨g, kk * 5 + 4, none⟩ (.int .i64 m)).cell? ⟨w.heap.size, 2, none⟩ = some (.slice a1 A.length a2) := (World.cell?_setCell_other _ _ _ _ (by simp <;> omega)).trans v2
    have f0 : (w1.setCell ⟨g, kk * 5 + 4, none⟩ (.int .i64 m)).frozen? ⟨w.heap.size + 1 + 1, 0, none⟩ = false := by rw [World.frozen?_setCell]; exact (g1.frozen (p := ⟨w.heap.size + 1 + 1, 0, none⟩) (show w.heap.size + 1 + 1 < W0.heap.size by omega)).trans zr0
    have f1 : (w1.setCell ⟨g, kk * 5 + 4, none⟩ (.int .i64 m)).frozen? ⟨w.heap.size + 1 + 1, 1, none⟩ = false := by rw [World.frozen?_setCell]; exact (g1.frozen (p := ⟨w.heap.size + 1 + 1, 1, none⟩) (show w.heap.size + 1 + 1 < W0.heap.size by omega)).trans zr1
    have f2 : (w1.setCell ⟨g, kk * 5 + 4, none⟩ (.int .i64 m)).frozen? ⟨w.heap.size + 1 + 1, 2, none⟩ = false := by rw [World.frozen?_setCell]; exact (g1.frozen (p := ⟨w.heap.size + 1 + 1, 2, none⟩) (show w.heap.size + 1 + 1 < W0.heap.size by omega)).trans zr2
    have O0 := hide (own_below HO.out.s k1)
    have O1b := hide (own_below HO.out.p k1)
    have O2 := hide (own_below HO.out.a k1)
    have K1 := own_set_c O1b.out (kk * 5 + 4) (.int .i64 m)
    rw [port_set P kk m hkl] at K1
    have K0 := World.ownsRow.kept O0.out (grown_set_c (j := kk * 5 + 4) (v := .int .i64 m) (grown_refl_c w1 (some g))) HO.out.sp
    have K2 := World.ownsRow.kept O2.out (grown_set_c (j := kk * 5 + 4) (v := .int .i64 m) (grown_refl_c w1 (some g))) (sep_sym HO.out.pa)
    have CF : CfAt (w1.setCell ⟨g, kk * 5 + 4, none⟩ (.int .i64 m)) (.slice s1 S.length s2) (.slice (some ⟨g, 0, none⟩) P.length p2) (.slice a1 A.length a2) S (P.set kk ⟨(P.getD kk pr0).i, (P.getD kk pr0).s, (P.getD kk pr0).m, (P.getD kk pr0).p, m⟩) A := ⟨RowAt.of_own swC_len (by omega) K0, RowAt.of_own prC_len (by omega) (by rw [List.length_set]; exact K1), RowAt.of_own acC_len (by omega) K2⟩
    have HI3 := hide (And.intro (own_ge (K0)) (And.intro (own_ge (K1)) (own_ge (K2))))
    have HB1 : Below B w (w1.setCell ⟨g, kk * 5 + 4, none⟩ (.int .i64 m)) := (k1.mono hB).setCell (p := ⟨g, kk * 5 + 4, none⟩) (own_ge HO.out.p _ rfl) _
    have HCF1 := hide CF
    have HBE1 := hide HB1
    clear CF HB1 K0 K1 K2 O0 O1 O1b O2 k1 g1 hc1 hb0 v0 v1 v2 v3 v4 vr vf tq0 tq1 tq2 hrow hrf HAT c0 c1 c2 r0 r1 r2 xn xm zc0 zc1 zc2 zr0 zr1 zr2
    generalize (w1.setCell ⟨g, kk * 5 + 4, none⟩ (.int .i64 m)) = w2 at *
    go_wp2_with fail
    have e0 : w2.cell? ⟨w.heap.size + 1 + 1, 0, none⟩ = some (.slice none 0 0) := q0
    have e1 : w2.cell? ⟨w.heap.size + 1 + 1, 1, none⟩ = some (.slice none 0 0) := q1
    have e2 : w2.cell? ⟨w.heap.size + 1 + 1, 2, none⟩ = some (.slice none 0 0) := q2
    obtain ⟨u0, u1, u2⟩ := set3 e0 e1 e2 (.slice s1 S.length s2) (.slice (some ⟨g, 0, none⟩) P.length p2) (.slice a1 A.length a2)
    have HCF := hide ((((HCF1.out).set_far (own_ne HO.out.s (b := (w.heap.size + 1 + 1)) (by omega)) (show (Value.slice (some ⟨g, 0, none⟩) _ _).ownBlock ≠ some ((w.heap.size + 1 + 1)) by simp [Value.ownBlock]; omega) (own_ne HO.out.a (b := (w.heap.size + 1 + 1)) (by omega)) 0 (.slice s1 S.length s2)).set_far (own_ne HO.out.s (b := (w.heap.size + 1 + 1)) (by omega)) (show (Value.slice (some ⟨g, 0, none⟩) _ _).ownBlock ≠ some ((w.heap.size + 1 + 1)) by simp [Value.ownBlock]; omega) (own_ne HO.out.a (b := (w.heap.size + 1 + 1)) (by omega)) 1 (.slice (some ⟨g, 0, none⟩) P.length p2)).set_far (own_ne HO.out.s (b := (w.heap.size + 1 + 1)) (by omega)) (show (Value.slice (some ⟨g, 0, none⟩) _ _).ownBlock ≠ some ((w.heap.size + 1 + 1)) by simp [Value.ownBlock]; omega) (own_ne HO.out.a (b := (w.heap.size + 1 + 1)) (by omega)) 2 (.slice a1 A.length a2))
    have HBE := hide ((((HBE1.out).setCell (p := ⟨w.heap.size + 1 + 1, 0, none⟩) hBR (.slice s1 S.length s2)).setCell (p := ⟨w.heap.size + 1 + 1, 1, none⟩) hBR (.slice (some ⟨g, 0, none⟩) P.length p2)).setCell (p := ⟨w.heap.size + 1 + 1, 2, none⟩) hBR (.slice a1 A.length a2))
    refine bodyPost_ret (v := .agg #[.slice s1 S.length s2, .slice (some ⟨g, 0, none⟩) P.length p2, .slice a1 A.length a2]) ?_ rfl ⟨_, _, _, rfl, by simpa [nxS, nxP, nxA, HKK.out] using HCF.out, HBE.out, HI3.out⟩
    clear HCF HBE HI3 e0 e1 e2
    generalize (((w2.setCell ⟨w.heap.size + 1 + 1, 0, none⟩ (.slice s1 S.length s2)).setCell ⟨w.heap.size + 1 + 1, 1, none⟩ (.slice (some ⟨g, 0, none⟩) P.length p2)).setCell ⟨w.heap.size + 1 + 1, 2, none⟩ (.slice a1 A.length a2)) = W at *
    simp [results, Tryz.results19, go_sem, u0, u1, u2]
  · have hBR : B ≤ w.heap.size + 1 + 1 := by omega
    clear HAT
    obtain ⟨W0, hW0⟩ : ∃ W0, W0 = (((w.alloc (.cells #[.slice s1 S.length s2, .slice p1 P.length p2, .slice a1 A.length a2] 28)).alloc (.cells #[.int .i64 k, .int .i64 si, .int .i64 st, .int .i64 sg, .int .i64 pi, .int .i64 ps, .int .i64 pm, .int .i64 pp, .int .i64 pc, .int .i64 rs, .int .i64 rp, .bool rn, .int .i64 rf, .int .i64 rb, .int .i64 rt, .int .i64 re, .int .i64 ro, .bool rd, .int .i64 n, .int .i64 m, .int .i64 f0, .int .i64 f1, .int .i64 f2, .int .i64 f3, .int .i64 f4, .int .i64 f5, .int .i64 f6, .string body] 43)).alloc (.cells #[.slice s1 S.length s2, .slice p1 P.length p2, .slice a1 A.length a2] 28)) := ⟨_, rfl⟩
    have hb0 : Below w.heap.size w W0 := by rw [hW0]; exact (((Below.refl _ w).alloc (Nat.le_refl _) _).alloc (by simp) _).alloc (by simp; omega) _
    have q0 : W0.cell? ⟨w.heap.size + 1 + 1, 0, none⟩ = some (.slice s1 S.length s2) := by rw [hW0]; exact new_cell _ _ (by simp) _ _ _ _ rfl
    have q1 : W0.cell? ⟨w.heap.size + 1 + 1, 1, none⟩ = some (.slice p1 P.length p2) := by rw [hW0]; exact new_cell _ _ (by simp) _ _ _ _ rfl
    have q2 : W0.cell? ⟨w.heap.size + 1 + 1, 2, none⟩ = some (.slice a1 A.length a2) := by rw [hW0]; exact new_cell _ _ (by simp) _ _ _ _ rfl
    have HCF := hide (HO.out.cf.below hb0 (Nat.le_refl _))
    have HI3 := hide (And.intro (own_ge HO.out.s) (And.intro (own_ge HO.out.p) (own_ge HO.out.a)))
    have HBE := hide (hb0.mono hB)
    go_wp2_with fail
    rw [← hW0]
    clear hW0
    refine bodyPost_ret (v := .agg #[.slice s1 S.length s2, .slice p1 P.length p2, .slice a1 A.length a2]) ?_ rfl ⟨_, _, _, rfl, by simpa [nxS, nxP, nxA, k1, k2, k3, k4, k5, k6] using HCF.out, HBE.out, HI3.out⟩
    simp [results, Tryz.results19, go_sem, q0, q1, q2]

end Go.Proofs.YtonhfgdnkkkikadGreat
