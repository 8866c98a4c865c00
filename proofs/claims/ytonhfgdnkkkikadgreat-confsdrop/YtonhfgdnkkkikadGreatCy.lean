/-
  conf.fresh at switches, ports and rules; conf.Copy: the same, in rows of the call's own.
-/
import Derived.Test.YtonhfgdnkkkikadGreatCn
import Derived.Laws.AppendOwnNone
import Derived.Deep.RegionHeld3
import Derived.Deep.QuietTactic
import Derived.BigQuiet
namespace Go.Proofs.YtonhfgdnkkkikadGreat
open Go.RowKit
set_option linter.unusedVariables false
set_option maxRecDepth 100000

set_option maxHeartbeats 1000000 in
theorem freshSw_any (v : Value) (l : List Sw) (w : World) (hM : SwsAt w v l) (hl : l.length * 24 ≤ 140737488355328) :
    Calls Tryz.prog 36 #[v] w fun e w' => ∃ u, e = .returned u ∧ w'.ownsRow w.heap.size 37 3 u l.length (l.flatMap swC) ∧ Below w.heap.size w w' := by
  obtain ⟨i0, hi, hz0, hz1, hz2⟩ := info_parts infoSw
  have HM := hide hM
  obtain ⟨a, cap, rfl, hn, hL⟩ := hM
  cases a with
  | none =>
    obtain rfl := hn rfl
    have h0 : l.length = 0 := by
      rcases hL with h | ⟨_, _, h, _⟩
      · exact h
      · simp at h
    obtain rfl : l = [] := List.eq_nil_of_length_eq_zero h0
    clear hL hn HM h0 hl
    go_enter Tryz.func36, Tryz.ntmps36
    go_wp2
    go_ret
    exact ⟨_, rfl, World.ownsRow_nil _ _ _ _, Below.refl _ _⟩
  | some ad =>
    have HN := hide (RowAt.news swC_len HM.out)
    have H1 := hide (swC_one l)
    clear hL hn
    go_enter Tryz.func36, Tryz.ntmps36
    go_wp2_with (at_builtin; refine wpList_append_own _ rfl _ _ 24 rfl w.heap.size 37 i0 _ 3 24 Tryz.underlying24 hi hz0 hz1 hz2 rfl (by decide) _ _ _ rfl (World.ownsRow_nil w w.heap.size 37 3) ad l.length cap (l.flatMap swC) rfl ?a0 HN.out H1.out ?a1 ?a2 ?a3 ?_)
    case a0 => rw [flat_len swC_len]
    case a1 => unfold maxLen; omega
    case a2 => omega
    case a3 => exact Nat.le_refl _
    intro v1 w1 ho1 hg1 _
    have hb1 : Below w.heap.size w w1 := (Below.refl _ w).grown hg1 (by simp) (own_ge (World.ownsRow_nil w w.heap.size 37 3))
    have HO : Hid (w1.ownsRow w.heap.size 37 3 v1 l.length (l.flatMap swC)) := hide ho1
    clear ho1 hg1
    go_wp2
    go_ret
    exact ⟨v1, rfl, HO.out, hb1⟩

set_option maxHeartbeats 1000000 in
theorem freshPr_any (v : Value) (l : List Pr) (w : World) (hM : PrsAt w v l) (hl : l.length * 40 ≤ 140737488355328) :
    Calls Tryz.prog 37 #[v] w fun e w' => ∃ u, e = .returned u ∧ w'.ownsRow w.heap.size 32 5 u l.length (l.flatMap prC) ∧ Below w.heap.size w w' := by
  obtain ⟨i0, hi, hz0, hz1, hz2⟩ := info_parts infoPr
  have HM := hide hM
  obtain ⟨a, cap, rfl, hn, hL⟩ := hM
  cases a with
  | none =>
    obtain rfl := hn rfl
    have h0 : l.length = 0 := by
      rcases hL with h | ⟨_, _, h, _⟩
      · exact h
      · simp at h
    obtain rfl : l = [] := List.eq_nil_of_length_eq_zero h0
    clear hL hn HM h0 hl
    go_enter Tryz.func37, Tryz.ntmps37
    go_wp2
    go_ret
    exact ⟨_, rfl, World.ownsRow_nil _ _ _ _, Below.refl _ _⟩
  | some ad =>
    have HN := hide (RowAt.news prC_len HM.out)
    have H1 := hide (prC_one l)
    clear hL hn
    go_enter Tryz.func37, Tryz.ntmps37
    go_wp2_with (at_builtin; refine wpList_append_own _ rfl _ _ 25 rfl w.heap.size 32 i0 _ 5 40 Tryz.underlying25 hi hz0 hz1 hz2 rfl (by decide) _ _ _ rfl (World.ownsRow_nil w w.heap.size 32 5) ad l.length cap (l.flatMap prC) rfl ?a0 HN.out H1.out ?a1 ?a2 ?a3 ?_)
    case a0 => rw [flat_len prC_len]
    case a1 => unfold maxLen; omega
    case a2 => omega
    case a3 => exact Nat.le_refl _
    intro v1 w1 ho1 hg1 _
    have hb1 : Below w.heap.size w w1 := (Below.refl _ w).grown hg1 (by simp) (own_ge (World.ownsRow_nil w w.heap.size 32 5))
    have HO : Hid (w1.ownsRow w.heap.size 32 5 v1 l.length (l.flatMap prC)) := hide ho1
    clear ho1 hg1
    go_wp2
    go_ret
    exact ⟨v1, rfl, HO.out, hb1⟩

set_option maxHeartbeats 1000000 in
theorem freshAc_any (v : Value) (l : List Ac) (w : World) (hM : AcsAt w v l) (hl : l.length * 72 ≤ 140737488355328) :
    Calls Tryz.prog 38 #[v] w fun e w' => ∃ u, e = .returned u ∧ w'.ownsRow w.heap.size 39 9 u l.length (l.flatMap acC) ∧ Below w.heap.size w w' := by
  obtain ⟨i0, hi, hz0, hz1, hz2⟩ := info_parts infoAc
  have HM := hide hM
  obtain ⟨a, cap, rfl, hn, hL⟩ := hM
  cases a with
  | none =>
    obtain rfl := hn rfl
    have h0 : l.length = 0 := by
      rcases hL with h | ⟨_, _, h, _⟩
      · exact h
      · simp at h
    obtain rfl : l = [] := List.eq_nil_of_length_eq_zero h0
    clear hL hn HM h0 hl
    go_enter Tryz.func38, Tryz.ntmps38
    go_wp2
    go_ret
    exact ⟨_, rfl, World.ownsRow_nil _ _ _ _, Below.refl _ _⟩
  | some ad =>
    have HN := hide (RowAt.news acC_len HM.out)
    have H1 := hide (acC_one l)
    clear hL hn
    go_enter Tryz.func38, Tryz.ntmps38
    go_wp2_with (at_builtin; refine wpList_append_own _ rfl _ _ 26 rfl w.heap.size 39 i0 _ 9 72 Tryz.underlying26 hi hz0 hz1 hz2 rfl (by decide) _ _ _ rfl (World.ownsRow_nil w w.heap.size 39 9) ad l.length cap (l.flatMap acC) rfl ?a0 HN.out H1.out ?a1 ?a2 ?a3 ?_)
    case a0 => rw [flat_len acC_len]
    case a1 => unfold maxLen; omega
    case a2 => omega
    case a3 => exact Nat.le_refl _
    intro v1 w1 ho1 hg1 _
    have hb1 : Below w.heap.size w w1 := (Below.refl _ w).grown hg1 (by simp) (own_ge (World.ownsRow_nil w w.heap.size 39 9))
    have HO : Hid (w1.ownsRow w.heap.size 39 9 v1 l.length (l.flatMap acC)) := hide ho1
    clear ho1 hg1
    go_wp2
    go_ret
    exact ⟨v1, rfl, HO.out, hb1⟩

/-- What is wanted lies in rows of the call's own, apart from one another. -/
structure Own3 (w : World) (B : Nat) (sv pv av : Value) (S : List Sw) (P : List Pr) (A : List Ac) : Prop where
  s : w.ownsRow B 37 3 sv S.length (S.flatMap swC)
  p : w.ownsRow B 32 5 pv P.length (P.flatMap prC)
  a : w.ownsRow B 39 9 av A.length (A.flatMap acC)
  sp : sv.ownBlock = none ∨ sv.ownBlock ≠ pv.ownBlock
  sa : sv.ownBlock = none ∨ sv.ownBlock ≠ av.ownBlock
  pa : pv.ownBlock = none ∨ pv.ownBlock ≠ av.ownBlock
theorem Own3.cf {w : World} {B : Nat} {sv pv av : Value} {S : List Sw} {P : List Pr} {A : List Ac} (h : Own3 w B sv pv av S P A) : CfAt w sv pv av S P A :=
  ⟨RowAt.of_own swC_len (by omega) h.s, RowAt.of_own prC_len (by omega) h.p, RowAt.of_own acC_len (by omega) h.a⟩
set_option maxHeartbeats 2000000 in
theorem copy_any (sv pv av : Value) (S : List Sw) (P : List Pr) (A : List Ac) (w : World) (hC : CfAt w sv pv av S P A) (h1 : S.length * 24 ≤ 140737488355328) (h2 : P.length * 40 ≤ 140737488355328) (h3 : A.length * 72 ≤ 140737488355328) :
    Calls Tryz.prog 20 #[.agg #[sv, pv, av]] w fun e w' => ∃ su pu au, e = .returned (.agg #[su, pu, au]) ∧ Own3 w' w.heap.size su pu au S P A ∧ Below w.heap.size w w' := by
  have HC := hide hC
  have HS : Hid (∀ W : World, Below w.heap.size w W → Calls Tryz.prog 36 #[sv] W fun e w' => ∃ u, e = .returned u ∧ w'.ownsRow W.heap.size 37 3 u S.length (S.flatMap swC) ∧ Below W.heap.size W w') := fun W hW => freshSw_any sv S W (RowAt.below HC.out.1 hW (Nat.le_refl _)) h1
  have HP : Hid (∀ W : World, Below w.heap.size w W → Calls Tryz.prog 37 #[pv] W fun e w' => ∃ u, e = .returned u ∧ w'.ownsRow W.heap.size 32 5 u P.length (P.flatMap prC) ∧ Below W.heap.size W w') := fun W hW => freshPr_any pv P W (RowAt.below HC.out.2.1 hW (Nat.le_refl _)) h2
  have HA : Hid (∀ W : World, Below w.heap.size w W → Calls Tryz.prog 38 #[av] W fun e w' => ∃ u, e = .returned u ∧ w'.ownsRow W.heap.size 39 9 u A.length (A.flatMap acC) ∧ Below W.heap.size W w') := fun W hW => freshAc_any av A W (RowAt.below HC.out.2.2 hW (Nat.le_refl _)) h3
  obtain ⟨s1, s2, rfl⟩ := hC.1.slice
  obtain ⟨p1, p2, rfl⟩ := hC.2.1.slice
  obtain ⟨a1, a2, rfl⟩ := hC.2.2.slice
  clear hC HC
  go_enter Tryz.func20, Tryz.ntmps20
  go_wp2_with fail
  obtain ⟨W0, hW0⟩ : ∃ W0, W0 = (w.alloc (.cells #[.slice s1 S.length s2, .slice p1 P.length p2, .slice a1 A.length a2] 28)).alloc (.cells #[.slice none 0 0, .slice none 0 0, .slice none 0 0] 28) := ⟨_, rfl⟩
  have hb0 : Below w.heap.size w W0 := by rw [hW0]; exact ((Below.refl _ _).alloc (Nat.le_refl _) _).alloc (by simp) _
  have hz0 : w.heap.size + 2 ≤ W0.heap.size := by rw [hW0]; simp
  have c0 : W0.cell? ⟨w.heap.size, 0, none⟩ = some (.slice s1 S.length s2) := by rw [hW0]; simp
  have c1 : W0.cell? ⟨w.heap.size, 1, none⟩ = some (.slice p1 P.length p2) := by rw [hW0]; simp
  have c2 : W0.cell? ⟨w.heap.size, 2, none⟩ = some (.slice a1 A.length a2) := by rw [hW0]; simp
  have r0 : W0.cell? ⟨w.heap.size + 1, 0, none⟩ = some (.slice none 0 0) := by rw [hW0]; simp
  have r1 : W0.cell? ⟨w.heap.size + 1, 1, none⟩ = some (.slice none 0 0) := by rw [hW0]; simp
  have r2 : W0.cell? ⟨w.heap.size + 1, 2, none⟩ = some (.slice none 0 0) := by rw [hW0]; simp
  have f0 : W0.frozen? ⟨w.heap.size + 1, 0, none⟩ = false := by rw [hW0]; simp
  have f1 : W0.frozen? ⟨w.heap.size + 1, 1, none⟩ = false := by rw [hW0]; simp
  have f2 : W0.frozen? ⟨w.heap.size + 1, 2, none⟩ = false := by rw [hW0]; simp
  rw [← hW0]
  clear hW0 h1 h2 h3
  have e0 : Below (w.heap.size + 2) W0 W0.drew := (Below.refl _ _).drew
  go_region_held3 (fun w' => w'.cell? ⟨w.heap.size, 0, none⟩ = some (.slice s1 S.length s2) ∧ w'.cell? ⟨w.heap.size, 1, none⟩ = some (.slice p1 P.length p2) ∧ w'.cell? ⟨w.heap.size, 2, none⟩ = some (.slice a1 A.length a2)) (go_keep)
    (first | (go_at_call 36; refine (unhide HS _ hb0.drew).mono ?_; rintro e w1 ⟨u1, rfl, ho1, hb1⟩; obtain ⟨o1, m1, rfl⟩ := own_slc ho1; have HO1 := hide ho1; clear ho1; have g1 : Below (w.heap.size + 2) W0 w1 := e0.trans (hb1.mono hz0); have k1 : Below w.heap.size w w1 := hb0.trans (g1.mono (by omega)); have y0 := (g1.cell (p := ⟨w.heap.size, 0, none⟩) (by simp)).trans c0; have y1 := (g1.cell (p := ⟨w.heap.size, 1, none⟩) (by simp)).trans c1; have y2 := (g1.cell (p := ⟨w.heap.size, 2, none⟩) (by simp)).trans c2)
            | (go_at_call 37; refine (unhide HP _ k1).mono ?_; rintro e w2 ⟨u2, rfl, ho2, hb2⟩; obtain ⟨o2, m2, rfl⟩ := own_slc ho2; have HO2 := hide ho2; clear ho2; have g2 : Below (w.heap.size + 2) W0 w2 := g1.trans (hb2.mono (Nat.le_trans hz0 g1.size)); have k2 : Below w.heap.size w w2 := hb0.trans (g2.mono (by omega)); have x0 := (g2.cell (p := ⟨w.heap.size, 0, none⟩) (by simp)).trans c0; have x1 := (g2.cell (p := ⟨w.heap.size, 1, none⟩) (by simp)).trans c1; have x2 := (g2.cell (p := ⟨w.heap.size, 2, none⟩) (by simp)).trans c2)
            | (go_at_call 38; refine (unhide HA _ k2).mono ?_; rintro e w3 ⟨u3, rfl, ho3, hb3⟩; obtain ⟨o3, m3, rfl⟩ := own_slc ho3; have HO3 := hide ho3; clear ho3; have g3 : Below (w.heap.size + 2) W0 w3 := g2.trans (hb3.mono (Nat.le_trans hz0 g2.size)); have k3 : Below w.heap.size w w3 := hb0.trans (g3.mono (by omega)); have v0 := (g3.cell (p := ⟨w.heap.size, 0, none⟩) (by simp)).trans c0; have v1 := (g3.cell (p := ⟨w.heap.size, 1, none⟩) (by simp)).trans c1; have v2 := (g3.cell (p := ⟨w.heap.size, 2, none⟩) (by simp)).trans c2; have t0 := (g3.cell (p := ⟨w.heap.size + 1, 0, none⟩) (by simp)).trans r0; have t1 := (g3.cell (p := ⟨w.heap.size + 1, 1, none⟩) (by simp)).trans r1; have t2 := (g3.cell (p := ⟨w.heap.size + 1, 2, none⟩) (by simp)).trans r2; have l0 := (g3.frozen (p := ⟨w.heap.size + 1, 0, none⟩) (by simp)).trans f0; have l1 := (g3.frozen (p := ⟨w.heap.size + 1, 1, none⟩) (by simp)).trans f1; have l2 := (g3.frozen (p := ⟨w.heap.size + 1, 2, none⟩) (by simp)).trans f2))
  have N1 : w.heap.size + 1 < W0.drew.heap.size := by have := hz0; simp; omega
  have N2 : w.heap.size + 1 < w1.heap.size := Nat.lt_of_lt_of_le N1 hb1.size
  have N3 : w.heap.size + 1 < w2.heap.size := Nat.lt_of_lt_of_le N2 hb2.size
  have O1 := hide (own_below (own_below HO1.out hb2) hb3)
  have O2 := hide (own_below HO2.out hb3)
  have A12 := hide (own_apart HO1.out HO2.out (Nat.le_refl _))
  have A13 := hide (own_apart (own_below HO1.out hb2) HO3.out (Nat.le_refl _))
  have A23 := hide (own_apart HO2.out HO3.out (Nat.le_refl _))
  clear HO1 HO2 y0 y1 y2 x0 x1 x2 v0 v1 v2 g1 g2 g3 k1 k2 l0 l1 l2 hb2 hb3 hb1 c0 c1 c2 r0 r1 r2 f0 f1 f2 e0 HS HP HA
  obtain ⟨q0, q1, q2⟩ := set3 t0 t1 t2 (.slice o1 S.length m1) (.slice o2 P.length m2) (.slice o3 A.length m3)
  have HB : Hid (Below w.heap.size w (((w3.setCell ⟨w.heap.size + 1, 0, none⟩ (.slice o1 S.length m1)).setCell ⟨w.heap.size + 1, 1, none⟩ (.slice o2 P.length m2)).setCell ⟨w.heap.size + 1, 2, none⟩ (.slice o3 A.length m3))) := ((k3.setCell (Nat.le_succ _) _).setCell (Nat.le_succ _) _).setCell (Nat.le_succ _) _
  have R1 := hide (own_less (ownsRow_setCell_below (ownsRow_setCell_below (ownsRow_setCell_below O1.out (a := ⟨w.heap.size + 1, 0, none⟩) N1 (.slice o1 S.length m1)) (a := ⟨w.heap.size + 1, 1, none⟩) N1 (.slice o2 P.length m2)) (a := ⟨w.heap.size + 1, 2, none⟩) N1 (.slice o3 A.length m3)) (show w.heap.size ≤ W0.drew.heap.size by omega))
  have R2 := hide (own_less (ownsRow_setCell_below (ownsRow_setCell_below (ownsRow_setCell_below O2.out (a := ⟨w.heap.size + 1, 0, none⟩) N2 (.slice o1 S.length m1)) (a := ⟨w.heap.size + 1, 1, none⟩) N2 (.slice o2 P.length m2)) (a := ⟨w.heap.size + 1, 2, none⟩) N2 (.slice o3 A.length m3)) (show w.heap.size ≤ w1.heap.size by omega))
  have R3 := hide (own_less (ownsRow_setCell_below (ownsRow_setCell_below (ownsRow_setCell_below HO3.out (a := ⟨w.heap.size + 1, 0, none⟩) N3 (.slice o1 S.length m1)) (a := ⟨w.heap.size + 1, 1, none⟩) N3 (.slice o2 P.length m2)) (a := ⟨w.heap.size + 1, 2, none⟩) N3 (.slice o3 A.length m3)) (show w.heap.size ≤ w2.heap.size by omega))
  clear O1 O2 HO3 k3 t0 t1 t2 N1 N2 N3
  generalize (((w3.setCell ⟨w.heap.size + 1, 0, none⟩ (.slice o1 S.length m1)).setCell ⟨w.heap.size + 1, 1, none⟩ (.slice o2 P.length m2)).setCell ⟨w.heap.size + 1, 2, none⟩ (.slice o3 A.length m3)) = W at *
  go_wp2_with fail
  refine bodyPost_ret (v := .agg #[.slice o1 S.length m1, .slice o2 P.length m2, .slice o3 A.length m3]) ?_ rfl ⟨_, _, _, rfl, ⟨R1.out, R2.out, R3.out, A12.out, A13.out, A23.out⟩, HB.out⟩
  simp [results, Tryz.results20, go_sem, q0, q1, q2]

end Go.Proofs.YtonhfgdnkkkikadGreat
