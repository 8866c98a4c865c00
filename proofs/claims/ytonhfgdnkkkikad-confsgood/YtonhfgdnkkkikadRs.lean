/-
  What the document's switchFault, portFault, aclFault answer.
-/
import Derived.Test.YtonhfgdnkkkikadRt
import Derived.Test.YtonhfgdnkkkikadCm
namespace Go.Proofs.Ytonhfgdnkkkikad
open Go.RowKit
set_option linter.unusedVariables false
set_option maxRecDepth 100000

/-- The document's P3.1. -/
def rSwFault (S : List Sw) (P : List Pr) (x : Sw) : Int :=
  if (inB x.i 1 500 && inB x.t 1 9 && inB x.g 0 65535) = false then 2 else if (S.any (fun s => s.i == x.i) || (decide (0 < x.g) && rTaken S P x.t x.g)) = true then 7 else if 12 ≤ S.length then 1 else 0

set_option maxHeartbeats 8000000 in
theorem switchFault_any (sv pv av : Value) (S : List Sw) (P : List Pr) (A : List Ac) (x : Sw) (w : World) (hC : CfAt w sv pv av S P A) (h1 : S.length * 24 ≤ 140737488355328) (h2 : P.length * 40 ≤ 140737488355328) :
    Calls Try.prog 27 #[.agg #[sv, pv, av], .agg #[.int .i64 x.i, .int .i64 x.t, .int .i64 x.g]] w fun e w' => e = .returned (.int .i64 (rSwFault S P x)) ∧ Below w.heap.size w w' := by
  obtain ⟨xi, xt, xg⟩ := x
  have HK : Hid (∀ W : World, Below w.heap.size w W → Calls Try.prog 45 #[.agg #[sv, pv, av], .int .i64 xi] W fun e w' => e = .returned (.tuple #[.agg #[.int .i64 (sof S xi).i, .int .i64 (sof S xi).t, .int .i64 (sof S xi).g], .bool (S.any (fun s => s.i == xi))]) ∧ Below W.heap.size W w') := fun W hW => switchOf_any sv pv av S P A xi W (hC.below hW (Nat.le_refl _)) h1
  have HT : Hid (∀ W : World, Below w.heap.size w W → Calls Try.prog 46 #[.agg #[sv, pv, av], .int .i64 xt, .int .i64 xg] W fun e w' => e = .returned (.bool (rTaken S P xt xg)) ∧ Below W.heap.size W w') := fun W hW => rIsTaken_any sv pv av S P A xt xg W (hC.below hW (Nat.le_refl _)) h1 h2
  have HR : Hid (rSwFault S P ⟨xi, xt, xg⟩ = if (inB xi 1 500 && inB xt 1 9 && inB xg 0 65535) = false then 2 else if (S.any (fun s => s.i == xi) || (decide (0 < xg) && rTaken S P xt xg)) = true then 7 else if 12 ≤ S.length then 1 else 0) := rfl
  generalize rSwFault S P ⟨xi, xt, xg⟩ = R at *
  generalize S.any (fun s => s.i == xi) = R1 at *
  generalize rTaken S P xt xg = R2 at *
  generalize sof S xi = X at *
  obtain ⟨z0, z1, z2⟩ := X
  simp only at HK
  obtain ⟨s1, s2, rfl⟩ := hC.1.slice
  obtain ⟨p1, p2, rfl⟩ := hC.2.1.slice
  obtain ⟨a1, a2, rfl⟩ := hC.2.2.slice
  clear hC
  simp only
  by_cases hr1 : inB xi 1 500 = true
  · by_cases hr2 : inB xt 1 9 = true
    · by_cases hr3 : inB xg 0 65535 = true
      · go_enter Try.func27, Try.ntmps27
        go_wp2_with (go_at_call 31; refine (rIn_any _ _ _ _).mono ?_; rintro e w' ⟨rfl, rfl⟩)
        obtain ⟨W0, hW0⟩ : ∃ W0, W0 = (w.alloc (.cells #[.slice s1 S.length s2, .slice p1 P.length p2, .slice a1 A.length a2] 26)).alloc (.cells #[.int .i64 xi, .int .i64 xt, .int .i64 xg] 31) := ⟨_, rfl⟩
        have hb0 : Below w.heap.size w W0 := by rw [hW0]; exact ((Below.refl _ _).alloc (Nat.le_refl _) _).alloc (by simp) _
        have c0 : W0.cell? ⟨w.heap.size, 0, none⟩ = some (.slice s1 S.length s2) := by rw [hW0]; exact old_cell (new_cell w _ rfl _ _ _ _ rfl) _
        have c1 : W0.cell? ⟨w.heap.size, 1, none⟩ = some (.slice p1 P.length p2) := by rw [hW0]; exact old_cell (new_cell w _ rfl _ _ _ _ rfl) _
        have c2 : W0.cell? ⟨w.heap.size, 2, none⟩ = some (.slice a1 A.length a2) := by rw [hW0]; exact old_cell (new_cell w _ rfl _ _ _ _ rfl) _
        have x0 : W0.cell? ⟨w.heap.size + 1, 0, none⟩ = some (.int .i64 xi) := by rw [hW0]; exact new_cell _ _ (by simp) _ _ _ _ rfl
        have x1 : W0.cell? ⟨w.heap.size + 1, 1, none⟩ = some (.int .i64 xt) := by rw [hW0]; exact new_cell _ _ (by simp) _ _ _ _ rfl
        have x2 : W0.cell? ⟨w.heap.size + 1, 2, none⟩ = some (.int .i64 xg) := by rw [hW0]; exact new_cell _ _ (by simp) _ _ _ _ rfl
        rw [← hW0]
        clear hW0
        refine (unhide HK _ hb0).mono ?_
        rintro e w1 ⟨rfl, hc1⟩
        have k1 := hb0.trans (hc1.mono hb0.size)
        have d0 := cell_beh c0 hc1 (Nat.le_refl _)
        have d1 := cell_beh c1 hc1 (Nat.le_refl _)
        have d2 := cell_beh c2 hc1 (Nat.le_refl _)
        have y0 := cell_beh x0 hc1 (Nat.le_refl _)
        have y1 := cell_beh x1 hc1 (Nat.le_refl _)
        have y2 := cell_beh x2 hc1 (Nat.le_refl _)
        clear HK hc1 hb0 c0 c1 c2 x0 x1 x2
        have n1 := cell_in d0
        have n2 := cell_in y0
        have m1 : w.heap.size ≠ w1.heap.size := by omega
        have m2 : w.heap.size + 1 ≠ w1.heap.size := by omega
        have hs1 := k1.size
        have k2 : Below w.heap.size w (w1.alloc (.cells #[.int .i64 z0, .int .i64 z1, .int .i64 z2] 31)) := k1.alloc hs1 _
        cases R1
        · by_cases hg : 0 < xg
          · go_wp2_with fail
            refine (unhide HT _ k2).mono ?_
            rintro e w2 ⟨rfl, hc2⟩
            have k3 := k2.trans (hc2.mono k2.size)
            have v0 := cell_beh (old_cell d0 _) hc2 (Nat.le_refl _)
            clear HT hc2 k2 n1 n2 m1 m2 d0 d1 d2 y0 y1 y2
            cases R2
            · by_cases h12 : 12 ≤ S.length
              · have h12i : (12 : Int) ≤ (S.length : Int) := by omega
                go_wp2_with fail
                go_ret
                exact ⟨int_ret (by rw [HR.out]; simp_all), k3⟩
              · have h12j : (S.length : Int) < 12 := by omega
                go_wp2_with fail
                go_ret
                exact ⟨int_ret (by rw [HR.out]; simp_all), k3⟩
            · go_wp2_with fail
              go_ret
              exact ⟨int_ret (by rw [HR.out]; simp_all), k3⟩
          · have HR0 : Hid (R = if 12 ≤ S.length then 1 else 0) := HR.out.trans (by simp [hr1, hr2, hr3, hg])
            clear HT HR
            by_cases h12 : 12 ≤ S.length
            · have h12i : (12 : Int) ≤ (S.length : Int) := by omega
              go_wp2_with fail
              go_ret
              exact ⟨int_ret (by rw [HR0.out]; simp_all), k2⟩
            · have h12j : (S.length : Int) < 12 := by omega
              go_wp2_with fail
              go_ret
              exact ⟨int_ret (by rw [HR0.out]; simp_all), k2⟩
        · clear HT
          go_wp2_with fail
          go_ret
          exact ⟨int_ret (by rw [HR.out]; simp_all), k2⟩
      · have hr3' : inB xg 0 65535 = false := by simpa using hr3
        clear hr3 HK HT
        go_enter Try.func27, Try.ntmps27
        go_wp2_with (go_at_call 31; refine (rIn_any _ _ _ _).mono ?_; rintro e w' ⟨rfl, rfl⟩)
        go_ret
        exact ⟨int_ret (by rw [HR.out]; simp_all), ((Below.refl _ _).alloc (Nat.le_refl _) _).alloc (by simp) _⟩
    · have hr2' : inB xt 1 9 = false := by simpa using hr2
      clear hr2 HK HT
      go_enter Try.func27, Try.ntmps27
      go_wp2_with (go_at_call 31; refine (rIn_any _ _ _ _).mono ?_; rintro e w' ⟨rfl, rfl⟩)
      go_ret
      exact ⟨int_ret (by rw [HR.out]; simp_all), ((Below.refl _ _).alloc (Nat.le_refl _) _).alloc (by simp) _⟩
  · have hr1' : inB xi 1 500 = false := by simpa using hr1
    clear hr1 HK HT
    go_enter Try.func27, Try.ntmps27
    go_wp2_with (go_at_call 31; refine (rIn_any _ _ _ _).mono ?_; rintro e w' ⟨rfl, rfl⟩)
    go_ret
    exact ⟨int_ret (by rw [HR.out]; simp_all), ((Below.refl _ _).alloc (Nat.le_refl _) _).alloc (by simp) _⟩

/-- The document's P3.2. -/
def rPrFault (S : List Sw) (P : List Pr) (x : Pr) : Int :=
  if prInB x = false then 2 else if S.any (fun s => s.i == x.s) = false then 6 else if P.any (fun y => y.i == x.i || y.s == x.s && y.m == x.m) = true then 7 else
  if rTaken S P (sof S x.s).t x.p = true then 7 else if 40 ≤ P.length then 1 else 0

set_option maxHeartbeats 8000000 in
theorem portFault_any (sv pv av : Value) (S : List Sw) (P : List Pr) (A : List Ac) (x : Pr) (w : World) (hC : CfAt w sv pv av S P A) (h1 : S.length * 24 ≤ 140737488355328) (h2 : P.length * 40 ≤ 140737488355328) :
    Calls Try.prog 28 #[.agg #[sv, pv, av], .agg #[.int .i64 x.i, .int .i64 x.s, .int .i64 x.m, .int .i64 x.p, .int .i64 x.c]] w fun e w' => e = .returned (.int .i64 (rPrFault S P x)) ∧ Below w.heap.size w w' := by
  obtain ⟨xi, xs, xm, xp, xc⟩ := x
  have HC := hide hC
  have HK : Hid (∀ W : World, Below w.heap.size w W → Calls Try.prog 45 #[.agg #[sv, pv, av], .int .i64 xs] W fun e w' => e = .returned (.tuple #[.agg #[.int .i64 (sof S xs).i, .int .i64 (sof S xs).t, .int .i64 (sof S xs).g], .bool (S.any (fun s => s.i == xs))]) ∧ Below W.heap.size W w') := fun W hW => switchOf_any sv pv av S P A xs W (hC.below hW (Nat.le_refl _)) h1
  have HT : Hid (∀ W : World, Below w.heap.size w W → Calls Try.prog 46 #[.agg #[sv, pv, av], .int .i64 (sof S xs).t, .int .i64 xp] W fun e w' => e = .returned (.bool (rTaken S P (sof S xs).t xp)) ∧ Below W.heap.size W w') := fun W hW => rIsTaken_any sv pv av S P A _ xp W (hC.below hW (Nat.le_refl _)) h1 h2
  have HR : Hid (rPrFault S P ⟨xi, xs, xm, xp, xc⟩ = if (inB xi 1 999 && inB xm 1 59999 && inB xp 1 65535 && inB xc (-1) 5) = false then 2 else if S.any (fun s => s.i == xs) = false then 6 else if P.any (fun y => y.i == xi || y.s == xs && y.m == xm) = true then 7 else
    if rTaken S P (sof S xs).t xp = true then 7 else if 40 ≤ P.length then 1 else 0) := rfl
  have HY : Hid (∀ k, k < P.length → ((P.getD k pr0).i == xi || (P.getD k pr0).s == xs && (P.getD k pr0).m == xm) = true → P.any (fun y => y.i == xi || y.s == xs && y.m == xm) = true) := fun k hk h => any_at (p := fun y : Pr => y.i == xi || y.s == xs && y.m == xm) pr0 hk h
  have HNO : Hid ((∀ k, k < P.length → ((P.getD k pr0).i == xi || (P.getD k pr0).s == xs && (P.getD k pr0).m == xm) = false) → P.any (fun y => y.i == xi || y.s == xs && y.m == xm) = false) := fun h => any_none (p := fun y : Pr => y.i == xi || y.s == xs && y.m == xm) pr0 h
  generalize rPrFault S P ⟨xi, xs, xm, xp, xc⟩ = R at *
  generalize S.any (fun s => s.i == xs) = R1 at *
  generalize P.any (fun y => y.i == xi || y.s == xs && y.m == xm) = R3 at *
  generalize rTaken S P (sof S xs).t xp = R2 at *
  generalize sof S xs = X at *
  obtain ⟨z0, z1, z2⟩ := X
  simp only at HK HT
  obtain ⟨s1, s2, rfl⟩ := hC.1.slice
  obtain ⟨p1, p2, rfl⟩ := hC.2.1.slice
  obtain ⟨a1, a2, rfl⟩ := hC.2.2.slice
  clear hC
  simp only
  by_cases hr1 : inB xi 1 999 = true
  · by_cases hr2 : inB xm 1 59999 = true
    · by_cases hr3 : inB xp 1 65535 = true
      · by_cases hr4 : inB xc (-1) 5 = true
        · go_enter Try.func28, Try.ntmps28
          go_wp2_with (go_at_call 31; refine (rIn_any _ _ _ _).mono ?_; rintro e w' ⟨rfl, rfl⟩)
          obtain ⟨W0, hW0⟩ : ∃ W0, W0 = (w.alloc (.cells #[.slice s1 S.length s2, .slice p1 P.length p2, .slice a1 A.length a2] 26)).alloc (.cells #[.int .i64 xi, .int .i64 xs, .int .i64 xm, .int .i64 xp, .int .i64 xc] 33) := ⟨_, rfl⟩
          have hb0 : Below w.heap.size w W0 := by rw [hW0]; exact ((Below.refl _ _).alloc (Nat.le_refl _) _).alloc (by simp) _
          have c0 : W0.cell? ⟨w.heap.size, 0, none⟩ = some (.slice s1 S.length s2) := by rw [hW0]; exact old_cell (new_cell w _ rfl _ _ _ _ rfl) _
          have c1 : W0.cell? ⟨w.heap.size, 1, none⟩ = some (.slice p1 P.length p2) := by rw [hW0]; exact old_cell (new_cell w _ rfl _ _ _ _ rfl) _
          have c2 : W0.cell? ⟨w.heap.size, 2, none⟩ = some (.slice a1 A.length a2) := by rw [hW0]; exact old_cell (new_cell w _ rfl _ _ _ _ rfl) _
          have x0 : W0.cell? ⟨w.heap.size + 1, 0, none⟩ = some (.int .i64 xi) := by rw [hW0]; exact new_cell _ _ (by simp) _ _ _ _ rfl
          have x1 : W0.cell? ⟨w.heap.size + 1, 1, none⟩ = some (.int .i64 xs) := by rw [hW0]; exact new_cell _ _ (by simp) _ _ _ _ rfl
          have x2 : W0.cell? ⟨w.heap.size + 1, 2, none⟩ = some (.int .i64 xm) := by rw [hW0]; exact new_cell _ _ (by simp) _ _ _ _ rfl
          have x3 : W0.cell? ⟨w.heap.size + 1, 3, none⟩ = some (.int .i64 xp) := by rw [hW0]; exact new_cell _ _ (by simp) _ _ _ _ rfl
          have x4 : W0.cell? ⟨w.heap.size + 1, 4, none⟩ = some (.int .i64 xc) := by rw [hW0]; exact new_cell _ _ (by simp) _ _ _ _ rfl
          rw [← hW0]
          clear hW0
          refine (unhide HK _ hb0).mono ?_
          rintro e w1 ⟨rfl, hc1⟩
          have k1 := hb0.trans (hc1.mono hb0.size)
          have d0 := cell_beh c0 hc1 (Nat.le_refl _)
          have d1 := cell_beh c1 hc1 (Nat.le_refl _)
          have d2 := cell_beh c2 hc1 (Nat.le_refl _)
          have y0 := cell_beh x0 hc1 (Nat.le_refl _)
          have y1 := cell_beh x1 hc1 (Nat.le_refl _)
          have y2 := cell_beh x2 hc1 (Nat.le_refl _)
          have y3 := cell_beh x3 hc1 (Nat.le_refl _)
          have y4 := cell_beh x4 hc1 (Nat.le_refl _)
          clear HK hc1 hb0 c0 c1 c2 x0 x1 x2 x3 x4
          have HR1 : Hid (R = if R1 = false then 6 else if R3 = true then 7 else if R2 = true then 7 else if 40 ≤ P.length then 1 else 0) := HR.out.trans (by simp [hr1, hr2, hr3, hr4])
          clear HR
          have n1 := cell_in d0
          have n2 := cell_in y0
          have m1 : w.heap.size ≠ w1.heap.size := by omega
          have m2 : w.heap.size + 1 ≠ w1.heap.size := by omega
          have hs1 := k1.size
          have k2 : Below w.heap.size w (w1.alloc (.cells #[.int .i64 z0, .int .i64 z1, .int .i64 z2] 31)) := k1.alloc hs1 _
          cases R1
          · clear HT HY HNO
            go_wp2_with fail
            go_ret
            exact ⟨int_ret (by rw [HR1.out]; simp), k2⟩
          · go_wp2_with fail
            obtain ⟨W2, hW2⟩ : ∃ W2, W2 = w1.alloc (.cells #[.int .i64 z0, .int .i64 z1, .int .i64 z2] 31) := ⟨_, rfl⟩
            have u0 : W2.cell? ⟨w1.heap.size, 0, none⟩ = some (.int .i64 z0) := by rw [hW2]; exact new_cell _ _ rfl _ _ _ _ rfl
            have u1 : W2.cell? ⟨w1.heap.size, 1, none⟩ = some (.int .i64 z1) := by rw [hW2]; exact new_cell _ _ rfl _ _ _ _ rfl
            have c0 : W2.cell? ⟨w.heap.size, 0, none⟩ = some (.slice s1 S.length s2) := by rw [hW2]; exact old_cell d0 _
            have c1 : W2.cell? ⟨w.heap.size, 1, none⟩ = some (.slice p1 P.length p2) := by rw [hW2]; exact old_cell d1 _
            have c2 : W2.cell? ⟨w.heap.size, 2, none⟩ = some (.slice a1 A.length a2) := by rw [hW2]; exact old_cell d2 _
            have x0 : W2.cell? ⟨w.heap.size + 1, 0, none⟩ = some (.int .i64 xi) := by rw [hW2]; exact old_cell y0 _
            have x1 : W2.cell? ⟨w.heap.size + 1, 1, none⟩ = some (.int .i64 xs) := by rw [hW2]; exact old_cell y1 _
            have x2 : W2.cell? ⟨w.heap.size + 1, 2, none⟩ = some (.int .i64 xm) := by rw [hW2]; exact old_cell y2 _
            have x3 : W2.cell? ⟨w.heap.size + 1, 3, none⟩ = some (.int .i64 xp) := by rw [hW2]; exact old_cell y3 _
            have x4 : W2.cell? ⟨w.heap.size + 1, 4, none⟩ = some (.int .i64 xc) := by rw [hW2]; exact old_cell y4 _
            rw [← hW2] at k2 ⊢
            clear hW2 n1 n2 m1 m2 hs1 k1 d0 d1 d2 y0 y1 y2 y3 y4
            obtain ⟨B, hB⟩ : ∃ B, B = w1.heap.size := ⟨_, rfl⟩
            rw [← hB] at u0 u1 ⊢
            clear hB
            go_loopw [7] (fun i wr => ∃ k : Nat, k ≤ P.length ∧ i = .int .i64 k ∧ Hid (∀ j, j < k → ((P.getD j pr0).i == xi || (P.getD j pr0).s == xs && (P.getD j pr0).m == xm) = false) ∧ ∃ n, wr = W2.drewN n) (fun i _ => P.length - (intOf i).toNat)
            case atStart => exact ⟨0, by omega, rfl, hide (fun j h => absurd h (by omega)), 0, rfl⟩
            case round =>
              obtain ⟨k, hk, rfl, HALL, n, hwn⟩ := hrel
              have HW := hide hwn
              have e : ∀ a : Addr, wr.cell? a = W2.cell? a := fun a => by rw [hwn]; rfl
              have k3 : Below w.heap.size w wr := by rw [hwn]; exact drewN_beh k2 n
              clear hwn
              rw [← e] at c0 c1 c2 x0 x1 x2 x3 x4 u0 u1
              by_cases hlt : k < P.length
              · obtain ⟨b, off, cap, e1, hcap, hb, g0, g1, g2, g3, g4⟩ := pr_at (RowAt.below HC.out.2.1 k3 (Nat.le_refl _)) hlt
                simp only [Value.slice.injEq, true_and] at e1
                obtain ⟨rfl, rfl⟩ := e1
                have q3 : (0 : Int) ≤ (k : Int) := by omega
                have q4 : (k : Int) < (P.length : Int) := by omega
                have HYk := hide (HY.out k hlt)
                have HN : Hid (((P.getD k pr0).i == xi || (P.getD k pr0).s == xs && (P.getD k pr0).m == xm) = false → ∀ j, j < k + 1 → ((P.getD j pr0).i == xi || (P.getD j pr0).s == xs && (P.getD j pr0).m == xm) = false) := fun hx j hj => by
                  by_cases e : j = k
                  · subst e; exact hx
                  · exact HALL.out j (by omega)
                clear HALL HY HNO HT e
                generalize (P.getD k pr0).i = y0 at *
                generalize (P.getD k pr0).s = y1 at *
                generalize (P.getD k pr0).m = y2 at *
                generalize (P.getD k pr0).p = y3 at *
                generalize (P.getD k pr0).c = y4 at *
                by_cases ha : y0 = xi
                · subst ha
                  obtain rfl := HYk.out (by simp)
                  clear HYk HN
                  go_wp2_with fail
                  go_quiet (fail)
                  go_wp2
                  go_ret
                  exact ⟨int_ret (by rw [HR1.out]; simp), drewN_beh k3 _⟩
                · have hab : (y0 == xi) = false := by simpa using ha
                  by_cases hs : y1 = xs
                  · subst hs
                    by_cases hm : y2 = xm
                    · subst hm
                      obtain rfl := HYk.out (by simp)
                      clear HYk HN
                      go_wp2_with fail
                      go_quiet (fail)
                      go_wp2
                      go_ret
                      exact ⟨int_ret (by rw [HR1.out]; simp), drewN_beh k3 _⟩
                    · have hmb : (y2 == xm) = false := by simpa using hm
                      have HN2 := hide (HN.out (by simp [ha, hm]))
                      clear HYk HN
                      go_wp2_with fail
                      go_quiet (fail)
                      go_wp2
                      go_roundw
                      case rel => exact ⟨k + 1, by omega, by go_num, HN2, _, by rw [HW.out]; exact World.drewN_drewN _ _ _⟩
                      case measure => simp [intOf]; omega
                  · have hsb : (y1 == xs) = false := by simpa using hs
                    have HN2 := hide (HN.out (by simp [ha, hs]))
                    clear HYk HN
                    go_wp2_with fail
                    go_quiet (fail)
                    go_wp2
                    go_roundw
                    case rel => exact ⟨k + 1, by omega, by go_num, HN2, _, by rw [HW.out]; exact World.drewN_drewN _ _ _⟩
                    case measure => simp [intOf]; omega
              · obtain rfl := HNO.out fun j hj => HALL.out j (by omega)
                clear HALL HNO HY e HC
                go_wp2_with fail
                refine (unhide HT _ k3).mono ?_
                rintro e w4 ⟨rfl, hc4⟩
                have k4 : Below w.heap.size w w4 := k3.trans (hc4.mono k3.size)
                have v0 := cell_beh c0 hc4 (Nat.le_refl _)
                have v1 := cell_beh c1 hc4 (Nat.le_refl _)
                have v2 := cell_beh c2 hc4 (Nat.le_refl _)
                have v3 := cell_beh x3 hc4 (Nat.le_refl _)
                have v4 := cell_beh u1 hc4 (Nat.le_refl _)
                clear HT c0 c1 c2 x0 x1 x2 x3 x4 u0 u1 k3 hc4
                cases R2
                · by_cases h40 : 40 ≤ P.length
                  · have h40i : (40 : Int) ≤ (P.length : Int) := by omega
                    go_wp2_with fail
                    go_ret
                    exact ⟨int_ret (by rw [HR1.out]; simp [h40]), k4⟩
                  · have h40i : (P.length : Int) < 40 := by omega
                    go_wp2_with fail
                    go_ret
                    exact ⟨int_ret (by rw [HR1.out]; simp [h40]), k4⟩
                · go_wp2_with fail
                  go_ret
                  exact ⟨int_ret (by rw [HR1.out]; simp), k4⟩
        · have hr4' : inB xc (-1) 5 = false := by simpa using hr4
          clear hr4 HK HT HY HNO
          go_enter Try.func28, Try.ntmps28
          go_wp2_with (go_at_call 31; refine (rIn_any _ _ _ _).mono ?_; rintro e w' ⟨rfl, rfl⟩)
          go_ret
          exact ⟨int_ret (by rw [HR.out]; simp_all), ((Below.refl _ _).alloc (Nat.le_refl _) _).alloc (by simp) _⟩
      · have hr3' : inB xp 1 65535 = false := by simpa using hr3
        clear hr3 HK HT HY HNO
        go_enter Try.func28, Try.ntmps28
        go_wp2_with (go_at_call 31; refine (rIn_any _ _ _ _).mono ?_; rintro e w' ⟨rfl, rfl⟩)
        go_ret
        exact ⟨int_ret (by rw [HR.out]; simp_all), ((Below.refl _ _).alloc (Nat.le_refl _) _).alloc (by simp) _⟩
    · have hr2' : inB xm 1 59999 = false := by simpa using hr2
      clear hr2 HK HT HY HNO
      go_enter Try.func28, Try.ntmps28
      go_wp2_with (go_at_call 31; refine (rIn_any _ _ _ _).mono ?_; rintro e w' ⟨rfl, rfl⟩)
      go_ret
      exact ⟨int_ret (by rw [HR.out]; simp_all), ((Below.refl _ _).alloc (Nat.le_refl _) _).alloc (by simp) _⟩
  · have hr1' : inB xi 1 999 = false := by simpa using hr1
    clear hr1 HK HT HY HNO
    go_enter Try.func28, Try.ntmps28
    go_wp2_with (go_at_call 31; refine (rIn_any _ _ _ _).mono ?_; rintro e w' ⟨rfl, rfl⟩)
    go_ret
    exact ⟨int_ret (by rw [HR.out]; simp_all), ((Below.refl _ _).alloc (Nat.le_refl _) _).alloc (by simp) _⟩

theorem pow_pos16 (k : Nat) (hk : k ≤ 16) : 0 < (65536 : Int) / 2 ^ k ∧ (65536 : Int) / 2 ^ k ≤ 65536 := by
  have hc : k = 0 ∨ k = 1 ∨ k = 2 ∨ k = 3 ∨ k = 4 ∨ k = 5 ∨ k = 6 ∨ k = 7 ∨ k = 8 ∨ k = 9 ∨ k = 10 ∨ k = 11 ∨ k = 12 ∨ k = 13 ∨ k = 14 ∨ k = 15 ∨ k = 16 := by omega
  rcases hc with rfl | rfl | rfl | rfl | rfl | rfl | rfl | rfl | rfl | rfl | rfl | rfl | rfl | rfl | rfl | rfl | rfl <;> decide
theorem wrap_in (n : Int) (h0 : 0 ≤ n) (h1 : n ≤ 1000000) : IntKind.i64.wrap n = n := by
  simp [IntKind.wrap, IntKind.bits, IntKind.signed]
  split <;> omega

set_option maxHeartbeats 8000000 in
theorem aclFault_any (sv pv av : Value) (S : List Sw) (P : List Pr) (A : List Ac) (x : Ac) (w : World) (hC : CfAt w sv pv av S P A) (h1 : S.length * 24 ≤ 140737488355328) :
    Calls Try.prog 29 #[.agg #[sv, pv, av], .agg #[.int .i64 x.s, .int .i64 x.p, .bool x.n, .int .i64 x.src, .int .i64 x.sb, .int .i64 x.dst, .int .i64 x.db, .int .i64 x.o, .bool x.d]] w fun e w' => e = .returned (.int .i64 (acFault S A x)) ∧ Below w.heap.size w w' := by
  obtain ⟨xs, xp, xn, xf, xb, xd, xe, xo, xy⟩ := x
  have HK : Hid (∀ W : World, Below w.heap.size w W → Calls Try.prog 45 #[.agg #[sv, pv, av], .int .i64 xs] W fun e w' => e = .returned (.tuple #[.agg #[.int .i64 (sof S xs).i, .int .i64 (sof S xs).t, .int .i64 (sof S xs).g], .bool (S.any (fun s => s.i == xs))]) ∧ Below W.heap.size W w') := fun W hW => switchOf_any sv pv av S P A xs W (hC.below hW (Nat.le_refl _)) h1
  have HR : Hid (acFault S A ⟨xs, xp, xn, xf, xb, xd, xe, xo, xy⟩ = if (inB xp 0 1000 && inB xf 0 65535 && inB xd 0 65535 && inB xb 0 16 && inB xe 0 16 && inB xo (-1) 65535) = false then 2 else if (highB xf xb && highB xd xe) = false then 4 else if S.any (fun s => s.i == xs) = false then 6 else if 40 ≤ A.length then 1 else 0) := rfl
  generalize acFault S A ⟨xs, xp, xn, xf, xb, xd, xe, xo, xy⟩ = R at *
  generalize S.any (fun s => s.i == xs) = R1 at *
  generalize sof S xs = X at *
  obtain ⟨z0, z1, z2⟩ := X
  simp only at HK
  obtain ⟨s1, s2, rfl⟩ := hC.1.slice
  obtain ⟨p1, p2, rfl⟩ := hC.2.1.slice
  obtain ⟨a1, a2, rfl⟩ := hC.2.2.slice
  clear hC
  simp only
  by_cases hr1 : inB xp 0 1000 = true
  · by_cases hr2 : inB xf 0 65535 = true
    · by_cases hr3 : inB xd 0 65535 = true
      · by_cases hr4 : inB xb 0 16 = true
        · by_cases hr5 : inB xe 0 16 = true
          · by_cases hr6 : inB xo (-1) 65535 = true
            · have HR1 : Hid (R = if (highB xf xb && highB xd xe) = false then 4 else if R1 = false then 6 else if 40 ≤ A.length then 1 else 0) := HR.out.trans (by simp [hr1, hr2, hr3, hr4, hr5, hr6])
              clear HR
              go_enter Try.func29, Try.ntmps29
              go_wp2_with (go_at_call 31; refine (rIn_any _ _ _ _).mono ?_; rintro e w' ⟨rfl, rfl⟩)
              obtain ⟨W0, hW0⟩ : ∃ W0, W0 = (w.alloc (.cells #[.slice s1 S.length s2, .slice p1 P.length p2, .slice a1 A.length a2] 26)).alloc (.cells #[.int .i64 xs, .int .i64 xp, .bool xn, .int .i64 xf, .int .i64 xb, .int .i64 xd, .int .i64 xe, .int .i64 xo, .bool xy] 35) := ⟨_, rfl⟩
              have hb0 : Below w.heap.size w W0 := by rw [hW0]; exact ((Below.refl _ _).alloc (Nat.le_refl _) _).alloc (by simp) _
              have c0 : W0.cell? ⟨w.heap.size, 0, none⟩ = some (.slice s1 S.length s2) := by rw [hW0]; exact old_cell (new_cell w _ rfl _ _ _ _ rfl) _
              have c1 : W0.cell? ⟨w.heap.size, 1, none⟩ = some (.slice p1 P.length p2) := by rw [hW0]; exact old_cell (new_cell w _ rfl _ _ _ _ rfl) _
              have c2 : W0.cell? ⟨w.heap.size, 2, none⟩ = some (.slice a1 A.length a2) := by rw [hW0]; exact old_cell (new_cell w _ rfl _ _ _ _ rfl) _
              have x0 : W0.cell? ⟨w.heap.size + 1, 0, none⟩ = some (.int .i64 xs) := by rw [hW0]; exact new_cell _ _ (by simp) _ _ _ _ rfl
              have x1 : W0.cell? ⟨w.heap.size + 1, 1, none⟩ = some (.int .i64 xp) := by rw [hW0]; exact new_cell _ _ (by simp) _ _ _ _ rfl
              have x2 : W0.cell? ⟨w.heap.size + 1, 2, none⟩ = some (.bool xn) := by rw [hW0]; exact new_cell _ _ (by simp) _ _ _ _ rfl
              have x3 : W0.cell? ⟨w.heap.size + 1, 3, none⟩ = some (.int .i64 xf) := by rw [hW0]; exact new_cell _ _ (by simp) _ _ _ _ rfl
              have x4 : W0.cell? ⟨w.heap.size + 1, 4, none⟩ = some (.int .i64 xb) := by rw [hW0]; exact new_cell _ _ (by simp) _ _ _ _ rfl
              have x5 : W0.cell? ⟨w.heap.size + 1, 5, none⟩ = some (.int .i64 xd) := by rw [hW0]; exact new_cell _ _ (by simp) _ _ _ _ rfl
              have x6 : W0.cell? ⟨w.heap.size + 1, 6, none⟩ = some (.int .i64 xe) := by rw [hW0]; exact new_cell _ _ (by simp) _ _ _ _ rfl
              have x7 : W0.cell? ⟨w.heap.size + 1, 7, none⟩ = some (.int .i64 xo) := by rw [hW0]; exact new_cell _ _ (by simp) _ _ _ _ rfl
              have x8 : W0.cell? ⟨w.heap.size + 1, 8, none⟩ = some (.bool xy) := by rw [hW0]; exact new_cell _ _ (by simp) _ _ _ _ rfl
              rw [← hW0]
              clear hW0
              have hb4 := hr4
              have hb5 := hr5
              have hf2 := hr2
              have hf3 := hr3
              simp [inB] at hb4 hb5 hf2 hf3
              obtain ⟨cb, rfl⟩ := Int.eq_ofNat_of_zero_le hb4.1
              obtain ⟨ce, rfl⟩ := Int.eq_ofNat_of_zero_le hb5.1
              have HU1 : Hid (∀ W : World, Calls Try.prog 47 #[.int .i64 (cb : Int)] W fun e w' => e = .returned (.int .i64 (65536 / 2 ^ cb)) ∧ w' = W) := fun W => unit_any cb W (by omega)
              have HU2 : Hid (∀ W : World, Calls Try.prog 47 #[.int .i64 (ce : Int)] W fun e w' => e = .returned (.int .i64 (65536 / 2 ^ ce)) ∧ w' = W) := fun W => unit_any ce W (by omega)
              obtain ⟨o1, o2⟩ := pow_pos16 cb (by omega)
              obtain ⟨o3, o4⟩ := pow_pos16 ce (by omega)
              unfold highB at HR1
              rw [Int.toNat_natCast, Int.toNat_natCast] at HR1
              generalize (65536 : Int) / 2 ^ cb = U1 at *
              generalize (65536 : Int) / 2 ^ ce = U2 at *
              have e1 : (U1 == 0) = false := by simp; omega
              have e2 : (U2 == 0) = false := by simp; omega
              have e3 : U1 ≠ 0 := by omega
              have e4 : U2 ≠ 0 := by omega
              have tm1 : xf.tmod U1 = xf % U1 := Int.tmod_eq_emod_of_nonneg hf2.1
              have tm2 : xd.tmod U2 = xd % U2 := Int.tmod_eq_emod_of_nonneg hf3.1
              have b1 := Int.emod_nonneg xf e3
              have b2 := Int.emod_lt_of_pos xf o1
              have b3 := Int.emod_nonneg xd e4
              have b4 := Int.emod_lt_of_pos xd o3
              have wr1 : IntKind.i64.wrap (xf % U1) = xf % U1 := wrap_in _ (by omega) (by omega)
              have wr2 : IntKind.i64.wrap (xd % U2) = xd % U2 := wrap_in _ (by omega) (by omega)
              generalize xf % U1 = m1 at *
              generalize xd % U2 = m2 at *
              have HBB := hide hb0
              by_cases hm1 : m1 = 0
              · subst hm1
                by_cases hm2 : m2 = 0
                · subst hm2
                  refine wp_region_held_drew (S := (fun w' => w'.cell? ⟨w.heap.size, 0, none⟩ = some (.slice s1 S.length s2) ∧ w'.cell? ⟨w.heap.size, 1, none⟩ = some (.slice p1 P.length p2) ∧ w'.cell? ⟨w.heap.size, 2, none⟩ = some (.slice a1 A.length a2) ∧ w'.cell? ⟨w.heap.size + 1, 0, none⟩ = some (.int .i64 xs) ∧ w'.cell? ⟨w.heap.size + 1, 3, none⟩ = some (.int .i64 xf) ∧ w'.cell? ⟨w.heap.size + 1, 4, none⟩ = some (.int .i64 (cb : Int)) ∧ w'.cell? ⟨w.heap.size + 1, 5, none⟩ = some (.int .i64 xd) ∧ w'.cell? ⟨w.heap.size + 1, 6, none⟩ = some (.int .i64 (ce : Int)))) (by kernel_rfl) ?hS1 (fun hHeld => ?hR1)
                  case hS1 => (try dsimp only); go_keep
                  refine wpAnyH_take (i := 0) (oi := ⟨some 41, _, _, _, _, _⟩) (v := ?v2) rfl (by kernel_rfl) (by kernel_rfl) (by kernel_rfl) (fun _ _ _ h => h) (Or.inl ⟨by rfl, ?h2⟩) (by assumption) ?r2
                  case h2 => (intro w hSw; (try dsimp only at hSw); go_simp <;> with_reducible rfl)
                  (try simp only [Act.put, List.setIfInBounds_toArray, List.set_cons_zero, List.set_cons_succ])
                  refine wpAnyH_take (i := 1) (oi := ⟨some 42, _, _, _, _, _⟩) (v := ?v3) rfl (by kernel_rfl) (by kernel_rfl) (by kernel_rfl) (fun _ _ _ h => h) (Or.inl ⟨by rfl, ?h3⟩) (by assumption) ?r3
                  case h3 => (intro w hSw; (try dsimp only at hSw); go_simp <;> with_reducible rfl)
                  (try simp only [Act.put, List.setIfInBounds_toArray, List.set_cons_zero, List.set_cons_succ])
                  refine wpAnyH_take (i := 2) (oi := ⟨some 43, _, _, _, _, _⟩) (v := ?v4) rfl (by kernel_rfl) (by kernel_rfl) (by kernel_rfl) (fun _ _ _ h => h) (Or.inl ⟨by rfl, ?h4⟩) (by assumption) ?r4
                  case h4 => (intro w hSw; (try dsimp only at hSw); go_simp <;> with_reducible rfl)
                  (try simp only [Act.put, List.setIfInBounds_toArray, List.set_cons_zero, List.set_cons_succ])
                  refine wpAnyH_take (i := 3) (oi := ⟨some 44, _, _, _, _, _⟩) (v := ?v5) rfl (by kernel_rfl) (by kernel_rfl) (by kernel_rfl) (fun _ _ _ h => h) (Or.inl ⟨by rfl, ?h5⟩) (by assumption) ?r5
                  case h5 => (intro w hSw; (try dsimp only at hSw); go_simp <;> with_reducible rfl)
                  (try simp only [Act.put, List.setIfInBounds_toArray, List.set_cons_zero, List.set_cons_succ])
                  refine wpAnyH_ready (rs := [4]) (by kernel_rfl) (by simp) ?_
                  refine AllReadyH.cons (o := ⟨some 45, _, _, _, _, _⟩) rfl (fun K hK => ?_) AllReadyH.nil
                  go_simp
                  (go_at_call 47; refine (unhide HU1 _).mono ?_; rintro e w1 ⟨rfl, rfl⟩)
                  go_wp2_with fail
                  refine hK.out _ _ ?hS6 (fun hHeld => ?hR6)
                  case hS6 => (try dsimp only); go_keep
                  clear hK K
                  (try simp only [Act.put, List.setIfInBounds_toArray, List.set_cons_zero, List.set_cons_succ])
                  refine wpAnyH_take (i := 5) (oi := ⟨some 46, _, _, _, _, _⟩) (v := ?v7) rfl (by kernel_rfl) (by kernel_rfl) (by kernel_rfl) (fun _ _ _ h => h) (Or.inl ⟨by rfl, ?h7⟩) (by assumption) ?r7
                  case h7 => (intro w hSw; (try dsimp only at hSw); go_simp <;> with_reducible rfl)
                  (try simp only [Act.put, List.setIfInBounds_toArray, List.set_cons_zero, List.set_cons_succ])
                  refine wpAnyH_take (i := 6) (oi := ⟨some 47, _, _, _, _, _⟩) (v := ?v8) rfl (by kernel_rfl) (by kernel_rfl) (by kernel_rfl) (fun _ _ _ h => h) (Or.inl ⟨by rfl, ?h8⟩) (by assumption) ?r8
                  case h8 => (intro w hSw; (try dsimp only at hSw); go_simp <;> with_reducible rfl)
                  (try simp only [Act.put, List.setIfInBounds_toArray, List.set_cons_zero, List.set_cons_succ])
                  refine wpAnyH_take (i := 7) (oi := ⟨some 48, _, _, _, _, _⟩) (v := ?v9) rfl (by kernel_rfl) (by kernel_rfl) (by kernel_rfl) (fun _ _ _ h => h) (Or.inl ⟨by rfl, ?h9⟩) (by assumption) ?r9
                  case h9 => (intro w hSw; (try dsimp only at hSw); go_simp <;> with_reducible rfl)
                  (try simp only [Act.put, List.setIfInBounds_toArray, List.set_cons_zero, List.set_cons_succ])
                  refine wpAnyH_take (i := 8) (oi := ⟨some 49, _, _, _, _, _⟩) (v := ?v10) rfl (by kernel_rfl) (by kernel_rfl) (by kernel_rfl) (fun _ _ _ h => h) (Or.inl ⟨by rfl, ?h10⟩) (by assumption) ?r10
                  case h10 => (intro w hSw; (try dsimp only at hSw); go_simp <;> with_reducible rfl)
                  (try simp only [Act.put, List.setIfInBounds_toArray, List.set_cons_zero, List.set_cons_succ])
                  refine wpAnyH_take (i := 9) (oi := ⟨some 50, _, _, _, _, _⟩) (v := ?v11) rfl (by kernel_rfl) (by kernel_rfl) (by kernel_rfl) (fun _ _ _ h => h) (Or.inl ⟨by rfl, ?h11⟩) (by assumption) ?r11
                  case h11 => (intro w hSw; (try dsimp only at hSw); go_simp <;> with_reducible rfl)
                  (try simp only [Act.put, List.setIfInBounds_toArray, List.set_cons_zero, List.set_cons_succ])
                  refine wpAnyH_take (i := 10) (oi := ⟨some 51, _, _, _, _, _⟩) (v := ?v12) rfl (by kernel_rfl) (by kernel_rfl) (by kernel_rfl) (fun _ _ _ h => h) (Or.inl ⟨by rfl, ?h12⟩) (by assumption) ?r12
                  case h12 => (intro w hSw; (try dsimp only at hSw); go_simp <;> with_reducible rfl)
                  (try simp only [Act.put, List.setIfInBounds_toArray, List.set_cons_zero, List.set_cons_succ])
                  refine wpAnyH_take (i := 11) (oi := ⟨some 52, _, _, _, _, _⟩) (v := ?v13) rfl (by kernel_rfl) (by kernel_rfl) (by kernel_rfl) (fun _ _ _ h => h) (Or.inl ⟨by rfl, ?h13⟩) (by assumption) ?r13
                  case h13 => (intro w hSw; (try dsimp only at hSw); go_simp <;> with_reducible rfl)
                  (try simp only [Act.put, List.setIfInBounds_toArray, List.set_cons_zero, List.set_cons_succ])
                  refine wpAnyH_ready (rs := [12]) (by kernel_rfl) (by simp) ?_
                  refine AllReadyH.cons (o := ⟨some 53, _, _, _, _, _⟩) rfl (fun K hK => ?_) AllReadyH.nil
                  go_simp
                  (go_at_call 47; refine (unhide HU2 _).mono ?_; rintro e w1 ⟨rfl, rfl⟩)
                  go_wp2_with fail
                  refine hK.out _ _ ?hS14 (fun hHeld => ?hR14)
                  case hS14 => (try dsimp only); go_keep
                  clear hK K
                  (try simp only [Act.put, List.setIfInBounds_toArray, List.set_cons_zero, List.set_cons_succ])
                  refine wpAnyH_take (i := 13) (oi := ⟨some 54, _, _, _, _, _⟩) (v := ?v15) rfl (by kernel_rfl) (by kernel_rfl) (by kernel_rfl) (fun _ _ _ h => h) (Or.inl ⟨by rfl, ?h15⟩) (by assumption) ?r15
                  case h15 => (intro w hSw; (try dsimp only at hSw); go_simp <;> with_reducible rfl)
                  (try simp only [Act.put, List.setIfInBounds_toArray, List.set_cons_zero, List.set_cons_succ])
                  refine wpAnyH_take (i := 14) (oi := ⟨some 55, _, _, _, _, _⟩) (v := ?v16) rfl (by kernel_rfl) (by kernel_rfl) (by kernel_rfl) (fun _ _ _ h => h) (Or.inl ⟨by rfl, ?h16⟩) (by assumption) ?r16
                  case h16 => (intro w hSw; (try dsimp only at hSw); go_simp <;> with_reducible rfl)
                  (try simp only [Act.put, List.setIfInBounds_toArray, List.set_cons_zero, List.set_cons_succ])
                  refine wpAnyH_take (i := 15) (oi := ⟨some 56, _, _, _, _, _⟩) (v := ?v17) rfl (by kernel_rfl) (by kernel_rfl) (by kernel_rfl) (fun _ _ _ h => h) (Or.inl ⟨by rfl, ?h17⟩) (by assumption) ?r17
                  case h17 => (intro w hSw; (try dsimp only at hSw); go_simp <;> with_reducible rfl)
                  (try simp only [Act.put, List.setIfInBounds_toArray, List.set_cons_zero, List.set_cons_succ])
                  refine wpAnyH_done (by kernel_rfl) ?_ _
                  clear hHeld HU1 HU2 tm1 tm2 wr1 wr2 e1 e2 e3 e4 o1 o2 o3 o4
                  have HR2 : Hid (R = if R1 = false then 6 else if 40 ≤ A.length then 1 else 0) := HR1.out.trans (by simp)
                  clear HR1
                  go_wp2_with fail
                  refine (unhide HK _ hb0.drew).mono ?_
                  rintro e w3 ⟨rfl, hc3⟩
                  have hc4 : Below W0.heap.size W0 w3 := ((Below.refl _ W0).drew).trans hc3
                  have k3 := hb0.trans (hc4.mono hb0.size)
                  have d2 := cell_beh c2 hc4 (Nat.le_refl _)
                  have n1 := cell_in d2
                  have n2 : w.heap.size ≠ w3.heap.size := by omega
                  have hs3 := k3.size
                  clear HK hc3 hc4 c0 c1 c2 x0 x1 x2 x3 x4 x5 x6 x7 x8
                  cases R1
                  · go_wp2_with fail
                    go_ret
                    exact ⟨int_ret (by rw [HR2.out]; simp), k3.alloc hs3 _⟩
                  · by_cases h40 : 40 ≤ A.length
                    · have h40i : (40 : Int) ≤ (A.length : Int) := by omega
                      go_wp2_with fail
                      go_ret
                      exact ⟨int_ret (by rw [HR2.out]; simp [h40]), k3.alloc hs3 _⟩
                    · have h40i : (A.length : Int) < 40 := by omega
                      go_wp2_with fail
                      go_ret
                      exact ⟨int_ret (by rw [HR2.out]; simp [h40]), k3.alloc hs3 _⟩
                · have hmb : (m2 != 0) = true := by simpa using hm2
                  refine wp_region_held_drew (S := (fun w' => w'.cell? ⟨w.heap.size, 0, none⟩ = some (.slice s1 S.length s2) ∧ w'.cell? ⟨w.heap.size, 1, none⟩ = some (.slice p1 P.length p2) ∧ w'.cell? ⟨w.heap.size, 2, none⟩ = some (.slice a1 A.length a2) ∧ w'.cell? ⟨w.heap.size + 1, 0, none⟩ = some (.int .i64 xs) ∧ w'.cell? ⟨w.heap.size + 1, 3, none⟩ = some (.int .i64 xf) ∧ w'.cell? ⟨w.heap.size + 1, 4, none⟩ = some (.int .i64 (cb : Int)) ∧ w'.cell? ⟨w.heap.size + 1, 5, none⟩ = some (.int .i64 xd) ∧ w'.cell? ⟨w.heap.size + 1, 6, none⟩ = some (.int .i64 (ce : Int)))) (by kernel_rfl) ?hS18 (fun hHeld => ?hR18)
                  case hS18 => (try dsimp only); go_keep
                  refine wpAnyH_take (i := 0) (oi := ⟨some 41, _, _, _, _, _⟩) (v := ?v19) rfl (by kernel_rfl) (by kernel_rfl) (by kernel_rfl) (fun _ _ _ h => h) (Or.inl ⟨by rfl, ?h19⟩) (by assumption) ?r19
                  case h19 => (intro w hSw; (try dsimp only at hSw); go_simp <;> with_reducible rfl)
                  (try simp only [Act.put, List.setIfInBounds_toArray, List.set_cons_zero, List.set_cons_succ])
                  refine wpAnyH_take (i := 1) (oi := ⟨some 42, _, _, _, _, _⟩) (v := ?v20) rfl (by kernel_rfl) (by kernel_rfl) (by kernel_rfl) (fun _ _ _ h => h) (Or.inl ⟨by rfl, ?h20⟩) (by assumption) ?r20
                  case h20 => (intro w hSw; (try dsimp only at hSw); go_simp <;> with_reducible rfl)
                  (try simp only [Act.put, List.setIfInBounds_toArray, List.set_cons_zero, List.set_cons_succ])
                  refine wpAnyH_take (i := 2) (oi := ⟨some 43, _, _, _, _, _⟩) (v := ?v21) rfl (by kernel_rfl) (by kernel_rfl) (by kernel_rfl) (fun _ _ _ h => h) (Or.inl ⟨by rfl, ?h21⟩) (by assumption) ?r21
                  case h21 => (intro w hSw; (try dsimp only at hSw); go_simp <;> with_reducible rfl)
                  (try simp only [Act.put, List.setIfInBounds_toArray, List.set_cons_zero, List.set_cons_succ])
                  refine wpAnyH_take (i := 3) (oi := ⟨some 44, _, _, _, _, _⟩) (v := ?v22) rfl (by kernel_rfl) (by kernel_rfl) (by kernel_rfl) (fun _ _ _ h => h) (Or.inl ⟨by rfl, ?h22⟩) (by assumption) ?r22
                  case h22 => (intro w hSw; (try dsimp only at hSw); go_simp <;> with_reducible rfl)
                  (try simp only [Act.put, List.setIfInBounds_toArray, List.set_cons_zero, List.set_cons_succ])
                  refine wpAnyH_ready (rs := [4]) (by kernel_rfl) (by simp) ?_
                  refine AllReadyH.cons (o := ⟨some 45, _, _, _, _, _⟩) rfl (fun K hK => ?_) AllReadyH.nil
                  go_simp
                  (go_at_call 47; refine (unhide HU1 _).mono ?_; rintro e w1 ⟨rfl, rfl⟩)
                  go_wp2_with fail
                  refine hK.out _ _ ?hS23 (fun hHeld => ?hR23)
                  case hS23 => (try dsimp only); go_keep
                  clear hK K
                  (try simp only [Act.put, List.setIfInBounds_toArray, List.set_cons_zero, List.set_cons_succ])
                  refine wpAnyH_take (i := 5) (oi := ⟨some 46, _, _, _, _, _⟩) (v := ?v24) rfl (by kernel_rfl) (by kernel_rfl) (by kernel_rfl) (fun _ _ _ h => h) (Or.inl ⟨by rfl, ?h24⟩) (by assumption) ?r24
                  case h24 => (intro w hSw; (try dsimp only at hSw); go_simp <;> with_reducible rfl)
                  (try simp only [Act.put, List.setIfInBounds_toArray, List.set_cons_zero, List.set_cons_succ])
                  refine wpAnyH_take (i := 6) (oi := ⟨some 47, _, _, _, _, _⟩) (v := ?v25) rfl (by kernel_rfl) (by kernel_rfl) (by kernel_rfl) (fun _ _ _ h => h) (Or.inl ⟨by rfl, ?h25⟩) (by assumption) ?r25
                  case h25 => (intro w hSw; (try dsimp only at hSw); go_simp <;> with_reducible rfl)
                  (try simp only [Act.put, List.setIfInBounds_toArray, List.set_cons_zero, List.set_cons_succ])
                  refine wpAnyH_take (i := 7) (oi := ⟨some 48, _, _, _, _, _⟩) (v := ?v26) rfl (by kernel_rfl) (by kernel_rfl) (by kernel_rfl) (fun _ _ _ h => h) (Or.inl ⟨by rfl, ?h26⟩) (by assumption) ?r26
                  case h26 => (intro w hSw; (try dsimp only at hSw); go_simp <;> with_reducible rfl)
                  (try simp only [Act.put, List.setIfInBounds_toArray, List.set_cons_zero, List.set_cons_succ])
                  refine wpAnyH_take (i := 8) (oi := ⟨some 49, _, _, _, _, _⟩) (v := ?v27) rfl (by kernel_rfl) (by kernel_rfl) (by kernel_rfl) (fun _ _ _ h => h) (Or.inl ⟨by rfl, ?h27⟩) (by assumption) ?r27
                  case h27 => (intro w hSw; (try dsimp only at hSw); go_simp <;> with_reducible rfl)
                  (try simp only [Act.put, List.setIfInBounds_toArray, List.set_cons_zero, List.set_cons_succ])
                  refine wpAnyH_take (i := 9) (oi := ⟨some 50, _, _, _, _, _⟩) (v := ?v28) rfl (by kernel_rfl) (by kernel_rfl) (by kernel_rfl) (fun _ _ _ h => h) (Or.inl ⟨by rfl, ?h28⟩) (by assumption) ?r28
                  case h28 => (intro w hSw; (try dsimp only at hSw); go_simp <;> with_reducible rfl)
                  (try simp only [Act.put, List.setIfInBounds_toArray, List.set_cons_zero, List.set_cons_succ])
                  refine wpAnyH_take (i := 10) (oi := ⟨some 51, _, _, _, _, _⟩) (v := ?v29) rfl (by kernel_rfl) (by kernel_rfl) (by kernel_rfl) (fun _ _ _ h => h) (Or.inl ⟨by rfl, ?h29⟩) (by assumption) ?r29
                  case h29 => (intro w hSw; (try dsimp only at hSw); go_simp <;> with_reducible rfl)
                  (try simp only [Act.put, List.setIfInBounds_toArray, List.set_cons_zero, List.set_cons_succ])
                  refine wpAnyH_take (i := 11) (oi := ⟨some 52, _, _, _, _, _⟩) (v := ?v30) rfl (by kernel_rfl) (by kernel_rfl) (by kernel_rfl) (fun _ _ _ h => h) (Or.inl ⟨by rfl, ?h30⟩) (by assumption) ?r30
                  case h30 => (intro w hSw; (try dsimp only at hSw); go_simp <;> with_reducible rfl)
                  (try simp only [Act.put, List.setIfInBounds_toArray, List.set_cons_zero, List.set_cons_succ])
                  refine wpAnyH_ready (rs := [12]) (by kernel_rfl) (by simp) ?_
                  refine AllReadyH.cons (o := ⟨some 53, _, _, _, _, _⟩) rfl (fun K hK => ?_) AllReadyH.nil
                  go_simp
                  (go_at_call 47; refine (unhide HU2 _).mono ?_; rintro e w1 ⟨rfl, rfl⟩)
                  go_wp2_with fail
                  refine hK.out _ _ ?hS31 (fun hHeld => ?hR31)
                  case hS31 => (try dsimp only); go_keep
                  clear hK K
                  (try simp only [Act.put, List.setIfInBounds_toArray, List.set_cons_zero, List.set_cons_succ])
                  refine wpAnyH_take (i := 13) (oi := ⟨some 54, _, _, _, _, _⟩) (v := ?v32) rfl (by kernel_rfl) (by kernel_rfl) (by kernel_rfl) (fun _ _ _ h => h) (Or.inl ⟨by rfl, ?h32⟩) (by assumption) ?r32
                  case h32 => (intro w hSw; (try dsimp only at hSw); go_simp <;> with_reducible rfl)
                  (try simp only [Act.put, List.setIfInBounds_toArray, List.set_cons_zero, List.set_cons_succ])
                  refine wpAnyH_take (i := 14) (oi := ⟨some 55, _, _, _, _, _⟩) (v := ?v33) rfl (by kernel_rfl) (by kernel_rfl) (by kernel_rfl) (fun _ _ _ h => h) (Or.inl ⟨by rfl, ?h33⟩) (by assumption) ?r33
                  case h33 => (intro w hSw; (try dsimp only at hSw); go_simp <;> with_reducible rfl)
                  (try simp only [Act.put, List.setIfInBounds_toArray, List.set_cons_zero, List.set_cons_succ])
                  refine wpAnyH_take (i := 15) (oi := ⟨some 56, _, _, _, _, _⟩) (v := ?v34) rfl (by kernel_rfl) (by kernel_rfl) (by kernel_rfl) (fun _ _ _ h => h) (Or.inl ⟨by rfl, ?h34⟩) (by assumption) ?r34
                  case h34 => (intro w hSw; (try dsimp only at hSw); go_simp <;> with_reducible rfl)
                  (try simp only [Act.put, List.setIfInBounds_toArray, List.set_cons_zero, List.set_cons_succ])
                  refine wpAnyH_done (by kernel_rfl) ?_ _
                  clear hHeld HU1 HU2 tm1 tm2 wr1 wr2 e1 e2 e3 e4 o1 o2 o3 o4
                  go_wp2_with fail
                  go_ret
                  exact ⟨int_ret (by rw [HR1.out]; simp_all), HBB.out.drew⟩
              · have hmb : (m1 != 0) = true := by simpa using hm1
                refine wp_region_held_drew (S := (fun w' => w'.cell? ⟨w.heap.size, 0, none⟩ = some (.slice s1 S.length s2) ∧ w'.cell? ⟨w.heap.size, 1, none⟩ = some (.slice p1 P.length p2) ∧ w'.cell? ⟨w.heap.size, 2, none⟩ = some (.slice a1 A.length a2) ∧ w'.cell? ⟨w.heap.size + 1, 0, none⟩ = some (.int .i64 xs) ∧ w'.cell? ⟨w.heap.size + 1, 3, none⟩ = some (.int .i64 xf) ∧ w'.cell? ⟨w.heap.size + 1, 4, none⟩ = some (.int .i64 (cb : Int)) ∧ w'.cell? ⟨w.heap.size + 1, 5, none⟩ = some (.int .i64 xd) ∧ w'.cell? ⟨w.heap.size + 1, 6, none⟩ = some (.int .i64 (ce : Int)))) (by kernel_rfl) ?hS35 (fun hHeld => ?hR35)
                case hS35 => (try dsimp only); go_keep
                refine wpAnyH_take (i := 0) (oi := ⟨some 41, _, _, _, _, _⟩) (v := ?v36) rfl (by kernel_rfl) (by kernel_rfl) (by kernel_rfl) (fun _ _ _ h => h) (Or.inl ⟨by rfl, ?h36⟩) (by assumption) ?r36
                case h36 => (intro w hSw; (try dsimp only at hSw); go_simp <;> with_reducible rfl)
                (try simp only [Act.put, List.setIfInBounds_toArray, List.set_cons_zero, List.set_cons_succ])
                refine wpAnyH_take (i := 1) (oi := ⟨some 42, _, _, _, _, _⟩) (v := ?v37) rfl (by kernel_rfl) (by kernel_rfl) (by kernel_rfl) (fun _ _ _ h => h) (Or.inl ⟨by rfl, ?h37⟩) (by assumption) ?r37
                case h37 => (intro w hSw; (try dsimp only at hSw); go_simp <;> with_reducible rfl)
                (try simp only [Act.put, List.setIfInBounds_toArray, List.set_cons_zero, List.set_cons_succ])
                refine wpAnyH_take (i := 2) (oi := ⟨some 43, _, _, _, _, _⟩) (v := ?v38) rfl (by kernel_rfl) (by kernel_rfl) (by kernel_rfl) (fun _ _ _ h => h) (Or.inl ⟨by rfl, ?h38⟩) (by assumption) ?r38
                case h38 => (intro w hSw; (try dsimp only at hSw); go_simp <;> with_reducible rfl)
                (try simp only [Act.put, List.setIfInBounds_toArray, List.set_cons_zero, List.set_cons_succ])
                refine wpAnyH_take (i := 3) (oi := ⟨some 44, _, _, _, _, _⟩) (v := ?v39) rfl (by kernel_rfl) (by kernel_rfl) (by kernel_rfl) (fun _ _ _ h => h) (Or.inl ⟨by rfl, ?h39⟩) (by assumption) ?r39
                case h39 => (intro w hSw; (try dsimp only at hSw); go_simp <;> with_reducible rfl)
                (try simp only [Act.put, List.setIfInBounds_toArray, List.set_cons_zero, List.set_cons_succ])
                refine wpAnyH_ready (rs := [4]) (by kernel_rfl) (by simp) ?_
                refine AllReadyH.cons (o := ⟨some 45, _, _, _, _, _⟩) rfl (fun K hK => ?_) AllReadyH.nil
                go_simp
                (go_at_call 47; refine (unhide HU1 _).mono ?_; rintro e w1 ⟨rfl, rfl⟩)
                go_wp2_with fail
                refine hK.out _ _ ?hS40 (fun hHeld => ?hR40)
                case hS40 => (try dsimp only); go_keep
                clear hK K
                (try simp only [Act.put, List.setIfInBounds_toArray, List.set_cons_zero, List.set_cons_succ])
                refine wpAnyH_take (i := 5) (oi := ⟨some 46, _, _, _, _, _⟩) (v := ?v41) rfl (by kernel_rfl) (by kernel_rfl) (by kernel_rfl) (fun _ _ _ h => h) (Or.inl ⟨by rfl, ?h41⟩) (by assumption) ?r41
                case h41 => (intro w hSw; (try dsimp only at hSw); go_simp <;> with_reducible rfl)
                (try simp only [Act.put, List.setIfInBounds_toArray, List.set_cons_zero, List.set_cons_succ])
                refine wpAnyH_take (i := 6) (oi := ⟨some 47, _, _, _, _, _⟩) (v := ?v42) rfl (by kernel_rfl) (by kernel_rfl) (by kernel_rfl) (fun _ _ _ h => h) (Or.inl ⟨by rfl, ?h42⟩) (by assumption) ?r42
                case h42 => (intro w hSw; (try dsimp only at hSw); go_simp <;> with_reducible rfl)
                (try simp only [Act.put, List.setIfInBounds_toArray, List.set_cons_zero, List.set_cons_succ])
                refine wpAnyH_take (i := 7) (oi := ⟨some 48, _, _, _, _, _⟩) (v := ?v43) rfl (by kernel_rfl) (by kernel_rfl) (by kernel_rfl) (fun _ _ _ h => h) (Or.inl ⟨by rfl, ?h43⟩) (by assumption) ?r43
                case h43 => (intro w hSw; (try dsimp only at hSw); go_simp <;> with_reducible rfl)
                (try simp only [Act.put, List.setIfInBounds_toArray, List.set_cons_zero, List.set_cons_succ])
                refine wpAnyH_take (i := 8) (oi := ⟨some 49, _, _, _, _, _⟩) (v := undef) rfl (by kernel_rfl) (by kernel_rfl) (by kernel_rfl) (fun _ _ _ h => h) (Or.inr ⟨by rfl, rfl⟩) (by assumption) ?_
                (try simp only [Act.put, List.setIfInBounds_toArray, List.set_cons_zero, List.set_cons_succ])
                refine wpAnyH_take (i := 9) (oi := ⟨some 50, _, _, _, _, _⟩) (v := undef) rfl (by kernel_rfl) (by kernel_rfl) (by kernel_rfl) (fun _ _ _ h => h) (Or.inr ⟨by rfl, rfl⟩) (by assumption) ?_
                (try simp only [Act.put, List.setIfInBounds_toArray, List.set_cons_zero, List.set_cons_succ])
                refine wpAnyH_take (i := 10) (oi := ⟨some 51, _, _, _, _, _⟩) (v := undef) rfl (by kernel_rfl) (by kernel_rfl) (by kernel_rfl) (fun _ _ _ h => h) (Or.inr ⟨by rfl, rfl⟩) (by assumption) ?_
                (try simp only [Act.put, List.setIfInBounds_toArray, List.set_cons_zero, List.set_cons_succ])
                refine wpAnyH_take (i := 11) (oi := ⟨some 52, _, _, _, _, _⟩) (v := undef) rfl (by kernel_rfl) (by kernel_rfl) (by kernel_rfl) (fun _ _ _ h => h) (Or.inr ⟨by rfl, rfl⟩) (by assumption) ?_
                (try simp only [Act.put, List.setIfInBounds_toArray, List.set_cons_zero, List.set_cons_succ])
                refine wpAnyH_ready (rs := [12]) (by kernel_rfl) (by simp) ?_
                refine AllReadyH.cons (o := ⟨some 53, _, _, _, _, _⟩) rfl (fun K hK => ?_) AllReadyH.nil
                rw [if_neg (by rw [Bool.not_eq_true]; rfl)]
                refine hK.out _ _ ?hS44 (fun hHeld => ?hR44)
                case hS44 => (try dsimp only); go_keep
                clear hK K
                (try simp only [Act.put, List.setIfInBounds_toArray, List.set_cons_zero, List.set_cons_succ])
                refine wpAnyH_take (i := 13) (oi := ⟨some 54, _, _, _, _, _⟩) (v := undef) rfl (by kernel_rfl) (by kernel_rfl) (by kernel_rfl) (fun _ _ _ h => h) (Or.inr ⟨by rfl, rfl⟩) (by assumption) ?_
                (try simp only [Act.put, List.setIfInBounds_toArray, List.set_cons_zero, List.set_cons_succ])
                refine wpAnyH_take (i := 14) (oi := ⟨some 55, _, _, _, _, _⟩) (v := undef) rfl (by kernel_rfl) (by kernel_rfl) (by kernel_rfl) (fun _ _ _ h => h) (Or.inr ⟨by rfl, rfl⟩) (by assumption) ?_
                (try simp only [Act.put, List.setIfInBounds_toArray, List.set_cons_zero, List.set_cons_succ])
                refine wpAnyH_take (i := 15) (oi := ⟨some 56, _, _, _, _, _⟩) (v := ?v45) rfl (by kernel_rfl) (by kernel_rfl) (by kernel_rfl) (fun _ _ _ h => h) (Or.inl ⟨by rfl, ?h45⟩) (by assumption) ?r45
                case h45 => (intro w hSw; (try dsimp only at hSw); go_simp <;> with_reducible rfl)
                (try simp only [Act.put, List.setIfInBounds_toArray, List.set_cons_zero, List.set_cons_succ])
                refine wpAnyH_done (by kernel_rfl) ?_ _
                clear hHeld HU1 HU2 tm1 tm2 wr1 wr2 e1 e2 e3 e4 o1 o2 o3 o4
                go_wp2_with fail
                go_ret
                exact ⟨int_ret (by rw [HR1.out]; simp_all), HBB.out.drew⟩
            · have hr6' : inB xo (-1) 65535 = false := by simpa using hr6
              clear hr6 HK
              go_enter Try.func29, Try.ntmps29
              go_wp2_with (go_at_call 31; refine (rIn_any _ _ _ _).mono ?_; rintro e w' ⟨rfl, rfl⟩)
              go_ret
              exact ⟨int_ret (by rw [HR.out]; simp_all), ((Below.refl _ _).alloc (Nat.le_refl _) _).alloc (by simp) _⟩
          · have hr5' : inB xe 0 16 = false := by simpa using hr5
            clear hr5 HK
            go_enter Try.func29, Try.ntmps29
            go_wp2_with (go_at_call 31; refine (rIn_any _ _ _ _).mono ?_; rintro e w' ⟨rfl, rfl⟩)
            go_ret
            exact ⟨int_ret (by rw [HR.out]; simp_all), ((Below.refl _ _).alloc (Nat.le_refl _) _).alloc (by simp) _⟩
        · have hr4' : inB xb 0 16 = false := by simpa using hr4
          clear hr4 HK
          go_enter Try.func29, Try.ntmps29
          go_wp2_with (go_at_call 31; refine (rIn_any _ _ _ _).mono ?_; rintro e w' ⟨rfl, rfl⟩)
          go_ret
          exact ⟨int_ret (by rw [HR.out]; simp_all), ((Below.refl _ _).alloc (Nat.le_refl _) _).alloc (by simp) _⟩
      · have hr3' : inB xd 0 65535 = false := by simpa using hr3
        clear hr3 HK
        go_enter Try.func29, Try.ntmps29
        go_wp2_with (go_at_call 31; refine (rIn_any _ _ _ _).mono ?_; rintro e w' ⟨rfl, rfl⟩)
        go_ret
        exact ⟨int_ret (by rw [HR.out]; simp_all), ((Below.refl _ _).alloc (Nat.le_refl _) _).alloc (by simp) _⟩
    · have hr2' : inB xf 0 65535 = false := by simpa using hr2
      clear hr2 HK
      go_enter Try.func29, Try.ntmps29
      go_wp2_with (go_at_call 31; refine (rIn_any _ _ _ _).mono ?_; rintro e w' ⟨rfl, rfl⟩)
      go_ret
      exact ⟨int_ret (by rw [HR.out]; simp_all), ((Below.refl _ _).alloc (Nat.le_refl _) _).alloc (by simp) _⟩
  · have hr1' : inB xp 0 1000 = false := by simpa using hr1
    clear hr1 HK
    go_enter Try.func29, Try.ntmps29
    go_wp2_with (go_at_call 31; refine (rIn_any _ _ _ _).mono ?_; rintro e w' ⟨rfl, rfl⟩)
    go_ret
    exact ⟨int_ret (by rw [HR.out]; simp_all), ((Below.refl _ _).alloc (Nat.le_refl _) _).alloc (by simp) _⟩

end Go.Proofs.Ytonhfgdnkkkikad
