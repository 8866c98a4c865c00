/-
  What the document's In, switchOf, tenantOf, unit answer.
-/
import Derived.Test.YtonhfgdnkkkikadCc
import Derived.Deep.RegionHeld3
import Derived.Deep.QuietTactic
import Derived.BigQuiet
namespace Go.Proofs.Ytonhfgdnkkkikad
open Go.RowKit
set_option linter.unusedVariables false
set_option maxRecDepth 100000

set_option maxHeartbeats 400000 in
theorem rIn_any (n a b : Int) (w : World) :
    Calls Try.prog 31 #[.int .i64 n, .int .i64 a, .int .i64 b] w fun e w' => e = .returned (.bool (inB n a b)) ∧ w' = w := by
  go_enter Try.func31, Try.ntmps31
  go_wp2
  all_goals go_ret
  all_goals refine ⟨bool_ret ?_, rfl⟩
  all_goals (unfold inB; rw [Bool.eq_iff_iff]; simp_all; try omega)

/-- The switch with a number; what is nothing, if there is none. -/
def sof (S : List Sw) (id : Int) : Sw := if idx (fun s => s.i == id) S < 0 then sw0 else S.getD (idx (fun s => s.i == id) S).toNat sw0
theorem drewN_beh {B : Nat} {a w : World} (h : Below B a w) (n : Nat) : Below B a (w.drewN n) := ⟨h.os, h.tape, h.output, h.size, h.block⟩

set_option maxHeartbeats 4000000 in
theorem switchOf_any (sv pv av : Value) (S : List Sw) (P : List Pr) (A : List Ac) (id : Int) (w : World) (hC : CfAt w sv pv av S P A) (h1 : S.length * 24 ≤ 140737488355328) :
    Calls Try.prog 45 #[.agg #[sv, pv, av], .int .i64 id] w fun e w' => e = .returned (.tuple #[.agg #[.int .i64 (sof S id).i, .int .i64 (sof S id).t, .int .i64 (sof S id).g], .bool (S.any (fun s => s.i == id))]) ∧ Below w.heap.size w w' := by
  have HC := hide hC
  have HNO : Hid ((∀ j, j < S.length → ((S.getD j sw0).i == id) = false) → sof S id = sw0 ∧ S.any (fun s => s.i == id) = false) := fun h => by
    have e := idx_no (p := fun s : Sw => s.i == id) sw0 h
    refine ⟨by unfold sof; rw [e]; rfl, ?_⟩
    rw [← idx_any, e]; rfl
  have HYE : Hid (∀ k, k < S.length → (∀ j, j < k → ((S.getD j sw0).i == id) = false) → ((S.getD k sw0).i == id) = true → sof S id = S.getD k sw0 ∧ S.any (fun s => s.i == id) = true) := fun k hk h1 h2 => by
    have e := idx_at (p := fun s : Sw => s.i == id) sw0 hk h1 h2
    refine ⟨by unfold sof; rw [e, if_neg (by omega), Int.toNat_natCast], ?_⟩
    rw [← idx_any, e]; simp
  generalize sof S id = X at *
  generalize S.any (fun s => s.i == id) = R at *
  obtain ⟨x0, x1, x2⟩ := X
  simp only
  obtain ⟨s1, s2, rfl⟩ := hC.1.slice
  obtain ⟨p1, p2, rfl⟩ := hC.2.1.slice
  obtain ⟨a1, a2, rfl⟩ := hC.2.2.slice
  clear hC
  go_enter Try.func45, Try.ntmps45
  go_wp2_with fail
  obtain ⟨W0, hW0⟩ : ∃ W0, W0 = (w.alloc (.cells #[.slice s1 S.length s2, .slice p1 P.length p2, .slice a1 A.length a2] 26)).alloc (.cells #[.int .i64 0, .int .i64 0, .int .i64 0] 31) := ⟨_, rfl⟩
  have hb0 : Below w.heap.size w W0 := by rw [hW0]; exact ((Below.refl _ _).alloc (Nat.le_refl _) _).alloc (by simp) _
  have d0 : W0.cell? ⟨w.heap.size, 0, none⟩ = some (.slice s1 S.length s2) := by rw [hW0]; exact old_cell (new_cell w _ rfl _ _ _ _ rfl) _
  have t0 : W0.cell? ⟨w.heap.size + 1, 0, none⟩ = some (.int .i64 0) := by rw [hW0]; exact new_cell _ _ (by simp) _ _ _ _ rfl
  have t1 : W0.cell? ⟨w.heap.size + 1, 1, none⟩ = some (.int .i64 0) := by rw [hW0]; exact new_cell _ _ (by simp) _ _ _ _ rfl
  have t2 : W0.cell? ⟨w.heap.size + 1, 2, none⟩ = some (.int .i64 0) := by rw [hW0]; exact new_cell _ _ (by simp) _ _ _ _ rfl
  have f0 : W0.frozen? ⟨w.heap.size + 1, 0, none⟩ = false := by rw [hW0]; simp
  have f1 : W0.frozen? ⟨w.heap.size + 1, 1, none⟩ = false := by rw [hW0]; simp
  have f2 : W0.frozen? ⟨w.heap.size + 1, 2, none⟩ = false := by rw [hW0]; simp
  rw [← hW0]
  clear hW0
  have HBE : Hid (∀ x y z, Below w.heap.size w (((W0.setCell ⟨w.heap.size + 1, 0, none⟩ x).setCell ⟨w.heap.size + 1, 1, none⟩ y).setCell ⟨w.heap.size + 1, 2, none⟩ z)) := fun x y z => ((hb0.setCell (Nat.le_succ _) _).setCell (Nat.le_succ _) _).setCell (Nat.le_succ _) _
  go_loop [6] (fun i => ∃ k : Nat, k ≤ S.length ∧ i = .int .i64 k ∧ Hid (∀ j, j < k → ((S.getD j sw0).i == id) = false)) (fun i => S.length - (intOf i).toNat)
  case atStart => exact ⟨0, by omega, rfl, hide (fun j h => absurd h (by omega))⟩
  case round =>
    obtain ⟨k, hk, rfl, HALL⟩ := hrel
    by_cases hlt : k < S.length
    · obtain ⟨b, off, cap', e1, hcap, hb, g0, g1, g2⟩ := sw_at (RowAt.below HC.out.1 hb0 (Nat.le_refl _)) hlt
      simp only [Value.slice.injEq, true_and] at e1
      obtain ⟨rfl, rfl⟩ := e1
      have q3 : (0 : Int) ≤ (k : Int) := by omega
      have q4 : (k : Int) < (S.length : Int) := by omega
      by_cases hx : ((S.getD k sw0).i == id) = true
      · obtain ⟨hX, rfl⟩ := HYE.out k hlt HALL.out hx
        rw [← hX] at g0 g1 g2 hx
        clear HALL HNO HYE hX
        simp only at g0 g1 g2 hx
        obtain rfl : x0 = id := by simpa using hx
        clear hx
        obtain ⟨u0, u1, u2⟩ := set3 t0 t1 t2 (.int .i64 x0) (.int .i64 x1) (.int .i64 x2)
        have HB := hide (HBE.out (.int .i64 x0) (.int .i64 x1) (.int .i64 x2))
        clear HBE
        go_wp2_with fail
        refine bodyPost_ret (v := .tuple #[.agg #[.int .i64 x0, .int .i64 x1, .int .i64 x2], .bool true]) ?_ rfl ⟨rfl, HB.out⟩
        clear t0 t1 t2 f0 f1 f2 g0 g1 g2 hb0 HB
        generalize (((W0.setCell ⟨w.heap.size + 1, 0, none⟩ (.int .i64 x0)).setCell ⟨w.heap.size + 1, 1, none⟩ (.int .i64 x1)).setCell ⟨w.heap.size + 1, 2, none⟩ (.int .i64 x2)) = W at *
        simp [results, Try.results45, go_sem, u0, u1, u2]
      · have hx' : ((S.getD k sw0).i == id) = false := by simpa using hx
        have HN : Hid (∀ j, j < k + 1 → ((S.getD j sw0).i == id) = false) := fun j hj => by
          by_cases e : j = k
          · subst e; exact hx'
          · exact HALL.out j (by omega)
        have hx2 : ¬ (S.getD k sw0).i = id := by simpa using hx
        clear hx hx' HALL HYE HNO HBE
        generalize (S.getD k sw0).i = y0 at *
        go_wp2_with fail
        go_round
        case rel => exact ⟨k + 1, by omega, by go_num, HN⟩
        case measure => simp [intOf]; omega
    · obtain ⟨hX, rfl⟩ := HNO.out fun j hj => HALL.out j (by omega)
      simp only [sw0, Sw.mk.injEq] at hX
      obtain ⟨rfl, rfl, rfl⟩ := hX
      obtain ⟨u0, u1, u2⟩ := set3 t0 t1 t2 (.int .i64 0) (.int .i64 0) (.int .i64 0)
      have HB := hide (HBE.out (.int .i64 0) (.int .i64 0) (.int .i64 0))
      clear HALL HYE HNO HBE
      go_wp2_with fail
      refine bodyPost_ret (v := .tuple #[.agg #[.int .i64 0, .int .i64 0, .int .i64 0], .bool false]) ?_ rfl ⟨rfl, HB.out⟩
      clear t0 t1 t2 f0 f1 f2 hb0 HB
      generalize (((W0.setCell ⟨w.heap.size + 1, 0, none⟩ (.int .i64 0)).setCell ⟨w.heap.size + 1, 1, none⟩ (.int .i64 0)).setCell ⟨w.heap.size + 1, 2, none⟩ (.int .i64 0)) = W at *
      simp [results, Try.results45, go_sem, u0, u1, u2]

set_option maxHeartbeats 1000000 in
theorem tenantOf_any (sv pv av : Value) (S : List Sw) (P : List Pr) (A : List Ac) (x : Pr) (w : World) (hC : CfAt w sv pv av S P A) (h1 : S.length * 24 ≤ 140737488355328) :
    Calls Try.prog 66 #[.agg #[sv, pv, av], .agg #[.int .i64 x.i, .int .i64 x.s, .int .i64 x.m, .int .i64 x.p, .int .i64 x.c]] w fun e w' => e = .returned (.int .i64 (sof S x.s).t) ∧ Below w.heap.size w w' := by
  obtain ⟨xi, xs, xm, xp, xc⟩ := x
  have HK : Hid (∀ W : World, Below w.heap.size w W → Calls Try.prog 45 #[.agg #[sv, pv, av], .int .i64 xs] W fun e w' => e = .returned (.tuple #[.agg #[.int .i64 (sof S xs).i, .int .i64 (sof S xs).t, .int .i64 (sof S xs).g], .bool (S.any (fun s => s.i == xs))]) ∧ Below W.heap.size W w') := fun W hW => switchOf_any sv pv av S P A xs W (hC.below hW (Nat.le_refl _)) h1
  generalize sof S xs = X at *
  generalize S.any (fun s => s.i == xs) = R at *
  obtain ⟨y0, y1, y2⟩ := X
  obtain ⟨s1, s2, rfl⟩ := hC.1.slice
  obtain ⟨p1, p2, rfl⟩ := hC.2.1.slice
  obtain ⟨a1, a2, rfl⟩ := hC.2.2.slice
  clear hC
  simp only at HK ⊢
  go_enter Try.func66, Try.ntmps66
  go_wp2_with fail
  have hb0 : Below w.heap.size w ((w.alloc (.cells #[.slice s1 S.length s2, .slice p1 P.length p2, .slice a1 A.length a2] 26)).alloc (.cells #[.int .i64 xi, .int .i64 xs, .int .i64 xm, .int .i64 xp, .int .i64 xc] 33)) := ((Below.refl _ _).alloc (Nat.le_refl _) _).alloc (by simp) _
  refine (unhide HK _ hb0).mono ?_
  rintro e w1 ⟨rfl, hb1⟩
  have hb := hb0.trans (hb1.mono hb0.size)
  have hs := hb.size
  clear hb0 hb1 HK
  go_wp2_with fail
  go_ret
  exact ⟨rfl, hb.alloc hs _⟩

theorem half_pow (k : Nat) (hk : k ≤ 16) : ((65536 : Int) / 2 ^ k) / 2 = 65536 / 2 ^ (k + 1) ∧ 0 ≤ (65536 : Int) / 2 ^ k ∧ (65536 : Int) / 2 ^ k ≤ 65536 := by
  have hc : k = 0 ∨ k = 1 ∨ k = 2 ∨ k = 3 ∨ k = 4 ∨ k = 5 ∨ k = 6 ∨ k = 7 ∨ k = 8 ∨ k = 9 ∨ k = 10 ∨ k = 11 ∨ k = 12 ∨ k = 13 ∨ k = 14 ∨ k = 15 ∨ k = 16 := by omega
  rcases hc with rfl | rfl | rfl | rfl | rfl | rfl | rfl | rfl | rfl | rfl | rfl | rfl | rfl | rfl | rfl | rfl | rfl <;> decide

set_option maxHeartbeats 1000000 in
theorem unit_any (c : Nat) (w : World) (hc : c ≤ 16) :
    Calls Try.prog 47 #[.int .i64 (c : Int)] w fun e w' => e = .returned (.int .i64 (65536 / 2 ^ c)) ∧ w' = w := by
  go_enter Try.func47, Try.ntmps47
  go_wp2_with fail
  go_loop [0, 3] (fun b n => ∃ (k : Nat) (B N : Int), k ≤ c ∧ b = .int .i64 B ∧ n = .int .i64 N ∧ B = (c : Int) - (k : Int) ∧ Hid (N = 65536 / 2 ^ k)) (fun b _ => (intOf b).toNat)
  case atStart => exact ⟨0, _, _, by omega, rfl, rfl, by omega, hide rfl⟩
  case round =>
    obtain ⟨k, B, N, hk, rfl, rfl, hB, HN⟩ := hrel
    obtain ⟨h1, h2, h3⟩ := half_pow k (by omega)
    rw [← HN.out] at h1 h2 h3
    have H1 := hide h1
    clear h1
    by_cases hlt : k < c
    · have hB1 : 0 < B := by omega
      have hB2 : B ≤ 16 := by omega
      clear HN
      go_wp2
      go_round
      case rel => exact ⟨k + 1, _, _, by omega, by go_num, by go_num, by omega, H1⟩
      case measure => simp [intOf]; omega
    · obtain rfl : k = c := by omega
      obtain rfl : B = 0 := by omega
      clear hB H1 h2 h3 hlt hk
      go_wp2
      go_ret
      exact ⟨int_ret HN.out, rfl⟩

end Go.Proofs.Ytonhfgdnkkkikad
