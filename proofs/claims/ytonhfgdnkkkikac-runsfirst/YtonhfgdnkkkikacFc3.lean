/-
  What flow.changed answers.
-/
import Derived.Test.YtonhfgdnkkkikacFr
namespace Go.Proofs.Ytonhfgdnkkkikac
open Go.RowKit
set_option linter.unusedVariables false
set_option maxRecDepth 100000

set_option maxHeartbeats 8000000 in
theorem changedLess_any (f0 f1 f2 f3 f4 f5 f6 f7 f8 f9 : Int) (q : Nat) (n : Int) (w : World) (hq : q < 10) (hb : ∀ i, 0 ≤ ([f0, f1, f2, f3, f4, f5, f6, f7, f8, f9] : List Int).getD i 0 ∧ ([f0, f1, f2, f3, f4, f5, f6, f7, f8, f9] : List Int).getD i 0 ≤ 65535) :
    Calls Try.prog 31 #[.agg #[.int .i64 f0, .int .i64 f1, .int .i64 f2, .int .i64 f3, .int .i64 f4, .int .i64 f5, .int .i64 f6, .int .i64 f7, .int .i64 f8, .int .i64 f9], .agg #[.int .i64 3, .int .i64 q, .int .i64 n]] w fun e w' => ∃ g0 g1 g2 g3 g4 g5 g6 g7 g8 g9 : Int, e = .returned (.agg #[.int .i64 g0, .int .i64 g1, .int .i64 g2, .int .i64 g3, .int .i64 g4, .int .i64 g5, .int .i64 g6, .int .i64 g7, .int .i64 g8, .int .i64 g9]) ∧ [g0, g1, g2, g3, g4, g5, g6, g7, g8, g9] = ([f0, f1, f2, f3, f4, f5, f6, f7, f8, f9] : List Int).set q (if 0 < ([f0, f1, f2, f3, f4, f5, f6, f7, f8, f9] : List Int).getD q 0 then ([f0, f1, f2, f3, f4, f5, f6, f7, f8, f9] : List Int).getD q 0 - 1 else 0) ∧ Below w.heap.size w w' := by
  obtain ⟨L, hL⟩ : ∃ L, L = ([f0, f1, f2, f3, f4, f5, f6, f7, f8, f9] : List Int).set q (if 0 < ([f0, f1, f2, f3, f4, f5, f6, f7, f8, f9] : List Int).getD q 0 then ([f0, f1, f2, f3, f4, f5, f6, f7, f8, f9] : List Int).getD q 0 - 1 else 0) := ⟨_, rfl⟩
  rw [← hL]
  have HL := hide hL
  clear hL
  have hc : q = 0 ∨ q = 1 ∨ q = 2 ∨ q = 3 ∨ q = 4 ∨ q = 5 ∨ q = 6 ∨ q = 7 ∨ q = 8 ∨ q = 9 := by omega
  rcases hc with rfl | rfl | rfl | rfl | rfl | rfl | rfl | rfl | rfl | rfl
  · have hq0 := hb 0
    simp at hq0
    by_cases h0 : 0 < f0
    · have hw : IntKind.i64.wrap (f0 - 1) = f0 - 1 := wrapI _ (by omega) (by omega)
      have hmx : max (f0 - 1) 0 = f0 - 1 := by omega
      go_enter Try.func31, Try.ntmps31
      go_wp2_with fail
      go_region
      all_goals go_wp2
      refine bodyPost_ret (v := .agg #[.int .i64 (f0 - 1), .int .i64 (f1), .int .i64 (f2), .int .i64 (f3), .int .i64 (f4), .int .i64 (f5), .int .i64 (f6), .int .i64 (f7), .int .i64 (f8), .int .i64 (f9)]) ?_ rfl ⟨f0 - 1, f1, f2, f3, f4, f5, f6, f7, f8, f9, rfl, by rw [HL.out]; simp [h0], ((((Below.refl _ _).alloc (Nat.le_refl _) _).alloc (by simp) _).alloc (by simp; omega) _).drew⟩
      simp [results, Try.results31, go_sem]
    · have he : f0 = 0 := by omega
      subst he
      go_enter Try.func31, Try.ntmps31
      go_wp2_with fail
      go_region
      all_goals go_wp2
      refine bodyPost_ret (v := .agg #[.int .i64 (0), .int .i64 (f1), .int .i64 (f2), .int .i64 (f3), .int .i64 (f4), .int .i64 (f5), .int .i64 (f6), .int .i64 (f7), .int .i64 (f8), .int .i64 (f9)]) ?_ rfl ⟨0, f1, f2, f3, f4, f5, f6, f7, f8, f9, rfl, by rw [HL.out]; simp, ((((Below.refl _ _).alloc (Nat.le_refl _) _).alloc (by simp) _).alloc (by simp; omega) _).drew⟩
      simp [results, Try.results31, go_sem]
  · have hq0 := hb 1
    simp at hq0
    by_cases h0 : 0 < f1
    · have hw : IntKind.i64.wrap (f1 - 1) = f1 - 1 := wrapI _ (by omega) (by omega)
      have hmx : max (f1 - 1) 0 = f1 - 1 := by omega
      go_enter Try.func31, Try.ntmps31
      go_wp2_with fail
      go_region
      all_goals go_wp2
      refine bodyPost_ret (v := .agg #[.int .i64 (f0), .int .i64 (f1 - 1), .int .i64 (f2), .int .i64 (f3), .int .i64 (f4), .int .i64 (f5), .int .i64 (f6), .int .i64 (f7), .int .i64 (f8), .int .i64 (f9)]) ?_ rfl ⟨f0, f1 - 1, f2, f3, f4, f5, f6, f7, f8, f9, rfl, by rw [HL.out]; simp [h0], ((((Below.refl _ _).alloc (Nat.le_refl _) _).alloc (by simp) _).alloc (by simp; omega) _).drew⟩
      simp [results, Try.results31, go_sem]
    · have he : f1 = 0 := by omega
      subst he
      go_enter Try.func31, Try.ntmps31
      go_wp2_with fail
      go_region
      all_goals go_wp2
      refine bodyPost_ret (v := .agg #[.int .i64 (f0), .int .i64 (0), .int .i64 (f2), .int .i64 (f3), .int .i64 (f4), .int .i64 (f5), .int .i64 (f6), .int .i64 (f7), .int .i64 (f8), .int .i64 (f9)]) ?_ rfl ⟨f0, 0, f2, f3, f4, f5, f6, f7, f8, f9, rfl, by rw [HL.out]; simp, ((((Below.refl _ _).alloc (Nat.le_refl _) _).alloc (by simp) _).alloc (by simp; omega) _).drew⟩
      simp [results, Try.results31, go_sem]
  · have hq0 := hb 2
    simp at hq0
    by_cases h0 : 0 < f2
    · have hw : IntKind.i64.wrap (f2 - 1) = f2 - 1 := wrapI _ (by omega) (by omega)
      have hmx : max (f2 - 1) 0 = f2 - 1 := by omega
      go_enter Try.func31, Try.ntmps31
      go_wp2_with fail
      go_region
      all_goals go_wp2
      refine bodyPost_ret (v := .agg #[.int .i64 (f0), .int .i64 (f1), .int .i64 (f2 - 1), .int .i64 (f3), .int .i64 (f4), .int .i64 (f5), .int .i64 (f6), .int .i64 (f7), .int .i64 (f8), .int .i64 (f9)]) ?_ rfl ⟨f0, f1, f2 - 1, f3, f4, f5, f6, f7, f8, f9, rfl, by rw [HL.out]; simp [h0], ((((Below.refl _ _).alloc (Nat.le_refl _) _).alloc (by simp) _).alloc (by simp; omega) _).drew⟩
      simp [results, Try.results31, go_sem]
    · have he : f2 = 0 := by omega
      subst he
      go_enter Try.func31, Try.ntmps31
      go_wp2_with fail
      go_region
      all_goals go_wp2
      refine bodyPost_ret (v := .agg #[.int .i64 (f0), .int .i64 (f1), .int .i64 (0), .int .i64 (f3), .int .i64 (f4), .int .i64 (f5), .int .i64 (f6), .int .i64 (f7), .int .i64 (f8), .int .i64 (f9)]) ?_ rfl ⟨f0, f1, 0, f3, f4, f5, f6, f7, f8, f9, rfl, by rw [HL.out]; simp, ((((Below.refl _ _).alloc (Nat.le_refl _) _).alloc (by simp) _).alloc (by simp; omega) _).drew⟩
      simp [results, Try.results31, go_sem]
  · have hq0 := hb 3
    simp at hq0
    by_cases h0 : 0 < f3
    · have hw : IntKind.i64.wrap (f3 - 1) = f3 - 1 := wrapI _ (by omega) (by omega)
      have hmx : max (f3 - 1) 0 = f3 - 1 := by omega
      go_enter Try.func31, Try.ntmps31
      go_wp2_with fail
      go_region
      all_goals go_wp2
      refine bodyPost_ret (v := .agg #[.int .i64 (f0), .int .i64 (f1), .int .i64 (f2), .int .i64 (f3 - 1), .int .i64 (f4), .int .i64 (f5), .int .i64 (f6), .int .i64 (f7), .int .i64 (f8), .int .i64 (f9)]) ?_ rfl ⟨f0, f1, f2, f3 - 1, f4, f5, f6, f7, f8, f9, rfl, by rw [HL.out]; simp [h0], ((((Below.refl _ _).alloc (Nat.le_refl _) _).alloc (by simp) _).alloc (by simp; omega) _).drew⟩
      simp [results, Try.results31, go_sem]
    · have he : f3 = 0 := by omega
      subst he
      go_enter Try.func31, Try.ntmps31
      go_wp2_with fail
      go_region
      all_goals go_wp2
      refine bodyPost_ret (v := .agg #[.int .i64 (f0), .int .i64 (f1), .int .i64 (f2), .int .i64 (0), .int .i64 (f4), .int .i64 (f5), .int .i64 (f6), .int .i64 (f7), .int .i64 (f8), .int .i64 (f9)]) ?_ rfl ⟨f0, f1, f2, 0, f4, f5, f6, f7, f8, f9, rfl, by rw [HL.out]; simp, ((((Below.refl _ _).alloc (Nat.le_refl _) _).alloc (by simp) _).alloc (by simp; omega) _).drew⟩
      simp [results, Try.results31, go_sem]
  · have hq0 := hb 4
    simp at hq0
    by_cases h0 : 0 < f4
    · have hw : IntKind.i64.wrap (f4 - 1) = f4 - 1 := wrapI _ (by omega) (by omega)
      have hmx : max (f4 - 1) 0 = f4 - 1 := by omega
      go_enter Try.func31, Try.ntmps31
      go_wp2_with fail
      go_region
      all_goals go_wp2
      refine bodyPost_ret (v := .agg #[.int .i64 (f0), .int .i64 (f1), .int .i64 (f2), .int .i64 (f3), .int .i64 (f4 - 1), .int .i64 (f5), .int .i64 (f6), .int .i64 (f7), .int .i64 (f8), .int .i64 (f9)]) ?_ rfl ⟨f0, f1, f2, f3, f4 - 1, f5, f6, f7, f8, f9, rfl, by rw [HL.out]; simp [h0], ((((Below.refl _ _).alloc (Nat.le_refl _) _).alloc (by simp) _).alloc (by simp; omega) _).drew⟩
      simp [results, Try.results31, go_sem]
    · have he : f4 = 0 := by omega
      subst he
      go_enter Try.func31, Try.ntmps31
      go_wp2_with fail
      go_region
      all_goals go_wp2
      refine bodyPost_ret (v := .agg #[.int .i64 (f0), .int .i64 (f1), .int .i64 (f2), .int .i64 (f3), .int .i64 (0), .int .i64 (f5), .int .i64 (f6), .int .i64 (f7), .int .i64 (f8), .int .i64 (f9)]) ?_ rfl ⟨f0, f1, f2, f3, 0, f5, f6, f7, f8, f9, rfl, by rw [HL.out]; simp, ((((Below.refl _ _).alloc (Nat.le_refl _) _).alloc (by simp) _).alloc (by simp; omega) _).drew⟩
      simp [results, Try.results31, go_sem]
  · have hq0 := hb 5
    simp at hq0
    by_cases h0 : 0 < f5
    · have hw : IntKind.i64.wrap (f5 - 1) = f5 - 1 := wrapI _ (by omega) (by omega)
      have hmx : max (f5 - 1) 0 = f5 - 1 := by omega
      go_enter Try.func31, Try.ntmps31
      go_wp2_with fail
      go_region
      all_goals go_wp2
      refine bodyPost_ret (v := .agg #[.int .i64 (f0), .int .i64 (f1), .int .i64 (f2), .int .i64 (f3), .int .i64 (f4), .int .i64 (f5 - 1), .int .i64 (f6), .int .i64 (f7), .int .i64 (f8), .int .i64 (f9)]) ?_ rfl ⟨f0, f1, f2, f3, f4, f5 - 1, f6, f7, f8, f9, rfl, by rw [HL.out]; simp [h0], ((((Below.refl _ _).alloc (Nat.le_refl _) _).alloc (by simp) _).alloc (by simp; omega) _).drew⟩
      simp [results, Try.results31, go_sem]
    · have he : f5 = 0 := by omega
      subst he
      go_enter Try.func31, Try.ntmps31
      go_wp2_with fail
      go_region
      all_goals go_wp2
      refine bodyPost_ret (v := .agg #[.int .i64 (f0), .int .i64 (f1), .int .i64 (f2), .int .i64 (f3), .int .i64 (f4), .int .i64 (0), .int .i64 (f6), .int .i64 (f7), .int .i64 (f8), .int .i64 (f9)]) ?_ rfl ⟨f0, f1, f2, f3, f4, 0, f6, f7, f8, f9, rfl, by rw [HL.out]; simp, ((((Below.refl _ _).alloc (Nat.le_refl _) _).alloc (by simp) _).alloc (by simp; omega) _).drew⟩
      simp [results, Try.results31, go_sem]
  · have hq0 := hb 6
    simp at hq0
    by_cases h0 : 0 < f6
    · have hw : IntKind.i64.wrap (f6 - 1) = f6 - 1 := wrapI _ (by omega) (by omega)
      have hmx : max (f6 - 1) 0 = f6 - 1 := by omega
      go_enter Try.func31, Try.ntmps31
      go_wp2_with fail
      go_region
      all_goals go_wp2
      refine bodyPost_ret (v := .agg #[.int .i64 (f0), .int .i64 (f1), .int .i64 (f2), .int .i64 (f3), .int .i64 (f4), .int .i64 (f5), .int .i64 (f6 - 1), .int .i64 (f7), .int .i64 (f8), .int .i64 (f9)]) ?_ rfl ⟨f0, f1, f2, f3, f4, f5, f6 - 1, f7, f8, f9, rfl, by rw [HL.out]; simp [h0], ((((Below.refl _ _).alloc (Nat.le_refl _) _).alloc (by simp) _).alloc (by simp; omega) _).drew⟩
      simp [results, Try.results31, go_sem]
    · have he : f6 = 0 := by omega
      subst he
      go_enter Try.func31, Try.ntmps31
      go_wp2_with fail
      go_region
      all_goals go_wp2
      refine bodyPost_ret (v := .agg #[.int .i64 (f0), .int .i64 (f1), .int .i64 (f2), .int .i64 (f3), .int .i64 (f4), .int .i64 (f5), .int .i64 (0), .int .i64 (f7), .int .i64 (f8), .int .i64 (f9)]) ?_ rfl ⟨f0, f1, f2, f3, f4, f5, 0, f7, f8, f9, rfl, by rw [HL.out]; simp, ((((Below.refl _ _).alloc (Nat.le_refl _) _).alloc (by simp) _).alloc (by simp; omega) _).drew⟩
      simp [results, Try.results31, go_sem]
  · have hq0 := hb 7
    simp at hq0
    by_cases h0 : 0 < f7
    · have hw : IntKind.i64.wrap (f7 - 1) = f7 - 1 := wrapI _ (by omega) (by omega)
      have hmx : max (f7 - 1) 0 = f7 - 1 := by omega
      go_enter Try.func31, Try.ntmps31
      go_wp2_with fail
      go_region
      all_goals go_wp2
      refine bodyPost_ret (v := .agg #[.int .i64 (f0), .int .i64 (f1), .int .i64 (f2), .int .i64 (f3), .int .i64 (f4), .int .i64 (f5), .int .i64 (f6), .int .i64 (f7 - 1), .int .i64 (f8), .int .i64 (f9)]) ?_ rfl ⟨f0, f1, f2, f3, f4, f5, f6, f7 - 1, f8, f9, rfl, by rw [HL.out]; simp [h0], ((((Below.refl _ _).alloc (Nat.le_refl _) _).alloc (by simp) _).alloc (by simp; omega) _).drew⟩
      simp [results, Try.results31, go_sem]
    · have he : f7 = 0 := by omega
      subst he
      go_enter Try.func31, Try.ntmps31
      go_wp2_with fail
      go_region
      all_goals go_wp2
      refine bodyPost_ret (v := .agg #[.int .i64 (f0), .int .i64 (f1), .int .i64 (f2), .int .i64 (f3), .int .i64 (f4), .int .i64 (f5), .int .i64 (f6), .int .i64 (0), .int .i64 (f8), .int .i64 (f9)]) ?_ rfl ⟨f0, f1, f2, f3, f4, f5, f6, 0, f8, f9, rfl, by rw [HL.out]; simp, ((((Below.refl _ _).alloc (Nat.le_refl _) _).alloc (by simp) _).alloc (by simp; omega) _).drew⟩
      simp [results, Try.results31, go_sem]
  · have hq0 := hb 8
    simp at hq0
    by_cases h0 : 0 < f8
    · have hw : IntKind.i64.wrap (f8 - 1) = f8 - 1 := wrapI _ (by omega) (by omega)
      have hmx : max (f8 - 1) 0 = f8 - 1 := by omega
      go_enter Try.func31, Try.ntmps31
      go_wp2_with fail
      go_region
      all_goals go_wp2
      refine bodyPost_ret (v := .agg #[.int .i64 (f0), .int .i64 (f1), .int .i64 (f2), .int .i64 (f3), .int .i64 (f4), .int .i64 (f5), .int .i64 (f6), .int .i64 (f7), .int .i64 (f8 - 1), .int .i64 (f9)]) ?_ rfl ⟨f0, f1, f2, f3, f4, f5, f6, f7, f8 - 1, f9, rfl, by rw [HL.out]; simp [h0], ((((Below.refl _ _).alloc (Nat.le_refl _) _).alloc (by simp) _).alloc (by simp; omega) _).drew⟩
      simp [results, Try.results31, go_sem]
    · have he : f8 = 0 := by omega
      subst he
      go_enter Try.func31, Try.ntmps31
      go_wp2_with fail
      go_region
      all_goals go_wp2
      refine bodyPost_ret (v := .agg #[.int .i64 (f0), .int .i64 (f1), .int .i64 (f2), .int .i64 (f3), .int .i64 (f4), .int .i64 (f5), .int .i64 (f6), .int .i64 (f7), .int .i64 (0), .int .i64 (f9)]) ?_ rfl ⟨f0, f1, f2, f3, f4, f5, f6, f7, 0, f9, rfl, by rw [HL.out]; simp, ((((Below.refl _ _).alloc (Nat.le_refl _) _).alloc (by simp) _).alloc (by simp; omega) _).drew⟩
      simp [results, Try.results31, go_sem]
  · have hq0 := hb 9
    simp at hq0
    by_cases h0 : 0 < f9
    · have hw : IntKind.i64.wrap (f9 - 1) = f9 - 1 := wrapI _ (by omega) (by omega)
      have hmx : max (f9 - 1) 0 = f9 - 1 := by omega
      go_enter Try.func31, Try.ntmps31
      go_wp2_with fail
      go_region
      all_goals go_wp2
      refine bodyPost_ret (v := .agg #[.int .i64 (f0), .int .i64 (f1), .int .i64 (f2), .int .i64 (f3), .int .i64 (f4), .int .i64 (f5), .int .i64 (f6), .int .i64 (f7), .int .i64 (f8), .int .i64 (f9 - 1)]) ?_ rfl ⟨f0, f1, f2, f3, f4, f5, f6, f7, f8, f9 - 1, rfl, by rw [HL.out]; simp [h0], ((((Below.refl _ _).alloc (Nat.le_refl _) _).alloc (by simp) _).alloc (by simp; omega) _).drew⟩
      simp [results, Try.results31, go_sem]
    · have he : f9 = 0 := by omega
      subst he
      go_enter Try.func31, Try.ntmps31
      go_wp2_with fail
      go_region
      all_goals go_wp2
      refine bodyPost_ret (v := .agg #[.int .i64 (f0), .int .i64 (f1), .int .i64 (f2), .int .i64 (f3), .int .i64 (f4), .int .i64 (f5), .int .i64 (f6), .int .i64 (f7), .int .i64 (f8), .int .i64 (0)]) ?_ rfl ⟨f0, f1, f2, f3, f4, f5, f6, f7, f8, 0, rfl, by rw [HL.out]; simp, ((((Below.refl _ _).alloc (Nat.le_refl _) _).alloc (by simp) _).alloc (by simp; omega) _).drew⟩
      simp [results, Try.results31, go_sem]
end Go.Proofs.Ytonhfgdnkkkikac
