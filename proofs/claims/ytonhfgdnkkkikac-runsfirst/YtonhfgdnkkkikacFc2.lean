/-
  What flow.changed answers.
-/
import Derived.Test.YtonhfgdnkkkikacFr
namespace Go.Proofs.Ytonhfgdnkkkikac
open Go.RowKit
set_option linter.unusedVariables false
set_option maxRecDepth 100000

set_option maxHeartbeats 8000000 in
theorem changedCopy_any (f0 f1 f2 f3 f4 f5 f6 f7 f8 f9 : Int) (q : Nat) (m : Nat) (w : World) (hq : q < 10) (hm : m < 10) :
    Calls Try.prog 31 #[.agg #[.int .i64 f0, .int .i64 f1, .int .i64 f2, .int .i64 f3, .int .i64 f4, .int .i64 f5, .int .i64 f6, .int .i64 f7, .int .i64 f8, .int .i64 f9], .agg #[.int .i64 2, .int .i64 q, .int .i64 m]] w fun e w' => ∃ g0 g1 g2 g3 g4 g5 g6 g7 g8 g9 : Int, e = .returned (.agg #[.int .i64 g0, .int .i64 g1, .int .i64 g2, .int .i64 g3, .int .i64 g4, .int .i64 g5, .int .i64 g6, .int .i64 g7, .int .i64 g8, .int .i64 g9]) ∧ [g0, g1, g2, g3, g4, g5, g6, g7, g8, g9] = ([f0, f1, f2, f3, f4, f5, f6, f7, f8, f9] : List Int).set q (([f0, f1, f2, f3, f4, f5, f6, f7, f8, f9] : List Int).getD m 0) ∧ Below w.heap.size w w' := by
  have hcm := cells10 w 30 f0 f1 f2 f3 f4 f5 f6 f7 f8 f9 m hm
  have HX := hide (rfl : ([f0, f1, f2, f3, f4, f5, f6, f7, f8, f9] : List Int).getD m 0 = ([f0, f1, f2, f3, f4, f5, f6, f7, f8, f9] : List Int).getD m 0)
  obtain ⟨x, hx⟩ : ∃ x, x = ([f0, f1, f2, f3, f4, f5, f6, f7, f8, f9] : List Int).getD m 0 := ⟨_, rfl⟩
  rw [← hx] at hcm
  replace HX := hide hx.symm
  clear hx
  have hmi : (m : Int) < 10 := by omega
  have hxm : ∀ h, (([.int .i64 f0, .int .i64 f1, .int .i64 f2, .int .i64 f3, .int .i64 f4, .int .i64 f5, .int .i64 f6, .int .i64 f7, .int .i64 f8, .int .i64 f9] : List Value)[m]'h) = .int .i64 x := fun h => by
    have h2 := HX.out
    clear hcm HX hmi
    have hc : m = 0 ∨ m = 1 ∨ m = 2 ∨ m = 3 ∨ m = 4 ∨ m = 5 ∨ m = 6 ∨ m = 7 ∨ m = 8 ∨ m = 9 := by omega
    rcases hc with rfl | rfl | rfl | rfl | rfl | rfl | rfl | rfl | rfl | rfl
    all_goals (rw [← h2]; rfl)
  obtain ⟨L, hL⟩ : ∃ L, L = ([f0, f1, f2, f3, f4, f5, f6, f7, f8, f9] : List Int).set q (([f0, f1, f2, f3, f4, f5, f6, f7, f8, f9] : List Int).getD m 0) := ⟨_, rfl⟩
  rw [← hL]
  have HL := hide hL
  clear hL
  have hc : q = 0 ∨ q = 1 ∨ q = 2 ∨ q = 3 ∨ q = 4 ∨ q = 5 ∨ q = 6 ∨ q = 7 ∨ q = 8 ∨ q = 9 := by omega
  rcases hc with rfl | rfl | rfl | rfl | rfl | rfl | rfl | rfl | rfl | rfl
  · go_enter Try.func31, Try.ntmps31
    go_wp2_with fail
    go_region
    all_goals go_wp2
    refine bodyPost_ret (v := .agg #[.int .i64 x, .int .i64 f1, .int .i64 f2, .int .i64 f3, .int .i64 f4, .int .i64 f5, .int .i64 f6, .int .i64 f7, .int .i64 f8, .int .i64 f9]) ?_ rfl ⟨x, f1, f2, f3, f4, f5, f6, f7, f8, f9, rfl, by rw [HL.out, HX.out]; rfl, ((((Below.refl _ _).alloc (Nat.le_refl _) _).alloc (by simp) _).alloc (by simp; omega) _).drew⟩
    simp [results, Try.results31, go_sem]
  · go_enter Try.func31, Try.ntmps31
    go_wp2_with fail
    go_region
    all_goals go_wp2
    refine bodyPost_ret (v := .agg #[.int .i64 f0, .int .i64 x, .int .i64 f2, .int .i64 f3, .int .i64 f4, .int .i64 f5, .int .i64 f6, .int .i64 f7, .int .i64 f8, .int .i64 f9]) ?_ rfl ⟨f0, x, f2, f3, f4, f5, f6, f7, f8, f9, rfl, by rw [HL.out, HX.out]; rfl, ((((Below.refl _ _).alloc (Nat.le_refl _) _).alloc (by simp) _).alloc (by simp; omega) _).drew⟩
    simp [results, Try.results31, go_sem]
  · go_enter Try.func31, Try.ntmps31
    go_wp2_with fail
    go_region
    all_goals go_wp2
    refine bodyPost_ret (v := .agg #[.int .i64 f0, .int .i64 f1, .int .i64 x, .int .i64 f3, .int .i64 f4, .int .i64 f5, .int .i64 f6, .int .i64 f7, .int .i64 f8, .int .i64 f9]) ?_ rfl ⟨f0, f1, x, f3, f4, f5, f6, f7, f8, f9, rfl, by rw [HL.out, HX.out]; rfl, ((((Below.refl _ _).alloc (Nat.le_refl _) _).alloc (by simp) _).alloc (by simp; omega) _).drew⟩
    simp [results, Try.results31, go_sem]
  · go_enter Try.func31, Try.ntmps31
    go_wp2_with fail
    go_region
    all_goals go_wp2
    refine bodyPost_ret (v := .agg #[.int .i64 f0, .int .i64 f1, .int .i64 f2, .int .i64 x, .int .i64 f4, .int .i64 f5, .int .i64 f6, .int .i64 f7, .int .i64 f8, .int .i64 f9]) ?_ rfl ⟨f0, f1, f2, x, f4, f5, f6, f7, f8, f9, rfl, by rw [HL.out, HX.out]; rfl, ((((Below.refl _ _).alloc (Nat.le_refl _) _).alloc (by simp) _).alloc (by simp; omega) _).drew⟩
    simp [results, Try.results31, go_sem]
  · go_enter Try.func31, Try.ntmps31
    go_wp2_with fail
    go_region
    all_goals go_wp2
    refine bodyPost_ret (v := .agg #[.int .i64 f0, .int .i64 f1, .int .i64 f2, .int .i64 f3, .int .i64 x, .int .i64 f5, .int .i64 f6, .int .i64 f7, .int .i64 f8, .int .i64 f9]) ?_ rfl ⟨f0, f1, f2, f3, x, f5, f6, f7, f8, f9, rfl, by rw [HL.out, HX.out]; rfl, ((((Below.refl _ _).alloc (Nat.le_refl _) _).alloc (by simp) _).alloc (by simp; omega) _).drew⟩
    simp [results, Try.results31, go_sem]
  · go_enter Try.func31, Try.ntmps31
    go_wp2_with fail
    go_region
    all_goals go_wp2
    refine bodyPost_ret (v := .agg #[.int .i64 f0, .int .i64 f1, .int .i64 f2, .int .i64 f3, .int .i64 f4, .int .i64 x, .int .i64 f6, .int .i64 f7, .int .i64 f8, .int .i64 f9]) ?_ rfl ⟨f0, f1, f2, f3, f4, x, f6, f7, f8, f9, rfl, by rw [HL.out, HX.out]; rfl, ((((Below.refl _ _).alloc (Nat.le_refl _) _).alloc (by simp) _).alloc (by simp; omega) _).drew⟩
    simp [results, Try.results31, go_sem]
  · go_enter Try.func31, Try.ntmps31
    go_wp2_with fail
    go_region
    all_goals go_wp2
    refine bodyPost_ret (v := .agg #[.int .i64 f0, .int .i64 f1, .int .i64 f2, .int .i64 f3, .int .i64 f4, .int .i64 f5, .int .i64 x, .int .i64 f7, .int .i64 f8, .int .i64 f9]) ?_ rfl ⟨f0, f1, f2, f3, f4, f5, x, f7, f8, f9, rfl, by rw [HL.out, HX.out]; rfl, ((((Below.refl _ _).alloc (Nat.le_refl _) _).alloc (by simp) _).alloc (by simp; omega) _).drew⟩
    simp [results, Try.results31, go_sem]
  · go_enter Try.func31, Try.ntmps31
    go_wp2_with fail
    go_region
    all_goals go_wp2
    refine bodyPost_ret (v := .agg #[.int .i64 f0, .int .i64 f1, .int .i64 f2, .int .i64 f3, .int .i64 f4, .int .i64 f5, .int .i64 f6, .int .i64 x, .int .i64 f8, .int .i64 f9]) ?_ rfl ⟨f0, f1, f2, f3, f4, f5, f6, x, f8, f9, rfl, by rw [HL.out, HX.out]; rfl, ((((Below.refl _ _).alloc (Nat.le_refl _) _).alloc (by simp) _).alloc (by simp; omega) _).drew⟩
    simp [results, Try.results31, go_sem]
  · go_enter Try.func31, Try.ntmps31
    go_wp2_with fail
    go_region
    all_goals go_wp2
    refine bodyPost_ret (v := .agg #[.int .i64 f0, .int .i64 f1, .int .i64 f2, .int .i64 f3, .int .i64 f4, .int .i64 f5, .int .i64 f6, .int .i64 f7, .int .i64 x, .int .i64 f9]) ?_ rfl ⟨f0, f1, f2, f3, f4, f5, f6, f7, x, f9, rfl, by rw [HL.out, HX.out]; rfl, ((((Below.refl _ _).alloc (Nat.le_refl _) _).alloc (by simp) _).alloc (by simp; omega) _).drew⟩
    simp [results, Try.results31, go_sem]
  · go_enter Try.func31, Try.ntmps31
    go_wp2_with fail
    go_region
    all_goals go_wp2
    refine bodyPost_ret (v := .agg #[.int .i64 f0, .int .i64 f1, .int .i64 f2, .int .i64 f3, .int .i64 f4, .int .i64 f5, .int .i64 f6, .int .i64 f7, .int .i64 f8, .int .i64 x]) ?_ rfl ⟨f0, f1, f2, f3, f4, f5, f6, f7, f8, x, rfl, by rw [HL.out, HX.out]; rfl, ((((Below.refl _ _).alloc (Nat.le_refl _) _).alloc (by simp) _).alloc (by simp; omega) _).drew⟩
    simp [results, Try.results31, go_sem]
end Go.Proofs.Ytonhfgdnkkkikac
