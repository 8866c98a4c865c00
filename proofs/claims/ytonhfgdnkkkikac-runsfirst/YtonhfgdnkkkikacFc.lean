/-
  What flow.changed answers.
-/
import Derived.Test.YtonhfgdnkkkikacFr
namespace Go.Proofs.Ytonhfgdnkkkikac
open Go.RowKit
set_option linter.unusedVariables false
set_option maxRecDepth 100000

set_option maxHeartbeats 8000000 in
theorem changedPut_any (f0 f1 f2 f3 f4 f5 f6 f7 f8 f9 : Int) (q : Nat) (n : Int) (w : World) (hq : q < 10) :
    Calls Try.prog 31 #[.agg #[.int .i64 f0, .int .i64 f1, .int .i64 f2, .int .i64 f3, .int .i64 f4, .int .i64 f5, .int .i64 f6, .int .i64 f7, .int .i64 f8, .int .i64 f9], .agg #[.int .i64 1, .int .i64 q, .int .i64 n]] w fun e w' => ∃ g0 g1 g2 g3 g4 g5 g6 g7 g8 g9 : Int, e = .returned (.agg #[.int .i64 g0, .int .i64 g1, .int .i64 g2, .int .i64 g3, .int .i64 g4, .int .i64 g5, .int .i64 g6, .int .i64 g7, .int .i64 g8, .int .i64 g9]) ∧ [g0, g1, g2, g3, g4, g5, g6, g7, g8, g9] = ([f0, f1, f2, f3, f4, f5, f6, f7, f8, f9] : List Int).set q (n) ∧ Below w.heap.size w w' := by
  obtain ⟨L, hL⟩ : ∃ L, L = ([f0, f1, f2, f3, f4, f5, f6, f7, f8, f9] : List Int).set q (n) := ⟨_, rfl⟩
  rw [← hL]
  have HL := hide hL
  clear hL
  have hc : q = 0 ∨ q = 1 ∨ q = 2 ∨ q = 3 ∨ q = 4 ∨ q = 5 ∨ q = 6 ∨ q = 7 ∨ q = 8 ∨ q = 9 := by omega
  rcases hc with rfl | rfl | rfl | rfl | rfl | rfl | rfl | rfl | rfl | rfl
  · go_enter Try.func31, Try.ntmps31
    go_wp2_with fail
    refine bodyPost_ret (v := .agg #[.int .i64 n, .int .i64 f1, .int .i64 f2, .int .i64 f3, .int .i64 f4, .int .i64 f5, .int .i64 f6, .int .i64 f7, .int .i64 f8, .int .i64 f9]) ?_ rfl ⟨n, f1, f2, f3, f4, f5, f6, f7, f8, f9, rfl, by rw [HL.out]; rfl, (((Below.refl _ _).alloc (Nat.le_refl _) _).alloc (by simp) _).alloc (by simp; omega) _⟩
    simp [results, Try.results31, go_sem]
  · go_enter Try.func31, Try.ntmps31
    go_wp2_with fail
    refine bodyPost_ret (v := .agg #[.int .i64 f0, .int .i64 n, .int .i64 f2, .int .i64 f3, .int .i64 f4, .int .i64 f5, .int .i64 f6, .int .i64 f7, .int .i64 f8, .int .i64 f9]) ?_ rfl ⟨f0, n, f2, f3, f4, f5, f6, f7, f8, f9, rfl, by rw [HL.out]; rfl, (((Below.refl _ _).alloc (Nat.le_refl _) _).alloc (by simp) _).alloc (by simp; omega) _⟩
    simp [results, Try.results31, go_sem]
  · go_enter Try.func31, Try.ntmps31
    go_wp2_with fail
    refine bodyPost_ret (v := .agg #[.int .i64 f0, .int .i64 f1, .int .i64 n, .int .i64 f3, .int .i64 f4, .int .i64 f5, .int .i64 f6, .int .i64 f7, .int .i64 f8, .int .i64 f9]) ?_ rfl ⟨f0, f1, n, f3, f4, f5, f6, f7, f8, f9, rfl, by rw [HL.out]; rfl, (((Below.refl _ _).alloc (Nat.le_refl _) _).alloc (by simp) _).alloc (by simp; omega) _⟩
    simp [results, Try.results31, go_sem]
  · go_enter Try.func31, Try.ntmps31
    go_wp2_with fail
    refine bodyPost_ret (v := .agg #[.int .i64 f0, .int .i64 f1, .int .i64 f2, .int .i64 n, .int .i64 f4, .int .i64 f5, .int .i64 f6, .int .i64 f7, .int .i64 f8, .int .i64 f9]) ?_ rfl ⟨f0, f1, f2, n, f4, f5, f6, f7, f8, f9, rfl, by rw [HL.out]; rfl, (((Below.refl _ _).alloc (Nat.le_refl _) _).alloc (by simp) _).alloc (by simp; omega) _⟩
    simp [results, Try.results31, go_sem]
  · go_enter Try.func31, Try.ntmps31
    go_wp2_with fail
    refine bodyPost_ret (v := .agg #[.int .i64 f0, .int .i64 f1, .int .i64 f2, .int .i64 f3, .int .i64 n, .int .i64 f5, .int .i64 f6, .int .i64 f7, .int .i64 f8, .int .i64 f9]) ?_ rfl ⟨f0, f1, f2, f3, n, f5, f6, f7, f8, f9, rfl, by rw [HL.out]; rfl, (((Below.refl _ _).alloc (Nat.le_refl _) _).alloc (by simp) _).alloc (by simp; omega) _⟩
    simp [results, Try.results31, go_sem]
  · go_enter Try.func31, Try.ntmps31
    go_wp2_with fail
    refine bodyPost_ret (v := .agg #[.int .i64 f0, .int .i64 f1, .int .i64 f2, .int .i64 f3, .int .i64 f4, .int .i64 n, .int .i64 f6, .int .i64 f7, .int .i64 f8, .int .i64 f9]) ?_ rfl ⟨f0, f1, f2, f3, f4, n, f6, f7, f8, f9, rfl, by rw [HL.out]; rfl, (((Below.refl _ _).alloc (Nat.le_refl _) _).alloc (by simp) _).alloc (by simp; omega) _⟩
    simp [results, Try.results31, go_sem]
  · go_enter Try.func31, Try.ntmps31
    go_wp2_with fail
    refine bodyPost_ret (v := .agg #[.int .i64 f0, .int .i64 f1, .int .i64 f2, .int .i64 f3, .int .i64 f4, .int .i64 f5, .int .i64 n, .int .i64 f7, .int .i64 f8, .int .i64 f9]) ?_ rfl ⟨f0, f1, f2, f3, f4, f5, n, f7, f8, f9, rfl, by rw [HL.out]; rfl, (((Below.refl _ _).alloc (Nat.le_refl _) _).alloc (by simp) _).alloc (by simp; omega) _⟩
    simp [results, Try.results31, go_sem]
  · go_enter Try.func31, Try.ntmps31
    go_wp2_with fail
    refine bodyPost_ret (v := .agg #[.int .i64 f0, .int .i64 f1, .int .i64 f2, .int .i64 f3, .int .i64 f4, .int .i64 f5, .int .i64 f6, .int .i64 n, .int .i64 f8, .int .i64 f9]) ?_ rfl ⟨f0, f1, f2, f3, f4, f5, f6, n, f8, f9, rfl, by rw [HL.out]; rfl, (((Below.refl _ _).alloc (Nat.le_refl _) _).alloc (by simp) _).alloc (by simp; omega) _⟩
    simp [results, Try.results31, go_sem]
  · go_enter Try.func31, Try.ntmps31
    go_wp2_with fail
    refine bodyPost_ret (v := .agg #[.int .i64 f0, .int .i64 f1, .int .i64 f2, .int .i64 f3, .int .i64 f4, .int .i64 f5, .int .i64 f6, .int .i64 f7, .int .i64 n, .int .i64 f9]) ?_ rfl ⟨f0, f1, f2, f3, f4, f5, f6, f7, n, f9, rfl, by rw [HL.out]; rfl, (((Below.refl _ _).alloc (Nat.le_refl _) _).alloc (by simp) _).alloc (by simp; omega) _⟩
    simp [results, Try.results31, go_sem]
  · go_enter Try.func31, Try.ntmps31
    go_wp2_with fail
    refine bodyPost_ret (v := .agg #[.int .i64 f0, .int .i64 f1, .int .i64 f2, .int .i64 f3, .int .i64 f4, .int .i64 f5, .int .i64 f6, .int .i64 f7, .int .i64 f8, .int .i64 n]) ?_ rfl ⟨f0, f1, f2, f3, f4, f5, f6, f7, f8, n, rfl, by rw [HL.out]; rfl, (((Below.refl _ _).alloc (Nat.le_refl _) _).alloc (by simp) _).alloc (by simp; omega) _⟩
    simp [results, Try.results31, go_sem]
end Go.Proofs.Ytonhfgdnkkkikac
