/-
  What pipe.Frame and the law's framed answer.
-/
import Derived.Test.YtonhfgdnkkkikaePk
import Derived.Test.YtonhfgdnkkkikaeBb
namespace Go.Proofs.Ytonhfgdnkkkikae
open Go.RowKit
set_option linter.unusedVariables false
set_option maxRecDepth 100000

set_option maxHeartbeats 4000000 in
theorem framed_any (g0 g1 g2 g3 g4 g5 g6 g7 g8 g9 : Int) (body : ByteArray) (w : World) :
    Calls Try.prog 5 #[pkt g0 g1 g2 g3 g4 g5 g6 g7 g8 g9 body] w fun e w' => e = .returned (fr g1 g2 g3 g4 g5 g6 g7 body) ∧ Below w.heap.size w w' := by
  go_enter Try.func5, Try.ntmps5
  go_wp2_with fail
  refine bodyPost_ret (v := fr g1 g2 g3 g4 g5 g6 g7 body) ?_ rfl ⟨rfl, ?_⟩
  · simp [results, Try.results5, go_sem]
  · exact ((Below.refl _ _).alloc (Nat.le_refl _) _).alloc (by simp) _

set_option maxHeartbeats 4000000 in
theorem pFrame_any (g0 g1 g2 g3 g4 g5 g6 g7 g8 g9 : Int) (body : ByteArray) (w : World) (hb : body.size ≤ maxLen) :
    Calls Try.prog 4 #[pkt g0 g1 g2 g3 g4 g5 g6 g7 g8 g9 body] w fun e w' => e = .returned (.tuple #[if fault g1 g2 g3 g4 g5 g6 g7 body.size = 0 then fr g1 g2 g3 g4 g5 g6 g7 body else fr 0 0 0 0 0 0 0 ⟨#[]⟩, .int .i64 (fault g1 g2 g3 g4 g5 g6 g7 body.size)]) ∧ Below w.heap.size w w' := by
  have H1 := hide (fun W => check_any g1 g2 g3 g4 g5 g6 g7 body W hb)
  generalize fault g1 g2 g3 g4 g5 g6 g7 body.size = E at *
  go_enter Try.func4, Try.ntmps4
  go_wp2_with fail
  obtain ⟨W0, hW0⟩ : ∃ W0, W0 = ((w.alloc (.cells #[.int .i64 g0, .int .i64 g1, .int .i64 g2, .int .i64 g3, .int .i64 g4, .int .i64 g5, .int .i64 g6, .int .i64 g7, .int .i64 g8, .int .i64 g9, .string body] 24)).alloc (.cells #[.int .i64 0, .int .i64 0, .int .i64 0, .int .i64 0, .int .i64 0, .int .i64 0, .int .i64 0, .string ⟨#[]⟩] 26)).alloc (.cells #[.int .i64 g1, .int .i64 g2, .int .i64 g3, .int .i64 g4, .int .i64 g5, .int .i64 g6, .int .i64 g7, .string body] 26) := ⟨_, rfl⟩
  have k0 : Below w.heap.size w W0 := by rw [hW0]; exact (((Below.refl _ w).alloc (Nat.le_refl _) _).alloc (by simp) _).alloc (by simp; omega) _
  have hz0 : W0.heap.size = w.heap.size + 1 + 1 + 1 := by rw [hW0]; simp
  have r0 : W0.cell? ⟨w.heap.size + 1, 0, none⟩ = some (.int .i64 0) := by rw [hW0]; exact old_cell (new_cell _ _ (by simp) _ _ _ _ rfl) _
  have r1 : W0.cell? ⟨w.heap.size + 1, 1, none⟩ = some (.int .i64 0) := by rw [hW0]; exact old_cell (new_cell _ _ (by simp) _ _ _ _ rfl) _
  have r2 : W0.cell? ⟨w.heap.size + 1, 2, none⟩ = some (.int .i64 0) := by rw [hW0]; exact old_cell (new_cell _ _ (by simp) _ _ _ _ rfl) _
  have r3 : W0.cell? ⟨w.heap.size + 1, 3, none⟩ = some (.int .i64 0) := by rw [hW0]; exact old_cell (new_cell _ _ (by simp) _ _ _ _ rfl) _
  have r4 : W0.cell? ⟨w.heap.size + 1, 4, none⟩ = some (.int .i64 0) := by rw [hW0]; exact old_cell (new_cell _ _ (by simp) _ _ _ _ rfl) _
  have r5 : W0.cell? ⟨w.heap.size + 1, 5, none⟩ = some (.int .i64 0) := by rw [hW0]; exact old_cell (new_cell _ _ (by simp) _ _ _ _ rfl) _
  have r6 : W0.cell? ⟨w.heap.size + 1, 6, none⟩ = some (.int .i64 0) := by rw [hW0]; exact old_cell (new_cell _ _ (by simp) _ _ _ _ rfl) _
  have r7 : W0.cell? ⟨w.heap.size + 1, 7, none⟩ = some (.string ⟨#[]⟩) := by rw [hW0]; exact old_cell (new_cell _ _ (by simp) _ _ _ _ rfl) _
  have f0 : W0.cell? ⟨w.heap.size + 1 + 1, 0, none⟩ = some (.int .i64 g1) := by rw [hW0]; exact new_cell _ _ (by simp) _ _ _ _ rfl
  have f1 : W0.cell? ⟨w.heap.size + 1 + 1, 1, none⟩ = some (.int .i64 g2) := by rw [hW0]; exact new_cell _ _ (by simp) _ _ _ _ rfl
  have f2 : W0.cell? ⟨w.heap.size + 1 + 1, 2, none⟩ = some (.int .i64 g3) := by rw [hW0]; exact new_cell _ _ (by simp) _ _ _ _ rfl
  have f3 : W0.cell? ⟨w.heap.size + 1 + 1, 3, none⟩ = some (.int .i64 g4) := by rw [hW0]; exact new_cell _ _ (by simp) _ _ _ _ rfl
  have f4 : W0.cell? ⟨w.heap.size + 1 + 1, 4, none⟩ = some (.int .i64 g5) := by rw [hW0]; exact new_cell _ _ (by simp) _ _ _ _ rfl
  have f5 : W0.cell? ⟨w.heap.size + 1 + 1, 5, none⟩ = some (.int .i64 g6) := by rw [hW0]; exact new_cell _ _ (by simp) _ _ _ _ rfl
  have f6 : W0.cell? ⟨w.heap.size + 1 + 1, 6, none⟩ = some (.int .i64 g7) := by rw [hW0]; exact new_cell _ _ (by simp) _ _ _ _ rfl
  have f7 : W0.cell? ⟨w.heap.size + 1 + 1, 7, none⟩ = some (.string body) := by rw [hW0]; exact new_cell _ _ (by simp) _ _ _ _ rfl
  have z : ∀ j, W0.frozen? ⟨w.heap.size + 1, j, none⟩ = false := fun j => by rw [hW0]; exact old_frozen (by simp) (new_frozen _ _ (by simp) _ _ _) _
  rw [← hW0]
  clear hW0
  refine (unhide H1 _).mono ?_
  rintro e w1 ⟨rfl, hb1⟩
  have k1 := k0.trans (hb1.mono k0.size)
  replace r0 := cell_beh r0 hb1 (Nat.le_refl _)
  replace r1 := cell_beh r1 hb1 (Nat.le_refl _)
  replace r2 := cell_beh r2 hb1 (Nat.le_refl _)
  replace r3 := cell_beh r3 hb1 (Nat.le_refl _)
  replace r4 := cell_beh r4 hb1 (Nat.le_refl _)
  replace r5 := cell_beh r5 hb1 (Nat.le_refl _)
  replace r6 := cell_beh r6 hb1 (Nat.le_refl _)
  replace r7 := cell_beh r7 hb1 (Nat.le_refl _)
  replace f0 := cell_beh f0 hb1 (Nat.le_refl _)
  replace f1 := cell_beh f1 hb1 (Nat.le_refl _)
  replace f2 := cell_beh f2 hb1 (Nat.le_refl _)
  replace f3 := cell_beh f3 hb1 (Nat.le_refl _)
  replace f4 := cell_beh f4 hb1 (Nat.le_refl _)
  replace f5 := cell_beh f5 hb1 (Nat.le_refl _)
  replace f6 := cell_beh f6 hb1 (Nat.le_refl _)
  replace f7 := cell_beh f7 hb1 (Nat.le_refl _)
  replace z : ∀ j, w1.frozen? ⟨w.heap.size + 1, j, none⟩ = false := fun j => (hb1.frozen (p := ⟨w.heap.size + 1, j, none⟩) (by show w.heap.size + 1 < W0.heap.size; omega)).trans (z j)
  clear hb1 k0 H1 hz0
  by_cases hE : ¬ E = 0
  · clear f0 f1 f2 f3 f4 f5 f6 f7
    go_wp2_with fail
    have hS : ((((((((w1.setCell ⟨w.heap.size + 1, 0, none⟩ (.int .i64 0)).setCell ⟨w.heap.size + 1, 1, none⟩ (.int .i64 0)).setCell ⟨w.heap.size + 1, 2, none⟩ (.int .i64 0)).setCell ⟨w.heap.size + 1, 3, none⟩ (.int .i64 0)).setCell ⟨w.heap.size + 1, 4, none⟩ (.int .i64 0)).setCell ⟨w.heap.size + 1, 5, none⟩ (.int .i64 0)).setCell ⟨w.heap.size + 1, 6, none⟩ (.int .i64 0)).setCell ⟨w.heap.size + 1, 7, none⟩ (.string ⟨#[]⟩)) = w1.setCells (w.heap.size + 1) 0 [Value.int .i64 0, .int .i64 0, .int .i64 0, .int .i64 0, .int .i64 0, .int .i64 0, .int .i64 0, .string ⟨#[]⟩] := rfl
    have HB : Hid (Below w.heap.size w ((((((((w1.setCell ⟨w.heap.size + 1, 0, none⟩ (.int .i64 0)).setCell ⟨w.heap.size + 1, 1, none⟩ (.int .i64 0)).setCell ⟨w.heap.size + 1, 2, none⟩ (.int .i64 0)).setCell ⟨w.heap.size + 1, 3, none⟩ (.int .i64 0)).setCell ⟨w.heap.size + 1, 4, none⟩ (.int .i64 0)).setCell ⟨w.heap.size + 1, 5, none⟩ (.int .i64 0)).setCell ⟨w.heap.size + 1, 6, none⟩ (.int .i64 0)).setCell ⟨w.heap.size + 1, 7, none⟩ (.string ⟨#[]⟩))) := by rw [hS]; exact fill_below (Nat.le_succ _) _ _ _ (k1)
    have HI : Hid (∀ j, j < 8 → (w1.cell? ⟨w.heap.size + 1, j, none⟩).isSome = true) := fun j hj => by
      have hc : j = 0 ∨ j = 1 ∨ j = 2 ∨ j = 3 ∨ j = 4 ∨ j = 5 ∨ j = 6 ∨ j = 7 := by omega
      rcases hc with rfl | rfl | rfl | rfl | rfl | rfl | rfl | rfl
      · rw [r0]; rfl
      · rw [r1]; rfl
      · rw [r2]; rfl
      · rw [r3]; rfl
      · rw [r4]; rfl
      · rw [r5]; rfl
      · rw [r6]; rfl
      · rw [r7]; rfl
    have u0 : ((((((((w1.setCell ⟨w.heap.size + 1, 0, none⟩ (.int .i64 0)).setCell ⟨w.heap.size + 1, 1, none⟩ (.int .i64 0)).setCell ⟨w.heap.size + 1, 2, none⟩ (.int .i64 0)).setCell ⟨w.heap.size + 1, 3, none⟩ (.int .i64 0)).setCell ⟨w.heap.size + 1, 4, none⟩ (.int .i64 0)).setCell ⟨w.heap.size + 1, 5, none⟩ (.int .i64 0)).setCell ⟨w.heap.size + 1, 6, none⟩ (.int .i64 0)).setCell ⟨w.heap.size + 1, 7, none⟩ (.string ⟨#[]⟩)).cell? ⟨w.heap.size + 1, 0, none⟩ = some (.int .i64 0) := by rw [hS]; exact fill_at (vs := [Value.int .i64 0, .int .i64 0, .int .i64 0, .int .i64 0, .int .i64 0, .int .i64 0, .int .i64 0, .string ⟨#[]⟩]) HI.out rfl
    have u1 : ((((((((w1.setCell ⟨w.heap.size + 1, 0, none⟩ (.int .i64 0)).setCell ⟨w.heap.size + 1, 1, none⟩ (.int .i64 0)).setCell ⟨w.heap.size + 1, 2, none⟩ (.int .i64 0)).setCell ⟨w.heap.size + 1, 3, none⟩ (.int .i64 0)).setCell ⟨w.heap.size + 1, 4, none⟩ (.int .i64 0)).setCell ⟨w.heap.size + 1, 5, none⟩ (.int .i64 0)).setCell ⟨w.heap.size + 1, 6, none⟩ (.int .i64 0)).setCell ⟨w.heap.size + 1, 7, none⟩ (.string ⟨#[]⟩)).cell? ⟨w.heap.size + 1, 1, none⟩ = some (.int .i64 0) := by rw [hS]; exact fill_at (vs := [Value.int .i64 0, .int .i64 0, .int .i64 0, .int .i64 0, .int .i64 0, .int .i64 0, .int .i64 0, .string ⟨#[]⟩]) HI.out rfl
    have u2 : ((((((((w1.setCell ⟨w.heap.size + 1, 0, none⟩ (.int .i64 0)).setCell ⟨w.heap.size + 1, 1, none⟩ (.int .i64 0)).setCell ⟨w.heap.size + 1, 2, none⟩ (.int .i64 0)).setCell ⟨w.heap.size + 1, 3, none⟩ (.int .i64 0)).setCell ⟨w.heap.size + 1, 4, none⟩ (.int .i64 0)).setCell ⟨w.heap.size + 1, 5, none⟩ (.int .i64 0)).setCell ⟨w.heap.size + 1, 6, none⟩ (.int .i64 0)).setCell ⟨w.heap.size + 1, 7, none⟩ (.string ⟨#[]⟩)).cell? ⟨w.heap.size + 1, 2, none⟩ = some (.int .i64 0) := by rw [hS]; exact fill_at (vs := [Value.int .i64 0, .int .i64 0, .int .i64 0, .int .i64 0, .int .i64 0, .int .i64 0, .int .i64 0, .string ⟨#[]⟩]) HI.out rfl
    have u3 : ((((((((w1.setCell ⟨w.heap.size + 1, 0, none⟩ (.int .i64 0)).setCell ⟨w.heap.size + 1, 1, none⟩ (.int .i64 0)).setCell ⟨w.heap.size + 1, 2, none⟩ (.int .i64 0)).setCell ⟨w.heap.size + 1, 3, none⟩ (.int .i64 0)).setCell ⟨w.heap.size + 1, 4, none⟩ (.int .i64 0)).setCell ⟨w.heap.size + 1, 5, none⟩ (.int .i64 0)).setCell ⟨w.heap.size + 1, 6, none⟩ (.int .i64 0)).setCell ⟨w.heap.size + 1, 7, none⟩ (.string ⟨#[]⟩)).cell? ⟨w.heap.size + 1, 3, none⟩ = some (.int .i64 0) := by rw [hS]; exact fill_at (vs := [Value.int .i64 0, .int .i64 0, .int .i64 0, .int .i64 0, .int .i64 0, .int .i64 0, .int .i64 0, .string ⟨#[]⟩]) HI.out rfl
    have u4 : ((((((((w1.setCell ⟨w.heap.size + 1, 0, none⟩ (.int .i64 0)).setCell ⟨w.heap.size + 1, 1, none⟩ (.int .i64 0)).setCell ⟨w.heap.size + 1, 2, none⟩ (.int .i64 0)).setCell ⟨w.heap.size + 1, 3, none⟩ (.int .i64 0)).setCell ⟨w.heap.size + 1, 4, none⟩ (.int .i64 0)).setCell ⟨w.heap.size + 1, 5, none⟩ (.int .i64 0)).setCell ⟨w.heap.size + 1, 6, none⟩ (.int .i64 0)).setCell ⟨w.heap.size + 1, 7, none⟩ (.string ⟨#[]⟩)).cell? ⟨w.heap.size + 1, 4, none⟩ = some (.int .i64 0) := by rw [hS]; exact fill_at (vs := [Value.int .i64 0, .int .i64 0, .int .i64 0, .int .i64 0, .int .i64 0, .int .i64 0, .int .i64 0, .string ⟨#[]⟩]) HI.out rfl
    have u5 : ((((((((w1.setCell ⟨w.heap.size + 1, 0, none⟩ (.int .i64 0)).setCell ⟨w.heap.size + 1, 1, none⟩ (.int .i64 0)).setCell ⟨w.heap.size + 1, 2, none⟩ (.int .i64 0)).setCell ⟨w.heap.size + 1, 3, none⟩ (.int .i64 0)).setCell ⟨w.heap.size + 1, 4, none⟩ (.int .i64 0)).setCell ⟨w.heap.size + 1, 5, none⟩ (.int .i64 0)).setCell ⟨w.heap.size + 1, 6, none⟩ (.int .i64 0)).setCell ⟨w.heap.size + 1, 7, none⟩ (.string ⟨#[]⟩)).cell? ⟨w.heap.size + 1, 5, none⟩ = some (.int .i64 0) := by rw [hS]; exact fill_at (vs := [Value.int .i64 0, .int .i64 0, .int .i64 0, .int .i64 0, .int .i64 0, .int .i64 0, .int .i64 0, .string ⟨#[]⟩]) HI.out rfl
    have u6 : ((((((((w1.setCell ⟨w.heap.size + 1, 0, none⟩ (.int .i64 0)).setCell ⟨w.heap.size + 1, 1, none⟩ (.int .i64 0)).setCell ⟨w.heap.size + 1, 2, none⟩ (.int .i64 0)).setCell ⟨w.heap.size + 1, 3, none⟩ (.int .i64 0)).setCell ⟨w.heap.size + 1, 4, none⟩ (.int .i64 0)).setCell ⟨w.heap.size + 1, 5, none⟩ (.int .i64 0)).setCell ⟨w.heap.size + 1, 6, none⟩ (.int .i64 0)).setCell ⟨w.heap.size + 1, 7, none⟩ (.string ⟨#[]⟩)).cell? ⟨w.heap.size + 1, 6, none⟩ = some (.int .i64 0) := by rw [hS]; exact fill_at (vs := [Value.int .i64 0, .int .i64 0, .int .i64 0, .int .i64 0, .int .i64 0, .int .i64 0, .int .i64 0, .string ⟨#[]⟩]) HI.out rfl
    have u7 : ((((((((w1.setCell ⟨w.heap.size + 1, 0, none⟩ (.int .i64 0)).setCell ⟨w.heap.size + 1, 1, none⟩ (.int .i64 0)).setCell ⟨w.heap.size + 1, 2, none⟩ (.int .i64 0)).setCell ⟨w.heap.size + 1, 3, none⟩ (.int .i64 0)).setCell ⟨w.heap.size + 1, 4, none⟩ (.int .i64 0)).setCell ⟨w.heap.size + 1, 5, none⟩ (.int .i64 0)).setCell ⟨w.heap.size + 1, 6, none⟩ (.int .i64 0)).setCell ⟨w.heap.size + 1, 7, none⟩ (.string ⟨#[]⟩)).cell? ⟨w.heap.size + 1, 7, none⟩ = some (.string ⟨#[]⟩) := by rw [hS]; exact fill_at (vs := [Value.int .i64 0, .int .i64 0, .int .i64 0, .int .i64 0, .int .i64 0, .int .i64 0, .int .i64 0, .string ⟨#[]⟩]) HI.out rfl
    refine bodyPost_ret (v := .tuple #[.agg #[.int .i64 0, .int .i64 0, .int .i64 0, .int .i64 0, .int .i64 0, .int .i64 0, .int .i64 0, .string ⟨#[]⟩], .int .i64 E]) ?_ rfl ⟨by first | rfl | rw [if_neg hE], HB.out⟩
    clear HB HI hS r0 r1 r2 r3 r4 r5 r6 r7
    generalize ((((((((w1.setCell ⟨w.heap.size + 1, 0, none⟩ (.int .i64 0)).setCell ⟨w.heap.size + 1, 1, none⟩ (.int .i64 0)).setCell ⟨w.heap.size + 1, 2, none⟩ (.int .i64 0)).setCell ⟨w.heap.size + 1, 3, none⟩ (.int .i64 0)).setCell ⟨w.heap.size + 1, 4, none⟩ (.int .i64 0)).setCell ⟨w.heap.size + 1, 5, none⟩ (.int .i64 0)).setCell ⟨w.heap.size + 1, 6, none⟩ (.int .i64 0)).setCell ⟨w.heap.size + 1, 7, none⟩ (.string ⟨#[]⟩)) = W at *
    simp [results, Try.results4, go_sem, u0, u1, u2, u3, u4, u5, u6, u7]
  · have hE0 : E = 0 := by omega
    subst hE0
    clear hE
    go_wp2_with fail
    have hS : ((((((((w1.setCell ⟨w.heap.size + 1, 0, none⟩ (.int .i64 g1)).setCell ⟨w.heap.size + 1, 1, none⟩ (.int .i64 g2)).setCell ⟨w.heap.size + 1, 2, none⟩ (.int .i64 g3)).setCell ⟨w.heap.size + 1, 3, none⟩ (.int .i64 g4)).setCell ⟨w.heap.size + 1, 4, none⟩ (.int .i64 g5)).setCell ⟨w.heap.size + 1, 5, none⟩ (.int .i64 g6)).setCell ⟨w.heap.size + 1, 6, none⟩ (.int .i64 g7)).setCell ⟨w.heap.size + 1, 7, none⟩ (.string body)) = w1.setCells (w.heap.size + 1) 0 [Value.int .i64 g1, .int .i64 g2, .int .i64 g3, .int .i64 g4, .int .i64 g5, .int .i64 g6, .int .i64 g7, .string body] := rfl
    have HB : Hid (Below w.heap.size w ((((((((w1.setCell ⟨w.heap.size + 1, 0, none⟩ (.int .i64 g1)).setCell ⟨w.heap.size + 1, 1, none⟩ (.int .i64 g2)).setCell ⟨w.heap.size + 1, 2, none⟩ (.int .i64 g3)).setCell ⟨w.heap.size + 1, 3, none⟩ (.int .i64 g4)).setCell ⟨w.heap.size + 1, 4, none⟩ (.int .i64 g5)).setCell ⟨w.heap.size + 1, 5, none⟩ (.int .i64 g6)).setCell ⟨w.heap.size + 1, 6, none⟩ (.int .i64 g7)).setCell ⟨w.heap.size + 1, 7, none⟩ (.string body))) := by rw [hS]; exact fill_below (Nat.le_succ _) _ _ _ (k1)
    have HI : Hid (∀ j, j < 8 → (w1.cell? ⟨w.heap.size + 1, j, none⟩).isSome = true) := fun j hj => by
      have hc : j = 0 ∨ j = 1 ∨ j = 2 ∨ j = 3 ∨ j = 4 ∨ j = 5 ∨ j = 6 ∨ j = 7 := by omega
      rcases hc with rfl | rfl | rfl | rfl | rfl | rfl | rfl | rfl
      · rw [r0]; rfl
      · rw [r1]; rfl
      · rw [r2]; rfl
      · rw [r3]; rfl
      · rw [r4]; rfl
      · rw [r5]; rfl
      · rw [r6]; rfl
      · rw [r7]; rfl
    have u0 : ((((((((w1.setCell ⟨w.heap.size + 1, 0, none⟩ (.int .i64 g1)).setCell ⟨w.heap.size + 1, 1, none⟩ (.int .i64 g2)).setCell ⟨w.heap.size + 1, 2, none⟩ (.int .i64 g3)).setCell ⟨w.heap.size + 1, 3, none⟩ (.int .i64 g4)).setCell ⟨w.heap.size + 1, 4, none⟩ (.int .i64 g5)).setCell ⟨w.heap.size + 1, 5, none⟩ (.int .i64 g6)).setCell ⟨w.heap.size + 1, 6, none⟩ (.int .i64 g7)).setCell ⟨w.heap.size + 1, 7, none⟩ (.string body)).cell? ⟨w.heap.size + 1, 0, none⟩ = some (.int .i64 g1) := by rw [hS]; exact fill_at (vs := [Value.int .i64 g1, .int .i64 g2, .int .i64 g3, .int .i64 g4, .int .i64 g5, .int .i64 g6, .int .i64 g7, .string body]) HI.out rfl
    have u1 : ((((((((w1.setCell ⟨w.heap.size + 1, 0, none⟩ (.int .i64 g1)).setCell ⟨w.heap.size + 1, 1, none⟩ (.int .i64 g2)).setCell ⟨w.heap.size + 1, 2, none⟩ (.int .i64 g3)).setCell ⟨w.heap.size + 1, 3, none⟩ (.int .i64 g4)).setCell ⟨w.heap.size + 1, 4, none⟩ (.int .i64 g5)).setCell ⟨w.heap.size + 1, 5, none⟩ (.int .i64 g6)).setCell ⟨w.heap.size + 1, 6, none⟩ (.int .i64 g7)).setCell ⟨w.heap.size + 1, 7, none⟩ (.string body)).cell? ⟨w.heap.size + 1, 1, none⟩ = some (.int .i64 g2) := by rw [hS]; exact fill_at (vs := [Value.int .i64 g1, .int .i64 g2, .int .i64 g3, .int .i64 g4, .int .i64 g5, .int .i64 g6, .int .i64 g7, .string body]) HI.out rfl
    have u2 : ((((((((w1.setCell ⟨w.heap.size + 1, 0, none⟩ (.int .i64 g1)).setCell ⟨w.heap.size + 1, 1, none⟩ (.int .i64 g2)).setCell ⟨w.heap.size + 1, 2, none⟩ (.int .i64 g3)).setCell ⟨w.heap.size + 1, 3, none⟩ (.int .i64 g4)).setCell ⟨w.heap.size + 1, 4, none⟩ (.int .i64 g5)).setCell ⟨w.heap.size + 1, 5, none⟩ (.int .i64 g6)).setCell ⟨w.heap.size + 1, 6, none⟩ (.int .i64 g7)).setCell ⟨w.heap.size + 1, 7, none⟩ (.string body)).cell? ⟨w.heap.size + 1, 2, none⟩ = some (.int .i64 g3) := by rw [hS]; exact fill_at (vs := [Value.int .i64 g1, .int .i64 g2, .int .i64 g3, .int .i64 g4, .int .i64 g5, .int .i64 g6, .int .i64 g7, .string body]) HI.out rfl
    have u3 : ((((((((w1.setCell ⟨w.heap.size + 1, 0, none⟩ (.int .i64 g1)).setCell ⟨w.heap.size + 1, 1, none⟩ (.int .i64 g2)).setCell ⟨w.heap.size + 1, 2, none⟩ (.int .i64 g3)).setCell ⟨w.heap.size + 1, 3, none⟩ (.int .i64 g4)).setCell ⟨w.heap.size + 1, 4, none⟩ (.int .i64 g5)).setCell ⟨w.heap.size + 1, 5, none⟩ (.int .i64 g6)).setCell ⟨w.heap.size + 1, 6, none⟩ (.int .i64 g7)).setCell ⟨w.heap.size + 1, 7, none⟩ (.string body)).cell? ⟨w.heap.size + 1, 3, none⟩ = some (.int .i64 g4) := by rw [hS]; exact fill_at (vs := [Value.int .i64 g1, .int .i64 g2, .int .i64 g3, .int .i64 g4, .int .i64 g5, .int .i64 g6, .int .i64 g7, .string body]) HI.out rfl
    have u4 : ((((((((w1.setCell ⟨w.heap.size + 1, 0, none⟩ (.int .i64 g1)).setCell ⟨w.heap.size + 1, 1, none⟩ (.int .i64 g2)).setCell ⟨w.heap.size + 1, 2, none⟩ (.int .i64 g3)).setCell ⟨w.heap.size + 1, 3, none⟩ (.int .i64 g4)).setCell ⟨w.heap.size + 1, 4, none⟩ (.int .i64 g5)).setCell ⟨w.heap.size + 1, 5, none⟩ (.int .i64 g6)).setCell ⟨w.heap.size + 1, 6, none⟩ (.int .i64 g7)).setCell ⟨w.heap.size + 1, 7, none⟩ (.string body)).cell? ⟨w.heap.size + 1, 4, none⟩ = some (.int .i64 g5) := by rw [hS]; exact fill_at (vs := [Value.int .i64 g1, .int .i64 g2, .int .i64 g3, .int .i64 g4, .int .i64 g5, .int .i64 g6, .int .i64 g7, .string body]) HI.out rfl
    have u5 : ((((((((w1.setCell ⟨w.heap.size + 1, 0, none⟩ (.int .i64 g1)).setCell ⟨w.heap.size + 1, 1, none⟩ (.int .i64 g2)).setCell ⟨w.heap.size + 1, 2, none⟩ (.int .i64 g3)).setCell ⟨w.heap.size + 1, 3, none⟩ (.int .i64 g4)).setCell ⟨w.heap.size + 1, 4, none⟩ (.int .i64 g5)).setCell ⟨w.heap.size + 1, 5, none⟩ (.int .i64 g6)).setCell ⟨w.heap.size + 1, 6, none⟩ (.int .i64 g7)).setCell ⟨w.heap.size + 1, 7, none⟩ (.string body)).cell? ⟨w.heap.size + 1, 5, none⟩ = some (.int .i64 g6) := by rw [hS]; exact fill_at (vs := [Value.int .i64 g1, .int .i64 g2, .int .i64 g3, .int .i64 g4, .int .i64 g5, .int .i64 g6, .int .i64 g7, .string body]) HI.out rfl
    have u6 : ((((((((w1.setCell ⟨w.heap.size + 1, 0, none⟩ (.int .i64 g1)).setCell ⟨w.heap.size + 1, 1, none⟩ (.int .i64 g2)).setCell ⟨w.heap.size + 1, 2, none⟩ (.int .i64 g3)).setCell ⟨w.heap.size + 1, 3, none⟩ (.int .i64 g4)).setCell ⟨w.heap.size + 1, 4, none⟩ (.int .i64 g5)).setCell ⟨w.heap.size + 1, 5, none⟩ (.int .i64 g6)).setCell ⟨w.heap.size + 1, 6, none⟩ (.int .i64 g7)).setCell ⟨w.heap.size + 1, 7, none⟩ (.string body)).cell? ⟨w.heap.size + 1, 6, none⟩ = some (.int .i64 g7) := by rw [hS]; exact fill_at (vs := [Value.int .i64 g1, .int .i64 g2, .int .i64 g3, .int .i64 g4, .int .i64 g5, .int .i64 g6, .int .i64 g7, .string body]) HI.out rfl
    have u7 : ((((((((w1.setCell ⟨w.heap.size + 1, 0, none⟩ (.int .i64 g1)).setCell ⟨w.heap.size + 1, 1, none⟩ (.int .i64 g2)).setCell ⟨w.heap.size + 1, 2, none⟩ (.int .i64 g3)).setCell ⟨w.heap.size + 1, 3, none⟩ (.int .i64 g4)).setCell ⟨w.heap.size + 1, 4, none⟩ (.int .i64 g5)).setCell ⟨w.heap.size + 1, 5, none⟩ (.int .i64 g6)).setCell ⟨w.heap.size + 1, 6, none⟩ (.int .i64 g7)).setCell ⟨w.heap.size + 1, 7, none⟩ (.string body)).cell? ⟨w.heap.size + 1, 7, none⟩ = some (.string body) := by rw [hS]; exact fill_at (vs := [Value.int .i64 g1, .int .i64 g2, .int .i64 g3, .int .i64 g4, .int .i64 g5, .int .i64 g6, .int .i64 g7, .string body]) HI.out rfl
    refine bodyPost_ret (v := .tuple #[.agg #[.int .i64 g1, .int .i64 g2, .int .i64 g3, .int .i64 g4, .int .i64 g5, .int .i64 g6, .int .i64 g7, .string body], .int .i64 0]) ?_ rfl ⟨rfl, HB.out⟩
    clear HB HI hS r0 r1 r2 r3 r4 r5 r6 r7
    generalize ((((((((w1.setCell ⟨w.heap.size + 1, 0, none⟩ (.int .i64 g1)).setCell ⟨w.heap.size + 1, 1, none⟩ (.int .i64 g2)).setCell ⟨w.heap.size + 1, 2, none⟩ (.int .i64 g3)).setCell ⟨w.heap.size + 1, 3, none⟩ (.int .i64 g4)).setCell ⟨w.heap.size + 1, 4, none⟩ (.int .i64 g5)).setCell ⟨w.heap.size + 1, 5, none⟩ (.int .i64 g6)).setCell ⟨w.heap.size + 1, 6, none⟩ (.int .i64 g7)).setCell ⟨w.heap.size + 1, 7, none⟩ (.string body)) = W at *
    simp [results, Try.results4, go_sem, u0, u1, u2, u3, u4, u5, u6, u7]

end Go.Proofs.Ytonhfgdnkkkikae
