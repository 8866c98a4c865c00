/-
  What flow.isWord, flow.isField and flow.CheckPacket answer.
-/
import Derived.Test.YtonhfgdnkkkikacPk
namespace Go.Proofs.Ytonhfgdnkkkikac
open Go.RowKit
set_option linter.unusedVariables false

set_option maxHeartbeats 400000 in
theorem fIsWord_any (n : Int) (w : World) :
    Calls Try.prog 56 #[.int .i64 n] w fun e w' => e = .returned (.bool (wordB n)) ∧ w' = w := by
  go_enter Try.func56, Try.ntmps56
  go_wp2
  all_goals go_ret
  all_goals refine ⟨bool_ret ?_, rfl⟩
  all_goals (unfold wordB; rw [Bool.eq_iff_iff]; simp_all; try omega)

set_option maxRecDepth 100000 in
set_option maxHeartbeats 2000000 in
theorem checkPacket_any (f0 f1 f2 f3 f4 f5 f6 f7 f8 f9 : Int) (body : ByteArray) (w : World) (hb : body.size ≤ maxLen) :
    Calls Try.prog 29 #[pkt f0 f1 f2 f3 f4 f5 f6 f7 f8 f9 body] w fun e w' => e = .returned (.int .i64 (pktFault [f0, f1, f2, f3, f4, f5, f6, f7, f8, f9] body.size)) ∧ Below w.heap.size w w' := by
  unfold maxLen at hb
  have i0 : ∀ w : World, (Instr.index 30 (.agg #[.int .i64 f0, .int .i64 f1, .int .i64 f2, .int .i64 f3, .int .i64 f4, .int .i64 f5, .int .i64 f6, .int .i64 f7, .int .i64 f8, .int .i64 f9]) (.int .i64 0)).run Try.prog w = .ok (.int .i64 f0) w := fun _ => by kernel_rfl
  have i1 : ∀ w : World, (Instr.index 30 (.agg #[.int .i64 f0, .int .i64 f1, .int .i64 f2, .int .i64 f3, .int .i64 f4, .int .i64 f5, .int .i64 f6, .int .i64 f7, .int .i64 f8, .int .i64 f9]) (.int .i64 1)).run Try.prog w = .ok (.int .i64 f1) w := fun _ => by kernel_rfl
  have i2 : ∀ w : World, (Instr.index 30 (.agg #[.int .i64 f0, .int .i64 f1, .int .i64 f2, .int .i64 f3, .int .i64 f4, .int .i64 f5, .int .i64 f6, .int .i64 f7, .int .i64 f8, .int .i64 f9]) (.int .i64 2)).run Try.prog w = .ok (.int .i64 f2) w := fun _ => by kernel_rfl
  have i3 : ∀ w : World, (Instr.index 30 (.agg #[.int .i64 f0, .int .i64 f1, .int .i64 f2, .int .i64 f3, .int .i64 f4, .int .i64 f5, .int .i64 f6, .int .i64 f7, .int .i64 f8, .int .i64 f9]) (.int .i64 3)).run Try.prog w = .ok (.int .i64 f3) w := fun _ => by kernel_rfl
  have i4 : ∀ w : World, (Instr.index 30 (.agg #[.int .i64 f0, .int .i64 f1, .int .i64 f2, .int .i64 f3, .int .i64 f4, .int .i64 f5, .int .i64 f6, .int .i64 f7, .int .i64 f8, .int .i64 f9]) (.int .i64 4)).run Try.prog w = .ok (.int .i64 f4) w := fun _ => by kernel_rfl
  have i5 : ∀ w : World, (Instr.index 30 (.agg #[.int .i64 f0, .int .i64 f1, .int .i64 f2, .int .i64 f3, .int .i64 f4, .int .i64 f5, .int .i64 f6, .int .i64 f7, .int .i64 f8, .int .i64 f9]) (.int .i64 5)).run Try.prog w = .ok (.int .i64 f5) w := fun _ => by kernel_rfl
  have i6 : ∀ w : World, (Instr.index 30 (.agg #[.int .i64 f0, .int .i64 f1, .int .i64 f2, .int .i64 f3, .int .i64 f4, .int .i64 f5, .int .i64 f6, .int .i64 f7, .int .i64 f8, .int .i64 f9]) (.int .i64 6)).run Try.prog w = .ok (.int .i64 f6) w := fun _ => by kernel_rfl
  have i7 : ∀ w : World, (Instr.index 30 (.agg #[.int .i64 f0, .int .i64 f1, .int .i64 f2, .int .i64 f3, .int .i64 f4, .int .i64 f5, .int .i64 f6, .int .i64 f7, .int .i64 f8, .int .i64 f9]) (.int .i64 7)).run Try.prog w = .ok (.int .i64 f7) w := fun _ => by kernel_rfl
  have i8 : ∀ w : World, (Instr.index 30 (.agg #[.int .i64 f0, .int .i64 f1, .int .i64 f2, .int .i64 f3, .int .i64 f4, .int .i64 f5, .int .i64 f6, .int .i64 f7, .int .i64 f8, .int .i64 f9]) (.int .i64 8)).run Try.prog w = .ok (.int .i64 f8) w := fun _ => by kernel_rfl
  have i9 : ∀ w : World, (Instr.index 30 (.agg #[.int .i64 f0, .int .i64 f1, .int .i64 f2, .int .i64 f3, .int .i64 f4, .int .i64 f5, .int .i64 f6, .int .i64 f7, .int .i64 f8, .int .i64 f9]) (.int .i64 9)).run Try.prog w = .ok (.int .i64 f9) w := fun _ => by kernel_rfl
  have HF : Hid (pktFault [f0, f1, f2, f3, f4, f5, f6, f7, f8, f9] body.size = if ([f0, f1, f2, f3, f4, f5, f6, f7, f8, f9] : List Int).all wordB then (if 40 < body.size then 1 else 0) else 2) := rfl
  generalize pktFault [f0, f1, f2, f3, f4, f5, f6, f7, f8, f9] body.size = R at HF ⊢
  go_enter Try.func29, Try.ntmps29
  go_wp2_with fail
  obtain ⟨w1, hw1⟩ : ∃ w1, w1 = w.alloc (.cells #[.int .i64 f0, .int .i64 f1, .int .i64 f2, .int .i64 f3, .int .i64 f4, .int .i64 f5, .int .i64 f6, .int .i64 f7, .int .i64 f8, .int .i64 f9, .string body] 32) := ⟨_, rfl⟩
  have hbel : Below w.heap.size w w1 := by rw [hw1]; exact (Below.refl _ _).alloc (Nat.le_refl _) _
  have hc10 : w1.cell? ⟨w.heap.size, 10, none⟩ = some (.string body) := by rw [hw1]; simp
  rw [← hw1]
  clear hw1
  go_loop [7] (fun i => ∃ k : Nat, k ≤ 10 ∧ i = .int .i64 k ∧ Hid ((([f0, f1, f2, f3, f4, f5, f6, f7, f8, f9] : List Int).take k).all wordB = true)) (fun i => 10 - (intOf i).toNat)
  case atStart => exact ⟨0, by omega, rfl, rfl⟩
  case round =>
    obtain ⟨k, hk, rfl, HA⟩ := hrel
    have hk5 : k = 0 ∨ k = 1 ∨ k = 2 ∨ k = 3 ∨ k = 4 ∨ k = 5 ∨ k = 6 ∨ k = 7 ∨ k = 8 ∨ k = 9 ∨ k = 10 := by omega
    rcases hk5 with rfl | rfl | rfl | rfl | rfl | rfl | rfl | rfl | rfl | rfl | rfl
    · by_cases hx : wordB f0 = true
      · go_wp2_with (go_at_call 56; refine (fIsWord_any _ _).mono ?_; rintro e w' ⟨rfl, rfl⟩)
        go_round
        case rel => exact ⟨1, by omega, rfl, hide (by simp [hx])⟩
        case measure => simp [intOf]
      · have hx' : wordB f0 = false := by simpa using hx
        clear hx
        go_wp2_with (go_at_call 56; refine (fIsWord_any _ _).mono ?_; rintro e w' ⟨rfl, rfl⟩)
        go_ret
        exact ⟨int_ret (by rw [HF.out]; simp [hx']), hbel⟩
    · by_cases hx : wordB f1 = true
      · go_wp2_with (go_at_call 56; refine (fIsWord_any _ _).mono ?_; rintro e w' ⟨rfl, rfl⟩)
        go_round
        case rel => exact ⟨2, by omega, rfl, hide (by have := HA.out; simp at this ⊢; simp [this, hx])⟩
        case measure => simp [intOf]
      · have hx' : wordB f1 = false := by simpa using hx
        clear hx
        go_wp2_with (go_at_call 56; refine (fIsWord_any _ _).mono ?_; rintro e w' ⟨rfl, rfl⟩)
        go_ret
        exact ⟨int_ret (by rw [HF.out]; simp [hx']), hbel⟩
    · by_cases hx : wordB f2 = true
      · go_wp2_with (go_at_call 56; refine (fIsWord_any _ _).mono ?_; rintro e w' ⟨rfl, rfl⟩)
        go_round
        case rel => exact ⟨3, by omega, rfl, hide (by have := HA.out; simp at this ⊢; simp [this, hx])⟩
        case measure => simp [intOf]
      · have hx' : wordB f2 = false := by simpa using hx
        clear hx
        go_wp2_with (go_at_call 56; refine (fIsWord_any _ _).mono ?_; rintro e w' ⟨rfl, rfl⟩)
        go_ret
        exact ⟨int_ret (by rw [HF.out]; simp [hx']), hbel⟩
    · by_cases hx : wordB f3 = true
      · go_wp2_with (go_at_call 56; refine (fIsWord_any _ _).mono ?_; rintro e w' ⟨rfl, rfl⟩)
        go_round
        case rel => exact ⟨4, by omega, rfl, hide (by have := HA.out; simp at this ⊢; simp [this, hx])⟩
        case measure => simp [intOf]
      · have hx' : wordB f3 = false := by simpa using hx
        clear hx
        go_wp2_with (go_at_call 56; refine (fIsWord_any _ _).mono ?_; rintro e w' ⟨rfl, rfl⟩)
        go_ret
        exact ⟨int_ret (by rw [HF.out]; simp [hx']), hbel⟩
    · by_cases hx : wordB f4 = true
      · go_wp2_with (go_at_call 56; refine (fIsWord_any _ _).mono ?_; rintro e w' ⟨rfl, rfl⟩)
        go_round
        case rel => exact ⟨5, by omega, rfl, hide (by have := HA.out; simp at this ⊢; simp [this, hx])⟩
        case measure => simp [intOf]
      · have hx' : wordB f4 = false := by simpa using hx
        clear hx
        go_wp2_with (go_at_call 56; refine (fIsWord_any _ _).mono ?_; rintro e w' ⟨rfl, rfl⟩)
        go_ret
        exact ⟨int_ret (by rw [HF.out]; simp [hx']), hbel⟩
    · by_cases hx : wordB f5 = true
      · go_wp2_with (go_at_call 56; refine (fIsWord_any _ _).mono ?_; rintro e w' ⟨rfl, rfl⟩)
        go_round
        case rel => exact ⟨6, by omega, rfl, hide (by have := HA.out; simp at this ⊢; simp [this, hx])⟩
        case measure => simp [intOf]
      · have hx' : wordB f5 = false := by simpa using hx
        clear hx
        go_wp2_with (go_at_call 56; refine (fIsWord_any _ _).mono ?_; rintro e w' ⟨rfl, rfl⟩)
        go_ret
        exact ⟨int_ret (by rw [HF.out]; simp [hx']), hbel⟩
    · by_cases hx : wordB f6 = true
      · go_wp2_with (go_at_call 56; refine (fIsWord_any _ _).mono ?_; rintro e w' ⟨rfl, rfl⟩)
        go_round
        case rel => exact ⟨7, by omega, rfl, hide (by have := HA.out; simp at this ⊢; simp [this, hx])⟩
        case measure => simp [intOf]
      · have hx' : wordB f6 = false := by simpa using hx
        clear hx
        go_wp2_with (go_at_call 56; refine (fIsWord_any _ _).mono ?_; rintro e w' ⟨rfl, rfl⟩)
        go_ret
        exact ⟨int_ret (by rw [HF.out]; simp [hx']), hbel⟩
    · by_cases hx : wordB f7 = true
      · go_wp2_with (go_at_call 56; refine (fIsWord_any _ _).mono ?_; rintro e w' ⟨rfl, rfl⟩)
        go_round
        case rel => exact ⟨8, by omega, rfl, hide (by have := HA.out; simp at this ⊢; simp [this, hx])⟩
        case measure => simp [intOf]
      · have hx' : wordB f7 = false := by simpa using hx
        clear hx
        go_wp2_with (go_at_call 56; refine (fIsWord_any _ _).mono ?_; rintro e w' ⟨rfl, rfl⟩)
        go_ret
        exact ⟨int_ret (by rw [HF.out]; simp [hx']), hbel⟩
    · by_cases hx : wordB f8 = true
      · go_wp2_with (go_at_call 56; refine (fIsWord_any _ _).mono ?_; rintro e w' ⟨rfl, rfl⟩)
        go_round
        case rel => exact ⟨9, by omega, rfl, hide (by have := HA.out; simp at this ⊢; simp [this, hx])⟩
        case measure => simp [intOf]
      · have hx' : wordB f8 = false := by simpa using hx
        clear hx
        go_wp2_with (go_at_call 56; refine (fIsWord_any _ _).mono ?_; rintro e w' ⟨rfl, rfl⟩)
        go_ret
        exact ⟨int_ret (by rw [HF.out]; simp [hx']), hbel⟩
    · by_cases hx : wordB f9 = true
      · go_wp2_with (go_at_call 56; refine (fIsWord_any _ _).mono ?_; rintro e w' ⟨rfl, rfl⟩)
        go_round
        case rel => exact ⟨10, by omega, rfl, hide (by have := HA.out; simp at this ⊢; simp [this, hx])⟩
        case measure => simp [intOf]
      · have hx' : wordB f9 = false := by simpa using hx
        clear hx
        go_wp2_with (go_at_call 56; refine (fIsWord_any _ _).mono ?_; rintro e w' ⟨rfl, rfl⟩)
        go_ret
        exact ⟨int_ret (by rw [HF.out]; simp [hx']), hbel⟩
    · have HL := hide (show ([f0, f1, f2, f3, f4, f5, f6, f7, f8, f9] : List Int).all wordB = true from by simpa using HA.out)
      by_cases h40 : 40 < body.size
      · go_wp2_with fail
        go_ret
        exact ⟨int_ret (by rw [HF.out, HL.out, if_pos rfl, if_pos h40]), hbel⟩
      · go_wp2_with fail
        go_ret
        exact ⟨int_ret (by rw [HF.out, HL.out, if_pos rfl, if_neg h40]), hbel⟩

end Go.Proofs.Ytonhfgdnkkkikac
