/-
  What the document's PacketFault answers.
-/
import Derived.Test.YtonhfgdnkkkikadPk
import Derived.Test.YtonhfgdnkkkikadRin
namespace Go.Proofs.Ytonhfgdnkkkikad
open Go.RowKit
set_option linter.unusedVariables false
set_option maxRecDepth 100000

set_option maxHeartbeats 1000000 in
theorem packetFault_any (f0 f1 f2 f3 f4 f5 f6 f7 f8 f9 : Int) (body : ByteArray) (w : World) (hb : body.size ≤ maxLen) :
    Calls Try.prog 20 #[pkt f0 f1 f2 f3 f4 f5 f6 f7 f8 f9 body] w fun e w' => e = .returned (.int .i64 (pktFault [f0, f1, f2, f3, f4, f5, f6, f7, f8, f9] body.size)) ∧ Below w.heap.size w w' := by
  unfold maxLen at hb
  have HA := hide (pkAt_new w 55 f0 f1 f2 f3 f4 f5 f6 f7 f8 f9 body)
  go_enter Try.func20, Try.ntmps20
  go_wp2_with fail
  obtain ⟨w1, hw1⟩ : ∃ w1, w1 = w.alloc (.cells #[.int .i64 f0, .int .i64 f1, .int .i64 f2, .int .i64 f3, .int .i64 f4, .int .i64 f5, .int .i64 f6, .int .i64 f7, .int .i64 f8, .int .i64 f9, .string body] 55) := ⟨_, rfl⟩
  have hbel : Below w.heap.size w w1 := by rw [hw1]; exact (Below.refl _ _).alloc (Nat.le_refl _) _
  rw [← hw1] at HA ⊢
  clear hw1
  obtain ⟨hl, hcell, hbody⟩ := HA.out
  clear HA
  obtain ⟨F, hF⟩ : ∃ F, F = [f0, f1, f2, f3, f4, f5, f6, f7, f8, f9] := ⟨_, rfl⟩
  rw [← hF] at hl hcell
  have HFd := hide hF
  clear hF
  go_loop [3] (fun i => ∃ k : Nat, k ≤ 10 ∧ i = .int .i64 k ∧ ∀ j, j < k → wordB (F.getD j 0) = true) (fun i => 10 - (intOf i).toNat)
  case atStart => exact ⟨0, by omega, rfl, fun j h => absurd h (by omega)⟩
  case round =>
    obtain ⟨k, hk, rfl, hall⟩ := hrel
    have HALL := hide hall
    clear hall
    by_cases hlt : k < 10
    · have hc := hcell k hlt
      have HN : Hid (F.all wordB = false ∨ wordB (F.getD k 0) = true) := by
        by_cases h : wordB (F.getD k 0) = true
        · exact .inr h
        · exact .inl (not_all_of F k (by omega) (by simpa using h))
      have HX : Hid (∀ j, j < k + 1 → wordB (F.getD k 0) = true → wordB (F.getD j 0) = true) := fun j h hx => by
        by_cases e : j = k
        · subst e; exact hx
        · exact HALL.out j (by omega)
      by_cases hx : wordB (F.getD k 0) = true
      · have HR : Hid (∀ j, j < k + 1 → wordB (F.getD j 0) = true) := fun j h => HX.out j h hx
        clear HN HX
        generalize F.getD k 0 = x at hc hx
        clear hcell
        go_wp2_with (go_at_call 31; refine (inWord_any _ _).mono ?_; rintro e w' ⟨rfl, rfl⟩)
        go_round
        case rel => exact ⟨k + 1, by omega, by go_num, HR.out⟩
        case measure => simp [intOf]; omega
      · have hx' : wordB (F.getD k 0) = false := by simpa using hx
        have HF : Hid (F.all wordB = false) := not_all_of F k (by omega) hx'
        clear HN HX hx
        generalize F.getD k 0 = x at hc hx'
        clear hcell
        go_wp2_with (go_at_call 31; refine (inWord_any _ _).mono ?_; rintro e w' ⟨rfl, rfl⟩)
        go_ret
        exact ⟨int_ret (by rw [← HFd.out]; unfold pktFault; rw [HF.out]; rfl), hbel⟩
    · have HF : Hid (F.all wordB = true) := all_of F k HALL.out (by omega)
      clear hcell HALL
      by_cases h40 : 40 < body.size
      · go_wp2_with fail
        go_ret
        exact ⟨int_ret (by rw [← HFd.out]; unfold pktFault; rw [HF.out, if_pos rfl, if_pos h40]), hbel⟩
      · go_wp2_with fail
        go_ret
        exact ⟨int_ret (by rw [← HFd.out]; unfold pktFault; rw [HF.out, if_pos rfl, if_neg h40]), hbel⟩

end Go.Proofs.Ytonhfgdnkkkikad
