/-
  What the document's FrameFault answers, for every frame: the number 'fault'.
-/
import Derived.Test.YtonhfgdnkkkikaeRin
namespace Go.Proofs.Ytonhfgdnkkkikae
set_option linter.unusedVariables false
set_option maxRecDepth 100000
open Go.RowKit

set_option maxHeartbeats 1000000 in
theorem frameFault_any (dst src kind ips ipd ttl port : Int) (body : ByteArray) (w : World) (hb : body.size ≤ maxLen) :
    Calls Try.prog 6 #[fr dst src kind ips ipd ttl port body] w fun e w' => e = .returned (.int .i64 (fault dst src kind ips ipd ttl port body.size)) ∧ Below w.heap.size w w' := by
  unfold maxLen at hb
  by_cases hk : kindB kind = true
  · go_enter Try.func6, Try.ntmps6
    go_wp2_with fail
    refine (inKind_any _ _).mono ?_
    rintro e w' ⟨rfl, rfl⟩
    go_wp2_with fail
    go_loop [4] (fun i => ∃ k : Nat, k ≤ 5 ∧ i = .int .i64 k ∧ (1 ≤ k → wordB dst = true) ∧ (2 ≤ k → wordB src = true) ∧ (3 ≤ k → wordB ips = true) ∧ (4 ≤ k → wordB ipd = true) ∧ (5 ≤ k → wordB port = true)) (fun i => 5 - (intOf i).toNat)
    case atStart => exact ⟨0, by omega, rfl, fun h => absurd h (by omega), fun h => absurd h (by omega), fun h => absurd h (by omega), fun h => absurd h (by omega), fun h => absurd h (by omega)⟩
    case round =>
      obtain ⟨k, hk5, rfl, h0, h1, h2, h3, h4⟩ := hrel
      have hcase : k = 0 ∨ k = 1 ∨ k = 2 ∨ k = 3 ∨ k = 4 ∨ k = 5 := by omega
      rcases hcase with rfl | rfl | rfl | rfl | rfl | rfl
      · by_cases hx : wordB dst = true
        · go_wp2_with (go_at_call 8; refine (inWord_any _ _).mono ?_; rintro e w' ⟨rfl, rfl⟩)
          go_round
          case rel => exact ⟨1, by omega, rfl, fun _ => hx, fun h => absurd h (by omega), fun h => absurd h (by omega), fun h => absurd h (by omega), fun h => absurd h (by omega)⟩
          case measure => simp [intOf]
        · have hx' : wordB dst = false := by simpa using hx
          clear hx
          go_wp2_with (go_at_call 8; refine (inWord_any _ _).mono ?_; rintro e w' ⟨rfl, rfl⟩)
          go_ret
          exact ⟨int_ret (by unfold fault boundsB; simp [hk, hx']), ((Below.refl _ _).alloc (Nat.le_refl _) _).alloc (by simp) _⟩
      · by_cases hx : wordB src = true
        · go_wp2_with (go_at_call 8; refine (inWord_any _ _).mono ?_; rintro e w' ⟨rfl, rfl⟩)
          go_round
          case rel => exact ⟨2, by omega, rfl, fun _ => h0 (by omega), fun _ => hx, fun h => absurd h (by omega), fun h => absurd h (by omega), fun h => absurd h (by omega)⟩
          case measure => simp [intOf]
        · have hx' : wordB src = false := by simpa using hx
          clear hx
          go_wp2_with (go_at_call 8; refine (inWord_any _ _).mono ?_; rintro e w' ⟨rfl, rfl⟩)
          go_ret
          exact ⟨int_ret (by unfold fault boundsB; simp [hk, hx']), ((Below.refl _ _).alloc (Nat.le_refl _) _).alloc (by simp) _⟩
      · by_cases hx : wordB ips = true
        · go_wp2_with (go_at_call 8; refine (inWord_any _ _).mono ?_; rintro e w' ⟨rfl, rfl⟩)
          go_round
          case rel => exact ⟨3, by omega, rfl, fun _ => h0 (by omega), fun _ => h1 (by omega), fun _ => hx, fun h => absurd h (by omega), fun h => absurd h (by omega)⟩
          case measure => simp [intOf]
        · have hx' : wordB ips = false := by simpa using hx
          clear hx
          go_wp2_with (go_at_call 8; refine (inWord_any _ _).mono ?_; rintro e w' ⟨rfl, rfl⟩)
          go_ret
          exact ⟨int_ret (by unfold fault boundsB; simp [hk, hx']), ((Below.refl _ _).alloc (Nat.le_refl _) _).alloc (by simp) _⟩
      · by_cases hx : wordB ipd = true
        · go_wp2_with (go_at_call 8; refine (inWord_any _ _).mono ?_; rintro e w' ⟨rfl, rfl⟩)
          go_round
          case rel => exact ⟨4, by omega, rfl, fun _ => h0 (by omega), fun _ => h1 (by omega), fun _ => h2 (by omega), fun _ => hx, fun h => absurd h (by omega)⟩
          case measure => simp [intOf]
        · have hx' : wordB ipd = false := by simpa using hx
          clear hx
          go_wp2_with (go_at_call 8; refine (inWord_any _ _).mono ?_; rintro e w' ⟨rfl, rfl⟩)
          go_ret
          exact ⟨int_ret (by unfold fault boundsB; simp [hk, hx']), ((Below.refl _ _).alloc (Nat.le_refl _) _).alloc (by simp) _⟩
      · by_cases hx : wordB port = true
        · go_wp2_with (go_at_call 8; refine (inWord_any _ _).mono ?_; rintro e w' ⟨rfl, rfl⟩)
          go_round
          case rel => exact ⟨5, by omega, rfl, fun _ => h0 (by omega), fun _ => h1 (by omega), fun _ => h2 (by omega), fun _ => h3 (by omega), fun _ => hx⟩
          case measure => simp [intOf]
        · have hx' : wordB port = false := by simpa using hx
          clear hx
          go_wp2_with (go_at_call 8; refine (inWord_any _ _).mono ?_; rintro e w' ⟨rfl, rfl⟩)
          go_ret
          exact ⟨int_ret (by unfold fault boundsB; simp [hk, hx']), ((Below.refl _ _).alloc (Nat.le_refl _) _).alloc (by simp) _⟩
      · have g0 := h0 (by omega)
        have g1 := h1 (by omega)
        have g2 := h2 (by omega)
        have g3 := h3 (by omega)
        have g4 := h4 (by omega)
        clear h0 h1 h2 h3 h4
        have HB : Hid (boundsB dst src ips ipd ttl port = lifeB ttl) := by show _ = _; unfold boundsB; simp [g0, g1, g2, g3, g4]
        have hp0 : 0 ≤ port := by unfold wordB at g4; simp at g4; omega
        have ht0 : lifeB ttl = true → 0 ≤ ttl := by unfold lifeB; simp; omega
        clear g0 g1 g2 g3 g4
        go_wp2_with (go_at_call 8; refine (inLife_any _ _).mono ?_; rintro e w' ⟨rfl, rfl⟩)
        all_goals go_ret
        all_goals refine ⟨int_ret ?_, ((Below.refl _ _).alloc (Nat.le_refl _) _).alloc (by simp) _⟩
        all_goals (go_light; unfold fault; rw [HB.out]; clear HB; unfold loadB; generalize body.size = n at *; simp_all; try (repeat' split) <;> omega)
  · have hk' : kindB kind = false := by simpa using hk
    clear hk
    go_enter Try.func6, Try.ntmps6
    go_wp2_with fail
    refine (inKind_any _ _).mono ?_
    rintro e w' ⟨rfl, rfl⟩
    go_wp2_with fail
    go_ret
    exact ⟨int_ret (by unfold fault; rw [hk']; rfl), (Below.refl _ _).alloc (Nat.le_refl _) _⟩


end Go.Proofs.Ytonhfgdnkkkikae
