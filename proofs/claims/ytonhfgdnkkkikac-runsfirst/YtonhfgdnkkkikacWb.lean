/-
  What wire.sum and wire.appendWord do.
-/
import Derived.Test.YtonhfgdnkkkikacWa
import Derived.Test.YtonhfgdnkkkikacPm
namespace Go.Proofs.Ytonhfgdnkkkikac
open Go.RowKit
set_option linter.unusedVariables false
set_option maxRecDepth 100000

set_option maxHeartbeats 1000000 in
theorem sum_any (b off len cap : Nat) (xs : List Int) (w : World) (hl : xs.length = len) (hx : Bs xs) (hs : len ≤ 100) (hlc : len ≤ cap)
    (hcell : ∀ i, i < len → w.cell? ⟨b, off + i, none⟩ = some (.int .u8 (xs.getD i 0))) :
    Calls Try.prog 60 #[.slice (some ⟨b, off, none⟩) len cap] w fun e w' => e = .returned (.int .i64 (sm xs)) ∧ w' = w := by
  go_enter Try.func60, Try.ntmps60
  go_wp2
  go_loop [3, 8] (fun t i => ∃ k : Nat, k ≤ len ∧ i = .int .i64 k ∧ t = .int .i64 (tot xs k)) (fun _ i => len - (intOf i).toNat)
  case atStart => exact ⟨0, Nat.zero_le _, rfl, rfl⟩
  case round =>
    obtain ⟨k, hk, rfl, rfl⟩ := hrel
    have ht := tot_bd hx k
    by_cases hlt : k < len
    · have hc := hcell k hlt
      have hb := hx.at k
      have HT : Hid (tot xs (k + 1) = tot xs k + wt k (xs.getD k 0)) := rfl
      clear hcell
      generalize xs.getD k 0 = c at hc hb HT
      obtain ⟨hb0, hb1⟩ := hb
      obtain ⟨ht0, ht1⟩ := ht
      rcases Nat.mod_two_eq_zero_or_one k with hm | hm
      · have hm' : ((k : Int) % 2 == 0) = true := by simp; omega
        go_wp2
        go_round
        case rel => exact ⟨k + 1, by omega, by go_num, by rw [HT.out]; unfold wt; rw [if_pos hm]; go_num⟩
        case measure => simp [intOf]; omega
      · have hm' : ((k : Int) % 2 == 0) = false := by simp; omega
        go_wp2
        go_round
        case rel => exact ⟨k + 1, by omega, by go_num, by rw [HT.out]; unfold wt; rw [if_neg (by omega)]⟩
        case measure => simp [intOf]; omega
    · have hkl : k = xs.length := by omega
      have HS : Hid (sm xs = 65535 - norm (tot xs k)) := by show _ = _; unfold sm; rw [hkl]
      have hT2 : tot xs k ≤ 6528000 := by omega
      obtain ⟨ht0, ht1⟩ := ht
      clear hcell hkl ht1 hx
      generalize tot xs k = T at *
      go_wp2
      go_loop [3] (fun t => ∃ S : Int, 0 ≤ S ∧ S ≤ 6528000 ∧ t = .int .i64 S ∧ norm S = norm T) (fun t => (intOf t).toNat)
      case atStart => exact ⟨T, ht0, hT2, rfl, rfl⟩
      case round =>
        obtain ⟨S, hS0, hS1, rfl, hN⟩ := hrel
        have HN : Hid (norm S = norm T) := hN
        clear hN
        by_cases hgt : 65535 < S
        · go_wp2
          go_round
          case rel => exact ⟨S % 65536 + S / 65536, by omega, by omega, by go_num, by rw [norm_carry S hgt]; exact HN.out⟩
          case measure => simp [intOf]; omega
        · go_wp2
          go_ret
          exact ⟨int_ret (by rw [HS.out, ← HN.out, norm_small S hS0 (by omega)]), rfl⟩

theorem infoByte : (Try.prog.info? 5).map (fun i => (i.zero, i.size, i.bytes)) = some (some (.int .u8 0), 1, 1) := by kernel_rfl

set_option maxHeartbeats 1000000 in
theorem appendWord_any (B : Nat) (v : Value) (xs : List Int) (x : Int) (w : World) (hown : w.ownsRow B 5 1 v xs.length (U xs)) (hx0 : 0 ≤ x) (hx1 : x ≤ 65535) (hl : xs.length ≤ 1000) (hB : B ≤ w.heap.size) :
    Calls Try.prog 59 #[v, .int .i64 x] w fun e w' => ∃ v', e = .returned v' ∧ w'.ownsRow B 5 1 v' (xs ++ word x).length (U (xs ++ word x)) ∧ Below B w w' := by
  obtain ⟨i0, hi, hz0, hz1, hz2⟩ := info_parts infoByte
  go_enter Try.func59, Try.ntmps59
  go_wp2_with (at_builtin; refine wpList_append_own _ rfl _ _ 72 rfl B 5 i0 (.int .u8 0) 1 1 Try.underlying72 hi hz0 hz1 hz2 rfl (by decide) _ _ _ rfl (hown.alloc _) ⟨w.heap.size, 0, none⟩ 2 2 (U (word x)) rfl rfl ?c1 ?c2 ?c3 ?c4 ?c5 ?_)
  case c1 =>
    intro j u hj
    match j, hj with
    | 0, hj => simp [U, word] at hj; subst hj; simp [Addr.add]
    | 1, hj => simp [U, word] at hj; subst hj; simp [Addr.add]
  case c2 => exact U_one _
  case c3 => unfold maxLen; omega
  case c4 => omega
  case c5 => simp; omega
  intro v' w1 hown' hgrow _
  have hbel : Below B w w1 := ((Below.refl B w).alloc hB _).grown hgrow (by simp; omega) (own_ge hown)
  have hown2 : w1.ownsRow B 5 1 v' (xs ++ word x).length (U (xs ++ word x)) := by rw [U_append, List.length_append]; exact hown'
  clear hown' hgrow hown
  go_wp2
  go_ret
  exact ⟨v', rfl, hown2, hbel⟩

end Go.Proofs.Ytonhfgdnkkkikac
