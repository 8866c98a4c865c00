/-
  What wire.wordAt, bodySize and checkBytes answer.
-/
import Derived.Test.YtgkdmmfogibbjabWb
import Derived.Laws.BitsLemmas
import Derived.Deep.QuietTactic
import Derived.BigQuiet
namespace Go.Proofs.Ytgkdmmfogibbjab
open Go.RowKit
set_option linter.unusedVariables false

theorem wrap_i64_small (n : Int) (h0 : 0 ≤ n) (h1 : n < 2 ^ 16) : IntKind.i64.wrap n = n := by
  simp [IntKind.wrap, IntKind.bits, IntKind.signed]
  split <;> omega
theorem or_word (p q : Int) (h0 : 0 ≤ p) (h1 : p ≤ 255) (h2 : 0 ≤ q) (h3 : q ≤ 255) : bits .or .i64 (p * 256) q = p * 256 + q :=
  bits_join .i64 16 (by decide) wrap_i64_small 8 (p * 256) q (by omega) (by omega) (by omega) h2 (by omega) (by omega)

/-- Bytes lie at a place of memory. -/
def Lies (w : World) (b off : Nat) (xs : List Int) : Prop := ∀ i, i < xs.length → w.cell? ⟨b, off + i, none⟩ = some (.int .u8 (xs.getD i 0))
/-- The byte at a place. -/
def bt (xs : List Int) (i : Nat) : Int := xs.getD i 0
/-- The word at a place. -/
def wd (xs : List Int) (i : Nat) : Int := xs.getD i 0 * 256 + xs.getD (i + 1) 0

set_option maxHeartbeats 1000000 in
theorem wordAt_any (b off len cap : Nat) (xs : List Int) (i : Int) (w : World) (hl : xs.length = len) (hx : Bs xs) (hm : len ≤ 140737488355328) (hlc : len ≤ cap) (hL : Lies w b off xs) (h0 : 0 ≤ i) (h1 : i + 1 < len) :
    Calls Try.prog 48 #[.slice (some ⟨b, off, none⟩) len cap, .int .i64 i] w fun e w' => e = .returned (.int .i64 (wd xs i.toNat)) ∧ ∃ n, w' = w.drewN n := by
  have c0 := hL i.toNat (by omega)
  have c1 := hL (i + 1).toNat (by omega)
  have b0 := hx.at i.toNat
  have b1 := hx.at (i + 1).toNat
  have HW : Hid (wd xs i.toNat = xs.getD i.toNat 0 * 256 + xs.getD (i + 1).toNat 0) := by show _ = _; unfold wd; rw [show (i + 1).toNat = i.toNat + 1 by omega]
  generalize xs.getD i.toNat 0 = p at c0 b0 HW
  generalize xs.getD (i + 1).toNat 0 = q at c1 b1 HW
  obtain ⟨p0, p1⟩ := b0
  obtain ⟨q0, q1⟩ := b1
  have hor := or_word p q p0 p1 q0 q1
  clear hL hx hl
  have h2 : i < len := by omega
  go_enter Try.func48, Try.ntmps48
  go_wp2
  go_quiet (fail)
  go_wp2
  go_ret
  exact ⟨int_ret HW.out.symm, _, rfl⟩

theorem Lies.drewN {w : World} {b off : Nat} {xs : List Int} (h : Lies w b off xs) (n : Nat) : Lies (w.drewN n) b off xs := fun i hi => by
  have := h i hi
  simpa using this
theorem Lies.take {w : World} {b off : Nat} {xs : List Int} (h : Lies w b off xs) (k : Nat) : Lies w b off (xs.take k) := fun i hi => by
  have hk : i < k ∧ i < xs.length := by rw [List.length_take] at hi; omega
  rw [h i hk.2]
  simp [hk.1]

set_option maxHeartbeats 1000000 in
theorem bodySize_any (b off len cap : Nat) (xs : List Int) (w : World) (hl : xs.length = len) (hx : Bs xs) (hm : len ≤ 140737488355328) (hlc : len ≤ cap) (hL : Lies w b off xs) (h1 : 16 ≤ len) :
    Calls Try.prog 47 #[.slice (some ⟨b, off, none⟩) len cap] w fun e w' => e = .returned (.int .i64 (wd xs 12)) ∧ ∃ n, w' = w.drewN n := by
  go_enter Try.func47, Try.ntmps47
  go_wp2_with fail
  refine (wordAt_any b off len cap xs 12 _ hl hx hm hlc hL (by omega) (by omega)).mono ?_
  rintro e w' ⟨rfl, n, rfl⟩
  go_wp2_with fail
  go_ret
  exact ⟨rfl, n, rfl⟩

/-- P1.4: what is wrong with bytes ahead of the frame that they tell. -/
def chk (xs : List Int) : Int :=
  if xs.length < 16 then 5 else if 40 < wd xs 12 then 1 else if (xs.length : Int) < 16 + wd xs 12 then 5 else if 16 + wd xs 12 < (xs.length : Int) then 4 else
    if wd xs (14 + (wd xs 12).toNat) ≠ sm (xs.take (14 + (wd xs 12).toNat)) then 10 else 0

theorem wd_bd {xs : List Int} (hx : Bs xs) (i : Nat) : 0 ≤ wd xs i ∧ wd xs i ≤ 65535 := by
  have h1 := hx.at i
  have h2 := hx.at (i + 1)
  unfold wd; omega

set_option maxHeartbeats 1000000 in
theorem checkBytes_short (a : Option Addr) (len cap : Nat) (w : World) (h : len < 16) :
    Calls Try.prog 24 #[.slice a len cap] w fun e w' => e = .returned (.int .i64 5) ∧ w' = w := by
  go_enter Try.func24, Try.ntmps24
  go_wp2
  go_ret
  exact ⟨rfl, rfl⟩

set_option maxHeartbeats 1000000 in
theorem checkBytes_any (b off len cap : Nat) (xs : List Int) (w : World) (hl : xs.length = len) (hx : Bs xs) (hm : len ≤ 140737488355328) (hlc : len ≤ cap) (hL : Lies w b off xs) (h1 : 16 ≤ len) :
    Calls Try.prog 24 #[.slice (some ⟨b, off, none⟩) len cap] w fun e w' => e = .returned (.int .i64 (chk xs)) ∧ ∃ n, w' = w.drewN n := by
  have hw := wd_bd hx 12
  have HCK : Hid (chk xs = if 40 < wd xs 12 then 1 else if (len : Int) < 16 + wd xs 12 then 5 else if 16 + wd xs 12 < (len : Int) then 4 else
    if wd xs (14 + (wd xs 12).toNat) ≠ sm (xs.take (14 + (wd xs 12).toNat)) then 10 else 0) := by
    show _ = _
    unfold chk
    rw [if_neg (by omega), hl]
  have HB := hide (fun w' (h : Lies w' b off xs) => bodySize_any b off len cap xs w' hl hx hm hlc h h1)
  obtain ⟨n, hn⟩ := Int.eq_ofNat_of_zero_le hw.1
  have hnb : n ≤ 65535 := by omega
  rw [hn] at HCK HB
  rw [Int.toNat_natCast] at HCK
  clear hw
  go_enter Try.func24, Try.ntmps24
  go_wp2_with fail
  refine (unhide HB _ hL).mono ?_
  rintro e w' ⟨rfl, m, rfl⟩
  have hL1 := hL.drewN m
  clear HB hL hn
  by_cases c1 : 40 < n
  · go_wp2
    go_ret
    exact ⟨int_ret (by rw [HCK.out, if_pos (by omega)]), m, rfl⟩
  · by_cases c2 : len < 16 + n
    · go_wp2
      go_ret
      exact ⟨int_ret (by rw [HCK.out, if_neg (by omega), if_pos (by omega)]), m, rfl⟩
    · by_cases c3 : 16 + n < len
      · go_wp2
        go_ret
        exact ⟨int_ret (by rw [HCK.out, if_neg (by omega), if_neg (by omega), if_pos (by omega)]), m, rfl⟩
      · have hT : (xs.take (14 + n)).length = 14 + n := by simp; omega
        have HT := hide hT
        clear hT
        have hT1 : 14 + n ≤ cap := by omega
        obtain ⟨w1, hw1⟩ : ∃ w1, w1 = w.drewN m := ⟨_, rfl⟩
        rw [← hw1] at hL1 ⊢
        have HW1 := hide hw1
        clear hw1
        go_wp2_with fail
        go_quiet ((first | (go_at_call 48; exact Calls.quiet_of (wordAt_any b off len cap xs _ _ hl hx hm hlc (hL1.drewN _) (by omega) (by omega))) | (go_at_call 28; exact Calls.quiet_of_same (sum_any b off (14 + n) cap (xs.take (14 + n)) _ HT.out (hx.take _) (by omega) hT1 (fun i hi => ((hL1.take (14 + n)).drewN _) i (by rw [HT.out]; exact hi))))))
        have hck : chk xs = if wd xs (14 + n) ≠ sm (xs.take (14 + n)) then 10 else 0 := by rw [HCK.out, if_neg (by omega), if_neg (by omega), if_neg (by omega)]
        have HK := hide hck
        clear hck HCK
        generalize wd xs (14 + n) = p at *
        generalize sm (xs.take (14 + n)) = q at *
        by_cases hpq : p = q
        · have hne : (p != q) = false := by simpa using hpq
          go_wp2
          go_ret
          exact ⟨int_ret (by rw [HK.out, if_neg (by simpa using hpq)]), m + nq, by rw [HW1.out, World.drewN_drewN]⟩
        · have hne : (p != q) = true := by simpa using hpq
          go_wp2
          go_ret
          exact ⟨int_ret (by rw [HK.out, if_pos hpq]), m + nq, by rw [HW1.out, World.drewN_drewN]⟩

end Go.Proofs.Ytgkdmmfogibbjab
