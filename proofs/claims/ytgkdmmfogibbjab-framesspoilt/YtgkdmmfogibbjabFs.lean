/-
  Plain mathematics: a frame's bytes of which one is another are not read.
-/
import Derived.Test.YtgkdmmfogibbjabFm
namespace Go.Proofs.Ytgkdmmfogibbjab
open Go.RowKit
set_option linter.unusedVariables false
set_option maxRecDepth 100000

theorem getD_set (xs : List Int) (k i : Nat) (y : Int) (hk : k < xs.length) : (xs.set k y).getD i 0 = if i = k then y else xs.getD i 0 := by
  simp only [List.getD, List.getElem?_set]
  by_cases h : i = k
  · subst h; simp [hk]
  · simp [h, Ne.symm h]

theorem tot_set (xs : List Int) (k : Nat) (y : Int) (hk : k < xs.length) : ∀ m, tot (xs.set k y) m = tot xs m + (if k < m then wt k y - wt k (xs.getD k 0) else 0)
  | 0 => by simp [tot]
  | m + 1 => by
    have ih := tot_set xs k y hk m
    simp only [tot]
    rw [ih, getD_set xs k m y hk]
    by_cases h : m = k
    · subst h
      rw [if_pos rfl, if_neg (by omega), if_pos (by omega)]
      omega
    · rw [if_neg h]
      by_cases h1 : k < m
      · rw [if_pos h1, if_pos (by omega)]; omega
      · rw [if_neg h1, if_neg (by omega)]; omega

theorem tot_take (xs : List Int) (m : Nat) : ∀ j, j ≤ m → tot (xs.take m) j = tot xs j
  | 0, _ => rfl
  | j + 1, h => by
    simp only [tot]
    rw [tot_take xs m j (by omega)]
    have : (xs.take m).getD j 0 = xs.getD j 0 := by simp [show j < m by omega]
    rw [this]

theorem sm_take (xs : List Int) (m : Nat) (h : m ≤ xs.length) : sm (xs.take m) = 65535 - norm (tot xs m) := by
  unfold sm
  rw [List.length_take, show min m xs.length = m by omega, tot_take xs m m (Nat.le_refl _)]

theorem norm_ne (T D : Int) (hT : 0 < T) (hS : 0 ≤ T + D) (h1 : D ≠ 0) (h2 : -65280 ≤ D) (h3 : D ≤ 65280) : norm (T + D) ≠ norm T := by
  unfold norm
  by_cases h0 : T + D = 0
  · rw [if_pos h0, if_neg (by omega)]; omega
  · rw [if_neg h0, if_neg (by omega)]; omega

theorem wt_diff (k : Nat) (y z : Int) (h : y ≠ z) (hy0 : 0 ≤ y) (hy1 : y ≤ 255) (hz0 : 0 ≤ z) (hz1 : z ≤ 255) : wt k y - wt k z ≠ 0 ∧ -65280 ≤ wt k y - wt k z ∧ wt k y - wt k z ≤ 65280 := by
  unfold wt; split <;> omega

theorem Bs.set {xs : List Int} (h : Bs xs) (k : Nat) (y : Int) (h0 : 0 ≤ y) (h1 : y ≤ 255) : Bs (xs.set k y) := fun n hn => by
  rcases List.mem_or_eq_of_mem_set hn with h' | h'
  · exact h n h'
  · subst h'; exact ⟨h0, h1⟩

theorem tot_ge (xs : List Int) (h : Bs xs) (m j : Nat) (hj : m ≤ j) : tot xs m ≤ tot xs j := by
  induction j with
  | zero => have : m = 0 := by omega
            subst this; exact Int.le_refl _
  | succ j ih =>
    by_cases he : m = j + 1
    · subst he; exact Int.le_refl _
    · have h1 := ih (by omega)
      have h2 := h.at j
      have h3 := wt_bd j _ h2.1 h2.2
      simp only [tot]; omega

/-- Of which a byte is another one: not read. -/
theorem chk_set {xs : List Int} (hx : Bs xs) (hc : chk xs = 0) (hpos : 0 < tot xs 14) (k : Nat) (y : Int) (hk : k < xs.length) (h0 : 0 ≤ y) (h1 : y ≤ 255) (hne : y ≠ xs.getD k 0) : chk (xs.set k y) ≠ 0 := by
  intro hc'
  obtain ⟨a1, a2, a3, a4⟩ := chk_zero hx hc
  obtain ⟨b1, b2, b3, b4⟩ := chk_zero (hx.set k y h0 h1) hc'
  have w1 := wd_bd hx 12
  have w2 := wd_bd (hx.set k y h0 h1) 12
  rw [List.length_set] at b1 b3
  have hw : wd (xs.set k y) 12 = wd xs 12 := by omega
  rw [hw] at b4
  generalize hn : (wd xs 12).toNat = n at *
  have hb := hx.at k
  rw [sm_take _ _ (by rw [List.length_set]; omega)] at b4
  rw [sm_take _ _ (by omega)] at a4
  rw [tot_set xs k y hk] at b4
  have hd := wt_diff k y (xs.getD k 0) hne h0 h1 hb.1 hb.2
  by_cases hk1 : k < 14 + n
  · rw [if_pos hk1] at b4
    have hq : wd (xs.set k y) (14 + n) = wd xs (14 + n) := by
      unfold wd
      rw [getD_set xs k (14 + n) y hk, getD_set xs k (14 + n + 1) y hk, if_neg (by omega), if_neg (by omega)]
    rw [hq, a4] at b4
    have ht := tot_ge xs hx 14 (14 + n) (by omega)
    have hT := tot_bd (hx.set k y h0 h1) (14 + n)
    rw [tot_set xs k y hk, if_pos hk1] at hT
    have := norm_ne (tot xs (14 + n)) (wt k y - wt k (xs.getD k 0)) (by omega) hT.1 hd.1 hd.2.1 hd.2.2
    omega
  · rw [if_neg hk1, Int.add_zero, ← a4] at b4
    unfold wd at b4
    rw [getD_set xs k (14 + n) y hk, getD_set xs k (14 + n + 1) y hk] at b4
    have c0 := hx.at (14 + n)
    have c1 := hx.at (14 + n + 1)
    have hk2 : k = 14 + n ∨ k = 14 + n + 1 := by omega
    rcases hk2 with h | h
    · subst h
      rw [if_pos rfl, if_neg (by omega)] at b4
      omega
    · subst h
      rw [if_neg (by omega), if_pos rfl] at b4
      omega

theorem decE_ne {xs : List Int} (h : chk xs ≠ 0) : decE xs ≠ 0 := by
  unfold decE; rw [if_neg h]; exact h

theorem tot_enc {dst src kind ips ipd ttl port : Int} {body : ByteArray} (hf : fault dst src kind ips ipd ttl port body.size = 0) : 0 < tot (enc dst src kind ips ipd ttl port body) 14 := by
  have hk := (fault_zero hf).1
  have hb := enc_bs hf
  have h5 := tot_ge _ hb 5 14 (by omega)
  have h4 := tot_bd hb 4
  have e : (enc dst src kind ips ipd ttl port body).getD 4 0 = kind := by
    obtain ⟨q0, q1, _, h⟩ := enc_form dst src kind ips ipd ttl port body
    rw [h]; rfl
  have : tot (enc dst src kind ips ipd ttl port body) 5 = tot (enc dst src kind ips ipd ttl port body) 4 + wt 4 ((enc dst src kind ips ipd ttl port body).getD 4 0) := rfl
  rw [e] at this
  have w4 : wt 4 kind = 256 * kind := rfl
  omega

theorem dec_spoilt {dst src kind ips ipd ttl port : Int} {body : ByteArray} (hf : fault dst src kind ips ipd ttl port body.size = 0) (k : Nat) (y : Int) (hk : k < (enc dst src kind ips ipd ttl port body).length) (h0 : 0 ≤ y) (h1 : y ≤ 255)
    (hne : y ≠ (enc dst src kind ips ipd ttl port body).getD k 0) : decE ((enc dst src kind ips ipd ttl port body).set k y) ≠ 0 :=
  decE_ne (chk_set (enc_bs hf) (chk_enc hf) (tot_enc hf) k y hk h0 h1 hne)

end Go.Proofs.Ytgkdmmfogibbjab
