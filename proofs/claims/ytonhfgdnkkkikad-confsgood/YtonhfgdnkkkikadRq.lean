/-
  Plain mathematics of P3: where the switches may be, the document's faults are the code's.
-/
import Derived.Test.YtonhfgdnkkkikadRs
namespace Go.Proofs.Ytonhfgdnkkkikad
open Go.RowKit
set_option linter.unusedVariables false
set_option maxRecDepth 100000

/-- Where there are no ports the document's answer is the code's. -/
theorem rSw_none (S : List Sw) (x : Sw) : rSwFault S [] x = swFault S [] x := by
  unfold rSwFault swFault rTaken takenB
  by_cases h : (inB x.i 1 500 && inB x.t 1 9 && inB x.g 0 65535) = false
  · rw [if_pos h, if_pos h]
  · rw [if_neg h, if_neg h]
    have hg : decide (0 < x.g) = (x.g != 0) := by
      have h' : (inB x.i 1 500 && inB x.t 1 9 && inB x.g 0 65535) = true := Bool.not_eq_false _ |>.mp h
      simp only [Bool.and_eq_true, inB, decide_eq_true_eq] at h'
      rw [Bool.eq_iff_iff]
      simp
      omega
    rw [hg]
    simp

theorem swFault_zero {S : List Sw} {P : List Pr} {x : Sw} (h : swFault S P x = 0) :
    (inB x.i 1 500 = true ∧ inB x.t 1 9 = true ∧ inB x.g 0 65535 = true) ∧ (S.any (fun s => s.i == x.i) = false ∧ (x.g != 0 && takenB S P x.t x.g) = false) ∧ S.length < 12 := by
  unfold swFault at h
  by_cases h0 : (inB x.i 1 500 && inB x.t 1 9 && inB x.g 0 65535) = false
  · rw [if_pos h0] at h; omega
  · rw [if_neg h0] at h
    by_cases h1 : (S.any (fun s => s.i == x.i) || (x.g != 0 && takenB S P x.t x.g)) = true
    · rw [if_pos h1] at h; omega
    · rw [if_neg h1] at h
      by_cases h2 : 12 ≤ S.length
      · rw [if_pos h2] at h; omega
      · have h0' := Bool.not_eq_false _ |>.mp h0
        have h1' := Bool.not_eq_true _ |>.mp h1
        simp only [Bool.and_eq_true] at h0'
        rw [Bool.or_eq_false_iff] at h1'
        exact ⟨⟨h0'.1.1, h0'.1.2, h0'.2⟩, h1', by omega⟩

theorem sws_at {S : List Sw} (h : swsMay S = true) {k : Nat} (hk : k < S.length) : swFault (S.take k) [] (S.getD k sw0) = 0 := by
  unfold swsMay at h
  rw [List.all_eq_true] at h
  simpa using h k (List.mem_range.2 hk)
theorem sws_len {S : List Sw} (h : swsMay S = true) : S.length ≤ 12 := by
  rcases Nat.lt_or_ge 12 S.length with h' | h'
  · have := (swFault_zero (sws_at h h')).2.2
    rw [List.length_take] at this
    omega
  · exact h'
theorem sws_in {S : List Sw} (h : swsMay S = true) {x : Sw} (hx : x ∈ S) : inB x.i 1 500 = true ∧ inB x.t 1 9 = true ∧ inB x.g 0 65535 = true := by
  obtain ⟨k, hk, rfl⟩ := List.getElem_of_mem hx
  have := (swFault_zero (sws_at h hk)).1
  simpa [List.getD, List.getElem?_eq_getElem hk] using this
theorem sws_lt {S : List Sw} (h : swsMay S = true) {j k : Nat} (hk : k < S.length) (hj : j < k) : (S[j]'(by omega)).i ≠ S[k].i := by
  have h1 := (swFault_zero (sws_at h hk)).2.1.1
  rw [List.any_eq_false] at h1
  have hm : S[j]'(by omega) ∈ S.take k := by
    rw [List.mem_take_iff_getElem]
    exact ⟨j, by omega, rfl⟩
  have := h1 _ hm
  simpa [List.getD, List.getElem?_eq_getElem hk] using this
theorem sws_one {S : List Sw} (h : swsMay S = true) {a b : Sw} (ha : a ∈ S) (hb : b ∈ S) (hi : a.i = b.i) : a = b := by
  obtain ⟨j, hj, rfl⟩ := List.getElem_of_mem ha
  obtain ⟨k, hk, rfl⟩ := List.getElem_of_mem hb
  rcases Nat.lt_trichotomy j k with h' | h' | h'
  · exact absurd hi (sws_lt h hk h')
  · subst h'; rfl
  · exact absurd hi.symm (sws_lt h hj h')

theorem sof_yes {S : List Sw} {id : Int} (h : S.any (fun s => s.i == id) = true) : sof S id ∈ S ∧ (sof S id).i = id ∧ ¬ idx (fun s => s.i == id) S < 0 ∧ sof S id = S.getD (idx (fun s => s.i == id) S).toNat sw0 := by
  have e := idx_any (fun s : Sw => s.i == id) S
  rw [h] at e
  have h0 : 0 ≤ idx (fun s : Sw => s.i == id) S := by simpa using e
  have hf : ∃ k, S.findIdx? (fun s => s.i == id) = some k := by
    cases hq : S.findIdx? (fun s : Sw => s.i == id) with
    | none => unfold idx at h0; rw [hq] at h0; simp at h0
    | some k => exact ⟨k, rfl⟩
  obtain ⟨k, hq⟩ := hf
  have hi : idx (fun s : Sw => s.i == id) S = k := by unfold idx; rw [hq]
  have hs : sof S id = S.getD k sw0 := by unfold sof; rw [hi, if_neg (by omega), Int.toNat_natCast]
  rw [List.findIdx?_eq_some_iff_getElem] at hq
  obtain ⟨hk, h1, _⟩ := hq
  have hg : S.getD k sw0 = S[k] := by simp [List.getD, List.getElem?_eq_getElem hk]
  refine ⟨by rw [hs, hg]; exact List.getElem_mem hk, by rw [hs, hg]; simpa using h1, by omega, by rw [hi, Int.toNat_natCast]; exact hs⟩
theorem sof_no {S : List Sw} {id : Int} (h : S.any (fun s => s.i == id) = false) : sof S id = sw0 ∧ idx (fun s => s.i == id) S < 0 := by
  have e := idx_any (fun s : Sw => s.i == id) S
  rw [h] at e
  have h0 : idx (fun s : Sw => s.i == id) S < 0 := by simpa using e
  exact ⟨by unfold sof; rw [if_pos h0], h0⟩

theorem of_eq {S : List Sw} (h : swsMay S = true) (id t : Int) (ht : t ≠ 0) : ((sof S id).t == t) = S.any (fun s => s.i == id && s.t == t) := by
  rw [Bool.eq_iff_iff, List.any_eq_true]
  cases ha : S.any (fun s => s.i == id) with
  | false =>
    rw [(sof_no ha).1]
    constructor
    · intro h0
      simp [sw0] at h0
      omega
    · rintro ⟨x, hx, hp⟩
      rw [List.any_eq_false] at ha
      simp at hp
      have := ha x hx
      simp at this
      exact absurd hp.1 this
  | true =>
    obtain ⟨hm, hi, _⟩ := sof_yes ha
    constructor
    · intro h0
      exact ⟨_, hm, by simpa [hi] using h0⟩
    · rintro ⟨x, hx, hp⟩
      simp at hp
      have := sws_one h hx hm (by rw [hi]; exact hp.1)
      rw [← this]
      simpa using hp.2
theorem taken_eq {S : List Sw} (h : swsMay S = true) (P : List Pr) (t ip : Int) (ht : t ≠ 0) : rTaken S P t ip = takenB S P t ip := by
  unfold rTaken takenB
  congr 1
  congr 1
  funext x
  rw [of_eq h x.s t ht]

theorem rSw_eq {S : List Sw} (h : swsMay S = true) (P : List Pr) (x : Sw) : rSwFault S P x = swFault S P x := by
  unfold rSwFault swFault
  by_cases h0 : (inB x.i 1 500 && inB x.t 1 9 && inB x.g 0 65535) = false
  · rw [if_pos h0, if_pos h0]
  · rw [if_neg h0, if_neg h0]
    have h' : (inB x.i 1 500 && inB x.t 1 9 && inB x.g 0 65535) = true := Bool.not_eq_false _ |>.mp h0
    simp only [Bool.and_eq_true, inB, decide_eq_true_eq] at h'
    have hg : decide (0 < x.g) = (x.g != 0) := by
      rw [Bool.eq_iff_iff]
      simp
      omega
    rw [hg, taken_eq h P x.t x.g (by omega)]
theorem rPr_eq {S : List Sw} (h : swsMay S = true) (P : List Pr) (x : Pr) : rPrFault S P x = prFault S P x := by
  unfold rPrFault prFault
  by_cases h0 : prInB x = false
  · rw [if_pos h0, if_pos h0]
  · rw [if_neg h0, if_neg h0]
    cases ha : S.any (fun s => s.i == x.s) with
    | false => rw [if_pos rfl, if_pos (sof_no ha).2]
    | true =>
      obtain ⟨hm, hi, hn, hs⟩ := sof_yes ha
      rw [if_neg (by simp), if_neg hn, ← hs]
      have := (sws_in h hm).2.1
      simp [inB] at this
      rw [taken_eq h P _ _ (by omega)]

end Go.Proofs.Ytonhfgdnkkkikad
