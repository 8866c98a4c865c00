/-
  Mathematics of the document's AppliedOf: dropping a rule, dropping and binding a port.
-/
import Derived.Test.YtonhfgdnkkkikadGreatCap2
namespace Go.Proofs.YtonhfgdnkkkikadGreat
open Go.RowKit

/-- The rules that are left of the first k, but the n-th. -/
def cutA (n : Int) (A : List Ac) (k : Nat) : List Ac := if 0 ≤ n ∧ n < k then (A.take k).eraseIdx n.toNat else A.take k
theorem cutA_zero (n : Int) (A : List Ac) : cutA n A 0 = [] := by
  unfold cutA
  split <;> simp
theorem cutA_skip {n : Int} {A : List Ac} {k : Nat} (hk : k < A.length) (h : (k : Int) = n) : cutA n A (k + 1) = cutA n A k := by
  unfold cutA
  rw [if_pos (by omega), if_neg (by omega)]
  have e : n.toNat = k := by omega
  rw [e, List.take_succ_eq_append_getElem hk, List.eraseIdx_append_of_length_le (by simp; omega)]
  have e2 : k - (A.take k).length = 0 := by simp; omega
  rw [e2]
  simp
theorem cutA_step {n : Int} {A : List Ac} {k : Nat} (hk : k < A.length) (h : ¬ (k : Int) = n) : cutA n A (k + 1) = cutA n A k ++ [A.getD k ac0] := by
  unfold cutA
  have hg : A.getD k ac0 = A[k] := by simp [List.getD, List.getElem?_eq_getElem hk]
  rw [hg, List.take_succ_eq_append_getElem hk]
  by_cases h1 : 0 ≤ n ∧ n < k
  · rw [if_pos (by omega), if_pos h1, List.eraseIdx_append_of_lt_length (by simp; omega)]
  · rw [if_neg (by omega), if_neg h1]
theorem cutA_len (n : Int) (A : List Ac) (k : Nat) : (cutA n A k).length ≤ k := by
  unfold cutA
  split
  · exact Nat.le_trans (List.length_eraseIdx_le _ _) (by simp; omega)
  · simp; omega
theorem cutA_in {n : Int} {A : List Ac} (h : inB n 0 (A.length - 1) = true) : cutA n A A.length = A.eraseIdx n.toNat ∧ (cutA n A A.length).length ≠ A.length := by
  have h' : 0 ≤ n ∧ n ≤ A.length - 1 := by simpa [inB] using h
  unfold cutA
  rw [if_pos (by omega), List.take_length]
  refine ⟨rfl, ?_⟩
  rw [List.length_eraseIdx_of_lt (by omega)]
  omega
theorem cutA_out {n : Int} {A : List Ac} (h : inB n 0 (A.length - 1) = false) : (cutA n A A.length).length = A.length := by
  have h' : ¬ (0 ≤ n ∧ n ≤ A.length - 1) := by simpa [inB] using h
  unfold cutA
  rw [if_neg (by omega), List.take_length]

theorem prFault_zero {S : List Sw} {P : List Pr} {x : Pr} (h : prFault S P x = 0) : P.any (fun y => y.i == x.i || y.s == x.s && y.m == x.m) = false := by
  unfold prFault at h
  by_cases h1 : P.any (fun y => y.i == x.i || y.s == x.s && y.m == x.m) = true
  · rw [if_pos h1] at h
    split at h
    · omega
    · split at h <;> omega
  · exact Bool.not_eq_true _ |>.mp h1
theorem prs_at {S : List Sw} {P : List Pr} (h : prsMay S P = true) {k : Nat} (hk : k < P.length) : prFault S (P.take k) (P.getD k pr0) = 0 := by
  unfold prsMay at h
  rw [List.all_eq_true] at h
  simpa using h k (List.mem_range.2 hk)
theorem prs_lt {S : List Sw} {P : List Pr} (h : prsMay S P = true) {j k : Nat} (hk : k < P.length) (hj : j < k) : (P[j]'(by omega)).i ≠ P[k].i := by
  have h1 := prFault_zero (prs_at h hk)
  rw [List.any_eq_false] at h1
  have hm : P[j]'(by omega) ∈ P.take k := by
    rw [List.mem_take_iff_getElem]
    exact ⟨j, by omega, rfl⟩
  have := h1 _ hm
  simp only [List.getD, List.getElem?_eq_getElem hk, Option.getD_some, Bool.or_eq_true, not_or] at this
  simpa using this.1
theorem prs_pair {S : List Sw} {P : List Pr} (h : prsMay S P = true) : P.Pairwise (fun a b => a.i ≠ b.i) := by
  rw [List.pairwise_iff_getElem]
  exact fun j k _ hk hj => prs_lt h hk hj

/-- A port bound to m, where it is the one. -/
def bnd (n m : Int) (y : Pr) : Pr := if y.i == n then ⟨y.i, y.s, y.m, y.p, m⟩ else y
theorem filter_all {P : List Pr} {n : Int} (h : ∀ y ∈ P, ¬ y.i = n) : P.filter (fun y => !(y.i == n)) = P := by
  rw [List.filter_eq_self]
  intro y hy
  simpa using h y hy
theorem bnd_all {P : List Pr} {n m : Int} (h : ∀ y ∈ P, ¬ y.i = n) : P.map (bnd n m) = P := by
  have : ∀ y ∈ P, bnd n m y = id y := fun y hy => by
    unfold bnd
    rw [if_neg (by simpa using h y hy)]
    rfl
  rw [List.map_congr_left this, List.map_id]
theorem one_at : ∀ (P : List Pr) (n m : Int), P.Pairwise (fun a b => a.i ≠ b.i) → P.any (fun y => y.i == n) = true →
    ∃ k, P.findIdx? (fun y => y.i == n) = some k ∧ k < P.length ∧ P.filter (fun y => !(y.i == n)) = P.eraseIdx k ∧ P.map (bnd n m) = P.set k ⟨(P.getD k pr0).i, (P.getD k pr0).s, (P.getD k pr0).m, (P.getD k pr0).p, m⟩
  | [], n, m, _, h => by simp at h
  | y :: r, n, m, hp, h => by
    obtain ⟨h1, h2⟩ := List.pairwise_cons.1 hp
    by_cases hy : y.i = n
    · have hn : ∀ z ∈ r, ¬ z.i = n := fun z hz e => h1 z hz (hy.trans e.symm)
      refine ⟨0, by simp [List.findIdx?_cons, hy], by simp, ?_, ?_⟩
      · rw [List.filter_cons, if_neg (by simpa using hy), filter_all hn]
        rfl
      · rw [List.map_cons, bnd_all hn]
        simp [bnd, hy]
    · have hr : r.any (fun z => z.i == n) = true := by simpa [hy] using h
      obtain ⟨k, e1, e2, e3, e4⟩ := one_at r n m h2 hr
      refine ⟨k + 1, by simp [List.findIdx?_cons, hy, e1], by simp; omega, ?_, ?_⟩
      · rw [List.filter_cons, if_pos (by simpa using hy), e3]
        rfl
      · rw [List.map_cons, e4]
        simp [bnd, hy]
theorem pat_in (P : List Pr) (n : Int) : inB (pat P n) 0 (P.length - 1) = P.any (fun y => y.i == n) := by
  have h1 := idx_any (fun y : Pr => y.i == n) P
  have h2 := idx_bd (fun y : Pr => y.i == n) P
  rw [← h1]
  unfold inB pat
  by_cases h : 0 ≤ idx (fun y : Pr => y.i == n) P
  · simp only [h, true_and, decide_true, decide_eq_true_eq]
    omega
  · simp [h]
theorem pat_some {P : List Pr} {n : Int} {k : Nat} (h : P.findIdx? (fun y => y.i == n) = some k) : (pat P n).toNat = k := by
  unfold pat idx
  rw [h]
  rfl
theorem drop_port {S : List Sw} {P : List Pr} {n : Int} (h : prsMay S P = true) (ha : P.any (fun y => y.i == n) = true) : P.filter (fun y => !(y.i == n)) = P.eraseIdx (pat P n).toNat := by
  obtain ⟨k, e1, _, e3, _⟩ := one_at P n 0 (prs_pair h) ha
  rw [pat_some e1, e3]
theorem bind_port {S : List Sw} {P : List Pr} {n m : Int} (h : prsMay S P = true) (ha : P.any (fun y => y.i == n) = true) :
    P.map (bnd n m) = P.set (pat P n).toNat ⟨(P.getD (pat P n).toNat pr0).i, (P.getD (pat P n).toNat pr0).s, (P.getD (pat P n).toNat pr0).m, (P.getD (pat P n).toNat pr0).p, m⟩ := by
  obtain ⟨k, e1, _, _, e4⟩ := one_at P n m (prs_pair h) ha
  rw [pat_some e1, e4]
theorem filter_step {P : List Pr} {k : Nat} (hk : k < P.length) (q : Pr → Bool) : (P.take (k + 1)).filter q = (P.take k).filter q ++ (if q (P.getD k pr0) = true then [P.getD k pr0] else []) := by
  have hg : P.getD k pr0 = P[k] := by simp [List.getD, List.getElem?_eq_getElem hk]
  rw [hg, List.take_succ_eq_append_getElem hk, List.filter_append]
  congr 1
  by_cases h : q P[k] = true
  · simp [h]
  · simp [h]
theorem map_step {P : List Pr} {k : Nat} (hk : k < P.length) (f : Pr → Pr) : (P.take (k + 1)).map f = (P.take k).map f ++ [f (P.getD k pr0)] := by
  have hg : P.getD k pr0 = P[k] := by simp [List.getD, List.getElem?_eq_getElem hk]
  rw [hg, List.take_succ_eq_append_getElem hk, List.map_append]
  rfl

end Go.Proofs.YtonhfgdnkkkikadGreat
