/-
  Plain mathematics of P3, for the keepers: what is there does not come again; a port that went is gone.
-/
import Derived.Test.YtonhfgdnkkkikadGreatMg
namespace Go.Proofs.YtonhfgdnkkkikadGreat
open Go.RowKit
set_option linter.unusedVariables false
set_option maxRecDepth 100000

/-- What is wanted of what the keepers change: it may be, switches have small numbers, and the first one is there. -/
def Fine (S : List Sw) (P : List Pr) (A : List Ac) : Prop := may S P A = true ∧ (∀ s ∈ S, s.i ≤ 6) ∧ S.any (fun s => s.i == 1) = true
theorem may_of {S : List Sw} {P : List Pr} {A : List Ac} {a : Ax} (h : appE S P A a = 0) : may S P A = true ∧ actFault S P A a = 0 := by
  unfold appE at h
  cases hm : may S P A with
  | true => rw [hm] at h; exact ⟨rfl, by simpa using h⟩
  | false => rw [hm] at h; simp at h
theorem fine_next {S : List Sw} {P : List Pr} {A : List Ac} {a : Ax} (h : Fine S P A) (ha : appE S P A a = 0) (hs : a.si ≤ 6) : Fine (apS S P A a) (apP S P A a) (apA S P A a) := by
  obtain ⟨h1, h2, h3⟩ := h
  unfold apS apP apA
  rw [if_pos ha, if_pos ha, if_pos ha]
  refine ⟨may_next h1 (may_of ha).2, ?_, ?_⟩
  · unfold nxS
    split
    · intro s hs'
      rcases List.mem_append.1 hs' with hs' | hs'
      · exact h2 s hs'
      · obtain rfl : s = a.s := by simpa using hs'
        exact hs
    · exact h2
  · unfold nxS
    split
    · rw [List.any_append, h3]; rfl
    · exact h3
theorem may_after {S : List Sw} {P : List Pr} {A : List Ac} {a : Ax} (h : may S P A = true) (ha : appE S P A a = 0) : may (apS S P A a) (apP S P A a) (apA S P A a) = true := by
  unfold apS apP apA
  rw [if_pos ha, if_pos ha, if_pos ha]
  exact may_next h (may_of ha).2
theorem app_kind {S : List Sw} {P : List Pr} {A : List Ac} {a : Ax} (h : may S P A = true) (ha : a.k = 7) : appE S P A a = 3 := by
  unfold appE
  rw [if_pos h]
  unfold actFault
  rw [ha]
  simp
theorem ap_none {S : List Sw} {P : List Pr} {A : List Ac} {a : Ax} (h : appE S P A a ≠ 0) : apS S P A a = [] ∧ apP S P A a = [] ∧ apA S P A a = [] := by
  unfold apS apP apA
  rw [if_neg h, if_neg h, if_neg h]
  exact ⟨rfl, rfl, rfl⟩
theorem ap_some {S : List Sw} {P : List Pr} {A : List Ac} {a : Ax} (h : appE S P A a = 0) : apS S P A a = nxS S a ∧ apP S P A a = nxP P a ∧ apA S P A a = nxA A a := by
  unfold apS apP apA
  rw [if_pos h, if_pos h, if_pos h]
  exact ⟨rfl, rfl, rfl⟩

theorem pr_seven {S : List Sw} {P : List Pr} {x : Pr} (hb : prInB x = true) (hs : 0 ≤ idx (fun s => s.i == x.s) S) (ha : P.any (fun y => y.i == x.i || y.s == x.s && y.m == x.m) = true ∨ takenB S P (tn S x.s) x.p = true) : prFault S P x = 7 := by
  unfold prFault
  rw [if_neg (by simp [hb]), if_neg (by omega)]
  by_cases h : P.any (fun y => y.i == x.i || y.s == x.s && y.m == x.m) = true
  · rw [if_pos h]
  · have h2 := ha.resolve_left h
    unfold tn at h2
    rw [if_neg h, if_pos h2]
/-- A port that is there: it does not come again, nor does its address or its number. -/
theorem port_twice {S : List Sw} {P : List Pr} {A : List Ac} {p : Pr} (h : may S P A = true) (hp : p ∈ P) (id m : Int) (hid : id = p.i ∨ 900 ≤ id ∧ id ≤ 949) (hm : m = p.m ∨ m = 5000) : prFault S P ⟨id, p.s, m, p.p, p.c⟩ = 7 := by
  obtain ⟨h1, h2, h3⟩ := may_parts h
  obtain ⟨q1, q2⟩ := prs_mem h2 hp
  refine pr_seven ?_ q2 (.inr ?_)
  · unfold prInB inB at q1 ⊢
    simp only [Bool.and_eq_true, decide_eq_true_eq] at q1 ⊢
    omega
  · unfold takenB
    rw [Bool.or_eq_true]
    right
    rw [List.any_eq_true]
    refine ⟨p, hp, ?_⟩
    simp only [beq_self_eq_true, Bool.true_and]
    exact tn_is q2
theorem app_port {S : List Sw} {P : List Pr} {A : List Ac} {a : Ax} (h : may S P A = true) (hk : a.k = 2) : appE S P A a = prFault S P a.p := by
  unfold appE
  rw [if_pos h]
  unfold actFault
  rw [hk]
  simp
theorem app_switch {S : List Sw} {P : List Pr} {A : List Ac} {a : Ax} (h : may S P A = true) (hk : a.k = 1) : appE S P A a = swFault S P a.s := by
  unfold appE
  rw [if_pos h]
  unfold actFault
  rw [hk]
  simp
theorem switch_twice {S : List Sw} {P : List Pr} {A : List Ac} {a : Ax} (h : Fine S P A) (hk : a.k = 1) (hs : a.s = ⟨1, 9, 0⟩) : appE S P A a = 7 := by
  rw [app_switch h.1 hk, hs]
  unfold swFault
  have := h.2.2
  simp [inB, this]
theorem port_nowhere {S : List Sw} {P : List Pr} {A : List Ac} {a : Ax} (h : Fine S P A) (hk : a.k = 2) (hs : a.p = ⟨999, 400, 1, 1, 0⟩) : appE S P A a = 6 := by
  rw [app_port h.1 hk, hs]
  unfold prFault
  have hn : idx (fun s : Sw => s.i == 400) S < 0 := by
    have h1 := idx_any (fun s : Sw => s.i == 400) S
    have h2 : S.any (fun s => s.i == 400) = false := by
      rw [List.any_eq_false]
      intro s hs' e
      have := h.2.1 s hs'
      have e' : s.i = 400 := by simpa using e
      omega
    rw [h2] at h1
    have : ¬ (0 ≤ idx (fun s : Sw => s.i == 400) S) := by simpa using h1
    omega
  rw [if_neg (by decide), if_pos hn]

theorem pat_self {S : List Sw} {P : List Pr} (h : prsMay S P = true) {k : Nat} (hk : k < P.length) : pat P (P.getD k pr0).i = k := by
  have hg : P.getD k pr0 = P[k] := by simp [List.getD, List.getElem?_eq_getElem hk]
  rw [hg]
  obtain ⟨j, e1, hj, _, _⟩ := one_at P P[k].i 0 (prs_pair h) (List.any_eq_true.2 ⟨P[k], List.getElem_mem hk, by simp⟩)
  have e2 : pat P P[k].i = j := by unfold pat idx; rw [e1]
  rw [e2]
  have e3 := (List.findIdx?_eq_some_iff_getElem.1 e1).2.1
  have e4 : P[j].i = P[k].i := by simpa using e3
  rcases Nat.lt_trichotomy j k with h' | h' | h'
  · exact absurd e4 (prs_lt h hk h')
  · rw [h']
  · exact absurd e4.symm (prs_lt h hj h')
theorem pat_gone {S : List Sw} {P : List Pr} (h : prsMay S P = true) {k : Nat} (hk : k < P.length) : (P.eraseIdx k).any (fun y => y.i == (P.getD k pr0).i) = false := by
  have hg : P.getD k pr0 = P[k] := by simp [List.getD, List.getElem?_eq_getElem hk]
  have ha : P.any (fun y => y.i == (P.getD k pr0).i) = true := List.any_eq_true.2 ⟨P[k], List.getElem_mem hk, by rw [hg]; simp⟩
  have := drop_port h ha
  rw [pat_self h hk] at this
  have e : ((k : Int)).toNat = k := by omega
  rw [e] at this
  rw [← this, List.any_eq_false]
  intro y hy
  simpa using (List.mem_filter.1 hy).2
theorem drop_there {S : List Sw} {P : List Pr} {A : List Ac} {a : Ax} (h : may S P A = true) {k : Nat} (hk : k < P.length) (ha : a.k = 4) (hn : a.n = (P.getD k pr0).i) : appE S P A a = 0 ∧ apS S P A a = S ∧ apP S P A a = P.eraseIdx k ∧ apA S P A a = A := by
  have e : pat P a.n = k := by rw [hn]; exact pat_self (may_parts h).2.1 hk
  have e0 : appE S P A a = 0 := by
    unfold appE
    rw [if_pos h]
    unfold actFault
    rw [ha, e]
    simp [inB]
    omega
  obtain ⟨q1, q2, q3⟩ := ap_some e0
  rw [q1, q2, q3]
  unfold nxS nxP nxA
  rw [ha, e]
  simp [e0]
theorem bind_there {S : List Sw} {P : List Pr} {A : List Ac} {a : Ax} (h : may S P A = true) {k : Nat} (hk : k < P.length) (ha : a.k = 6) (hn : a.n = (P.getD k pr0).i) (hm : -1 ≤ a.m ∧ a.m ≤ 5) :
    appE S P A a = 0 ∧ apS S P A a = S ∧ apP S P A a = P.set k ⟨(P.getD k pr0).i, (P.getD k pr0).s, (P.getD k pr0).m, (P.getD k pr0).p, a.m⟩ ∧ apA S P A a = A := by
  have e : pat P a.n = k := by rw [hn]; exact pat_self (may_parts h).2.1 hk
  have e0 : appE S P A a = 0 := by
    unfold appE
    rw [if_pos h]
    unfold actFault
    rw [ha, e]
    simp [inB]
    omega
  obtain ⟨q1, q2, q3⟩ := ap_some e0
  rw [q1, q2, q3]
  unfold nxS nxP nxA
  rw [ha, e]
  simp [e0]
theorem bind_gone {S : List Sw} {P : List Pr} {A : List Ac} {a : Ax} (h : may S P A = true) {k : Nat} (hk : k < P.length) (ha : a.k = 6) (hn : a.n = (P.getD k pr0).i) : appE S (P.eraseIdx k) A a = 6 := by
  obtain ⟨h1, h2, h3⟩ := may_parts h
  have hm : may S (P.eraseIdx k) A = true := by
    unfold may
    rw [h1, prs_drop h2 k, h3]
    rfl
  unfold appE
  rw [if_pos hm]
  unfold actFault
  rw [pat_in, hn, pat_gone h2 hk, ha]
  simp

end Go.Proofs.YtonhfgdnkkkikadGreat
