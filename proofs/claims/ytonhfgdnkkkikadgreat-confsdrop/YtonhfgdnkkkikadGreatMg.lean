/-
  Plain mathematics of P3: what may be stays so, whatever act is not refused.
-/
import Derived.Test.YtonhfgdnkkkikadGreatRx
namespace Go.Proofs.YtonhfgdnkkkikadGreat
open Go.RowKit
set_option linter.unusedVariables false
set_option maxRecDepth 100000

theorem swFault_nil {S : List Sw} {P : List Pr} {x : Sw} (h : swFault S P x = 0) :
    (inB x.i 1 500 = true ∧ inB x.t 1 9 = true ∧ inB x.g 0 65535 = true) ∧ (S.any (fun s => s.i == x.i) = false ∧ (x.g != 0 && takenB S P x.t x.g) = false) ∧ S.length < 12 := by
  unfold swFault at h
  by_cases h0 : (inB x.i 1 500 && inB x.t 1 9 && inB x.g 0 65535) = false
  · rw [if_pos h0] at h; omega
  · rw [if_neg h0] at h
    by_cases h1 : (S.any (fun s => s.i == x.i) || (x.g != 0 && takenB S P x.t x.g)) = true
    · rw [if_pos h1] at h; omega
    · rw [if_neg h1] at h
      by_cases h2 : 12 ≤ S.length
      · rw [if_pos h2] at h; omega
      · have h0' := Bool.not_eq_false _ |>.mp h0
        have h1' := Bool.not_eq_true _ |>.mp h1
        simp only [Bool.and_eq_true] at h0'
        rw [Bool.or_eq_false_iff] at h1'
        exact ⟨⟨h0'.1.1, h0'.1.2, h0'.2⟩, h1', by omega⟩
theorem range_form {α : Type} (f : List α → α → Int) (d : α) (l : List α) : (List.range l.length).all (fun k => f (l.take k) (l.getD k d) == 0) = true ↔ ∀ L x R, l = L ++ x :: R → f L x = 0 := by
  rw [List.all_eq_true]
  constructor
  · rintro h L x R rfl
    have := h L.length (List.mem_range.2 (by simp))
    simpa using this
  · intro h k hk
    rw [List.mem_range] at hk
    have e : l = l.take k ++ l[k] :: l.drop (k + 1) := by
      conv => lhs; rw [← List.take_append_drop k l]
      rw [List.drop_eq_getElem_cons hk]
    have h1 := h _ _ _ e
    have hg : l.getD k d = l[k] := by simp [List.getD, List.getElem?_eq_getElem hk]
    rw [hg, h1]
    rfl
theorem sws_form (S : List Sw) : swsMay S = true ↔ ∀ L x R, S = L ++ x :: R → swFault L [] x = 0 := range_form (fun L x => swFault L [] x) sw0 S
theorem prs_form (S : List Sw) (P : List Pr) : prsMay S P = true ↔ ∀ L x R, P = L ++ x :: R → prFault S L x = 0 := range_form (fun L x => prFault S L x) pr0 P
theorem acs_form (S : List Sw) (A : List Ac) : acsMay S A = true ↔ ∀ L x R, A = L ++ x :: R → acFault S L x = 0 := range_form (fun L x => acFault S L x) ac0 A

theorem prefix_snoc {α : Type} {l L R : List α} {y x : α} (h : l ++ [y] = L ++ x :: R) : (L = l ∧ x = y) ∨ ∃ R', l = L ++ x :: R' := by
  rw [List.append_eq_append_iff] at h
  rcases h with ⟨a, h1, h2⟩ | ⟨a, h1, h2⟩
  · cases a with
    | nil =>
      simp at h1 h2
      exact .inl ⟨h1, h2.1.symm⟩
    | cons b c =>
      simp at h2
  · cases a with
    | nil =>
      simp at h1 h2
      exact .inl ⟨h1.symm, h2.1⟩
    | cons b c =>
      simp at h2
      obtain ⟨rfl, rfl⟩ := h2
      exact .inr ⟨c, h1⟩
theorem prefix_cut {α : Type} {L0 R0 L R : List α} {x : α} (h : L0 ++ R0 = L ++ x :: R) : (∃ L1, L = L0 ++ L1 ∧ R0 = L1 ++ x :: R) ∨ ∃ L1, L0 = L ++ x :: L1 ∧ R = L1 ++ R0 := by
  rw [List.append_eq_append_iff] at h
  rcases h with ⟨a, h1, h2⟩ | ⟨a, h1, h2⟩
  · exact .inl ⟨a, h1, h2⟩
  · cases a with
    | nil => simp at h1 h2; exact .inl ⟨[], by simp [h1], by simp [h2]⟩
    | cons b c =>
      simp at h2
      obtain ⟨rfl, h2⟩ := h2
      exact .inr ⟨c, h1, h2⟩

/-- The tenant that a port's switch has. -/
def tn (S : List Sw) (id : Int) : Int := (S.getD (idx (fun s => s.i == id) S).toNat sw0).t
theorem pr_iff (S : List Sw) (P : List Pr) (x : Pr) : prFault S P x = 0 ↔ prInB x = true ∧ 0 ≤ idx (fun s => s.i == x.s) S ∧ P.any (fun y => y.i == x.i || y.s == x.s && y.m == x.m) = false ∧ takenB S P (tn S x.s) x.p = false ∧ P.length < 40 := by
  unfold prFault
  show (if prInB x = false then (2 : Int) else if idx (fun s => s.i == x.s) S < 0 then 6 else if P.any (fun y => y.i == x.i || y.s == x.s && y.m == x.m) = true then 7 else if takenB S P (tn S x.s) x.p = true then 7 else if 40 ≤ P.length then 1 else 0) = 0 ↔ _
  generalize idx (fun s : Sw => s.i == x.s) S = I
  generalize takenB S P (tn S x.s) x.p = B
  generalize P.any (fun y => y.i == x.i || y.s == x.s && y.m == x.m) = C
  generalize prInB x = D
  cases D <;> cases C <;> cases B <;> simp <;> (repeat' split) <;> omega
/-- The same but for its chassis. -/
def Like (y z : Pr) : Prop := y.i = z.i ∧ y.s = z.s ∧ y.m = z.m ∧ y.p = z.p
theorem Like.refl (y : Pr) : Like y y := ⟨rfl, rfl, rfl, rfl⟩
theorem pr_mono {S : List Sw} {P P' : List Pr} {x x' : Pr} (h : prFault S P x = 0) (hx : Like x' x) (hb : prInB x' = true) (hp : ∀ y ∈ P', ∃ z ∈ P, Like y z) (hl : P'.length ≤ P.length) : prFault S P' x' = 0 := by
  rw [pr_iff] at h ⊢
  obtain ⟨h1, h2, h3, h4, h5⟩ := h
  obtain ⟨e1, e2, e3, e4⟩ := hx
  rw [e1, e2, e3, e4]
  refine ⟨hb, h2, ?_, ?_, by omega⟩
  · rw [List.any_eq_false] at h3 ⊢
    intro y hy
    obtain ⟨z, hz, f1, f2, f3, f4⟩ := hp y hy
    rw [f1, f2, f3]
    exact h3 z hz
  · unfold takenB at h4 ⊢
    rw [Bool.or_eq_false_iff] at h4 ⊢
    refine ⟨h4.1, ?_⟩
    have h6 := h4.2
    rw [List.any_eq_false] at h6 ⊢
    intro y hy
    obtain ⟨z, hz, f1, f2, f3, f4⟩ := hp y hy
    rw [f2, f4]
    exact h6 z hz
theorem prs_mem {S : List Sw} {P : List Pr} (h : prsMay S P = true) {x : Pr} (hx : x ∈ P) : prInB x = true ∧ 0 ≤ idx (fun s => s.i == x.s) S := by
  obtain ⟨L, R, rfl⟩ := List.append_of_mem hx
  have := (pr_iff _ _ _).1 ((prs_form S _).1 h L x R rfl)
  exact ⟨this.1, this.2.1⟩
theorem prs_drop {S : List Sw} {P : List Pr} (h : prsMay S P = true) (k : Nat) : prsMay S (P.eraseIdx k) = true := by
  rcases Nat.lt_or_ge k P.length with hk | hk
  · have e : P = P.take k ++ P[k] :: P.drop (k + 1) := by
      conv => lhs; rw [← List.take_append_drop k P]
      rw [List.drop_eq_getElem_cons hk]
    rw [List.eraseIdx_eq_take_drop_succ]
    rw [prs_form] at h ⊢
    intro L x R hq
    rcases prefix_cut hq with ⟨L1, rfl, h2⟩ | ⟨L1, h1, rfl⟩
    · have h3 := h (P.take k ++ P[k] :: L1) x R (by rw [List.append_assoc, List.cons_append, ← h2]; exact e)
      refine pr_mono h3 (Like.refl x) ((pr_iff _ _ _).1 h3).1 (fun y hy => ⟨y, ?_, Like.refl y⟩) (by simp)
      simp only [List.mem_append, List.mem_cons] at hy ⊢
      rcases hy with hy | hy
      · exact .inl hy
      · exact .inr (.inr hy)
    · exact h L x (L1 ++ P[k] :: P.drop (k + 1)) (by rw [← List.cons_append, ← List.append_assoc, ← h1]; exact e)
  · rw [List.eraseIdx_of_length_le hk]
    exact h
theorem prs_bind {S : List Sw} {P : List Pr} (h : prsMay S P = true) (k : Nat) {m : Int} (hm : inB m (-1) 5 = true) : prsMay S (P.set k ⟨(P.getD k pr0).i, (P.getD k pr0).s, (P.getD k pr0).m, (P.getD k pr0).p, m⟩) = true := by
  rcases Nat.lt_or_ge k P.length with hk | hk
  · have hg : P.getD k pr0 = P[k] := by simp [List.getD, List.getElem?_eq_getElem hk]
    rw [hg]
    obtain ⟨z, hz⟩ : ∃ z : Pr, z = ⟨P[k].i, P[k].s, P[k].m, P[k].p, m⟩ := ⟨_, rfl⟩
    rw [← hz]
    have hzb : Like z P[k] := by rw [hz]; exact ⟨rfl, rfl, rfl, rfl⟩
    have hzi : prInB z = true := by
      have := (prs_mem h (List.getElem_mem hk)).1
      rw [hz]
      unfold prInB at this ⊢
      simp only [Bool.and_eq_true] at this ⊢
      exact ⟨this.1, hm⟩
    clear hz
    have e : P = P.take k ++ P[k] :: P.drop (k + 1) := by
      conv => lhs; rw [← List.take_append_drop k P]
      rw [List.drop_eq_getElem_cons hk]
    have e2 : P.set k z = P.take k ++ z :: P.drop (k + 1) := by
      rw [List.set_eq_take_append_cons_drop, if_pos hk]
    rw [e2]
    rw [prs_form] at h ⊢
    intro L x R hq
    rcases prefix_cut hq with ⟨L1, rfl, h2⟩ | ⟨L1, h1, rfl⟩
    · cases L1 with
      | nil =>
        simp at h2
        obtain ⟨rfl, rfl⟩ := h2
        have h3 := h (P.take k) P[k] _ e
        rw [List.append_nil]
        exact pr_mono h3 hzb hzi (fun y hy => ⟨y, hy, Like.refl y⟩) (Nat.le_refl _)
      | cons b c =>
        simp at h2
        obtain ⟨rfl, h2⟩ := h2
        have h3 := h (P.take k ++ P[k] :: c) x R (by rw [List.append_assoc, List.cons_append, ← h2]; exact e)
        refine pr_mono h3 (Like.refl x) ((pr_iff _ _ _).1 h3).1 (fun y hy => ?_) (by simp)
        simp only [List.mem_append, List.mem_cons] at hy
        rcases hy with hy | rfl | hy
        · exact ⟨y, by simp [hy], Like.refl y⟩
        · exact ⟨P[k], by simp, hzb⟩
        · exact ⟨y, by simp [hy], Like.refl y⟩
    · exact h L x (L1 ++ P[k] :: P.drop (k + 1)) (by rw [← List.cons_append, ← List.append_assoc, ← h1]; exact e)
  · rw [List.set_eq_of_length_le hk]
    exact h
theorem prs_add {S : List Sw} {P : List Pr} {x : Pr} (h : prsMay S P = true) (hx : prFault S P x = 0) : prsMay S (P ++ [x]) = true := by
  rw [prs_form] at h ⊢
  intro L y R hq
  rcases prefix_snoc hq with ⟨rfl, rfl⟩ | ⟨R', e⟩
  · exact hx
  · exact h L y R' e

theorem idx_snoc {S : List Sw} {s : Sw} {id : Int} (h : 0 ≤ idx (fun x => x.i == id) S) : idx (fun x => x.i == id) (S ++ [s]) = idx (fun x => x.i == id) S := by
  unfold idx at h ⊢
  rw [List.findIdx?_append]
  cases hq : S.findIdx? (fun x => x.i == id) with
  | none => rw [hq] at h; simp at h
  | some k => rfl
theorem tn_snoc {S : List Sw} {s : Sw} {id : Int} (h : 0 ≤ idx (fun x => x.i == id) S) : tn (S ++ [s]) id = tn S id := by
  unfold tn
  rw [idx_snoc h]
  have := (idx_bd (fun x : Sw => x.i == id) S).2
  simp only [List.getD]
  rw [List.getElem?_append_left (by omega)]
theorem tn_is {S : List Sw} {id : Int} (h : 0 ≤ idx (fun x => x.i == id) S) : S.any (fun s => s.i == id && s.t == tn S id) = true := by
  unfold tn
  unfold idx at h ⊢
  cases hq : S.findIdx? (fun x => x.i == id) with
  | none => rw [hq] at h; simp at h
  | some k =>
    obtain ⟨hk, hp, _⟩ := List.findIdx?_eq_some_iff_getElem.1 hq
    refine List.any_eq_true.2 ⟨S[k], List.getElem_mem hk, ?_⟩
    simp only [Int.toNat_natCast, List.getD, List.getElem?_eq_getElem hk, Option.getD_some, beq_self_eq_true, Bool.and_true]
    exact hp
theorem pr_more {S : List Sw} {P L : List Pr} {s : Sw} {x : Pr} (hs : swFault S P s = 0) (hP : prsMay S P = true) (hL : ∀ y ∈ L, y ∈ P) (hx : x ∈ P) (h : prFault S L x = 0) : prFault (S ++ [s]) L x = 0 := by
  rw [pr_iff] at h ⊢
  obtain ⟨h1, h2, h3, h4, h5⟩ := h
  rw [tn_snoc h2, idx_snoc h2]
  refine ⟨h1, h2, h3, ?_, h5⟩
  obtain ⟨⟨_, _, s1⟩, ⟨s2, s3⟩, _⟩ := swFault_nil hs
  have hip : 1 ≤ x.p := by
    unfold prInB at h1
    simp only [Bool.and_eq_true, inB, decide_eq_true_eq] at h1
    omega
  unfold takenB at h4 ⊢
  rw [Bool.or_eq_false_iff] at h4 ⊢
  obtain ⟨h6, h7⟩ := h4
  constructor
  · rw [List.any_append, h6, Bool.false_or]
    simp only [List.any_cons, List.any_nil, Bool.or_false]
    refine Bool.not_eq_true _ |>.mp fun hc => ?_
    simp only [Bool.and_eq_true, beq_iff_eq] at hc
    have hg : (s.g != 0) = true := by simp; omega
    rw [hg, Bool.true_and] at s3
    unfold takenB at s3
    rw [Bool.or_eq_false_iff] at s3
    have s4 := s3.2
    rw [List.any_eq_false] at s4
    refine s4 x hx ?_
    rw [hc.2, hc.1]
    simp only [beq_self_eq_true, Bool.true_and]
    exact tn_is h2
  · rw [List.any_eq_false] at h7 ⊢
    intro y hy hc
    refine h7 y hy ?_
    simp only [Bool.and_eq_true] at hc ⊢
    refine ⟨hc.1, ?_⟩
    have hc2 := hc.2
    rw [List.any_append, Bool.or_eq_true] at hc2
    rcases hc2 with hc2 | hc2
    · exact hc2
    · simp only [List.any_cons, List.any_nil, Bool.or_false, Bool.and_eq_true, beq_iff_eq] at hc2
      have hy2 := (prs_mem hP (hL y hy)).2
      have ha : S.any (fun q => q.i == y.s) = true := by rw [← idx_any]; simpa using hy2
      rw [← hc2.1, s2] at ha
      simp at ha
theorem prs_more {S : List Sw} {P : List Pr} {s : Sw} (hs : swFault S P s = 0) (h : prsMay S P = true) : prsMay (S ++ [s]) P = true := by
  have h' := (prs_form S P).1 h
  rw [prs_form]
  rintro L x R rfl
  exact pr_more hs h (fun y hy => by simp [hy]) (by simp) (h' L x R rfl)

theorem ac_iff (S : List Sw) (A : List Ac) (x : Ac) : acFault S A x = 0 ↔ acInB x = true ∧ (highB x.src x.sb && highB x.dst x.db) = true ∧ S.any (fun s => s.i == x.s) = true ∧ A.length < 40 := by
  unfold acFault
  generalize acInB x = B
  generalize (highB x.src x.sb && highB x.dst x.db) = C
  generalize S.any (fun s => s.i == x.s) = D
  cases B <;> cases C <;> cases D <;> simp <;> omega
theorem ac_mono {S S' : List Sw} {A A' : List Ac} {x : Ac} (h : acFault S A x = 0) (hs : ∀ y ∈ S, y ∈ S') (hl : A'.length ≤ A.length) : acFault S' A' x = 0 := by
  rw [ac_iff] at h ⊢
  refine ⟨h.1, h.2.1, ?_, by omega⟩
  have h3 := h.2.2.1
  rw [List.any_eq_true] at h3 ⊢
  obtain ⟨y, hy, e⟩ := h3
  exact ⟨y, hs y hy, e⟩
theorem acs_drop {S : List Sw} {A : List Ac} (h : acsMay S A = true) (k : Nat) : acsMay S (A.eraseIdx k) = true := by
  rcases Nat.lt_or_ge k A.length with hk | hk
  · have e : A = A.take k ++ A[k] :: A.drop (k + 1) := by
      conv => lhs; rw [← List.take_append_drop k A]
      rw [List.drop_eq_getElem_cons hk]
    rw [List.eraseIdx_eq_take_drop_succ]
    rw [acs_form] at h ⊢
    intro L x R hq
    rcases prefix_cut hq with ⟨L1, rfl, h2⟩ | ⟨L1, h1, rfl⟩
    · have h3 := h (A.take k ++ A[k] :: L1) x R (by rw [List.append_assoc, List.cons_append, ← h2]; exact e)
      exact ac_mono h3 (fun y hy => hy) (by simp)
    · exact h L x (L1 ++ A[k] :: A.drop (k + 1)) (by rw [← List.cons_append, ← List.append_assoc, ← h1]; exact e)
  · rw [List.eraseIdx_of_length_le hk]
    exact h
theorem acs_add {S : List Sw} {A : List Ac} {x : Ac} (h : acsMay S A = true) (hx : acFault S A x = 0) : acsMay S (A ++ [x]) = true := by
  rw [acs_form] at h ⊢
  intro L y R hq
  rcases prefix_snoc hq with ⟨rfl, rfl⟩ | ⟨R', e⟩
  · exact hx
  · exact h L y R' e
theorem acs_more {S : List Sw} {A : List Ac} {s : Sw} (h : acsMay S A = true) : acsMay (S ++ [s]) A = true := by
  rw [acs_form] at h ⊢
  intro L x R hq
  exact ac_mono (h L x R hq) (fun y hy => by simp [hy]) (Nat.le_refl _)
theorem sw_less {S : List Sw} {P : List Pr} {s : Sw} (h : swFault S P s = 0) : swFault S [] s = 0 := by
  obtain ⟨⟨a, b, c⟩, ⟨d, e⟩, f⟩ := swFault_nil h
  unfold swFault
  rw [a, b, c, d]
  have e' : (s.g != 0 && takenB S [] s.t s.g) = false := by
    cases hg : (s.g != 0) with
    | false => rfl
    | true =>
      rw [hg, Bool.true_and] at e
      unfold takenB at e ⊢
      rw [Bool.or_eq_false_iff] at e
      simp [e.1]
  rw [e']
  simp
  omega
theorem sws_add {S : List Sw} {P : List Pr} {s : Sw} (h : swsMay S = true) (hs : swFault S P s = 0) : swsMay (S ++ [s]) = true := by
  rw [sws_form] at h ⊢
  intro L y R hq
  rcases prefix_snoc hq with ⟨rfl, rfl⟩ | ⟨R', e⟩
  · exact sw_less hs
  · exact h L y R' e

/-- WHATEVER IS CHANGED, what is wanted stays what may be. -/
theorem may_next {S : List Sw} {P : List Pr} {A : List Ac} {a : Ax} (h : may S P A = true) (ha : actFault S P A a = 0) : may (nxS S a) (nxP P a) (nxA A a) = true := by
  obtain ⟨h1, h2, h3⟩ := may_parts h
  have go : ∀ {S' : List Sw} {P' : List Pr} {A' : List Ac}, swsMay S' = true → prsMay S' P' = true → acsMay S' A' = true → may S' P' A' = true := fun a b c => by unfold may; rw [a, b, c]; rfl
  unfold actFault at ha
  unfold nxS nxP nxA
  by_cases k1 : a.k = 1
  · rw [if_pos k1] at ha
    simp only [k1, if_pos]
    exact go (sws_add h1 ha) (prs_more ha h2) (acs_more h3)
  · rw [if_neg k1] at ha
    rw [if_neg k1]
    by_cases k2 : a.k = 2
    · rw [if_pos k2] at ha
      rw [if_pos k2, if_neg (by omega), if_neg (by omega)]
      exact go h1 (prs_add h2 ha) h3
    · rw [if_neg k2] at ha
      rw [if_neg k2]
      by_cases k3 : a.k = 3
      · rw [if_pos k3] at ha
        rw [if_neg (by omega), if_neg (by omega), if_pos k3]
        exact go h1 h2 (acs_add h3 ha)
      · rw [if_neg k3] at ha
        rw [if_neg k3]
        by_cases k4 : a.k = 4
        · rw [if_pos k4, if_neg (by omega)]
          exact go h1 (prs_drop h2 _) h3
        · rw [if_neg k4] at ha
          rw [if_neg k4]
          by_cases k6 : a.k = 6
          · rw [if_pos k6] at ha
            rw [if_pos k6, if_neg (by omega)]
            by_cases hb : inB a.m (-1) 5 = true
            · exact go h1 (prs_bind h2 _ hb) h3
            · rw [if_neg hb] at ha
              split at ha <;> omega
          · rw [if_neg k6]
            by_cases k5 : a.k = 5
            · rw [if_pos k5]
              exact go h1 h2 (acs_drop h3 _)
            · rw [if_neg k5]
              exact h

end Go.Proofs.YtonhfgdnkkkikadGreat
