/-
  P2.3, plain mathematics: the order of flows is total, and tells all flows apart; what is sorted, each once, is one list.
-/
import Derived.Test.YtonhfgdnkkkikacOd
import Derived.Test.YtonhfgdnkkkikacSo
namespace Go.Proofs.Ytonhfgdnkkkikac
open Go.RowKit
set_option linter.unusedVariables false
set_option maxRecDepth 100000

/-- A flow's numbers, so that a lesser list stands ahead. -/
def key (a : Fl) : List Int := [a.t, -a.p, (a.ms.length : Int), (a.ds.length : Int)] ++ fm a.ms ++ fd a.ds

theorem cmpL_nil_nil : cmpL [] [] = 0 := rfl
theorem cmpL_nil_cons (b : Int) (y : List Int) : cmpL [] (b :: y) < 0 := by simp [cmpL]
theorem cmpL_cons_nil (a : Int) (x : List Int) : 0 < cmpL (a :: x) [] := by simp [cmpL]
theorem cmpL_cons (a b : Int) (x y : List Int) : cmpL (a :: x) (b :: y) = if a < b then -1 else if b < a then 1 else cmpL x y := rfl
theorem cmpL_zero : ∀ x y : List Int, cmpL x y = 0 → x = y
  | [], [], _ => rfl
  | [], b :: y, h => by have := cmpL_nil_cons b y; omega
  | a :: x, [], h => by have := cmpL_cons_nil a x; omega
  | a :: x, b :: y, h => by
    rw [cmpL_cons] at h
    split at h
    · omega
    · split at h
      · omega
      · rw [cmpL_zero x y h, show a = b by omega]
theorem cmpL_self : ∀ x : List Int, cmpL x x = 0
  | [] => rfl
  | a :: x => by rw [cmpL_cons, if_neg (by omega), if_neg (by omega)]; exact cmpL_self x
theorem cmpL_flip : ∀ x y : List Int, cmpL x y < 0 ↔ 0 < cmpL y x
  | [], [] => by simp [cmpL_nil_nil]
  | [], b :: y => by have := cmpL_nil_cons b y; have := cmpL_cons_nil b y; omega
  | a :: x, [] => by have := cmpL_nil_cons a x; have := cmpL_cons_nil a x; omega
  | a :: x, b :: y => by
    have ih := cmpL_flip x y
    rw [cmpL_cons, cmpL_cons]
    split <;> split <;> (try split) <;> first | omega | exact ih
theorem cmpL_trans : ∀ x y z : List Int, cmpL x y < 0 → cmpL y z < 0 → cmpL x z < 0
  | [], [], z, h, _ => by simp [cmpL_nil_nil] at h
  | [], b :: y, [], _, h => by have := cmpL_cons_nil b y; omega
  | [], b :: y, c :: z, _, _ => cmpL_nil_cons c z
  | a :: x, [], z, h, _ => by have := cmpL_cons_nil a x; omega
  | a :: x, b :: y, [], _, h => by have := cmpL_cons_nil b y; omega
  | a :: x, b :: y, c :: z, h1, h2 => by
    have ih := cmpL_trans x y z
    rw [cmpL_cons] at h1 h2 ⊢
    split at h1 <;> split at h2 <;> (try split at h1) <;> (try split at h2) <;> split <;> (try split) <;> first | omega | exact ih h1 h2 | (exfalso; omega)

theorem plc_key (a b : Fl) : plc a b = cmpL (key a) (key b) := by
  unfold plc keyX key
  simp only [List.cons_append, List.nil_append]
  simp only [cmpL_cons]
  have h1 : (b.p < a.p) ↔ (-a.p < -b.p) := by omega
  have h2 : (a.p < b.p) ↔ (-b.p < -a.p) := by omega
  simp only [h1, h2]
theorem fm_inj : ∀ x y : List Mt, fm x = fm y → x = y
  | [], [], _ => rfl
  | [], y :: ys, h => by simp [fm] at h
  | x :: xs, [], h => by simp [fm] at h
  | x :: xs, y :: ys, h => by
    obtain ⟨a, b, c⟩ := x
    obtain ⟨a', b', c'⟩ := y
    have h' : a = a' ∧ b = b' ∧ c = c' ∧ fm xs = fm ys := by simpa [fm] using h
    obtain ⟨rfl, rfl, rfl, h4⟩ := h'
    rw [fm_inj xs ys h4]
theorem fd_inj : ∀ x y : List Do, fd x = fd y → x = y
  | [], [], _ => rfl
  | [], y :: ys, h => by simp [fd] at h
  | x :: xs, [], h => by simp [fd] at h
  | x :: xs, y :: ys, h => by
    obtain ⟨a, b, c⟩ := x
    obtain ⟨a', b', c'⟩ := y
    have h' : a = a' ∧ b = b' ∧ c = c' ∧ fd xs = fd ys := by simpa [fd] using h
    obtain ⟨rfl, rfl, rfl, h4⟩ := h'
    rw [fd_inj xs ys h4]
theorem key_inj (a b : Fl) (h : key a = key b) : a = b := by
  obtain ⟨t, p, ms, ds⟩ := a
  obtain ⟨t', p', ms', ds'⟩ := b
  unfold key at h
  simp only [List.cons_append, List.nil_append, List.cons.injEq] at h
  obtain ⟨rfl, h2, h3, h4, h5⟩ := h
  have hl : (fm ms).length = (fm ms').length := by rw [fm_length, fm_length]; omega
  obtain ⟨h6, h7⟩ := List.append_inj h5 hl
  rw [fm_inj _ _ h6, fd_inj _ _ h7, show p = p' by omega]
theorem plc_zero {a b : Fl} (h : plc a b = 0) : a = b := key_inj a b (cmpL_zero _ _ (by rw [← plc_key]; exact h))
theorem plc_self (a : Fl) : plc a a = 0 := by rw [plc_key]; exact cmpL_self _
theorem plc_flip (a b : Fl) : plc a b < 0 ↔ 0 < plc b a := by rw [plc_key, plc_key]; exact cmpL_flip _ _
theorem plc_trans {a b c : Fl} (h1 : plc a b < 0) (h2 : plc b c < 0) : plc a c < 0 := by rw [plc_key] at *; exact cmpL_trans _ _ _ h1 h2

/-- The order in turn is the order of places. -/
theorem cmpL_or3 (a b c a' b' c' : Int) (x y : List Int) : cmpL (a :: b :: c :: x) (a' :: b' :: c' :: y) = if or3 (cmpI a a') (cmpI b b') (cmpI c c') ≠ 0 then or3 (cmpI a a') (cmpI b b') (cmpI c c') else cmpL x y := by
  rw [cmpL_cons, cmpL_cons, cmpL_cons]
  unfold or3 cmpI
  split
  · simp
  · split
    · simp
    · split
      · simp
      · split
        · simp
        · split
          · simp
          · split
            · simp
            · simp
theorem cmpL_fm : ∀ (xs ys : List Mt) (u v : List Int), xs.length = ys.length → cmpL (fm xs ++ u) (fm ys ++ v) = if lexM xs ys ≠ 0 then lexM xs ys else cmpL u v
  | [], [], u, v, _ => by simp [fm, lexM]
  | [], _ :: _, _, _, h => by simp at h
  | _ :: _, [], _, _, h => by simp at h
  | x :: xs, y :: ys, u, v, h => by
    have ih := cmpL_fm xs ys u v (by simpa using h)
    have e1 : fm (x :: xs) ++ u = x.f :: x.m :: x.v :: (fm xs ++ u) := by simp [fm]
    have e2 : fm (y :: ys) ++ v = y.f :: y.m :: y.v :: (fm ys ++ v) := by simp [fm]
    have e3 : lexM (x :: xs) (y :: ys) = if or3 (cmpI x.f y.f) (cmpI x.m y.m) (cmpI x.v y.v) ≠ 0 then or3 (cmpI x.f y.f) (cmpI x.m y.m) (cmpI x.v y.v) else lexM xs ys := rfl
    rw [e1, e2, cmpL_or3, ih, e3]
    by_cases h0 : or3 (cmpI x.f y.f) (cmpI x.m y.m) (cmpI x.v y.v) = 0
    · simp [h0]
    · simp [h0]
theorem cmpL_fd : ∀ (xs ys : List Do), xs.length = ys.length → cmpL (fd xs) (fd ys) = lexD xs ys
  | [], [], _ => rfl
  | [], _ :: _, h => by simp at h
  | _ :: _, [], h => by simp at h
  | x :: xs, y :: ys, h => by
    have ih := cmpL_fd xs ys (by simpa using h)
    have e1 : fd (x :: xs) = x.k :: x.a :: x.n :: fd xs := by simp [fd]
    have e2 : fd (y :: ys) = y.k :: y.a :: y.n :: fd ys := by simp [fd]
    rw [e1, e2, cmpL_or3, ih]
    rfl
theorem ordF_plc (a b : Fl) : ordF a b = plc a b := by
  unfold plc keyX ordF
  simp only [List.cons_append, List.nil_append]
  rw [cmpL_cons, cmpL_cons, cmpL_cons, cmpL_cons]
  unfold cmpI
  by_cases h1 : a.t < b.t
  · simp [h1]
  · by_cases h2 : b.t < a.t
    · simp [h1, h2]
    · by_cases h3 : b.p < a.p
      · simp [h1, h2, h3]
      · by_cases h4 : a.p < b.p
        · simp [h1, h2, h3, h4]
        · by_cases h5 : (a.ms.length : Int) < b.ms.length
          · simp [h1, h2, h3, h4]
            simp at h5
            simp [h5]
          · by_cases h6 : (b.ms.length : Int) < a.ms.length
            · simp [h1, h2, h3, h4]
              simp at h5 h6
              simp [h6, show ¬ a.ms.length < b.ms.length by omega]
            · by_cases h7 : (a.ds.length : Int) < b.ds.length
              · simp [h1, h2, h3, h4]
                simp at h5 h6 h7
                simp [h7, show ¬ a.ms.length < b.ms.length by omega, show ¬ b.ms.length < a.ms.length by omega]
              · by_cases h8 : (b.ds.length : Int) < a.ds.length
                · simp [h1, h2, h3, h4]
                  simp at h5 h6 h7 h8
                  simp [h8, show ¬ a.ms.length < b.ms.length by omega, show ¬ b.ms.length < a.ms.length by omega, show ¬ a.ds.length < b.ds.length by omega]
                · rw [cmpL_fm _ _ _ _ (by omega), cmpL_fd _ _ (by omega)]
                  simp only [if_neg h1, if_neg h2, if_neg h3, if_neg h4, if_neg h5, if_neg h6, if_neg h7, if_neg h8]
                  simp

/-- Strictly in their places. -/
def Srt (l : List Fl) : Prop := l.Pairwise fun a b => plc a b < 0
theorem srt_unique : ∀ a b : List Fl, Srt a → Srt b → (∀ x, x ∈ a ↔ x ∈ b) → a = b
  | [], [], _, _, _ => rfl
  | [], y :: ys, _, _, h => by have := (h y).2 (by simp); simp at this
  | x :: xs, [], _, _, h => by have := (h x).1 (by simp); simp at this
  | x :: xs, y :: ys, ha, hb, h => by
    unfold Srt at ha hb
    rw [List.pairwise_cons] at ha hb
    have hxy : x = y := by
      have h1 := (h x).1 (by simp)
      have h2 := (h y).2 (by simp)
      simp only [List.mem_cons] at h1 h2
      rcases h1 with h1 | h1
      · exact h1
      · rcases h2 with h2 | h2
        · exact h2.symm
        · have a1 := hb.1 x h1
          have a2 := ha.1 y h2
          rw [plc_flip] at a1
          omega
    subst hxy
    have hx1 : x ∉ xs := fun h' => by have := ha.1 x h'; rw [plc_self] at this; omega
    have hx2 : x ∉ ys := fun h' => by have := hb.1 x h'; rw [plc_self] at this; omega
    rw [srt_unique xs ys ha.2 hb.2 fun z => ?_]
    have hz := h z
    simp only [List.mem_cons] at hz
    constructor
    · intro h'
      rcases hz.1 (.inr h') with rfl | h''
      · exact absurd h' hx1
      · exact h''
    · intro h'
      rcases hz.2 (.inr h') with rfl | h''
      · exact absurd h' hx2
      · exact h''

/-- What nx makes of a list that is in its places. -/
theorem nx_form (f : Fl) (out : List Fl) (hs : Srt out) : ∀ k, k ≤ out.length →
    ((nx f out k) = (out.take k, false) ∧ ∀ j, j < k → 0 < plc f (out.getD j fl0)) ∨ ((nx f out k) = (out.take k, true) ∧ f ∈ out.take k) ∨
    (∃ j, j < k ∧ nx f out k = (out.take j ++ f :: (out.take k).drop j, true) ∧ (∀ i, i < j → 0 < plc f (out.getD i fl0)) ∧ plc f (out.getD j fl0) < 0)
  | 0, _ => .inl ⟨by simp [nx], fun j h => absurd h (by omega)⟩
  | k + 1, hk => by
    have hkl : k < out.length := by omega
    have ht : out.take (k + 1) = out.take k ++ [out.getD k fl0] := by
      rw [List.take_succ_eq_append_getElem hkl]; simp [List.getD, List.getElem?_eq_getElem hkl]
    obtain ⟨y, hy⟩ : ∃ y, y = out.getD k fl0 := ⟨_, rfl⟩
    rw [← hy] at ht
    have hm : y ∈ out.take (k + 1) := by rw [ht]; simp
    rcases nx_form f out hs k (by omega) with ⟨h1, h2⟩ | ⟨h1, h2⟩ | ⟨j, hj, h1, h2, h3⟩
    · unfold nx
      rw [h1, ← hy]
      simp only [Bool.false_or]
      by_cases hz : plc f y = 0
      · have hfe := plc_zero hz
        refine .inr (.inl ⟨?_, by rw [hfe]; exact hm⟩)
        rw [if_neg (by omega), ht]
        simp [hz]
      · by_cases hl : plc f y < 0
        · refine .inr (.inr ⟨k, by omega, ?_, h2, by rw [← hy]; exact hl⟩)
          rw [if_pos ⟨hl, by simp [hz]⟩, ht]
          have hlen : (out.take k).length = k := by simp; omega
          rw [List.drop_append_of_le_length (by omega), List.drop_of_length_le (by omega)]
          simp
        · refine .inl ⟨?_, fun j hj => ?_⟩
          · rw [if_neg (by omega), ht]; simp [hz]
          · by_cases e : j = k
            · subst e; rw [← hy]; omega
            · exact h2 j (by omega)
    · unfold nx
      rw [h1, ← hy]
      simp only [Bool.true_or]
      refine .inr (.inl ⟨?_, by rw [ht]; simp [h2]⟩)
      rw [if_neg (by simp), ht]
    · unfold nx
      rw [h1, ← hy]
      simp only [Bool.true_or]
      refine .inr (.inr ⟨j, by omega, ?_, h2, h3⟩)
      rw [if_neg (by simp), ht]
      have hlen : (out.take k).length = k := by simp; omega
      rw [List.drop_append_of_le_length (by omega)]
      simp
theorem put1_srt (f : Fl) (out : List Fl) (hs : Srt out) : Srt (put1 f out) ∧ ∀ x, x ∈ put1 f out ↔ x = f ∨ x ∈ out := by
  have hp : ∀ i j, i < j → j < out.length → plc (out.getD i fl0) (out.getD j fl0) < 0 := fun i j hij hj => by
    have := List.pairwise_iff_getElem.1 hs i j (by omega) hj hij
    simpa [List.getD, List.getElem?_eq_getElem hj, List.getElem?_eq_getElem (show i < out.length by omega)] using this
  have hmem : ∀ x ∈ out, ∃ i, i < out.length ∧ x = out.getD i fl0 := fun x hx => by
    obtain ⟨i, hi, rfl⟩ := List.getElem_of_mem hx
    exact ⟨i, hi, by simp [List.getD, List.getElem?_eq_getElem hi]⟩
  unfold put1
  rcases nx_form f out hs out.length (Nat.le_refl _) with ⟨h1, h2⟩ | ⟨h1, h2⟩ | ⟨j, hj, h1, h2, h3⟩
  · rw [h1]
    simp only [List.take_length, Bool.false_eq_true, if_false]
    refine ⟨?_, fun x => by simp [or_comm]⟩
    refine List.pairwise_append.2 ⟨hs, by simp, fun a ha b hb => ?_⟩
    simp only [List.mem_singleton] at hb
    subst hb
    obtain ⟨i, hi, rfl⟩ := hmem a ha
    rw [plc_flip]
    exact h2 i hi
  · rw [h1]
    rw [List.take_length] at h2
    simp only [List.take_length, if_true]
    exact ⟨hs, fun x => ⟨fun h => .inr h, fun h => by rcases h with rfl | h; exact h2; exact h⟩⟩
  · rw [h1]
    simp only [List.take_length, if_true]
    have hsp : out = out.take j ++ out.drop j := (List.take_append_drop j out).symm
    refine ⟨?_, fun x => ?_⟩
    · have hs' := hs
      unfold Srt at hs'
      rw [hsp] at hs'
      obtain ⟨ha, hb, hc⟩ := List.pairwise_append.1 hs'
      have hdl : ∀ x ∈ out.drop j, plc f x < 0 := fun x hx => by
        obtain ⟨i, hi, rfl⟩ := List.getElem_of_mem hx
        rw [List.getElem_drop]
        have hjl : j + i < out.length := by simpa using (by simp at hi; omega : j + i < out.length)
        have e : out[j + i] = out.getD (j + i) fl0 := by simp [List.getD, List.getElem?_eq_getElem hjl]
        rw [e]
        rcases Nat.eq_zero_or_pos i with h0 | h0
        · subst h0; exact h3
        · exact plc_trans h3 (hp j (j + i) (by omega) hjl)
      refine List.pairwise_append.2 ⟨ha, List.pairwise_cons.2 ⟨hdl, hb⟩, fun a ha' b hb' => ?_⟩
      simp only [List.mem_cons] at hb'
      rcases hb' with rfl | hb'
      · obtain ⟨i, hi, rfl⟩ := List.getElem_of_mem ha'
        rw [plc_flip, List.getElem_take]
        have hil : i < j := by simp at hi; omega
        have := h2 i hil
        simpa [List.getD, List.getElem?_eq_getElem (show i < out.length by omega)] using this
      · exact hc a ha' b hb'
    · rw [List.mem_append, List.mem_cons]
      have : x ∈ out ↔ x ∈ out.take j ∨ x ∈ out.drop j := by rw [← List.mem_append, List.take_append_drop]
      rw [this]
      constructor
      · rintro (h | h | h)
        · exact .inr (.inl h)
        · exact .inl h
        · exact .inr (.inr h)
      · rintro (h | h | h)
        · exact .inr (.inl h)
        · exact .inl h
        · exact .inr (.inr h)
/-- P2.3: what the document sorts is strictly in its places, and holds what it held. -/
theorem srt_srt (l : List Fl) : ∀ k, k ≤ l.length → Srt (srt l k) ∧ ∀ x, x ∈ srt l k ↔ x ∈ l.take k
  | 0, _ => ⟨List.Pairwise.nil, fun x => by simp [srt]⟩
  | k + 1, hk => by
    obtain ⟨h1, h2⟩ := srt_srt l k (by omega)
    have hkl : k < l.length := by omega
    have ht : l.take (k + 1) = l.take k ++ [l.getD k fl0] := by
      rw [List.take_succ_eq_append_getElem hkl]; simp [List.getD, List.getElem?_eq_getElem hkl]
    obtain ⟨h3, h4⟩ := put1_srt (l.getD k fl0) (srt l k) h1
    refine ⟨h3, fun x => ?_⟩
    show x ∈ put1 _ _ ↔ _
    rw [h4, h2, ht, List.mem_append, List.mem_singleton, or_comm]
/-- The one list of some flows that is strictly in its places. -/
theorem srt_is {l m : List Fl} (hs : Srt m) (hm : ∀ x, x ∈ m ↔ x ∈ l) : m = srt l l.length := by
  obtain ⟨h1, h2⟩ := srt_srt l l.length (Nat.le_refl _)
  exact srt_unique _ _ hs h1 fun x => by rw [h2, List.take_length]; exact hm x

end Go.Proofs.Ytonhfgdnkkkikac
