/-
  What is wanted, as data: switches, ports, rules; rows of structs, and where they lie in memory.
-/
import Derived.Test.YtonhfgdnkkkikacBb
import Derived.Deep.AppendLies
namespace Go.Proofs.Ytonhfgdnkkkikac
open Go.RowKit
set_option linter.unusedVariables false
set_option maxRecDepth 100000

/-- A switch: its number, tenant and gate. -/
structure Sw where
  i : Int
  t : Int
  g : Int
/-- A port: its number, switch, address, number of its own, chassis. -/
structure Pr where
  i : Int
  s : Int
  m : Int
  p : Int
  c : Int
/-- A rule. -/
structure Ac where
  s : Int
  p : Int
  n : Bool
  src : Int
  sb : Int
  dst : Int
  db : Int
  o : Int
  d : Bool
def sw0 : Sw := ⟨0, 0, 0⟩
def pr0 : Pr := ⟨0, 0, 0, 0, 0⟩
def ac0 : Ac := ⟨0, 0, false, 0, 0, 0, 0, 0, false⟩
def swC (x : Sw) : List Value := [.int .i64 x.i, .int .i64 x.t, .int .i64 x.g]
def prC (x : Pr) : List Value := [.int .i64 x.i, .int .i64 x.s, .int .i64 x.m, .int .i64 x.p, .int .i64 x.c]
def acC (x : Ac) : List Value := [.int .i64 x.s, .int .i64 x.p, .bool x.n, .int .i64 x.src, .int .i64 x.sb, .int .i64 x.dst, .int .i64 x.db, .int .i64 x.o, .bool x.d]

/-- Structs of sz cells lie where a slice says. -/
def RowAt {α : Type} (C : α → List Value) (sz : Nat) (w : World) (v : Value) (l : List α) : Prop :=
  ∃ a cap, v = .slice a l.length cap ∧ (a = none → cap = 0) ∧ (l.length = 0 ∨ ∃ b off, a = some ⟨b, off, none⟩ ∧ l.length ≤ cap ∧ ∀ i x, l[i]? = some x → ∀ j u, (C x)[j]? = some u → w.cell? ⟨b, off + i * sz + j, none⟩ = some u)
def SwsAt := RowAt swC 3
def PrsAt := RowAt prC 5
def AcsAt := RowAt acC 9

theorem RowAt.below {α : Type} {C : α → List Value} {sz : Nat} {w w' : World} {B : Nat} {v : Value} {l : List α} (h : RowAt C sz w v l) (hb : Below B w w') (hB : w.heap.size ≤ B) : RowAt C sz w' v l := by
  obtain ⟨a, cap, hv, hn, h0 | ⟨b, off, ha, hc, hL⟩⟩ := h
  · exact ⟨a, cap, hv, hn, .inl h0⟩
  · exact ⟨a, cap, hv, hn, .inr ⟨b, off, ha, hc, fun i x hx j u hu => cell_beh (hL i x hx j u hu) hb hB⟩⟩
theorem RowAt.slice {α : Type} {C : α → List Value} {sz : Nat} {w : World} {v : Value} {l : List α} (h : RowAt C sz w v l) : ∃ a cap, v = .slice a l.length cap := by
  obtain ⟨a, cap, hv, _⟩ := h
  exact ⟨a, cap, hv⟩
theorem RowAt.nil {α : Type} (C : α → List Value) (sz : Nat) (w : World) : RowAt C sz w (.slice none 0 0) [] := ⟨none, 0, rfl, fun _ => rfl, .inl rfl⟩
/-- What stands ahead of a place. -/
theorem RowAt.take {α : Type} {C : α → List Value} {sz : Nat} {w : World} {a : Option Addr} {n cap : Nat} {l : List α} (h : RowAt C sz w (.slice a n cap) l) (k : Nat) (hk : k < l.length) : RowAt C sz w (.slice a k cap) (l.take k) := by
  obtain ⟨a', cap', hv, hn, h0 | ⟨b, off, ha, hc, hL⟩⟩ := h
  · omega
  · simp only [Value.slice.injEq] at hv
    obtain ⟨rfl, _, rfl⟩ := hv
    refine ⟨a, cap, by rw [List.length_take, Nat.min_eq_left (by omega)], hn, .inr ⟨b, off, ha, by rw [List.length_take]; omega, fun i x hx => hL i x ?_⟩⟩
    rw [List.getElem?_take] at hx
    split at hx
    · exact hx
    · simp at hx

theorem getD_at {α : Type} {l : List α} {k : Nat} (d : α) (hk : k < l.length) : l[k]? = some (l.getD k d) := by
  simp [List.getD, List.getElem?_eq_getElem hk]

theorem sw_at {w : World} {v : Value} {l : List Sw} {k : Nat} (h : SwsAt w v l) (hk : k < l.length) : ∃ b off cap, v = .slice (some ⟨b, off, none⟩) l.length cap ∧ l.length ≤ cap ∧ b < w.heap.size ∧
    w.cell? ⟨b, off + k * 3, none⟩ = some (.int .i64 (l.getD k sw0).i) ∧ w.cell? ⟨b, off + k * 3 + 1, none⟩ = some (.int .i64 (l.getD k sw0).t) ∧ w.cell? ⟨b, off + k * 3 + 2, none⟩ = some (.int .i64 (l.getD k sw0).g) := by
  obtain ⟨a, cap, hv, hn, h0 | ⟨b, off, rfl, hc, hL⟩⟩ := h
  · omega
  · have h0 := hL k _ (getD_at sw0 hk) 0 _ rfl
    exact ⟨b, off, cap, hv, hc, cell_in h0, h0, hL k _ (getD_at sw0 hk) 1 _ rfl, hL k _ (getD_at sw0 hk) 2 _ rfl⟩
theorem pr_at {w : World} {v : Value} {l : List Pr} {k : Nat} (h : PrsAt w v l) (hk : k < l.length) : ∃ b off cap, v = .slice (some ⟨b, off, none⟩) l.length cap ∧ l.length ≤ cap ∧ b < w.heap.size ∧
    w.cell? ⟨b, off + k * 5, none⟩ = some (.int .i64 (l.getD k pr0).i) ∧ w.cell? ⟨b, off + k * 5 + 1, none⟩ = some (.int .i64 (l.getD k pr0).s) ∧ w.cell? ⟨b, off + k * 5 + 2, none⟩ = some (.int .i64 (l.getD k pr0).m) ∧ w.cell? ⟨b, off + k * 5 + 3, none⟩ = some (.int .i64 (l.getD k pr0).p) ∧
    w.cell? ⟨b, off + k * 5 + 4, none⟩ = some (.int .i64 (l.getD k pr0).c) := by
  obtain ⟨a, cap, hv, hn, h0 | ⟨b, off, rfl, hc, hL⟩⟩ := h
  · omega
  · have h0 := hL k _ (getD_at pr0 hk) 0 _ rfl
    exact ⟨b, off, cap, hv, hc, cell_in h0, h0, hL k _ (getD_at pr0 hk) 1 _ rfl, hL k _ (getD_at pr0 hk) 2 _ rfl, hL k _ (getD_at pr0 hk) 3 _ rfl, hL k _ (getD_at pr0 hk) 4 _ rfl⟩
theorem ac_at {w : World} {v : Value} {l : List Ac} {k : Nat} (h : AcsAt w v l) (hk : k < l.length) : ∃ b off cap, v = .slice (some ⟨b, off, none⟩) l.length cap ∧ l.length ≤ cap ∧ b < w.heap.size ∧
    w.cell? ⟨b, off + k * 9, none⟩ = some (.int .i64 (l.getD k ac0).s) ∧ w.cell? ⟨b, off + k * 9 + 1, none⟩ = some (.int .i64 (l.getD k ac0).p) ∧ w.cell? ⟨b, off + k * 9 + 2, none⟩ = some (.bool (l.getD k ac0).n) ∧ w.cell? ⟨b, off + k * 9 + 3, none⟩ = some (.int .i64 (l.getD k ac0).src) ∧
    w.cell? ⟨b, off + k * 9 + 4, none⟩ = some (.int .i64 (l.getD k ac0).sb) ∧ w.cell? ⟨b, off + k * 9 + 5, none⟩ = some (.int .i64 (l.getD k ac0).dst) ∧ w.cell? ⟨b, off + k * 9 + 6, none⟩ = some (.int .i64 (l.getD k ac0).db) ∧ w.cell? ⟨b, off + k * 9 + 7, none⟩ = some (.int .i64 (l.getD k ac0).o) ∧
    w.cell? ⟨b, off + k * 9 + 8, none⟩ = some (.bool (l.getD k ac0).d) := by
  obtain ⟨a, cap, hv, hn, h0 | ⟨b, off, rfl, hc, hL⟩⟩ := h
  · omega
  · have h0 := hL k _ (getD_at ac0 hk) 0 _ rfl
    exact ⟨b, off, cap, hv, hc, cell_in h0, h0, hL k _ (getD_at ac0 hk) 1 _ rfl, hL k _ (getD_at ac0 hk) 2 _ rfl, hL k _ (getD_at ac0 hk) 3 _ rfl, hL k _ (getD_at ac0 hk) 4 _ rfl, hL k _ (getD_at ac0 hk) 5 _ rfl, hL k _ (getD_at ac0 hk) 6 _ rfl, hL k _ (getD_at ac0 hk) 7 _ rfl, hL k _ (getD_at ac0 hk) 8 _ rfl⟩

/- rows as cells, one behind the other -/
theorem flat_len {α : Type} {C : α → List Value} {sz : Nat} (hC : ∀ x, (C x).length = sz) : ∀ l : List α, (l.flatMap C).length = l.length * sz
  | [] => by simp
  | x :: r => by
    have := flat_len hC r
    simp [List.flatMap_cons, hC, this, Nat.add_mul]
    omega
theorem flat_at {α : Type} {C : α → List Value} {sz : Nat} (hC : ∀ x, (C x).length = sz) : ∀ (l : List α) (i : Nat) (x : α), l[i]? = some x → ∀ j u, (C x)[j]? = some u → (l.flatMap C)[i * sz + j]? = some u
  | [], i, x, h => by simp at h
  | y :: r, 0, x, h => fun j u hu => by
    simp at h
    subst h
    have hj : j < (C y).length := by
      rcases Nat.lt_or_ge j (C y).length with h | h
      · exact h
      · simp [List.getElem?_eq_none h] at hu
    rw [List.flatMap_cons, Nat.zero_mul, Nat.zero_add, List.getElem?_append_left hj]
    exact hu
  | y :: r, i + 1, x, h => fun j u hu => by
    have ih := flat_at hC r i x (by simpa using h) j u hu
    rw [List.flatMap_cons, List.getElem?_append_right (by rw [hC, Nat.add_mul]; omega)]
    rw [hC, show (i + 1) * sz + j - sz = i * sz + j by rw [Nat.add_mul]; omega]
    exact ih
theorem flat_inv {α : Type} {C : α → List Value} {sz : Nat} (hC : ∀ x, (C x).length = sz) : ∀ (l : List α) (k : Nat) (u : Value), (l.flatMap C)[k]? = some u → ∃ i x j, l[i]? = some x ∧ (C x)[j]? = some u ∧ k = i * sz + j
  | [], k, u, h => by simp at h
  | y :: r, k, u, h => by
    rw [List.flatMap_cons] at h
    by_cases hk : k < (C y).length
    · rw [List.getElem?_append_left hk] at h
      exact ⟨0, y, k, rfl, h, by omega⟩
    · rw [List.getElem?_append_right (by omega)] at h
      obtain ⟨i, x, j, h1, h2, h3⟩ := flat_inv hC r _ u h
      rw [hC] at hk h3
      exact ⟨i + 1, x, j, by simpa using h1, h2, by rw [Nat.add_mul]; omega⟩
theorem swC_len (x : Sw) : (swC x).length = 3 := rfl
theorem prC_len (x : Pr) : (prC x).length = 5 := rfl
theorem acC_len (x : Ac) : (acC x).length = 9 := rfl
theorem swC_one (l : List Sw) : ∀ u ∈ l.flatMap swC, u.oneCell' = true := by
  intro u hu
  simp only [List.mem_flatMap] at hu
  obtain ⟨x, _, hu⟩ := hu
  simp only [swC, List.mem_cons, List.not_mem_nil, or_false] at hu
  rcases hu with rfl | rfl | rfl <;> rfl
theorem prC_one (l : List Pr) : ∀ u ∈ l.flatMap prC, u.oneCell' = true := by
  intro u hu
  simp only [List.mem_flatMap] at hu
  obtain ⟨x, _, hu⟩ := hu
  simp only [prC, List.mem_cons, List.not_mem_nil, or_false] at hu
  rcases hu with rfl | rfl | rfl | rfl | rfl <;> rfl
theorem acC_one (l : List Ac) : ∀ u ∈ l.flatMap acC, u.oneCell' = true := by
  intro u hu
  simp only [List.mem_flatMap] at hu
  obtain ⟨x, _, hu⟩ := hu
  simp only [acC, List.mem_cons, List.not_mem_nil, or_false] at hu
  rcases hu with rfl | rfl | rfl | rfl | rfl | rfl | rfl | rfl | rfl <;> rfl
theorem add_fl (b o j : Nat) : (⟨b, o, none⟩ : Addr).add j = ⟨b, o + j, none⟩ := by by_cases h : j = 0 <;> simp [Addr.add, h]

/-- A row's cells, as append asks for them. -/
theorem RowAt.news {α : Type} {C : α → List Value} {sz : Nat} (hC : ∀ x, (C x).length = sz) {w : World} {ad : Addr} {n cap : Nat} {l : List α} (h : RowAt C sz w (.slice (some ad) n cap) l) : ∀ j u, (l.flatMap C)[j]? = some u → w.cell? (ad.add j) = some u := by
  obtain ⟨a, c, hv, hn, h0 | ⟨b, off, ha, hc, hL⟩⟩ := h
  · intro j u hj
    rw [List.eq_nil_of_length_eq_zero h0] at hj
    simp at hj
  · simp only [Value.slice.injEq] at hv
    obtain ⟨h1, _, rfl⟩ := hv
    rw [ha] at h1
    simp at h1
    subst h1
    intro j u hj
    obtain ⟨i, x, k, hx, hu, rfl⟩ := flat_inv hC l j u hj
    rw [add_fl, ← Nat.add_assoc]
    exact hL i x hx k u hu
/-- What a row of the call's own holds, as what came in is said. -/
theorem RowAt.of_own {α : Type} {C : α → List Value} {sz : Nat} (hC : ∀ x, (C x).length = sz) (hs : 0 < sz) {w : World} {B e : Nat} {v : Value} {l : List α} (h : w.ownsRow B e sz v l.length (l.flatMap C)) : RowAt C sz w v l := by
  by_cases h0 : l.length = 0
  · obtain ⟨_, ⟨rfl, hn⟩ | ⟨g, cap, cur, rfl, _⟩⟩ := h
    · exact ⟨none, 0, by rw [h0], fun _ => rfl, .inl h0⟩
    · exact ⟨_, cap, rfl, by simp, .inl h0⟩
  · obtain ⟨g, cap, rfl, _, _⟩ := h.form (by omega)
    have hc : l.length ≤ cap := by
      obtain ⟨_, ⟨h, _⟩ | ⟨g', cap', cur, h, _, _, hc, _⟩⟩ := h
      · simp at h
      · simp only [Value.slice.injEq] at h
        omega
    refine ⟨_, cap, rfl, by simp, .inr ⟨g, 0, rfl, hc, fun i x hx j u hu => ?_⟩⟩
    have hj : j < sz := by
      rcases Nat.lt_or_ge j (C x).length with h | h
      · rw [hC] at h; exact h
      · simp [List.getElem?_eq_none h] at hu
    have hi : i < l.length := by
      rcases Nat.lt_or_ge i l.length with h | h
      · exact h
      · simp [List.getElem?_eq_none h] at hx
    have hlt : i * sz + j < l.length * sz := Nat.lt_of_lt_of_le (by rw [Nat.add_mul]; omega : i * sz + j < (i + 1) * sz) (Nat.mul_le_mul_right _ hi)
    rw [Nat.zero_add]
    exact (h.cellAt _ hlt).trans (flat_at hC l i x hx j u hu)

theorem set3 {w : World} {b : Nat} {x y z : Value} (t0 : w.cell? ⟨b, 0, none⟩ = some x) (t1 : w.cell? ⟨b, 1, none⟩ = some y) (t2 : w.cell? ⟨b, 2, none⟩ = some z) (p q r : Value) :
    (((w.setCell ⟨b, 0, none⟩ p).setCell ⟨b, 1, none⟩ q).setCell ⟨b, 2, none⟩ r).cell? ⟨b, 0, none⟩ = some p ∧ (((w.setCell ⟨b, 0, none⟩ p).setCell ⟨b, 1, none⟩ q).setCell ⟨b, 2, none⟩ r).cell? ⟨b, 1, none⟩ = some q ∧ (((w.setCell ⟨b, 0, none⟩ p).setCell ⟨b, 1, none⟩ q).setCell ⟨b, 2, none⟩ r).cell? ⟨b, 2, none⟩ = some r := by
  refine ⟨?_, ?_, ?_⟩
  · rw [World.cell?_setCell_other _ _ _ _ (by simp), World.cell?_setCell_other _ _ _ _ (by simp), World.cell?_setCell_same _ _ _ t0]
  · rw [World.cell?_setCell_other _ _ _ _ (by simp)]
    exact World.cell?_setCell_same _ _ _ ((World.cell?_setCell_other _ _ _ _ (by simp)).trans t1)
  · exact World.cell?_setCell_same _ _ _ ((World.cell?_setCell_other _ _ _ _ (by simp)).trans ((World.cell?_setCell_other _ _ _ _ (by simp)).trans t2))

/-- What is wanted lies where three slices say. -/
def CfAt (w : World) (sv pv av : Value) (S : List Sw) (P : List Pr) (A : List Ac) : Prop := SwsAt w sv S ∧ PrsAt w pv P ∧ AcsAt w av A
theorem CfAt.below {w w' : World} {B : Nat} {sv pv av : Value} {S : List Sw} {P : List Pr} {A : List Ac} (h : CfAt w sv pv av S P A) (hb : Below B w w') (hB : w.heap.size ≤ B) : CfAt w' sv pv av S P A :=
  ⟨RowAt.below h.1 hb hB, RowAt.below h.2.1 hb hB, RowAt.below h.2.2 hb hB⟩

theorem infoSw : (Try.prog.info? 86).map (fun i => (i.zero, i.size, i.bytes)) = some (some (.agg #[.int .i64 0, .int .i64 0, .int .i64 0]), 3, 24) := by kernel_rfl
theorem infoPr : (Try.prog.info? 89).map (fun i => (i.zero, i.size, i.bytes)) = some (some (.agg #[.int .i64 0, .int .i64 0, .int .i64 0, .int .i64 0, .int .i64 0]), 5, 40) := by kernel_rfl
theorem infoAc : (Try.prog.info? 92).map (fun i => (i.zero, i.size, i.bytes)) = some (some (.agg #[.int .i64 0, .int .i64 0, .bool false, .int .i64 0, .int .i64 0, .int .i64 0, .int .i64 0, .int .i64 0, .bool false]), 9, 72) := by kernel_rfl
theorem own_slc {w : World} {B e size n : Nat} {v : Value} {xs : List Value} (h : w.ownsRow B e size v n xs) : ∃ o c, v = .slice o n c := by
  obtain ⟨_, ⟨rfl, h0⟩ | ⟨g', cap', cur, rfl, _⟩⟩ := h
  · exact ⟨_, _, by rw [h0]⟩
  · exact ⟨_, _, rfl⟩
theorem own_in {w : World} {B e size n : Nat} {v : Value} {xs : List Value} (h : w.ownsRow B e size v n xs) {g : Nat} (hg : v.ownBlock = some g) : g < w.heap.size := by
  obtain ⟨_, ⟨rfl, _⟩ | ⟨g', cap', cur, rfl, hB, hb, _⟩⟩ := h
  · simp [Value.ownBlock] at hg
  · simp [Value.ownBlock] at hg
    subst hg
    rcases Nat.lt_or_ge g' w.heap.size with h' | h'
    · exact h'
    · simp [Array.getElem?_eq_none h'] at hb
theorem own_apart {w w' : World} {B B' e e' size size' n n' : Nat} {u v : Value} {xs ys : List Value} (h : w.ownsRow B e size u n xs) (h' : w'.ownsRow B' e' size' v n' ys) (hB : w.heap.size ≤ B') : u.ownBlock = none ∨ u.ownBlock ≠ v.ownBlock := by
  cases hu : u.ownBlock with
  | none => exact .inl rfl
  | some g =>
    refine .inr fun e => ?_
    have h1 := own_in h hu
    have h2 := own_ge h' g e.symm
    omega
theorem flat_next {α : Type} {C : α → List Value} (d : α) {l : List α} {k : Nat} (h : k < l.length) : (l.take k).flatMap C ++ C (l.getD k d) = (l.take (k + 1)).flatMap C := by
  rw [List.take_succ_eq_append_getElem h, List.flatMap_append]
  simp [List.getD, List.getElem?_eq_getElem h]
theorem all_one {l : List Value} (h : l.all (fun u => u.oneCell') = true) : ∀ u ∈ l, u.oneCell' = true := fun u hu => List.all_eq_true.1 h u hu

end Go.Proofs.Ytonhfgdnkkkikac
