/- Texts joined: Ba, Bb, Cn, Tj, Tz, Xk, Xh0, Kp, Kw, Oa, Kr, Wa, Mk, Fl, Fd, Pm, Pk, Rn, Na, Zm, Pd, Nb, Ci, Cc, Ct, Ck, Cp. -/
import Derived.Test.YtncdininppehkaaGreatRows
import Derived.WalkKit
import Derived.WalkSpells
import Derived.WalkLawsBesides
import Derived.Below
import Derived.Deep.Light
import Derived.OwnWalk
import Derived.Laws.IdiomCopy
import Derived.Deep.AppendLies
import Derived.Deep.RegionHeld3
import Derived.Deep.QuietTactic
import Derived.BigQuiet
import Derived.Deep.MidRow
import Derived.ProofKit
import Derived.OpenShut
import Derived.ShutString
import Derived.ChangeOld
import GoSem.Claim
import Derived.Laws.BytesArg
import Derived.Laws.BitsLemmas
namespace Go.Proofs.YtncdininppehkaaGreat
set_option linter.unusedVariables false
set_option maxRecDepth 100000
open Go.RowKit
theorem hide {p : Prop} (h : p) : Hid p := h
theorem unhide {p : Prop} (h : Hid p) : p := h
def wordB (n : Int) : Bool := decide (0 ≤ n ∧ n ≤ 65535)
theorem bool_ret {a b : Bool} (h : a = b) : Ending.returned (.bool a) = .returned (.bool b) := by rw [h]
theorem int_ret {k : IntKind} {a b : Int} (h : a = b) : Ending.returned (.int k a) = .returned (.int k b) := by rw [h]
theorem bcell {W w1 : World} (hb : Below W.heap.size W w1) : (∀ b o, b < W.heap.size → w1.cell? ⟨b, o, none⟩ = W.cell? ⟨b, o, none⟩) ∧ (∀ b o, b < W.heap.size → w1.frozen? ⟨b, o, none⟩ = W.frozen? ⟨b, o, none⟩) :=
 ⟨fun b o h => hb.cell (p := ⟨b, o, none⟩) h, fun b o h => hb.frozen (p := ⟨b, o, none⟩) h⟩
theorem own_ge {w : World} {B : Nat} {e : TypeId} {size : Nat} {v : Value} {n : Nat} {xs : List Value} (h : w.ownsRow B e size v n xs) : ∀ k, v.ownBlock = some k → B ≤ k := by
 intro k hk
 obtain ⟨_, ⟨rfl, _⟩ | ⟨g, cap, cur, rfl, hg, _⟩⟩ := h
 ·simp [Value.ownBlock] at hk
 ·simp [Value.ownBlock] at hk; omega
theorem bcell2 {B : Nat} {W w1 : World} (hb : Below B W w1) : (∀ b o, b < B → w1.cell? ⟨b, o, none⟩ = W.cell? ⟨b, o, none⟩) ∧ (∀ b o, b < B → w1.frozen? ⟨b, o, none⟩ = W.frozen? ⟨b, o, none⟩) :=
 ⟨fun b o h => hb.cell (p := ⟨b, o, none⟩) h, fun b o h => hb.frozen (p := ⟨b, o, none⟩) h⟩
theorem own_less {w : World} {B B' : Nat} {e : TypeId} {size : Nat} {v : Value} {n : Nat} {xs : List Value} (h : w.ownsRow B e size v n xs) (hB : B' ≤ B) : w.ownsRow B' e size v n xs := by
 obtain ⟨h1, h2 | ⟨g, cap, cur, hv, hg, h3⟩⟩ := h
 ·exact ⟨h1, .inl h2⟩
 ·exact ⟨h1, .inr ⟨g, cap, cur, hv, by omega, h3⟩⟩
theorem Below.grown0 {w w' : World} (h : Below w.heap.size w w') : w.grownBy w' none := ⟨h.os, h.tape, h.output, h.size, fun k hk _ => h.block k hk⟩
theorem own_below {w w' : World} {B e size n : Nat} {v : Value} {xs : List Value} (h : w.ownsRow B e size v n xs) (hb : Below w.heap.size w w') : w'.ownsRow B e size v n xs := by
 refine h.kept (Below.grown0 hb) ?_
 cases v.ownBlock
 ·exact .inl rfl
 ·exact .inr (by simp)
end Go.Proofs.YtncdininppehkaaGreat

namespace Go.Proofs.YtncdininppehkaaGreat
open Go.RowKit
set_option linter.unusedVariables false
set_option maxRecDepth 100000
theorem cell_in {w : World} {b o : Nat} {v : Value} (h : w.cell? ⟨b, o, none⟩ = some v) : b < w.heap.size := by
 rcases Nat.lt_or_ge b w.heap.size with h' | h'
 ·exact h'
 ·simp [World.cell?, Array.getElem?_eq_none h'] at h
theorem cell_beh {w w' : World} {B b o : Nat} {v : Value} (h : w.cell? ⟨b, o, none⟩ = some v) (hb : Below B w w') (hB : w.heap.size ≤ B) : w'.cell? ⟨b, o, none⟩ = some v :=
 (hb.cell (p := ⟨b, o, none⟩) (Nat.lt_of_lt_of_le (cell_in h) hB)).trans h
theorem new_cell (W : World) (n : Nat) (h : W.heap.size = n) (cs : Array Value) (t : TypeId) (j : Nat) (v : Value) (hv : cs[j]? = some v) : (W.alloc (.cells cs t)).cell? ⟨n, j, none⟩ = some v := by
 subst h
 simp [hv]
theorem old_cell {W : World} {b o : Nat} {v : Value} (h : W.cell? ⟨b, o, none⟩ = some v) (x : Obj) : (W.alloc x).cell? ⟨b, o, none⟩ = some v := cell_beh h ((Below.refl _ _).alloc (Nat.le_refl _) _) (Nat.le_refl _)
theorem new_frozen (W : World) (n : Nat) (h : W.heap.size = n) (cs : Array Value) (t : TypeId) (j : Nat) : (W.alloc (.cells cs t)).frozen? ⟨n, j, none⟩ = false := by
 subst h
 simp
theorem old_frozen {W : World} {b o : Nat} (hb : b < W.heap.size) (h : W.frozen? ⟨b, o, none⟩ = false) (x : Obj) : (W.alloc x).frozen? ⟨b, o, none⟩ = false := (((Below.refl W.heap.size W).alloc (Nat.le_refl _) x).frozen (p := ⟨b, o, none⟩) hb).trans h
theorem fill_at {w : World} {b : Nat} {vs : List Value} (h : ∀ j, j < vs.length → (w.cell? ⟨b, j, none⟩).isSome = true) {j : Nat} {v : Value} (hv : vs[j]? = some v) : (w.setCells b 0 vs).cell? ⟨b, j, none⟩ = some v := by
 have hj : j < vs.length := by
  rcases Nat.lt_or_ge j vs.length with h' | h'
  ·exact h'
  ·simp [List.getElem?_eq_none h'] at hv
 have := World.cell?_setCells_in b vs 0 w (fun k hk => by rw [Nat.zero_add]; exact h k hk) j hj
 rw [Nat.zero_add] at this
 rw [this]
 rw [List.getElem?_eq_getElem hj] at hv
 exact hv
theorem fill_below {B b : Nat} {a : World} (hb : B ≤ b) : ∀ (vs : List Value) (o : Nat) (w : World), Below B a w → Below B a (w.setCells b o vs)
 | [], _, _, h => h
 | v :: vs, o, w, h => fill_below hb vs (o + 1) _ (h.setCell hb v)
theorem new_cell_range (W : World) (n : Nat) (h : W.heap.size = n) (cs : Array Value) (t : TypeId) (j : Nat) (hj : j < cs.size) : ((W.alloc (.cells cs t)).cell? ⟨n, j, none⟩).isSome = true := by
 rw [new_cell W n h cs t j cs[j] (by simp [hj])]
 rfl
end Go.Proofs.YtncdininppehkaaGreat

namespace Go.Proofs.YtncdininppehkaaGreat
open Go.RowKit
set_option linter.unusedVariables false
set_option maxRecDepth 100000
structure Sw where
 i : Int
 t : Int
 g : Int
structure Pr where
 i : Int
 s : Int
 m : Int
 p : Int
 c : Int
structure Ac where
 s : Int
 p : Int
 n : Bool
 src : Int
 sb : Int
 dst : Int
 db : Int
 o : Int
 d : Bool
def sw0 : Sw := ⟨0, 0, 0⟩
def pr0 : Pr := ⟨0, 0, 0, 0, 0⟩
def ac0 : Ac := ⟨0, 0, false, 0, 0, 0, 0, 0, false⟩
def swC (x : Sw) : List Value := [.int .i64 x.i, .int .i64 x.t, .int .i64 x.g]
def prC (x : Pr) : List Value := [.int .i64 x.i, .int .i64 x.s, .int .i64 x.m, .int .i64 x.p, .int .i64 x.c]
def acC (x : Ac) : List Value := [.int .i64 x.s, .int .i64 x.p, .bool x.n, .int .i64 x.src, .int .i64 x.sb, .int .i64 x.dst, .int .i64 x.db, .int .i64 x.o, .bool x.d]
def RowAt {α : Type} (C : α → List Value) (sz : Nat) (w : World) (v : Value) (l : List α) : Prop :=
 ∃ a cap, v = .slice a l.length cap ∧ (a = none → cap = 0) ∧ (l.length = 0 ∨ ∃ b off, a = some ⟨b, off, none⟩ ∧ l.length ≤ cap ∧ ∀ i x, l[i]? = some x → ∀ j u, (C x)[j]? = some u → w.cell? ⟨b, off + i * sz + j, none⟩ = some u)
def SwsAt := RowAt swC 3
def PrsAt := RowAt prC 5
def AcsAt := RowAt acC 9
theorem RowAt.below {α : Type} {C : α → List Value} {sz : Nat} {w w' : World} {B : Nat} {v : Value} {l : List α} (h : RowAt C sz w v l) (hb : Below B w w') (hB : w.heap.size ≤ B) : RowAt C sz w' v l := by
 obtain ⟨a, cap, hv, hn, h0 | ⟨b, off, ha, hc, hL⟩⟩ := h
 ·exact ⟨a, cap, hv, hn, .inl h0⟩
 ·exact ⟨a, cap, hv, hn, .inr ⟨b, off, ha, hc, fun i x hx j u hu => cell_beh (hL i x hx j u hu) hb hB⟩⟩
theorem RowAt.slice {α : Type} {C : α → List Value} {sz : Nat} {w : World} {v : Value} {l : List α} (h : RowAt C sz w v l) : ∃ a cap, v = .slice a l.length cap := by
 obtain ⟨a, cap, hv, _⟩ := h
 exact ⟨a, cap, hv⟩
theorem RowAt.nil {α : Type} (C : α → List Value) (sz : Nat) (w : World) : RowAt C sz w (.slice none 0 0) [] := ⟨none, 0, rfl, fun _ => rfl, .inl rfl⟩
theorem RowAt.take {α : Type} {C : α → List Value} {sz : Nat} {w : World} {a : Option Addr} {n cap : Nat} {l : List α} (h : RowAt C sz w (.slice a n cap) l) (k : Nat) (hk : k < l.length) : RowAt C sz w (.slice a k cap) (l.take k) := by
 obtain ⟨a', cap', hv, hn, h0 | ⟨b, off, ha, hc, hL⟩⟩ := h
 ·omega
 ·simp only [Value.slice.injEq] at hv
  obtain ⟨rfl, _, rfl⟩ := hv
  refine ⟨a, cap, by rw [List.length_take, Nat.min_eq_left (by omega)], hn, .inr ⟨b, off, ha, by rw [List.length_take]; omega, fun i x hx => hL i x ?_⟩⟩
  rw [List.getElem?_take] at hx
  split at hx
  ·exact hx
  ·simp at hx
theorem getD_at {α : Type} {l : List α} {k : Nat} (d : α) (hk : k < l.length) : l[k]? = some (l.getD k d) := by
 simp [List.getD, List.getElem?_eq_getElem hk]
theorem sw_at {w : World} {v : Value} {l : List Sw} {k : Nat} (h : SwsAt w v l) (hk : k < l.length) : ∃ b off cap, v = .slice (some ⟨b, off, none⟩) l.length cap ∧ l.length ≤ cap ∧ b < w.heap.size ∧
  w.cell? ⟨b, off + k * 3, none⟩ = some (.int .i64 (l.getD k sw0).i) ∧ w.cell? ⟨b, off + k * 3 + 1, none⟩ = some (.int .i64 (l.getD k sw0).t) ∧ w.cell? ⟨b, off + k * 3 + 2, none⟩ = some (.int .i64 (l.getD k sw0).g) := by
 obtain ⟨a, cap, hv, hn, h0 | ⟨b, off, rfl, hc, hL⟩⟩ := h
 ·omega
 ·have h0 := hL k _ (getD_at sw0 hk) 0 _ rfl
  exact ⟨b, off, cap, hv, hc, cell_in h0, h0, hL k _ (getD_at sw0 hk) 1 _ rfl, hL k _ (getD_at sw0 hk) 2 _ rfl⟩
theorem pr_at {w : World} {v : Value} {l : List Pr} {k : Nat} (h : PrsAt w v l) (hk : k < l.length) : ∃ b off cap, v = .slice (some ⟨b, off, none⟩) l.length cap ∧ l.length ≤ cap ∧ b < w.heap.size ∧
  w.cell? ⟨b, off + k * 5, none⟩ = some (.int .i64 (l.getD k pr0).i) ∧ w.cell? ⟨b, off + k * 5 + 1, none⟩ = some (.int .i64 (l.getD k pr0).s) ∧ w.cell? ⟨b, off + k * 5 + 2, none⟩ = some (.int .i64 (l.getD k pr0).m) ∧ w.cell? ⟨b, off + k * 5 + 3, none⟩ = some (.int .i64 (l.getD k pr0).p) ∧
  w.cell? ⟨b, off + k * 5 + 4, none⟩ = some (.int .i64 (l.getD k pr0).c) := by
 obtain ⟨a, cap, hv, hn, h0 | ⟨b, off, rfl, hc, hL⟩⟩ := h
 ·omega
 ·have h0 := hL k _ (getD_at pr0 hk) 0 _ rfl
  exact ⟨b, off, cap, hv, hc, cell_in h0, h0, hL k _ (getD_at pr0 hk) 1 _ rfl, hL k _ (getD_at pr0 hk) 2 _ rfl, hL k _ (getD_at pr0 hk) 3 _ rfl, hL k _ (getD_at pr0 hk) 4 _ rfl⟩
theorem ac_at {w : World} {v : Value} {l : List Ac} {k : Nat} (h : AcsAt w v l) (hk : k < l.length) : ∃ b off cap, v = .slice (some ⟨b, off, none⟩) l.length cap ∧ l.length ≤ cap ∧ b < w.heap.size ∧
  w.cell? ⟨b, off + k * 9, none⟩ = some (.int .i64 (l.getD k ac0).s) ∧ w.cell? ⟨b, off + k * 9 + 1, none⟩ = some (.int .i64 (l.getD k ac0).p) ∧ w.cell? ⟨b, off + k * 9 + 2, none⟩ = some (.bool (l.getD k ac0).n) ∧ w.cell? ⟨b, off + k * 9 + 3, none⟩ = some (.int .i64 (l.getD k ac0).src) ∧
  w.cell? ⟨b, off + k * 9 + 4, none⟩ = some (.int .i64 (l.getD k ac0).sb) ∧ w.cell? ⟨b, off + k * 9 + 5, none⟩ = some (.int .i64 (l.getD k ac0).dst) ∧ w.cell? ⟨b, off + k * 9 + 6, none⟩ = some (.int .i64 (l.getD k ac0).db) ∧ w.cell? ⟨b, off + k * 9 + 7, none⟩ = some (.int .i64 (l.getD k ac0).o) ∧
  w.cell? ⟨b, off + k * 9 + 8, none⟩ = some (.bool (l.getD k ac0).d) := by
 obtain ⟨a, cap, hv, hn, h0 | ⟨b, off, rfl, hc, hL⟩⟩ := h
 ·omega
 ·have h0 := hL k _ (getD_at ac0 hk) 0 _ rfl
  exact ⟨b, off, cap, hv, hc, cell_in h0, h0, hL k _ (getD_at ac0 hk) 1 _ rfl, hL k _ (getD_at ac0 hk) 2 _ rfl, hL k _ (getD_at ac0 hk) 3 _ rfl, hL k _ (getD_at ac0 hk) 4 _ rfl, hL k _ (getD_at ac0 hk) 5 _ rfl, hL k _ (getD_at ac0 hk) 6 _ rfl, hL k _ (getD_at ac0 hk) 7 _ rfl, hL k _ (getD_at ac0 hk) 8 _ rfl⟩
/- rows as cells, one behind the other -/
theorem flat_len {α : Type} {C : α → List Value} {sz : Nat} (hC : ∀ x, (C x).length = sz) : ∀ l : List α, (l.flatMap C).length = l.length * sz
 | [] => by simp
 | x :: r => by
  have := flat_len hC r
  simp [List.flatMap_cons, hC, this, Nat.add_mul]
  omega
theorem flat_at {α : Type} {C : α → List Value} {sz : Nat} (hC : ∀ x, (C x).length = sz) : ∀ (l : List α) (i : Nat) (x : α), l[i]? = some x → ∀ j u, (C x)[j]? = some u → (l.flatMap C)[i * sz + j]? = some u
 | [], i, x, h => by simp at h
 | y :: r, 0, x, h => fun j u hu => by
  simp at h
  subst h
  have hj : j < (C y).length := by
   rcases Nat.lt_or_ge j (C y).length with h | h
   ·exact h
   ·simp [List.getElem?_eq_none h] at hu
  rw [List.flatMap_cons, Nat.zero_mul, Nat.zero_add, List.getElem?_append_left hj]
  exact hu
 | y :: r, i + 1, x, h => fun j u hu => by
  have ih := flat_at hC r i x (by simpa using h) j u hu
  rw [List.flatMap_cons, List.getElem?_append_right (by rw [hC, Nat.add_mul]; omega)]
  rw [hC, show (i + 1) * sz + j - sz = i * sz + j by rw [Nat.add_mul]; omega]
  exact ih
theorem flat_inv {α : Type} {C : α → List Value} {sz : Nat} (hC : ∀ x, (C x).length = sz) : ∀ (l : List α) (k : Nat) (u : Value), (l.flatMap C)[k]? = some u → ∃ i x j, l[i]? = some x ∧ (C x)[j]? = some u ∧ k = i * sz + j
 | [], k, u, h => by simp at h
 | y :: r, k, u, h => by
  rw [List.flatMap_cons] at h
  by_cases hk : k < (C y).length
  ·rw [List.getElem?_append_left hk] at h
   exact ⟨0, y, k, rfl, h, by omega⟩
  ·rw [List.getElem?_append_right (by omega)] at h
   obtain ⟨i, x, j, h1, h2, h3⟩ := flat_inv hC r _ u h
   rw [hC] at hk h3
   exact ⟨i + 1, x, j, by simpa using h1, h2, by rw [Nat.add_mul]; omega⟩
theorem swC_len (x : Sw) : (swC x).length = 3 := rfl
theorem prC_len (x : Pr) : (prC x).length = 5 := rfl
theorem acC_len (x : Ac) : (acC x).length = 9 := rfl
theorem swC_one (l : List Sw) : ∀ u ∈ l.flatMap swC, u.oneCell' = true := by
 intro u hu
 simp only [List.mem_flatMap] at hu
 obtain ⟨x, _, hu⟩ := hu
 simp only [swC, List.mem_cons, List.not_mem_nil, or_false] at hu
 rcases hu with rfl | rfl | rfl <;> rfl
theorem prC_one (l : List Pr) : ∀ u ∈ l.flatMap prC, u.oneCell' = true := by
 intro u hu
 simp only [List.mem_flatMap] at hu
 obtain ⟨x, _, hu⟩ := hu
 simp only [prC, List.mem_cons, List.not_mem_nil, or_false] at hu
 rcases hu with rfl | rfl | rfl | rfl | rfl <;> rfl
theorem acC_one (l : List Ac) : ∀ u ∈ l.flatMap acC, u.oneCell' = true := by
 intro u hu
 simp only [List.mem_flatMap] at hu
 obtain ⟨x, _, hu⟩ := hu
 simp only [acC, List.mem_cons, List.not_mem_nil, or_false] at hu
 rcases hu with rfl | rfl | rfl | rfl | rfl | rfl | rfl | rfl | rfl <;> rfl
theorem add_fl (b o j : Nat) : (⟨b, o, none⟩ : Addr).add j = ⟨b, o + j, none⟩ := by by_cases h : j = 0 <;> simp [Addr.add, h]
theorem RowAt.news {α : Type} {C : α → List Value} {sz : Nat} (hC : ∀ x, (C x).length = sz) {w : World} {ad : Addr} {n cap : Nat} {l : List α} (h : RowAt C sz w (.slice (some ad) n cap) l) : ∀ j u, (l.flatMap C)[j]? = some u → w.cell? (ad.add j) = some u := by
 obtain ⟨a, c, hv, hn, h0 | ⟨b, off, ha, hc, hL⟩⟩ := h
 ·intro j u hj
  rw [List.eq_nil_of_length_eq_zero h0] at hj
  simp at hj
 ·simp only [Value.slice.injEq] at hv
  obtain ⟨h1, _, rfl⟩ := hv
  rw [ha] at h1
  simp at h1
  subst h1
  intro j u hj
  obtain ⟨i, x, k, hx, hu, rfl⟩ := flat_inv hC l j u hj
  rw [add_fl, ← Nat.add_assoc]
  exact hL i x hx k u hu
theorem RowAt.of_own {α : Type} {C : α → List Value} {sz : Nat} (hC : ∀ x, (C x).length = sz) (hs : 0 < sz) {w : World} {B e : Nat} {v : Value} {l : List α} (h : w.ownsRow B e sz v l.length (l.flatMap C)) : RowAt C sz w v l := by
 by_cases h0 : l.length = 0
 ·obtain ⟨_, ⟨rfl, hn⟩ | ⟨g, cap, cur, rfl, _⟩⟩ := h
  ·exact ⟨none, 0, by rw [h0], fun _ => rfl, .inl h0⟩
  ·exact ⟨_, cap, rfl, by simp, .inl h0⟩
 ·obtain ⟨g, cap, rfl, _, _⟩ := h.form (by omega)
  have hc : l.length ≤ cap := by
   obtain ⟨_, ⟨h, _⟩ | ⟨g', cap', cur, h, _, _, hc, _⟩⟩ := h
   ·simp at h
   ·simp only [Value.slice.injEq] at h
    omega
  refine ⟨_, cap, rfl, by simp, .inr ⟨g, 0, rfl, hc, fun i x hx j u hu => ?_⟩⟩
  have hj : j < sz := by
   rcases Nat.lt_or_ge j (C x).length with h | h
   ·rw [hC] at h; exact h
   ·simp [List.getElem?_eq_none h] at hu
  have hi : i < l.length := by
   rcases Nat.lt_or_ge i l.length with h | h
   ·exact h
   ·simp [List.getElem?_eq_none h] at hx
  have hlt : i * sz + j < l.length * sz := Nat.lt_of_lt_of_le (by rw [Nat.add_mul]; omega : i * sz + j < (i + 1) * sz) (Nat.mul_le_mul_right _ hi)
  rw [Nat.zero_add]
  exact (h.cellAt _ hlt).trans (flat_at hC l i x hx j u hu)
theorem set3 {w : World} {b : Nat} {x y z : Value} (t0 : w.cell? ⟨b, 0, none⟩ = some x) (t1 : w.cell? ⟨b, 1, none⟩ = some y) (t2 : w.cell? ⟨b, 2, none⟩ = some z) (p q r : Value) :
  (((w.setCell ⟨b, 0, none⟩ p).setCell ⟨b, 1, none⟩ q).setCell ⟨b, 2, none⟩ r).cell? ⟨b, 0, none⟩ = some p ∧ (((w.setCell ⟨b, 0, none⟩ p).setCell ⟨b, 1, none⟩ q).setCell ⟨b, 2, none⟩ r).cell? ⟨b, 1, none⟩ = some q ∧ (((w.setCell ⟨b, 0, none⟩ p).setCell ⟨b, 1, none⟩ q).setCell ⟨b, 2, none⟩ r).cell? ⟨b, 2, none⟩ = some r := by
 refine ⟨?_, ?_, ?_⟩
 ·rw [World.cell?_setCell_other _ _ _ _ (by simp), World.cell?_setCell_other _ _ _ _ (by simp), World.cell?_setCell_same _ _ _ t0]
 ·rw [World.cell?_setCell_other _ _ _ _ (by simp)]
  exact World.cell?_setCell_same _ _ _ ((World.cell?_setCell_other _ _ _ _ (by simp)).trans t1)
 ·exact World.cell?_setCell_same _ _ _ ((World.cell?_setCell_other _ _ _ _ (by simp)).trans ((World.cell?_setCell_other _ _ _ _ (by simp)).trans t2))
def CfAt (w : World) (sv pv av : Value) (S : List Sw) (P : List Pr) (A : List Ac) : Prop := SwsAt w sv S ∧ PrsAt w pv P ∧ AcsAt w av A
theorem CfAt.below {w w' : World} {B : Nat} {sv pv av : Value} {S : List Sw} {P : List Pr} {A : List Ac} (h : CfAt w sv pv av S P A) (hb : Below B w w') (hB : w.heap.size ≤ B) : CfAt w' sv pv av S P A :=
 ⟨RowAt.below h.1 hb hB, RowAt.below h.2.1 hb hB, RowAt.below h.2.2 hb hB⟩
theorem infoSw : (Tryz.prog.info? 59).map (fun i => (i.zero, i.size, i.bytes)) = some (some (.agg #[.int .i64 0, .int .i64 0, .int .i64 0]), 3, 24) := by kernel_rfl
theorem infoPr : (Tryz.prog.info? 71).map (fun i => (i.zero, i.size, i.bytes)) = some (some (.agg #[.int .i64 0, .int .i64 0, .int .i64 0, .int .i64 0, .int .i64 0]), 5, 40) := by kernel_rfl
theorem infoAc : (Tryz.prog.info? 65).map (fun i => (i.zero, i.size, i.bytes)) = some (some (.agg #[.int .i64 0, .int .i64 0, .bool false, .int .i64 0, .int .i64 0, .int .i64 0, .int .i64 0, .int .i64 0, .bool false]), 9, 72) := by kernel_rfl
theorem own_slc {w : World} {B e size n : Nat} {v : Value} {xs : List Value} (h : w.ownsRow B e size v n xs) : ∃ o c, v = .slice o n c := by
 obtain ⟨_, ⟨rfl, h0⟩ | ⟨g', cap', cur, rfl, _⟩⟩ := h
 ·exact ⟨_, _, by rw [h0]⟩
 ·exact ⟨_, _, rfl⟩
theorem own_in {w : World} {B e size n : Nat} {v : Value} {xs : List Value} (h : w.ownsRow B e size v n xs) {g : Nat} (hg : v.ownBlock = some g) : g < w.heap.size := by
 obtain ⟨_, ⟨rfl, _⟩ | ⟨g', cap', cur, rfl, hB, hb, _⟩⟩ := h
 ·simp [Value.ownBlock] at hg
 ·simp [Value.ownBlock] at hg
  subst hg
  rcases Nat.lt_or_ge g' w.heap.size with h' | h'
  ·exact h'
  ·simp [Array.getElem?_eq_none h'] at hb
theorem own_apart {w w' : World} {B B' e e' size size' n n' : Nat} {u v : Value} {xs ys : List Value} (h : w.ownsRow B e size u n xs) (h' : w'.ownsRow B' e' size' v n' ys) (hB : w.heap.size ≤ B') : u.ownBlock = none ∨ u.ownBlock ≠ v.ownBlock := by
 cases hu : u.ownBlock with
 | none => exact .inl rfl
 | some g =>
  refine .inr fun e => ?_
  have h1 := own_in h hu
  have h2 := own_ge h' g e.symm
  omega
theorem flat_next {α : Type} {C : α → List Value} (d : α) {l : List α} {k : Nat} (h : k < l.length) : (l.take k).flatMap C ++ C (l.getD k d) = (l.take (k + 1)).flatMap C := by
 rw [List.take_succ_eq_append_getElem h, List.flatMap_append]
 simp [List.getD, List.getElem?_eq_getElem h]
theorem all_one {l : List Value} (h : l.all (fun u => u.oneCell') = true) : ∀ u ∈ l, u.oneCell' = true := fun u hu => List.all_eq_true.1 h u hu
end Go.Proofs.YtncdininppehkaaGreat

namespace Go.Proofs.YtncdininppehkaaGreat
open Go.RowKit
set_option linter.unusedVariables false
set_option maxRecDepth 100000
section
variable {P : Program} {ops : Array Oper} {Q : Exit → Act → World → Prop} {md : Region.Mode} {S : World → Prop} {fuel : Nat} {listed : Array Bool} {a : Act} {w : World} {v : Value}
theorem tk {i d : Nat} {o : Op} {ty : TypeId} {pos : String} {af : Array Edge} {gd : Option (Nat × Bool)} (hi : ops[i]? = some ⟨some d, o, ty, pos, af, gd⟩) (hk : (Region.noSelect ops && Region.free md ops listed i && (Region.ready md ops listed).contains i) = true)
  (hQ : ∀ c a w, Q (.panic c) (a.put (some d) v) w → Q (.panic c) a w) (hw : Region.wanted ⟨some d, o, ty, pos, af, gd⟩ (yielded ops a.tmps) = true) (hS : S w) (hy : ∀ w, S w → (execOp a.eval ⟨some d, o, ty, pos, af, gd⟩).run P w = .ok (.value v) w)
  (h : wpAnyH P md ops Q S fuel (listed.setIfInBounds i true) (a.put (some d) v) w) : wpAnyH P md ops Q S (fuel + 1) listed a w := by
 simp only [Bool.and_eq_true] at hk
 exact wpAnyH_take (oi := ⟨some d, o, ty, pos, af, gd⟩) hi hk.1.1 hk.1.2 hk.2 hQ (Or.inl ⟨hw, hy⟩) hS h
theorem rd {i : Nat} {o : Oper} (hr : Region.ready md ops listed = [i]) (ho : ops[i]? = some o) (h : ∀ K' : Act → World → Prop, Shut (∀ a w, S w → (S w → wpAnyH P md ops Q S fuel (listed.setIfInBounds i true) a w) → K' a w) → if Region.wanted o (yielded ops a.tmps) = true then Oper.wp P o a w K' Q else K' (a.put o.dst undef) w) : wpAnyH P md ops Q S (fuel + 1) listed a w :=
 wpAnyH_ready hr (by simp) (AllReadyH.cons ho h AllReadyH.nil)
end
theorem nz : (∀ (a : Act) (d : Nat) (v : Value), a.put (some d) v = { a with tmps := a.tmps.setIfInBounds d v }) ∧ (∀ (a : Act) (v : Value), a.put none v = a) ∧ (∀ (α : Type) (l : List α) (i : Nat) (x : α), l.toArray.setIfInBounds i x = (l.set i x).toArray) ∧ (∀ (α : Type) (x y : α) (l : List α), (x :: l).set 0 y = y :: l) ∧ (∀ (α : Type) (x y : α) (l : List α) (n : Nat), (x :: l).set (n + 1) y = x :: l.set n y) :=
 ⟨fun _ _ _ => rfl, fun _ _ => rfl, fun _ _ _ _ => by simp, fun _ _ _ _ => rfl, fun _ _ _ _ _ => rfl⟩
theorem cb {w w' : World} {b o : Nat} {v : Value} (h : w.cell? ⟨b, o, none⟩ = some v) (hb : Below w.heap.size w w') : w'.cell? ⟨b, o, none⟩ = some v := cell_beh h hb (Nat.le_refl _)
theorem ob {w w' : World} {B e sz n : Nat} {u : Value} {xs : List Value} (h : Hid (w.ownsRow B e sz u n xs)) (hb : Below w.heap.size w w') : Hid (w'.ownsRow B e sz u n xs) := hide (own_below h.out hb)
theorem tm {a b c : World} (h : Below a.heap.size a b) (h2 : Below b.heap.size b c) : Below a.heap.size a c := h.trans (h2.mono h.size)
theorem bn {V W : World} {o : Obj} (h : W = V.alloc o) : Below V.heap.size V W := by rw [h]; exact (Below.refl _ _).alloc (Nat.le_refl _) _
theorem ln {V W : World} {o : Obj} {g : Nat} (h : W = V.alloc o) (hg : g = V.heap.size) : g < W.heap.size := by rw [h, hg]; simp
end Go.Proofs.YtncdininppehkaaGreat

namespace Go.Proofs.YtncdininppehkaaGreat
open Go.RowKit
set_option linter.unusedVariables false
set_option maxRecDepth 100000
def twS (t g : Int) : List Sw := [⟨1, 1, 50⟩, ⟨2, t, g⟩]
def twP (a b : Int) : List Pr := [⟨1, 1, 11, 51, a⟩, ⟨2, 1, 12, 52, b⟩, ⟨3, 2, 11, 61, b⟩]
theorem in6 {a : Int} (h : 0 ≤ a ∧ a ≤ 5) : a = 0 ∨ a = 1 ∨ a = 2 ∨ a = 3 ∨ a = 4 ∨ a = 5 := by omega
theorem in7 {a : Int} (h : -1 ≤ a ∧ a ≤ 5) : a = -1 ∨ a = 0 ∨ a = 1 ∨ a = 2 ∨ a = 3 ∨ a = 4 ∨ a = 5 := by omega
end Go.Proofs.YtncdininppehkaaGreat

namespace Go.Proofs.YtncdininppehkaaGreat
open Go.RowKit
set_option linter.unusedVariables false
set_option maxRecDepth 100000
theorem range_below {w w' : World} {b o B : Nat} {cs : List Value} (h : w.rangeAt b o cs) (hb : Below B w w') (hB : b < B) : w'.rangeAt b o cs := fun j v hj => (hb.cell (p := ⟨b, o + j, none⟩) hB).trans (h j v hj)
theorem range_new (w : World) (cs : List Value) (t : TypeId) : (w.alloc (.cells cs.toArray t)).rangeAt w.heap.size 0 cs := fun j v hj => by
 rw [Nat.zero_add]
 exact new_cell w _ rfl _ _ _ _ (by simpa using hj)
def Box (w : World) (b : Nat) (cs : List Value) : Prop := (b < w.heap.size ∧ w.rangeAt b 0 cs) ∧ ∀ j, j < cs.length → w.frozen? ⟨b, j, none⟩ = false
theorem Box.lt {w : World} {b : Nat} {cs : List Value} (h : Box w b cs) : b < w.heap.size := h.1.1
theorem Box.range {w : World} {b : Nat} {cs : List Value} (h : Box w b cs) : w.rangeAt b 0 cs := h.1.2
theorem Box.cell {w : World} {b : Nat} {cs : List Value} (h : Box w b cs) (j : Nat) (v : Value) (hj : cs[j]? = some v) : w.cell? ⟨b, j, none⟩ = some v := by
 have := h.1.2 j v hj
 rwa [Nat.zero_add] at this
theorem Box.below {w w' : World} {b : Nat} {cs : List Value} (h : Box w b cs) (hb : Below w.heap.size w w') : Box w' b cs :=
 ⟨⟨Nat.lt_of_lt_of_le h.1.1 hb.size, range_below h.1.2 hb h.1.1⟩, fun j hj => (hb.frozen (p := ⟨b, j, none⟩) h.1.1).trans (h.2 j hj)⟩
theorem Box.new (w : World) (cs : List Value) (t : TypeId) : Box (w.alloc (.cells cs.toArray t)) w.heap.size cs :=
 ⟨⟨by simp, range_new w cs t⟩, fun j hj => new_frozen w _ rfl _ _ _⟩
theorem Box.alloc {w : World} {b : Nat} {cs : List Value} (h : Box w b cs) (o : Obj) : Box (w.alloc o) b cs := h.below ((Below.refl _ _).alloc (Nat.le_refl _) _)
theorem Box.there {w : World} {b : Nat} {cs : List Value} (h : Box w b cs) : w.there b 0 cs.length := fun j hj => by
 rw [Nat.zero_add]
 refine ⟨?_, h.2 j hj⟩
 rw [h.cell j _ (List.getElem?_eq_getElem hj)]; rfl
theorem Box.fit {w : World} {b : Nat} {cs : List Value} (h : Box w b cs) (n : Nat) (hn : cs.length = n) : w.there b 0 n := hn ▸ h.there
theorem ones {cs : List Value} (h : cs.all (fun u => u.oneCell') = true) : cs.toArray.all (·.oneCell') = true := all_oneCell_toArray (all_one h)
theorem setCells_size (b : Nat) : ∀ (vs : List Value) (o : Nat) (w : World), (w.setCells b o vs).heap.size = w.heap.size
 | [], o, w => rfl
 | v :: vs, o, w => by
  show ((w.setCell ⟨b, o, none⟩ v).setCells b (o + 1) vs).heap.size = _
  rw [setCells_size b vs]; simp
theorem setCells_below (b : Nat) {B : Nat} (hB : B ≤ b) {a : World} : ∀ (vs : List Value) (o : Nat) {w : World}, Below B a w → Below B a (w.setCells b o vs)
 | [], o, w, h => h
 | v :: vs, o, w, h => setCells_below b hB vs (o + 1) (w := w.setCell ⟨b, o, none⟩ v) (h.setCell hB _)
theorem setCells_frozen (b : Nat) : ∀ (vs : List Value) (o : Nat) (w : World) (x : Addr), (w.setCells b o vs).frozen? x = w.frozen? x
 | [], o, w, x => rfl
 | v :: vs, o, w, x => by
  show ((w.setCell ⟨b, o, none⟩ v).setCells b (o + 1) vs).frozen? x = _
  rw [setCells_frozen b vs]; simp
theorem Box.set {w : World} {b : Nat} {cs : List Value} (h : Box w b cs) (vs : List Value) (hl : vs.length = cs.length) : Box (w.setCells b 0 vs) b vs :=
 ⟨⟨by rw [setCells_size]; exact h.1.1, World.rangeAt_setCells_same w b 0 vs (by rw [hl]; exact h.there)⟩, fun j hj => by rw [setCells_frozen]; exact h.2 j (by omega)⟩
theorem Box.set_far {w : World} {b b' : Nat} {cs : List Value} (h : Box w b cs) (hne : b ≠ b') (o : Nat) (vs : List Value) : Box (w.setCells b' o vs) b cs :=
 ⟨⟨by rw [setCells_size]; exact h.1.1, World.rangeAt_setCells_apart h.1.2 b' o vs (.inl hne)⟩, fun j hj => by rw [setCells_frozen]; exact h.2 j hj⟩
section
variable {P : Program} {fn : Func} {tmps : Array Value} {w : World} {b : Nat} {cs : List Value} {ty : TypeId} {d : TypeDesc} {p q r : Tmp}
theorem results_c (h : fn.results = #[.cell p ty]) (hp : tmps.getD p undef = .pointer (some ⟨b, 0, none⟩)) (hc : w.rangeAt b 0 cs) (hu : P.underlying ty = some d) (hd : d.isRow = true) (hi : (P.info? ty).map (·.size) = some cs.length) :
  (results fn tmps).run P w = .ok (.agg cs.toArray) w := by
 have := run_loadVar_mid (P := P) w b 0 ty cs d hc hu hd hi
 rw [Array.getD_eq_getD_getElem?] at hp
 simp only [results, h]
 simp [asAddr, this, hp]
theorem results_ct (h : fn.results = #[.cell p ty, .tmp q]) (hp : tmps.getD p undef = .pointer (some ⟨b, 0, none⟩)) (hc : w.rangeAt b 0 cs) (hu : P.underlying ty = some d) (hd : d.isRow = true) (hi : (P.info? ty).map (·.size) = some cs.length) :
  (results fn tmps).run P w = .ok (.tuple #[.agg cs.toArray, tmps.getD q undef]) w := by
 have := run_loadVar_mid (P := P) w b 0 ty cs d hc hu hd hi
 rw [Array.getD_eq_getD_getElem?] at hp
 simp only [results, h]
 simp [asAddr, this, hp]
theorem results_tc (h : fn.results = #[.tmp q, .cell p ty]) (hp : tmps.getD p undef = .pointer (some ⟨b, 0, none⟩)) (hc : w.rangeAt b 0 cs) (hu : P.underlying ty = some d) (hd : d.isRow = true) (hi : (P.info? ty).map (·.size) = some cs.length) :
  (results fn tmps).run P w = .ok (.tuple #[tmps.getD q undef, .agg cs.toArray]) w := by
 have := run_loadVar_mid (P := P) w b 0 ty cs d hc hu hd hi
 rw [Array.getD_eq_getD_getElem?] at hp
 simp only [results, h]
 simp [asAddr, this, hp]
theorem results_tct (h : fn.results = #[.tmp q, .cell p ty, .tmp r]) (hp : tmps.getD p undef = .pointer (some ⟨b, 0, none⟩)) (hc : w.rangeAt b 0 cs) (hu : P.underlying ty = some d) (hd : d.isRow = true) (hi : (P.info? ty).map (·.size) = some cs.length) :
  (results fn tmps).run P w = .ok (.tuple #[tmps.getD q undef, .agg cs.toArray, tmps.getD r undef]) w := by
 have := run_loadVar_mid (P := P) w b 0 ty cs d hc hu hd hi
 rw [Array.getD_eq_getD_getElem?] at hp
 simp only [results, h]
 simp [asAddr, this, hp]
end
end Go.Proofs.YtncdininppehkaaGreat

namespace Go.Proofs.YtncdininppehkaaGreat
open Go.RowKit
set_option linter.unusedVariables false
set_option maxRecDepth 100000
def Keep (X : Nat → Prop) (w w' : World) : Prop := w.heap.size ≤ w'.heap.size ∧ ∀ k, ¬ X k → k < w.heap.size → w'.heap[k]? = w.heap[k]?
def Kept (X : Nat → Prop) (w : World) (F : World → Prop) : Prop := ∀ w', Keep X w w' → F w'
theorem Kept.here {X : Nat → Prop} {w : World} {F : World → Prop} (h : Kept X w F) : F w := h w ⟨Nat.le_refl _, fun _ _ _ => rfl⟩
theorem Kept.on {X X' : Nat → Prop} {w w' : World} {F : World → Prop} (h : Kept X w F) (hk : Keep X w w') (hX : ∀ k, X' k → X k ∨ w.heap.size ≤ k) : Kept X' w' F := fun w2 h2 =>
 h w2 ⟨Nat.le_trans hk.1 h2.1, fun k h0 h1 => (h2.2 k (fun hx => by rcases hX k hx with h | h; exact h0 h; omega) (Nat.lt_of_lt_of_le h1 hk.1)).trans (hk.2 k h0 h1)⟩
theorem Kept.below {X : Nat → Prop} {w w' : World} {F : World → Prop} (h : Kept X w F) (hb : Below w.heap.size w w') : Kept X w' F := h.on ⟨hb.size, fun k _ h1 => hb.block k h1⟩ fun _ h => .inl h
theorem Kept.but {X X' : Nat → Prop} {w : World} {F : World → Prop} (h : Kept X w F) (hX : ∀ k, X' k → X k ∨ w.heap.size ≤ k) : Kept X' w F := h.on ⟨Nat.le_refl _, fun _ _ _ => rfl⟩ hX
theorem Kept.grown {X X' : Nat → Prop} {w w' : World} {F : World → Prop} {row : Option Nat} (h : Kept X w F) (hg : w.grownBy w' row) (hr : ∀ g, row = some g → X g) (hX : ∀ k, X' k → X k ∨ w.heap.size ≤ k) : Kept X' w' F := h.on ⟨hg.size, fun k h0 h1 => hg.block k h1 (fun e => h0 (hr k e.symm))⟩ hX
theorem setCells_block (b : Nat) : ∀ (vs : List Value) (o : Nat) (w : World) (k : Nat), k ≠ b → (w.setCells b o vs).heap[k]? = w.heap[k]?
 | [], o, w, k, _ => rfl
 | v :: vs, o, w, k, h => by
  show ((w.setCell ⟨b, o, none⟩ v).setCells b (o + 1) vs).heap[k]? = _
  rw [setCells_block b vs _ _ k h]
  unfold World.setCell
  simp only
  rw [Array.getElem?_modify, if_neg (Ne.symm h)]
theorem Kept.set {X : Nat → Prop} {w : World} {F : World → Prop} (h : Kept X w F) {b : Nat} (hb : X b) (o : Nat) (vs : List Value) : Kept X (w.setCells b o vs) F :=
 h.on ⟨by rw [setCells_size]; exact Nat.le_refl _, fun k h0 _ => setCells_block b vs o w k (fun e => h0 (e ▸ hb))⟩ fun _ h => .inl h
theorem own_keep {X : Nat → Prop} {w : World} {B e sz n : Nat} {u : Value} {xs : List Value} (h : w.ownsRow B e sz u n xs) (hX : ∀ g, u.ownBlock = some g → ¬ X g) : Kept X w fun w' => w'.ownsRow B e sz u n xs := fun w' hk => by
 refine ⟨h.1, ?_⟩
 rcases h.2 with hn | ⟨g, cap, cur, rfl, hb, hgg, rest⟩
 ·exact .inl hn
 ·exact .inr ⟨g, cap, cur, rfl, hb, (hk.2 g (hX g rfl) (own_in h rfl)).trans hgg, rest⟩
theorem cell_same {w w' : World} {b : Nat} (h : w'.heap[b]? = w.heap[b]?) (o : Nat) : w'.cell? ⟨b, o, none⟩ = w.cell? ⟨b, o, none⟩ := by
 unfold World.cell?
 simp only [h]
theorem row_keep {α : Type} {C : α → List Value} {sz : Nat} {X : Nat → Prop} {w : World} {v : Value} {l : List α} (h : RowAt C sz w v l) (hX : ∀ g, v.ownBlock = some g → ¬ X g) : Kept X w fun w' => RowAt C sz w' v l := fun w' hk => by
 obtain ⟨a, cap, rfl, hn, hr⟩ := h
 refine ⟨a, cap, rfl, hn, ?_⟩
 rcases hr with h0 | ⟨b', off, rfl, hc, hx⟩
 ·exact .inl h0
 ·refine .inr ⟨b', off, rfl, hc, fun i x hi j u hj => ?_⟩
  have h := hx i x hi j u hj
  rw [cell_same (hk.2 b' (hX b' rfl) (cell_in h))]
  exact h
theorem row_range {α : Type} {C : α → List Value} {sz : Nat} {w : World} {v : Value} {l : List α} (d : α) (h : RowAt C sz w v l) {k : Nat} (hk : k < l.length) : ∃ b off cap, v = .slice (some ⟨b, off, none⟩) l.length cap ∧ l.length ≤ cap ∧ w.rangeAt b (off + k * sz) (C (l.getD k d)) := by
 obtain ⟨a, cap, rfl, hn, h0 | ⟨b, off, rfl, hc, hx⟩⟩ := h
 ·omega
 ·refine ⟨b, off, cap, rfl, hc, fun j u hj => ?_⟩
  have e : l[k]? = some (l.getD k d) := by rw [List.getD_eq_getElem?_getD, List.getElem?_eq_getElem hk]; rfl
  exact hx k _ e j u hj
theorem sizeConf : (Tryz.prog.info? 29).map (·.size) = some 3 := by kernel_rfl
end Go.Proofs.YtncdininppehkaaGreat

namespace Go.Proofs.YtncdininppehkaaGreat
open Go.RowKit
set_option linter.unusedVariables false
set_option maxRecDepth 100000
def pk (n many : Int) : Int := (if n < 0 then -(n + 1) else n) % many
theorem pk_in (n many : Int) (hm : 0 < many) : 0 ≤ pk n many ∧ pk n many < many := by
 unfold pk
 exact ⟨Int.emod_nonneg _ (by omega), Int.emod_lt_of_pos _ hm⟩
set_option maxHeartbeats 1000000 in
theorem picked_any (n many : Int) (w : World) (h0 : -9223372036854775808 ≤ n) (h1 : n ≤ 9223372036854775807) (hm : 0 < many) (hm1 : many ≤ 9223372036854775807) :
  Calls Tryz.prog 10 #[.int .i64 n, .int .i64 many] w fun e w' => e = .returned (.int .i64 (pk n many)) ∧ w' = w := by
 have HP : Hid (pk n many = (if n < 0 then -(n + 1) else n) % many) := rfl
 have hne : (many == 0) = false := by simp; omega
 by_cases hn : n < 0
 ·have hz : (0 : Int) ≤ -(n + 1) := by omega
  go_enter Tryz.func10, Tryz.ntmps10
  go_wp2
  go_ret
  exact ⟨int_ret (by rw [HP.out, if_pos (by omega)]; first | rw [Int.tmod_eq_emod_of_nonneg hz] | rw [← Int.neg_tmod, Int.tmod_eq_emod_of_nonneg hz]), rfl⟩
 ·have hz : (0 : Int) ≤ n := by omega
  go_enter Tryz.func10, Tryz.ntmps10
  go_wp2
  go_ret
  exact ⟨int_ret (by rw [HP.out, if_neg (by omega)]), rfl⟩
end Go.Proofs.YtncdininppehkaaGreat

namespace Go.Proofs.YtncdininppehkaaGreat
open Go.RowKit
set_option linter.unusedVariables false
set_option maxRecDepth 100000
set_option maxHeartbeats 2000000 in
theorem two_any (a b : Int) (w : World) : Calls Tryz.prog 17 #[.int .i64 a, .int .i64 b] w fun e w' => ∃ (g h : Nat), e = .returned (.agg #[.slice (some ⟨g, 0, none⟩) 2 2, .slice (some ⟨h, 0, none⟩) 3 3, .slice none 0 0]) ∧
  (w'.ownsRow w.heap.size 59 3 (.slice (some ⟨g, 0, none⟩) 2 2) 2 ((twS 1 60).flatMap swC) ∧ w'.ownsRow w.heap.size 71 5 (.slice (some ⟨h, 0, none⟩) 3 3) 3 ((twP a b).flatMap prC)) ∧ g ≠ h ∧ Below w.heap.size w w' := by
 obtain ⟨W1, hW1⟩ : ∃ W1, W1 = w.alloc (.cells #[.slice (some ⟨w.heap.size + 1, 0, none⟩) 2 2, .slice (some ⟨w.heap.size + 1 + 1, 0, none⟩) 3 3, .slice none 0 0] 29) := ⟨_, rfl⟩
 obtain ⟨W2, hW2⟩ : ∃ W2, W2 = W1.alloc (.cells #[.int .i64 1, .int .i64 1, .int .i64 50, .int .i64 2, .int .i64 1, .int .i64 60] 59) := ⟨_, rfl⟩
 obtain ⟨W3, hW3⟩ : ∃ W3, W3 = W2.alloc (.cells #[.int .i64 1, .int .i64 1, .int .i64 11, .int .i64 51, .int .i64 a, .int .i64 2, .int .i64 1, .int .i64 12, .int .i64 52, .int .i64 b, .int .i64 3, .int .i64 2, .int .i64 11, .int .i64 61, .int .i64 b] 71) := ⟨_, rfl⟩
 have s1 : W1.heap.size = w.heap.size + 1 := by rw [hW1]; simp
 have s2 : W2.heap.size = w.heap.size + 1 + 1 := by rw [hW2]; simp [s1]
 have b1 : Below w.heap.size w W1 := by rw [hW1]; exact (Below.refl _ _).alloc (Nat.le_refl _) _
 have b2 : Below w.heap.size w W2 := by rw [hW2]; exact b1.alloc b1.size _
 have b3 : Below w.heap.size w W3 := by rw [hW3]; exact b2.alloc b2.size _
 have b12 : Below W1.heap.size W1 W3 := by rw [hW3, hW2]; exact ((Below.refl _ _).alloc (Nat.le_refl _) _).alloc (by simp) _
 have HB0 : Hid (Box W3 w.heap.size [.slice (some ⟨w.heap.size + 1, 0, none⟩) 2 2, .slice (some ⟨w.heap.size + 1 + 1, 0, none⟩) 3 3, .slice none 0 0]) := by
  have : Box W1 w.heap.size [.slice (some ⟨w.heap.size + 1, 0, none⟩) 2 2, .slice (some ⟨w.heap.size + 1 + 1, 0, none⟩) 3 3, .slice none 0 0] := by rw [hW1]; exact Box.new w [.slice (some ⟨w.heap.size + 1, 0, none⟩) 2 2, .slice (some ⟨w.heap.size + 1 + 1, 0, none⟩) 3 3, .slice none 0 0] 29
  exact hide (this.below b12)
 have HS : Hid (W3.ownsRow w.heap.size 59 3 (.slice (some ⟨w.heap.size + 1, 0, none⟩) 2 2) 2 ((twS 1 60).flatMap swC)) := by
  have : W2.ownsRow w.heap.size 59 3 (.slice (some ⟨W1.heap.size, 0, none⟩) 2 2) 2 ((twS 1 60).flatMap swC) := by rw [hW2]; exact World.ownsRow_lit W1 _ 2 b1.size (by decide) rfl
  rw [s1] at this
  rw [hW3]
  exact hide (own_below this ((Below.refl _ _).alloc (Nat.le_refl _) _))
 have HP : Hid (W3.ownsRow w.heap.size 71 5 (.slice (some ⟨w.heap.size + 1 + 1, 0, none⟩) 3 3) 3 ((twP a b).flatMap prC)) := by
  have : W3.ownsRow w.heap.size 71 5 (.slice (some ⟨W2.heap.size, 0, none⟩) 3 3) 3 ((twP a b).flatMap prC) := by rw [hW3]; exact World.ownsRow_lit W2 _ 3 b2.size (by decide) rfl
  rw [s2] at this
  exact hide this
 have HW : Hid (((w.alloc (.cells #[.slice (some ⟨w.heap.size + 1, 0, none⟩) 2 2, .slice (some ⟨w.heap.size + 1 + 1, 0, none⟩) 3 3, .slice none 0 0] 29)).alloc (.cells #[.int .i64 1, .int .i64 1, .int .i64 50, .int .i64 2, .int .i64 1, .int .i64 60] 59)).alloc (.cells #[.int .i64 1, .int .i64 1, .int .i64 11, .int .i64 51, .int .i64 a, .int .i64 2, .int .i64 1, .int .i64 12, .int .i64 52, .int .i64 b, .int .i64 3, .int .i64 2, .int .i64 11, .int .i64 61, .int .i64 b] 71) = W3) := by rw [hW3, hW2, hW1]; exact hide rfl
 clear hW1 hW2 hW3 b1 b2 b12 s1 s2
 go_enter Tryz.func17, Tryz.ntmps17
 go_wp2_with fail
 rw [HW.out]
 refine bodyPost_ret (v := .agg #[.slice (some ⟨w.heap.size + 1, 0, none⟩) 2 2, .slice (some ⟨w.heap.size + 1 + 1, 0, none⟩) 3 3, .slice none 0 0]) ?_ rfl ⟨w.heap.size + 1, w.heap.size + 1 + 1, rfl, ⟨HS.out, HP.out⟩, by omega, b3⟩
 exact results_c (cs := [.slice (some ⟨w.heap.size + 1, 0, none⟩) 2 2, .slice (some ⟨w.heap.size + 1 + 1, 0, none⟩) 3 3, .slice none 0 0]) Tryz.results17 rfl HB0.out.range Tryz.underlying29 rfl sizeConf
end Go.Proofs.YtncdininppehkaaGreat

namespace Go.Proofs.YtncdininppehkaaGreat
set_option linter.unusedVariables false
set_option maxRecDepth 100000
open Go.ChangeShapes Go.WideShapes Go.ChangeAt Go.RowKit
theorem own : ownKnob Tryz.prog.godebug = none := by kernel_rfl
theorem laidOut : laidOutB Tryz.prog = true := by kernel_rfl
theorem int_cell {H : Type} {enc : TypeId × Value → H} {w : World} {base : Nat} {spare : Nat → Bool} {held : Bool} {n i : Nat} {c : Value} {xs : List (DataW H × List MemPlace)} (hi : i < xs.length)
  (h : DataW.trod enc Tryz.prog w base spare held n 3 [c] = xs[i]?) : ∃ k, c = .int .i64 k ∧ (Lit.int .i64 k).wf = true := by
 rw [List.getElem?_eq_getElem hi] at h
 obtain ⟨k, hc, _, hw⟩ := DataW.trod_int Tryz.underlying3 h
 exact ⟨k, by simpa using hc, hw⟩
theorem string_cell {H : Type} {enc : TypeId × Value → H} {w : World} {base : Nat} {spare : Nat → Bool} {held : Bool} {n i : Nat} {c : Value} {xs : List (DataW H × List MemPlace)} (hi : i < xs.length)
  (h : DataW.trod enc Tryz.prog w base spare held n 9 [c] = xs[i]?) : ∃ s : ByteArray, c = .string s ∧ s.size ≤ maxLen := by
 rw [List.getElem?_eq_getElem hi] at h
 obtain ⟨k, hc, _, hw⟩ := DataW.trod_string Tryz.underlying9 h
 exact ⟨k, by simpa using hc, hw⟩
end Go.Proofs.YtncdininppehkaaGreat

namespace Go.Proofs.YtncdininppehkaaGreat
open Go.ChangeShapes Go.WideShapes Go.ChangeAt Go.RowKit
set_option linter.unusedVariables false
set_option maxRecDepth 100000
theorem cellsRaw : Tryz.prog.cellsOf 24 = 4 := by kernel_rfl
theorem array4' {α : Type} {cs : Array α} (h : cs.size = 4) : ∃ c0 c1 c2 c3, cs = #[c0, c1, c2, c3] := by
 obtain ⟨l⟩ := cs
 match l, h with
 | [c0, c1, c2, c3], _ => exact ⟨c0, c1, c2, c3, rfl⟩
theorem i64_in {n : Int} (h : (Lit.int .i64 n).wf = true) : -9223372036854775808 ≤ n ∧ n ≤ 9223372036854775807 := by
 simpa [Lit.wf, IntKind.min, IntKind.max, IntKind.signed, IntKind.bits] using h
theorem open_raw {H : Type} {enc : TypeId × Value → H} {w : World} {base b0 : Nat} {spare : Nat → Bool} {held : Bool} {r : Reach} {v : Value} {d : DataW H} {p : List MemPlace}
  (hv : Value.okWide Tryz.prog w r b0 24 v) (h : DataW.Trod enc Tryz.prog w base spare held 24 v d p) :
  ∃ k a b c : Int, v = .agg #[.int .i64 k, .int .i64 a, .int .i64 b, .int .i64 c] ∧ (-9223372036854775808 ≤ k ∧ k ≤ 9223372036854775807) ∧ (-9223372036854775808 ≤ a ∧ a ≤ 9223372036854775807) ∧ (-9223372036854775808 ≤ b ∧ b ≤ 9223372036854775807) ∧
   (-9223372036854775808 ≤ c ∧ c ≤ 9223372036854775807) := by
 obtain ⟨cs, rfl, hsz⟩ := okWide_struct Tryz.underlying24 hv
 obtain ⟨c0, c1, c2, c3, rfl⟩ := array4' (hsz.trans cellsRaw)
 obtain ⟨fuel, hf⟩ := h
 obtain ⟨xs, n, _, _, _, hlen, hf⟩ := DataW.trod_struct Tryz.underlying24 hf
 have h8 : xs.length = 4 := by simpa using hlen
 have g0 := hf 0 _ rfl
 have g1 := hf 1 _ rfl
 have g2 := hf 2 _ rfl
 have g3 := hf 3 _ rfl
 simp only [Value.cells] at g0 g1 g2 g3
 obtain ⟨k0, rfl, w0⟩ := int_cell (i := 0) (by omega) g0
 obtain ⟨k1, rfl, w1⟩ := int_cell (i := 1) (by omega) g1
 obtain ⟨k2, rfl, w2⟩ := int_cell (i := 2) (by omega) g2
 obtain ⟨k3, rfl, w3⟩ := int_cell (i := 3) (by omega) g3
 exact ⟨k0, k1, k2, k3, rfl, i64_in w0, i64_in w1, i64_in w2, i64_in w3⟩
end Go.Proofs.YtncdininppehkaaGreat

namespace Go.Proofs.YtncdininppehkaaGreat
set_option linter.unusedVariables false
set_option maxRecDepth 100000
open Go.RowKit
def kindB (n : Int) : Bool := decide (1 ≤ n ∧ n ≤ 3)
def lifeB (n : Int) : Bool := decide (0 ≤ n ∧ n ≤ 255)
set_option maxHeartbeats 400000 in
theorem isKind_any (n : Int) (w : World) :
  Calls Tryz.prog 71 #[.int .i64 n] w fun e w' => e = .returned (.bool (kindB n)) ∧ w' = w := by
 go_enter Tryz.func71, Tryz.ntmps71
 go_wp2
 all_goals go_ret
 all_goals refine ⟨bool_ret ?_, rfl⟩
 all_goals (unfold kindB; rw [Bool.eq_iff_iff]; simp_all; try omega)
set_option maxHeartbeats 400000 in
theorem isWord_any (n : Int) (w : World) :
  Calls Tryz.prog 128 #[.int .i64 n] w fun e w' => e = .returned (.bool (wordB n)) ∧ w' = w := by
 go_enter Tryz.func128, Tryz.ntmps128
 go_wp2
 all_goals go_ret
 all_goals refine ⟨bool_ret ?_, rfl⟩
 all_goals (unfold wordB; rw [Bool.eq_iff_iff]; simp_all; try omega)
theorem toList_none (b : ByteArray) : b.toList = [] ↔ b = ByteArray.empty := by
 rw [ByteArray.toList_eq, ← ByteArray.size_eq_zero_iff]
 show b.data.toList = [] ↔ b.data.size = 0
 rw [← Array.length_toList, List.length_eq_zero_iff]
abbrev fr (dst src kind ips ipd ttl port : Int) (body : ByteArray) : Value :=
 .agg #[.int .i64 dst, .int .i64 src, .int .i64 kind, .int .i64 ips, .int .i64 ipd, .int .i64 ttl, .int .i64 port, .string body]
def loadB (ttl port : Int) (n : Nat) : Bool := decide (ttl ≠ 0 ∨ port ≠ 0 ∨ n ≠ 0)
def boundsB (dst src ips ipd ttl port : Int) : Bool := wordB dst && wordB src && wordB ips && wordB ipd && wordB port && lifeB ttl
set_option maxHeartbeats 1000000 in
theorem inBounds_any (dst src kind ips ipd ttl port : Int) (body : ByteArray) (w : World) :
  Calls Tryz.prog 72 #[fr dst src kind ips ipd ttl port body] w fun e w' => e = .returned (.bool (boundsB dst src ips ipd ttl port)) ∧ Below w.heap.size w w' := by
 go_enter Tryz.func72, Tryz.ntmps72
 go_wp2_with (go_at_call 128; refine (isWord_any _ _).mono ?_; rintro e w' ⟨rfl, rfl⟩)
 all_goals go_ret
 all_goals refine ⟨bool_ret ?_, (Below.refl _ _).alloc (Nat.le_refl _) _⟩
 all_goals (unfold boundsB lifeB; rw [Bool.eq_iff_iff]; simp_all; try omega)
set_option maxHeartbeats 1000000 in
theorem hasLoad_any (dst src kind ips ipd ttl port : Int) (body : ByteArray) (w : World) :
  Calls Tryz.prog 73 #[fr dst src kind ips ipd ttl port body] w fun e w' => e = .returned (.bool (loadB ttl port body.size)) ∧ Below w.heap.size w w' := by
 go_enter Tryz.func73, Tryz.ntmps73
 go_wp2
 all_goals go_ret
 all_goals refine ⟨bool_ret ?_, (Below.refl _ _).alloc (Nat.le_refl _) _⟩
 all_goals (unfold loadB; rw [Bool.eq_iff_iff]; simp_all [toList_none])
def fault (dst src kind ips ipd ttl port : Int) (n : Nat) : Int :=
 if kindB kind then (if boundsB dst src ips ipd ttl port then (if 40 < n then 1 else if kind ≠ 3 ∧ loadB ttl port n = true then 4 else 0) else 2) else 3
set_option maxHeartbeats 1000000 in
theorem check_any (dst src kind ips ipd ttl port : Int) (body : ByteArray) (w : World) (hb : body.size ≤ maxLen) :
  Calls Tryz.prog 34 #[fr dst src kind ips ipd ttl port body] w fun e w' => e = .returned (.int .i64 (fault dst src kind ips ipd ttl port body.size)) ∧ Below w.heap.size w w' := by
 unfold maxLen at hb
 go_enter Tryz.func34, Tryz.ntmps34
 go_wp2_with (first | (go_at_call 71; refine (isKind_any _ _).mono ?_; rintro e w' ⟨rfl, rfl⟩) | (go_at_call 72; refine (inBounds_any _ _ _ _ _ _ _ _ _).mono ?_; rintro e w1 ⟨rfl, hb1⟩; obtain ⟨hc1, hf1⟩ := bcell hb1) | (go_at_call 73; refine (hasLoad_any _ _ _ _ _ _ _ _ _).mono ?_; rintro e w2 ⟨rfl, hb2⟩))
 all_goals go_ret
 all_goals refine ⟨int_ret ?_, ?_⟩
 all_goals first | exact (Below.refl _ _).alloc (Nat.le_refl _) _ | exact ((Below.refl _ _).alloc (Nat.le_refl _) _).trans (hb1.mono (by simp)) | exact (((Below.refl _ _).alloc (Nat.le_refl _) _).trans (hb1.mono (by simp))).trans (hb2.mono (by have := hb1.size; simp at this; omega)) | (unfold fault; simp_all; try omega)
end Go.Proofs.YtncdininppehkaaGreat

namespace Go.Proofs.YtncdininppehkaaGreat
set_option linter.unusedVariables false
set_option maxRecDepth 100000
def mk (n m : Int) : Int := ((n.toNat &&& m.toNat : Nat) : Int)
def mkTo (n m : Int) : Nat → Int
 | 0 => 0
 | j + 1 => mkTo n m j + (if n / 2 ^ j % 2 = 1 ∧ m / 2 ^ j % 2 = 1 then 2 ^ j else 0)
theorem nat_bit (x j : Nat) : x % 2 ^ (j + 1) = x % 2 ^ j + (if x / 2 ^ j % 2 = 1 then 2 ^ j else 0) := by
 rw [Nat.pow_succ, Nat.mod_mul]
 split
 ·rename_i h; rw [h, Nat.mul_one]
 ·rename_i h
  have : x / 2 ^ j % 2 = 0 := by omega
  rw [this, Nat.mul_zero]
theorem mkTo_nat (a b : Nat) : ∀ j, mkTo a b j = (((a &&& b) % 2 ^ j : Nat) : Int)
 | 0 => by simp [mkTo, Nat.mod_one]
 | j + 1 => by
  simp only [mkTo]
  rw [mkTo_nat a b j, nat_bit (a &&& b) j]
  have e1 : ((a : Int) / 2 ^ j % 2 = 1 ∧ (b : Int) / 2 ^ j % 2 = 1) ↔ ((a &&& b) / 2 ^ j % 2 = 1) := by
   have ha : ((a : Int) / 2 ^ j % 2 = 1) ↔ (a / 2 ^ j % 2 = 1) := by
    rw [show ((a : Int) / 2 ^ j % 2) = ((a / 2 ^ j % 2 : Nat) : Int) by simp]
    omega
   have hb : ((b : Int) / 2 ^ j % 2 = 1) ↔ (b / 2 ^ j % 2 = 1) := by
    rw [show ((b : Int) / 2 ^ j % 2) = ((b / 2 ^ j % 2 : Nat) : Int) by simp]
    omega
   rw [ha, hb]
   have t := Nat.testBit_and a b j
   rw [Nat.testBit_eq_decide_div_mod_eq, Nat.testBit_eq_decide_div_mod_eq, Nat.testBit_eq_decide_div_mod_eq] at t
   have t' : ((a &&& b) / 2 ^ j % 2 = 1) ↔ (a / 2 ^ j % 2 = 1 ∧ b / 2 ^ j % 2 = 1) := by
    rw [← decide_eq_true_iff (p := (a &&& b) / 2 ^ j % 2 = 1), t, Bool.and_eq_true, decide_eq_true_iff, decide_eq_true_iff]
   exact t'.symm
  by_cases h : (a &&& b) / 2 ^ j % 2 = 1
  ·rw [if_pos (e1.2 h), if_pos h]; simp
  ·rw [if_neg (fun x => h (e1.1 x)), if_neg h]; simp
theorem mkTo_16 (n m : Int) (hn0 : 0 ≤ n) (hn1 : n ≤ 65535) (hm0 : 0 ≤ m) (hm1 : m ≤ 65535) : mkTo n m 16 = mk n m := by
 obtain ⟨a, rfl⟩ := Int.eq_ofNat_of_zero_le hn0
 obtain ⟨b, rfl⟩ := Int.eq_ofNat_of_zero_le hm0
 rw [mkTo_nat]
 unfold mk
 rw [Int.toNat_natCast, Int.toNat_natCast, Nat.mod_eq_of_lt]
 have := Nat.and_le_left (n := a) (m := b)
 omega
theorem mkTo_bd (n m : Int) (hn0 : 0 ≤ n) (hm0 : 0 ≤ m) : ∀ j, 0 ≤ mkTo n m j ∧ mkTo n m j < 2 ^ j
 | j => by
  obtain ⟨a, rfl⟩ := Int.eq_ofNat_of_zero_le hn0
  obtain ⟨b, rfl⟩ := Int.eq_ofNat_of_zero_le hm0
  rw [mkTo_nat]
  have h := Nat.mod_lt (a &&& b) (Nat.two_pow_pos j)
  exact ⟨by omega, by exact_mod_cast h⟩
end Go.Proofs.YtncdininppehkaaGreat

namespace Go.Proofs.YtncdininppehkaaGreat
open Go.RowKit
set_option linter.unusedVariables false
set_option maxRecDepth 100000
theorem wrapI (n : Int) (h0 : 0 ≤ n) (h1 : n ≤ 1000000) : IntKind.i64.wrap n = n := by
 simp [IntKind.wrap, IntKind.bits, IntKind.signed]
 split <;> omega
structure Mt where
 f : Int
 m : Int
 v : Int
structure Do where
 k : Int
 a : Int
 n : Int
structure Fl where
 t : Int
 p : Int
 ms : List Mt
 ds : List Do
def mt0 : Mt := ⟨0, 0, 0⟩
def do0 : Do := ⟨0, 0, 0⟩
def fl0 : Fl := ⟨0, 0, [], []⟩
def MsAt (w : World) (v : Value) (ms : List Mt) : Prop :=
 ∃ a cap, v = .slice a ms.length cap ∧ (a = none → cap = 0) ∧ (ms.length = 0 ∨ ∃ b off, a = some ⟨b, off, none⟩ ∧ ms.length ≤ cap ∧ ∀ i, i < ms.length →
  w.cell? ⟨b, off + i * 3, none⟩ = some (.int .i64 (ms.getD i mt0).f) ∧ w.cell? ⟨b, off + i * 3 + 1, none⟩ = some (.int .i64 (ms.getD i mt0).m) ∧ w.cell? ⟨b, off + i * 3 + 2, none⟩ = some (.int .i64 (ms.getD i mt0).v))
def DsAt (w : World) (v : Value) (ds : List Do) : Prop :=
 ∃ a cap, v = .slice a ds.length cap ∧ (a = none → cap = 0) ∧ (ds.length = 0 ∨ ∃ b off, a = some ⟨b, off, none⟩ ∧ ds.length ≤ cap ∧ ∀ i, i < ds.length →
  w.cell? ⟨b, off + i * 3, none⟩ = some (.int .i64 (ds.getD i do0).k) ∧ w.cell? ⟨b, off + i * 3 + 1, none⟩ = some (.int .i64 (ds.getD i do0).a) ∧ w.cell? ⟨b, off + i * 3 + 2, none⟩ = some (.int .i64 (ds.getD i do0).n))
def FlAt (w : World) (b off : Nat) (f : Fl) : Prop :=
 w.cell? ⟨b, off, none⟩ = some (.int .i64 f.t) ∧ w.cell? ⟨b, off + 1, none⟩ = some (.int .i64 f.p) ∧
 ∃ mv dv, w.cell? ⟨b, off + 2, none⟩ = some mv ∧ w.cell? ⟨b, off + 3, none⟩ = some dv ∧ MsAt w mv f.ms ∧ DsAt w dv f.ds
def FsAt (w : World) (v : Value) (fs : List Fl) : Prop :=
 ∃ a cap, v = .slice a fs.length cap ∧ (a = none → cap = 0) ∧ (fs.length = 0 ∨ ∃ b off, a = some ⟨b, off, none⟩ ∧ fs.length ≤ cap ∧ ∀ i, i < fs.length → FlAt w b (off + i * 4) (fs.getD i fl0))
theorem cell_lt {w : World} {b o : Nat} {v : Value} (h : w.cell? ⟨b, o, none⟩ = some v) : b < w.heap.size := by
 rcases Nat.lt_or_ge b w.heap.size with h' | h'
 ·exact h'
 ·simp [World.cell?, Array.getElem?_eq_none h'] at h
theorem cell_below {w w' : World} {B b o : Nat} {v : Value} (h : w.cell? ⟨b, o, none⟩ = some v) (hb : Below B w w') (hB : w.heap.size ≤ B) : w'.cell? ⟨b, o, none⟩ = some v :=
 (hb.cell (p := ⟨b, o, none⟩) (Nat.lt_of_lt_of_le (cell_lt h) hB)).trans h
theorem MsAt.below {w w' : World} {B : Nat} {v : Value} {ms : List Mt} (h : MsAt w v ms) (hb : Below B w w') (hB : w.heap.size ≤ B) : MsAt w' v ms := by
 obtain ⟨a, cap, hv, hn, h0 | ⟨b, off, ha, hc, hL⟩⟩ := h
 ·exact ⟨a, cap, hv, hn, .inl h0⟩
 ·exact ⟨a, cap, hv, hn, .inr ⟨b, off, ha, hc, fun i hi => ⟨cell_below (hL i hi).1 hb hB, cell_below (hL i hi).2.1 hb hB, cell_below (hL i hi).2.2 hb hB⟩⟩⟩
theorem DsAt.below {w w' : World} {B : Nat} {v : Value} {ds : List Do} (h : DsAt w v ds) (hb : Below B w w') (hB : w.heap.size ≤ B) : DsAt w' v ds := by
 obtain ⟨a, cap, hv, hn, h0 | ⟨b, off, ha, hc, hL⟩⟩ := h
 ·exact ⟨a, cap, hv, hn, .inl h0⟩
 ·exact ⟨a, cap, hv, hn, .inr ⟨b, off, ha, hc, fun i hi => ⟨cell_below (hL i hi).1 hb hB, cell_below (hL i hi).2.1 hb hB, cell_below (hL i hi).2.2 hb hB⟩⟩⟩
theorem FlAt.below {w w' : World} {B b off : Nat} {f : Fl} (h : FlAt w b off f) (hb : Below B w w') (hB : w.heap.size ≤ B) : FlAt w' b off f := by
 obtain ⟨h0, h1, mv, dv, h2, h3, hm, hd⟩ := h
 exact ⟨cell_below h0 hb hB, cell_below h1 hb hB, mv, dv, cell_below h2 hb hB, cell_below h3 hb hB, hm.below hb hB, hd.below hb hB⟩
theorem FsAt.below {w w' : World} {B : Nat} {v : Value} {fs : List Fl} (h : FsAt w v fs) (hb : Below B w w') (hB : w.heap.size ≤ B) : FsAt w' v fs := by
 obtain ⟨a, cap, hv, hn, h0 | ⟨b, off, ha, hc, hL⟩⟩ := h
 ·exact ⟨a, cap, hv, hn, .inl h0⟩
 ·exact ⟨a, cap, hv, hn, .inr ⟨b, off, ha, hc, fun i hi => (hL i hi).below hb hB⟩⟩
end Go.Proofs.YtncdininppehkaaGreat

namespace Go.Proofs.YtncdininppehkaaGreat
open Go.RowKit
set_option linter.unusedVariables false
set_option maxRecDepth 100000
def doesB (kind a n table : Int) (last : Bool) : Bool :=
 if kind = 1 then decide (0 ≤ a ∧ a ≤ 9) && decide (0 ≤ n ∧ n ≤ 65535)
 else if kind = 2 then decide (0 ≤ a ∧ a ≤ 9) && decide (0 ≤ n ∧ n ≤ 9)
 else if kind = 3 then decide (0 ≤ a ∧ a ≤ 9) && (n == 0)
 else if kind = 4 then (a == 0) && decide (table + 1 ≤ n ∧ n ≤ 7) && last
 else if kind = 5 then (a == 0) && decide (0 ≤ n ∧ n ≤ 65535)
 else if kind = 6 then (a == 0) && decide (0 ≤ n ∧ n ≤ 5)
 else false
def fieldB (n : Int) : Bool := decide (0 ≤ n ∧ n ≤ 9)
def tableB (n : Int) : Bool := decide (0 ≤ n ∧ n ≤ 7)
def prioB (n : Int) : Bool := decide (0 ≤ n ∧ n ≤ 2000)
def matchB (m : Mt) : Bool := fieldB m.f && wordB m.m && wordB m.v && (mk m.v m.m == m.v)
def doB (t : Int) (ds : List Do) (j : Nat) : Bool := doesB (ds.getD j do0).k (ds.getD j do0).a (ds.getD j do0).n t ((j : Int) + 1 == (ds.length : Int))
def flFault (f : Fl) : Int :=
 if 12 < f.ms.length ∨ 100 < f.ds.length then 1 else if (tableB f.t && prioB f.p) = false then 2 else if f.ms.all matchB = false then 4 else
  if (List.range f.ds.length).all (doB f.t f.ds) = false then 4 else 0
def fsFault1 : List Fl → Int
 | [] => 0
 | f :: r => if flFault f = 0 then fsFault1 r else flFault f
def fsFault (fs : List Fl) : Int := if 5000 < fs.length then 1 else fsFault1 fs
theorem fs_at : ∀ (fs : List Fl) (k : Nat), k < fs.length → (∀ j, j < k → flFault (fs.getD j fl0) = 0) → flFault (fs.getD k fl0) ≠ 0 → fsFault1 fs = flFault (fs.getD k fl0)
 | [], k, h, _, _ => by simp at h
 | f :: r, 0, _, _, hn => by
  simp only [fsFault1]
  rw [if_neg (by simpa using hn)]
  rfl
 | f :: r, k + 1, h, ha, hn => by
  have h0 := ha 0 (by omega)
  simp only [fsFault1]
  rw [if_pos (by simpa using h0)]
  have := fs_at r k (by simpa using h) (fun j hj => by simpa using ha (j + 1) (by omega)) (by simpa using hn)
  simpa using this
theorem fs_all : ∀ (fs : List Fl), (∀ j, j < fs.length → flFault (fs.getD j fl0) = 0) → fsFault1 fs = 0
 | [], _ => rfl
 | f :: r, h => by
  simp only [fsFault1]
  rw [if_pos (by simpa using h 0 (by simp))]
  exact fs_all r (fun j hj => by simpa using h (j + 1) (by simpa using hj))
theorem flFault_size {f : Fl} (h : 12 < f.ms.length ∨ 100 < f.ds.length) : flFault f = 1 := by unfold flFault; rw [if_pos h]
theorem flFault_range {f : Fl} (h : ¬ (12 < f.ms.length ∨ 100 < f.ds.length)) (h2 : (tableB f.t && prioB f.p) = false) : flFault f = 2 := by unfold flFault; rw [if_neg h, if_pos h2]
theorem flFault_match {f : Fl} (h : ¬ (12 < f.ms.length ∨ 100 < f.ds.length)) (h2 : (tableB f.t && prioB f.p) = true) (j : Nat) (hj : j < f.ms.length) (h3 : matchB (f.ms.getD j mt0) = false) : flFault f = 4 := by
 have : f.ms.all matchB = false := by
  rw [List.all_eq_false]
  exact ⟨f.ms[j], List.getElem_mem hj, by simpa [List.getD, List.getElem?_eq_getElem hj] using h3⟩
 unfold flFault; rw [if_neg h, if_neg (by simp [h2]), if_pos this]
theorem all_match {f : Fl} (h : ∀ j, j < f.ms.length → matchB (f.ms.getD j mt0) = true) : f.ms.all matchB = true := by
 rw [List.all_eq_true]
 intro x hx
 obtain ⟨i, hi, rfl⟩ := List.getElem_of_mem hx
 have := h i hi
 simpa [List.getD, List.getElem?_eq_getElem hi] using this
theorem flFault_does {f : Fl} (h : ¬ (12 < f.ms.length ∨ 100 < f.ds.length)) (h2 : (tableB f.t && prioB f.p) = true) (h3 : f.ms.all matchB = true) (j : Nat) (hj : j < f.ds.length) (h4 : doB f.t f.ds j = false) : flFault f = 4 := by
 have : (List.range f.ds.length).all (doB f.t f.ds) = false := by
  rw [List.all_eq_false]
  exact ⟨j, List.mem_range.2 hj, by simpa using h4⟩
 unfold flFault; rw [if_neg h, if_neg (by simp [h2]), if_neg (by simp [h3]), if_pos this]
theorem flFault_ok {f : Fl} (h : ¬ (12 < f.ms.length ∨ 100 < f.ds.length)) (h2 : (tableB f.t && prioB f.p) = true) (h3 : f.ms.all matchB = true) (h4 : ∀ j, j < f.ds.length → doB f.t f.ds j = true) : flFault f = 0 := by
 have : (List.range f.ds.length).all (doB f.t f.ds) = true := by
  rw [List.all_eq_true]
  intro j hj
  exact h4 j (List.mem_range.1 hj)
 unfold flFault; rw [if_neg h, if_neg (by simp [h2]), if_neg (by simp [h3]), if_neg (by simp [this])]
end Go.Proofs.YtncdininppehkaaGreat

namespace Go.Proofs.YtncdininppehkaaGreat
set_option linter.unusedVariables false
set_option maxRecDepth 100000
def norm (T : Int) : Int := if T = 0 then 0 else (T - 1) % 65535 + 1
theorem norm_small (T : Int) (h0 : 0 ≤ T) (h : T ≤ 65535) : norm T = T := by unfold norm; split <;> omega
theorem norm_bd (T : Int) (h0 : 0 ≤ T) : 0 ≤ norm T ∧ norm T ≤ 65535 := by unfold norm; split <;> omega
theorem norm_carry (T : Int) (h : 65535 < T) : norm (T % 65536 + T / 65536) = norm T := by
 unfold norm
 rw [if_neg (by omega), if_neg (by omega)]
 omega
theorem norm_add (T c : Int) (h0 : 0 ≤ T) (hc : 0 ≤ c) (hc2 : c ≤ 65280) :
  norm (T + c) = if norm T + c > 65535 then norm T + c - 65535 else norm T + c := by
 unfold norm
 by_cases h1 : T = 0
 ·subst h1; simp only [if_true]; split <;> split <;> omega
 ·rw [if_neg h1]
  rw [if_neg (by omega)]
  split <;> omega
def wt (i : Nat) (c : Int) : Int := if i % 2 = 0 then 256 * c else c
def tot (l : List Int) : Nat → Int
 | 0 => 0
 | k + 1 => tot l k + wt k (l.getD k 0)
def Bs (l : List Int) : Prop := ∀ n ∈ l, 0 ≤ n ∧ n ≤ 255
theorem Bs.at {l : List Int} (h : Bs l) (k : Nat) : 0 ≤ l.getD k 0 ∧ l.getD k 0 ≤ 255 := by
 by_cases hk : k < l.length
 ·have := h l[k] (List.getElem_mem hk)
  simpa [List.getD, List.getElem?_eq_getElem hk] using this
 ·simp [List.getD, List.getElem?_eq_none (by omega : l.length ≤ k)]
theorem Bs.nil : Bs [] := fun n h => by cases h
theorem Bs.append {a b : List Int} (ha : Bs a) (hb : Bs b) : Bs (a ++ b) := fun n h => by
 rcases List.mem_append.1 h with h | h
 ·exact ha n h
 ·exact hb n h
theorem Bs.take {a : List Int} (ha : Bs a) (k : Nat) : Bs (a.take k) := fun n h => ha n (List.mem_of_mem_take h)
theorem Bs.drop {a : List Int} (ha : Bs a) (k : Nat) : Bs (a.drop k) := fun n h => ha n (List.mem_of_mem_drop h)
theorem wt_bd (i : Nat) (c : Int) (h0 : 0 ≤ c) (h : c ≤ 255) : 0 ≤ wt i c ∧ wt i c ≤ 65280 := by unfold wt; split <;> omega
theorem tot_bd {l : List Int} (h : Bs l) : ∀ k : Nat, 0 ≤ tot l k ∧ tot l k ≤ 65280 * k
 | 0 => by simp [tot]
 | k + 1 => by
  have h1 := tot_bd h k
  have h2 := h.at k
  have h3 := wt_bd k _ h2.1 h2.2
  simp only [tot]
  omega
def sm (l : List Int) : Int := 65535 - norm (tot l l.length)
theorem sm_bd {l : List Int} (h : Bs l) : 0 ≤ sm l ∧ sm l ≤ 65535 := by
 have h1 := tot_bd h l.length
 have h2 := norm_bd (tot l l.length) h1.1
 unfold sm; omega
def word (n : Int) : List Int := [n / 256, n % 256]
theorem word_bs (n : Int) (h0 : 0 ≤ n) (h : n ≤ 65535) : Bs (word n) := fun x hx => by
 simp [word] at hx
 rcases hx with rfl | rfl <;> omega
def nums (s : ByteArray) : List Int := s.data.toList.map fun b => (b.toNat : Int)
theorem nums_length (s : ByteArray) : (nums s).length = s.size := by simp [nums]
theorem nums_bs (s : ByteArray) : Bs (nums s) := fun x hx => by
 simp only [nums, List.mem_map] at hx
 obtain ⟨b, _, rfl⟩ := hx
 have := b.toNat_lt
 omega
def U (l : List Int) : List Value := l.map (Value.int .u8)
theorem U_length (l : List Int) : (U l).length = l.length := by simp [U]
theorem U_append (a b : List Int) : U (a ++ b) = U a ++ U b := by simp [U]
theorem U_one (l : List Int) : ∀ u ∈ U l, u.oneCell' = true := fun u hu => by
 simp only [U, List.mem_map] at hu
 obtain ⟨n, _, rfl⟩ := hu
 rfl
def enc0 (dst src kind ips ipd ttl port : Int) (body : ByteArray) : List Int :=
 word dst ++ word src ++ [kind, ttl] ++ word ips ++ word ipd ++ word port ++ word body.size ++ nums body
def enc (dst src kind ips ipd ttl port : Int) (body : ByteArray) : List Int :=
 enc0 dst src kind ips ipd ttl port body ++ word (sm (enc0 dst src kind ips ipd ttl port body))
theorem enc0_length (dst src kind ips ipd ttl port : Int) (body : ByteArray) : (enc0 dst src kind ips ipd ttl port body).length = 14 + body.size := by
 simp [enc0, word, nums_length]; omega
end Go.Proofs.YtncdininppehkaaGreat

namespace Go.Proofs.YtncdininppehkaaGreat
open Go.RowKit
set_option linter.unusedVariables false
set_option maxRecDepth 100000
abbrev pkt (f0 f1 f2 f3 f4 f5 f6 f7 f8 f9 : Int) (body : ByteArray) : Value :=
 .agg #[.int .i64 f0, .int .i64 f1, .int .i64 f2, .int .i64 f3, .int .i64 f4, .int .i64 f5, .int .i64 f6, .int .i64 f7, .int .i64 f8, .int .i64 f9, .string body]
def PkAt (w : World) (b : Nat) (F : List Int) (body : ByteArray) : Prop :=
 F.length = 10 ∧ (∀ i, i < 10 → w.cell? ⟨b, i, none⟩ = some (.int .i64 (F.getD i 0))) ∧ w.cell? ⟨b, 10, none⟩ = some (.string body)
theorem pkAt_new (w : World) (t : TypeId) (f0 f1 f2 f3 f4 f5 f6 f7 f8 f9 : Int) (body : ByteArray) :
  PkAt (w.alloc (.cells #[.int .i64 f0, .int .i64 f1, .int .i64 f2, .int .i64 f3, .int .i64 f4, .int .i64 f5, .int .i64 f6, .int .i64 f7, .int .i64 f8, .int .i64 f9, .string body] t)) w.heap.size [f0, f1, f2, f3, f4, f5, f6, f7, f8, f9] body := by
 refine ⟨rfl, fun i hi => ?_, by simp⟩
 have hc : i = 0 ∨ i = 1 ∨ i = 2 ∨ i = 3 ∨ i = 4 ∨ i = 5 ∨ i = 6 ∨ i = 7 ∨ i = 8 ∨ i = 9 := by omega
 rcases hc with rfl | rfl | rfl | rfl | rfl | rfl | rfl | rfl | rfl | rfl <;> simp
theorem PkAt.below {w w' : World} {b B : Nat} {F : List Int} {body : ByteArray} (h : PkAt w b F body) (hb : Below B w w') (hB : b < B) : PkAt w' b F body :=
 ⟨h.1, fun i hi => (hb.cell (p := ⟨b, i, none⟩) hB).trans (h.2.1 i hi), (hb.cell (p := ⟨b, 10, none⟩) hB).trans h.2.2⟩
def pktFault (F : List Int) (n : Nat) : Int := if F.all wordB then (if 40 < n then 1 else 0) else 2
theorem all_of (F : List Int) (k : Nat) (h : ∀ j, j < k → wordB (F.getD j 0) = true) (hk : k = F.length) : F.all wordB = true := by
 rw [List.all_eq_true]
 intro x hx
 obtain ⟨i, hi, rfl⟩ := List.getElem_of_mem hx
 have := h i (by omega)
 simpa [List.getD, List.getElem?_eq_getElem hi] using this
theorem not_all_of (F : List Int) (k : Nat) (hk : k < F.length) (h : wordB (F.getD k 0) = false) : F.all wordB = false := by
 rw [List.all_eq_false]
 exact ⟨F[k], List.getElem_mem hk, by simpa [List.getD, List.getElem?_eq_getElem hk] using h⟩
end Go.Proofs.YtncdininppehkaaGreat

namespace Go.Proofs.YtncdininppehkaaGreat
open Go.RowKit
set_option linter.unusedVariables false
set_option maxRecDepth 100000
structure Sn where
 k : Int
 n : Int
 F : List Int
def WF (F : List Int) : Prop := F.length = 10 ∧ ∀ i, wordB (F.getD i 0) = true
theorem WF.bd {F : List Int} (h : WF F) (i : Nat) : 0 ≤ F.getD i 0 ∧ F.getD i 0 ≤ 65535 := by simpa [wordB] using h.2 i
theorem wf_of_all {F : List Int} (h : F.length = 10) (ha : F.all wordB = true) : WF F := by
 refine ⟨h, fun i => ?_⟩
 by_cases hi : i < F.length
 ·rw [List.all_eq_true] at ha
  have := ha F[i] (List.getElem_mem hi)
  simpa [List.getD, List.getElem?_eq_getElem hi] using this
 ·simp [List.getD, List.getElem?_eq_none (by omega : F.length ≤ i), wordB]
theorem WF.set {F : List Int} (h : WF F) (i : Nat) (x : Int) (hx : wordB x = true) : WF (F.set i x) := by
 refine ⟨by simp [h.1], fun j => ?_⟩
 by_cases hj : j < F.length
 ·have := h.2 j
  simp only [List.getD, List.getElem?_set] at this ⊢
  split
  ·split
   ·simpa using hx
   ·simp [wordB]
  ·exact this
 ·simp [List.getD, List.getElem?_eq_none (show (F.set i x).length ≤ j by simp; omega), wordB]
def fitsB (F : List Int) (ms : List Mt) : Bool := ms.all fun m => mk (F.getD m.f.toNat 0) m.m == m.v
def fitB (F : List Int) (t : Int) (f : Fl) : Bool := (f.t == t) && fitsB F f.ms
def bestTo (fs : List Fl) (F : List Int) (t : Int) : Nat → Int
 | 0 => -1
 | k + 1 => if fitB F t (fs.getD k fl0) = true ∧ (bestTo fs F t k < 0 ∨ (fs.getD (bestTo fs F t k).toNat fl0).p < (fs.getD k fl0).p) then (k : Int) else bestTo fs F t k
theorem bestTo_in (fs : List Fl) (F : List Int) (t : Int) : ∀ k, -1 ≤ bestTo fs F t k ∧ bestTo fs F t k < k
 | 0 => by simp [bestTo]
 | k + 1 => by
  have := bestTo_in fs F t k
  unfold bestTo
  split <;> omega
def Best (fs : List Fl) (F : List Int) (t : Int) (lo hi : Nat) (b : Int) : Prop :=
 (b = -1 ∧ ∀ i, lo ≤ i → i < hi → fitB F t (fs.getD i fl0) = false) ∨
 (∃ j : Nat, b = j ∧ lo ≤ j ∧ j < hi ∧ fitB F t (fs.getD j fl0) = true ∧ ∀ i, lo ≤ i → i < hi → fitB F t (fs.getD i fl0) = true → (fs.getD i fl0).p ≤ (fs.getD j fl0).p ∧ (i < j → (fs.getD i fl0).p < (fs.getD j fl0).p))
theorem bestTo_best (fs : List Fl) (F : List Int) (t : Int) : ∀ k, Best fs F t 0 k (bestTo fs F t k)
 | 0 => .inl ⟨rfl, fun i _ h => absurd h (by omega)⟩
 | k + 1 => by
  have ih := bestTo_best fs F t k
  unfold bestTo
  by_cases h : fitB F t (fs.getD k fl0) = true ∧ (bestTo fs F t k < 0 ∨ (fs.getD (bestTo fs F t k).toNat fl0).p < (fs.getD k fl0).p)
  ·rw [if_pos h]
   refine .inr ⟨k, rfl, by omega, by omega, h.1, fun i _ hi hf => ?_⟩
   rcases ih with ⟨hb, ha⟩ | ⟨j, hb, _, hj, hfj, ha⟩
   ·by_cases e : i = k
    ·subst e; exact ⟨Int.le_refl _, fun h => absurd h (by omega)⟩
    ·rw [ha i (by omega) (by omega)] at hf; simp at hf
   ·rw [hb] at h
    simp only [Int.toNat_natCast] at h
    have hp : (fs.getD j fl0).p < (fs.getD k fl0).p := by rcases h.2 with h' | h' <;> omega
    by_cases e : i = k
    ·subst e; exact ⟨Int.le_refl _, fun h => absurd h (by omega)⟩
    ·have := ha i (by omega) (by omega) hf
     exact ⟨by omega, fun _ => by omega⟩
  ·rw [if_neg h]
   rcases ih with ⟨hb, ha⟩ | ⟨j, hb, h0, hj, hfj, ha⟩
   ·refine .inl ⟨hb, fun i _ hi => ?_⟩
    by_cases e : i = k
    ·subst e
     rw [hb] at h
     by_cases hf : fitB F t (fs.getD i fl0) = true
     ·exact absurd ⟨hf, .inl (by omega)⟩ h
     ·simpa using hf
    ·exact ha i (by omega) (by omega)
   ·refine .inr ⟨j, hb, h0, by omega, hfj, fun i _ hi hf => ?_⟩
    by_cases e : i = k
    ·subst e
     rw [hb] at h
     simp only [Int.toNat_natCast] at h
     have : ¬ (fs.getD j fl0).p < (fs.getD i fl0).p := fun hp => h ⟨hf, .inr hp⟩
     exact ⟨by omega, fun h' => absurd h' (by omega)⟩
    ·exact ha i (by omega) (by omega) hf
theorem Best.unique {fs : List Fl} {F : List Int} {t : Int} {lo hi : Nat} {a b : Int} (ha : Best fs F t lo hi a) (hb : Best fs F t lo hi b) : a = b := by
 rcases ha with ⟨rfl, h1⟩ | ⟨i, rfl, i0, i1, fi, h1⟩
 ·rcases hb with ⟨rfl, _⟩ | ⟨j, rfl, j0, j1, fj, _⟩
  ·rfl
  ·rw [h1 j j0 j1] at fj; simp at fj
 ·rcases hb with ⟨rfl, h2⟩ | ⟨j, rfl, j0, j1, fj, h2⟩
  ·rw [h2 i i0 i1] at fi; simp at fi
  ·have a1 := h1 j j0 j1 fj
   have a2 := h2 i i0 i1 fi
   rcases Nat.lt_trichotomy i j with h | h | h
   ·have := a2.2 h; omega
   ·rw [h]
   ·have := a1.2 h; omega
theorem Best.down {fs : List Fl} {F : List Int} {t : Int} {k hi : Nat} {b : Int} (h : Best fs F t (k + 1) hi b) (hk : k < hi) (hf : fitB F t (fs.getD k fl0) = true) (hp : b < 0 ∨ (fs.getD b.toNat fl0).p ≤ (fs.getD k fl0).p) : Best fs F t k hi k := by
 refine .inr ⟨k, rfl, by omega, hk, hf, fun i h0 h1 fi => ?_⟩
 by_cases e : i = k
 ·subst e; exact ⟨Int.le_refl _, fun h => absurd h (by omega)⟩
 ·rcases h with ⟨rfl, ha⟩ | ⟨j, rfl, _, _, _, ha⟩
  ·rw [ha i (by omega) h1] at fi; simp at fi
  ·simp only [Int.toNat_natCast] at hp
   have := (ha i (by omega) h1 fi).1
   exact ⟨by omega, fun h => absurd h (by omega)⟩
theorem Best.stay {fs : List Fl} {F : List Int} {t : Int} {k hi : Nat} {b : Int} (h : Best fs F t (k + 1) hi b) (hk : k < hi) (hf : fitB F t (fs.getD k fl0) = true → 0 ≤ b ∧ (fs.getD k fl0).p < (fs.getD b.toNat fl0).p) : Best fs F t k hi b := by
 rcases h with ⟨rfl, ha⟩ | ⟨j, rfl, j0, j1, fj, ha⟩
 ·refine .inl ⟨rfl, fun i h0 h1 => ?_⟩
  by_cases e : i = k
  ·subst e
   by_cases hx : fitB F t (fs.getD i fl0) = true
   ·have := hf hx; omega
   ·simpa using hx
  ·exact ha i (by omega) h1
 ·refine .inr ⟨j, rfl, by omega, j1, fj, fun i h0 h1 fi => ?_⟩
  by_cases e : i = k
  ·subst e
   have := (hf fi).2
   simp only [Int.toNat_natCast] at this
   exact ⟨by omega, fun _ => this⟩
  ·exact ha i (by omega) h1 fi
def dsOf (fs : List Fl) (b : Int) : List Do := if b < 0 then [] else (fs.getD b.toNat fl0).ds
def doF (F : List Int) (d : Do) : List Int :=
 if d.k = 1 then F.set d.a.toNat d.n else if d.k = 2 then F.set d.a.toNat (F.getD d.n.toNat 0) else if d.k = 3 then F.set d.a.toNat (if 0 < F.getD d.a.toNat 0 then F.getD d.a.toNat 0 - 1 else 0) else F
structure St where
 F : List Int
 t : Int
 out : List Sn
def step (s : St) (d : Do) : St :=
 if d.k = 5 ∨ d.k = 6 then ⟨s.F, s.t, s.out ++ [⟨d.k, d.n, s.F⟩]⟩ else if d.k = 4 then ⟨s.F, d.n, s.out⟩ else ⟨doF s.F d, s.t, s.out⟩
def stepTo (s : St) (ds : List Do) : Nat → St
 | 0 => s
 | k + 1 => step (stepTo s ds k) (ds.getD k do0)
def table (fs : List Fl) (s : St) : St := stepTo ⟨s.F, 8, s.out⟩ (dsOf fs (bestTo fs s.F s.t fs.length)) (dsOf fs (bestTo fs s.F s.t fs.length)).length
def runN (fs : List Fl) : Nat → St → St
 | 0, s => s
 | n + 1, s => if 7 < s.t then s else runN fs n (table fs s)
theorem runN_end (fs : List Fl) (s : St) (h : 7 < s.t) : ∀ n, runN fs n s = s
 | 0 => rfl
 | n + 1 => by unfold runN; rw [if_pos h]
def ran (fs : List Fl) (F : List Int) : List Sn := (runN fs 8 ⟨F, 0, []⟩).out
theorem doB_parts {t : Int} {ds : List Do} {k : Nat} (h : doB t ds k = true) :
  let d := ds.getD k do0
  (d.k = 1 ∧ 0 ≤ d.a ∧ d.a ≤ 9 ∧ wordB d.n = true) ∨ (d.k = 2 ∧ 0 ≤ d.a ∧ d.a ≤ 9 ∧ 0 ≤ d.n ∧ d.n ≤ 9) ∨ (d.k = 3 ∧ 0 ≤ d.a ∧ d.a ≤ 9) ∨ (d.k = 4 ∧ t < d.n ∧ d.n ≤ 7) ∨ (d.k = 5 ∧ wordB d.n = true) ∨ (d.k = 6 ∧ 0 ≤ d.n ∧ d.n ≤ 5) := by
 intro d
 have h' : doesB d.k d.a d.n t ((k : Int) + 1 == (ds.length : Int)) = true := h
 clear_value d
 unfold doesB at h'
 split at h'
 ·rename_i e; simp at h'; exact .inl ⟨e, h'.1.1, h'.1.2, by simpa [wordB] using h'.2⟩
 ·split at h'
  ·rename_i e; simp at h'; exact .inr (.inl ⟨e, h'.1.1, h'.1.2, h'.2.1, h'.2.2⟩)
  ·split at h'
   ·rename_i e; simp at h'; exact .inr (.inr (.inl ⟨e, h'.1.1, h'.1.2⟩))
   ·split at h'
    ·rename_i e; simp at h'; exact .inr (.inr (.inr (.inl ⟨e, by omega, h'.1.2.2⟩)))
    ·split at h'
     ·rename_i e; simp at h'; exact .inr (.inr (.inr (.inr (.inl ⟨e, by simpa [wordB] using h'.2⟩))))
     ·split at h'
      ·rename_i e; simp at h'; exact .inr (.inr (.inr (.inr (.inr ⟨e, h'.2.1, h'.2.2⟩))))
      ·simp at h'
def Ok (t : Int) (c : Nat) (s : St) : Prop := WF s.F ∧ t < s.t ∧ s.t ≤ 8 ∧ s.out.length ≤ c
theorem Ok.step {t : Int} {c : Nat} {s : St} {ds : List Do} {k : Nat} (h : Ok t c s) (hd : doB t ds k = true) : Ok t (c + 1) (step s (ds.getD k do0)) := by
 obtain ⟨hF, h1, h2, h3⟩ := h
 have hp := doB_parts hd
 generalize ds.getD k do0 = d at hp
 have hw : ∀ i, wordB (s.F.getD i 0) = true := hF.2
 simp only at hp
 rcases hp with ⟨e, a0, a1, hn⟩ | ⟨e, a0, a1, n0, n1⟩ | ⟨e, a0, a1⟩ | ⟨e, n0, n1⟩ | ⟨e, hn⟩ | ⟨e, n0, n1⟩
 ·have : Go.Proofs.YtncdininppehkaaGreat.step s d = ⟨s.F.set d.a.toNat d.n, s.t, s.out⟩ := by unfold Go.Proofs.YtncdininppehkaaGreat.step doF; simp [e]
  rw [this]; exact ⟨hF.set _ _ hn, h1, h2, by simp; omega⟩
 ·have : Go.Proofs.YtncdininppehkaaGreat.step s d = ⟨s.F.set d.a.toNat (s.F.getD d.n.toNat 0), s.t, s.out⟩ := by unfold Go.Proofs.YtncdininppehkaaGreat.step doF; simp [e]
  rw [this]; exact ⟨hF.set _ _ (hw _), h1, h2, by simp; omega⟩
 ·have : Go.Proofs.YtncdininppehkaaGreat.step s d = ⟨s.F.set d.a.toNat (if 0 < s.F.getD d.a.toNat 0 then s.F.getD d.a.toNat 0 - 1 else 0), s.t, s.out⟩ := by unfold Go.Proofs.YtncdininppehkaaGreat.step doF; simp [e]
  rw [this]
  refine ⟨hF.set _ _ ?_, h1, h2, by simp; omega⟩
  have := hF.bd d.a.toNat
  generalize s.F.getD d.a.toNat 0 = x at this
  split
  ·simp [wordB]; omega
  ·simp [wordB]
 ·have : Go.Proofs.YtncdininppehkaaGreat.step s d = ⟨s.F, d.n, s.out⟩ := by unfold Go.Proofs.YtncdininppehkaaGreat.step; simp [e]
  rw [this]; exact ⟨hF, n0, by simp; omega, by simp; omega⟩
 ·have : Go.Proofs.YtncdininppehkaaGreat.step s d = ⟨s.F, s.t, s.out ++ [⟨d.k, d.n, s.F⟩]⟩ := by unfold Go.Proofs.YtncdininppehkaaGreat.step; simp [e]
  rw [this]; exact ⟨hF, h1, h2, by simp; omega⟩
 ·have : Go.Proofs.YtncdininppehkaaGreat.step s d = ⟨s.F, s.t, s.out ++ [⟨d.k, d.n, s.F⟩]⟩ := by unfold Go.Proofs.YtncdininppehkaaGreat.step; simp [e]
  rw [this]; exact ⟨hF, h1, h2, by simp; omega⟩
theorem Ok.stepTo {t : Int} {c : Nat} {s : St} {ds : List Do} (h : Ok t c s) (hd : ∀ k, k < ds.length → doB t ds k = true) : ∀ k, k ≤ ds.length → Ok t (c + k) (stepTo s ds k)
 | 0, _ => h
 | k + 1, hk => (Ok.stepTo h hd k (by omega)).step (hd k (by omega))
theorem ok_flow {fs : List Fl} (h : fsFault fs = 0) {i : Nat} (hi : i < fs.length) : fs.length ≤ 5000 ∧ (fs.getD i fl0).ms.length ≤ 12 ∧ (fs.getD i fl0).ds.length ≤ 100 ∧ 0 ≤ (fs.getD i fl0).t ∧ (fs.getD i fl0).t ≤ 7 ∧ 0 ≤ (fs.getD i fl0).p ∧ (fs.getD i fl0).p ≤ 2000
  ∧ (∀ j, j < (fs.getD i fl0).ms.length → matchB ((fs.getD i fl0).ms.getD j mt0) = true) ∧ (∀ j, j < (fs.getD i fl0).ds.length → doB (fs.getD i fl0).t (fs.getD i fl0).ds j = true) := by
 have h5 : ¬ 5000 < fs.length := fun h' => by unfold fsFault at h; rw [if_pos h'] at h; omega
 unfold fsFault at h
 rw [if_neg h5] at h
 have hz : flFault (fs.getD i fl0) = 0 := by
  clear h5
  induction fs generalizing i with
  | nil => simp at hi
  | cons f r ih =>
   simp only [fsFault1] at h
   by_cases e : flFault f = 0
   ·rw [if_pos e] at h
    cases i with
    | zero => simpa using e
    | succ i => rw [List.getD_cons_succ]; exact ih h (by simpa using hi)
   ·rw [if_neg e] at h; exact absurd h e
 generalize fs.getD i fl0 = f at hz
 unfold flFault at hz
 split at hz
 ·omega
 ·rename_i s1
  split at hz
  ·omega
  ·rename_i s2
   split at hz
   ·omega
   ·rename_i s3
    split at hz
    ·omega
    ·rename_i s4
     have s2' : tableB f.t = true ∧ prioB f.p = true := by simpa using s2
     have s3' : f.ms.all matchB = true := by simpa using s3
     have s4' : (List.range f.ds.length).all (doB f.t f.ds) = true := by simpa using s4
     simp only [tableB, prioB, decide_eq_true_eq] at s2'
     rw [List.all_eq_true] at s3' s4'
     refine ⟨by omega, by omega, by omega, s2'.1.1, s2'.1.2, s2'.2.1, s2'.2.2, fun j hj => ?_, fun j hj => s4' j (List.mem_range.2 hj)⟩
     have := s3' f.ms[j] (List.getElem_mem hj)
     simpa [List.getD, List.getElem?_eq_getElem hj] using this
def S (body : ByteArray) (l : List Sn) : List Value := l.flatMap fun x => [.int .i64 x.k, .int .i64 x.n, .int .i64 (x.F.getD 0 0), .int .i64 (x.F.getD 1 0), .int .i64 (x.F.getD 2 0), .int .i64 (x.F.getD 3 0), .int .i64 (x.F.getD 4 0), .int .i64 (x.F.getD 5 0), .int .i64 (x.F.getD 6 0), .int .i64 (x.F.getD 7 0), .int .i64 (x.F.getD 8 0), .int .i64 (x.F.getD 9 0), .string body]
theorem S_append (body : ByteArray) (a b : List Sn) : S body (a ++ b) = S body a ++ S body b := by simp [S]
end Go.Proofs.YtncdininppehkaaGreat

namespace Go.Proofs.YtncdininppehkaaGreat
open Go.RowKit
set_option linter.unusedVariables false
set_option maxRecDepth 100000
theorem getD_mm {α : Type} {l : List α} {d : α} {i : Nat} (h : i < l.length) : l.getD i d ∈ l := by
 rw [List.getD_eq_getElem?_getD, List.getElem?_eq_getElem h]; exact List.getElem_mem h
theorem mem_getD {α : Type} {l : List α} (d : α) {x : α} (h : x ∈ l) : ∃ i, i < l.length ∧ l.getD i d = x := by
 obtain ⟨i, hi, e⟩ := List.getElem_of_mem h
 exact ⟨i, hi, by rw [List.getD_eq_getElem?_getD, List.getElem?_eq_getElem hi]; exact e⟩
theorem best_no {fs : List Fl} {F : List Int} {t : Int} (h : ∀ g ∈ fs, fitB F t g = false) : bestTo fs F t fs.length = -1 := by
 rcases bestTo_best fs F t fs.length with ⟨e, _⟩ | ⟨j, e, _, hj, hf, _⟩
 ·exact e
 ·rw [h _ (getD_mm hj)] at hf; exact absurd hf (by decide)
theorem best_is {fs : List Fl} {F : List Int} {t : Int} {f : Fl} (hf : f ∈ fs) (h1 : fitB F t f = true) (h2 : ∀ g ∈ fs, fitB F t g = true → g.p < f.p ∨ g.ds = f.ds) : dsOf fs (bestTo fs F t fs.length) = f.ds := by
 obtain ⟨i, hi, e⟩ := mem_getD fl0 hf
 rcases bestTo_best fs F t fs.length with ⟨_, hn⟩ | ⟨j, hb, _, hj, hfj, ha⟩
 ·have := hn i (Nat.zero_le _) hi
  rw [e, h1] at this; exact absurd this (by decide)
 ·have h3 := (ha i (Nat.zero_le _) hi (by rw [e]; exact h1)).1
  rw [e] at h3
  rw [hb]
  unfold dsOf
  rw [if_neg (by omega), Int.toNat_natCast]
  rcases h2 _ (getD_mm hj) hfj with h | h
  ·omega
  ·exact h
theorem stepTo_fold (s : St) (ds : List Do) : ∀ k, k ≤ ds.length → stepTo s ds k = (ds.take k).foldl step s
 | 0, _ => rfl
 | k + 1, hk => by
  rw [List.take_succ_eq_append_getElem (by omega), List.foldl_append, ← stepTo_fold s ds k (by omega)]
  simp only [stepTo, List.foldl_cons, List.foldl_nil]
  rw [List.getD_eq_getElem?_getD, List.getElem?_eq_getElem (by omega)]
  rfl
theorem table_fold (fs : List Fl) (s : St) : table fs s = (dsOf fs (bestTo fs s.F s.t fs.length)).foldl step ⟨s.F, 8, s.out⟩ := by
 unfold table
 rw [stepTo_fold _ _ _ (Nat.le_refl _), List.take_length]
theorem table_no {fs : List Fl} {s : St} (h : ∀ g ∈ fs, fitB s.F s.t g = false) : table fs s = ⟨s.F, 8, s.out⟩ := by
 rw [table_fold, best_no h]; rfl
theorem table_is {fs : List Fl} {s : St} {f : Fl} (hf : f ∈ fs) (h1 : fitB s.F s.t f = true) (h2 : ∀ g ∈ fs, fitB s.F s.t g = true → g.p < f.p ∨ g.ds = f.ds) : table fs s = f.ds.foldl step ⟨s.F, 8, s.out⟩ := by
 rw [table_fold, best_is hf h1 h2]
theorem runN_more (fs : List Fl) (n : Nat) (s : St) (h : s.t ≤ 7) : runN fs (n + 1) s = runN fs n (table fs s) := by
 rw [runN, if_neg (by omega)]
theorem runN_no {fs : List Fl} {n : Nat} {s : St} (hn : 0 < n) (ht : s.t ≤ 7) (h : ∀ g ∈ fs, fitB s.F s.t g = false) : (runN fs n s).out = s.out := by
 obtain ⟨m, rfl⟩ : ∃ m, n = m + 1 := ⟨n - 1, by omega⟩
 rw [runN_more _ _ _ ht, table_no h, runN_end _ _ (by simp)]
theorem runN_is {fs : List Fl} {n : Nat} {s : St} (ht : s.t ≤ 7) {f : Fl} (hf : f ∈ fs) (h1 : fitB s.F s.t f = true) (h2 : ∀ g ∈ fs, fitB s.F s.t g = true → g.p < f.p ∨ g.ds = f.ds) : runN fs (n + 1) s = runN fs n (f.ds.foldl step ⟨s.F, 8, s.out⟩) := by
 rw [runN_more _ _ _ ht, table_is hf h1 h2]
end Go.Proofs.YtncdininppehkaaGreat

namespace Go.Proofs.YtncdininppehkaaGreat
set_option linter.unusedVariables false
set_option maxRecDepth 100000
section
variable {α : Type}
def mrg (le : α → α → Bool) (A B : List α) : List α := List.merge A B le
theorem mrg_nil (le : α → α → Bool) (B : List α) : mrg le [] B = B := by unfold mrg; simp
theorem mrg_nil2 (le : α → α → Bool) (A : List α) : mrg le A [] = A := by unfold mrg; simp
theorem mrg_cons (le : α → α → Bool) (x y : α) (A B : List α) : mrg le (x :: A) (y :: B) = if le x y = true then x :: mrg le A (y :: B) else y :: mrg le (x :: A) B := by
 unfold mrg
 rw [List.cons_merge_cons]
theorem mrg_split (le : α → α → Bool) : ∀ (n : Nat) (A1 A2 B1 B2 : List α), A1.length + B1.length = n → (∀ x ∈ A1, ∀ y ∈ B2, le x y = true) → (∀ y ∈ B1, ∀ x ∈ A2, le x y = false) → mrg le (A1 ++ A2) (B1 ++ B2) = mrg le A1 B1 ++ mrg le A2 B2 := by
 intro n
 induction n with
 | zero =>
  intro A1 A2 B1 B2 hn _ _
  obtain rfl : A1 = [] := List.eq_nil_of_length_eq_zero (by omega)
  obtain rfl : B1 = [] := List.eq_nil_of_length_eq_zero (by omega)
  simp [mrg_nil]
 | succ n ih =>
  intro A1 A2 B1 B2 hn h1 h2
  cases A1 with
  | nil =>
   cases B1 with
   | nil => simp at hn
   | cons y ys =>
    rw [mrg_nil]
    cases A2 with
    | nil => simp [mrg_nil]
    | cons x xs =>
     have hq := ih [] (x :: xs) ys B2 (by simpa using hn) (by simp) (fun z hz => h2 z (List.mem_cons_of_mem _ hz))
     rw [mrg_nil] at hq
     simp only [List.nil_append, List.cons_append] at hq ⊢
     rw [mrg_cons, if_neg (by rw [h2 y (by simp) x (by simp)]; simp), hq]
  | cons x xs =>
   cases B1 with
   | nil =>
    rw [mrg_nil2]
    cases B2 with
    | nil => simp [mrg_nil2]
    | cons y ys =>
     have hq := ih xs A2 [] (y :: ys) (by simpa using hn) (fun z hz => h1 z (List.mem_cons_of_mem _ hz)) (by simp)
     rw [mrg_nil2] at hq
     simp only [List.nil_append, List.cons_append] at hq ⊢
     rw [mrg_cons, if_pos (h1 x (by simp) y (by simp)), hq]
   | cons y ys =>
    simp only [List.cons_append]
    rw [mrg_cons, mrg_cons]
    by_cases hle : le x y = true
    ·rw [if_pos hle, if_pos hle]
     have hq := ih xs A2 (y :: ys) B2 (by simp at hn ⊢; omega) (fun z hz => h1 z (List.mem_cons_of_mem _ hz)) h2
     simp only [List.cons_append] at hq
     rw [hq]
     rfl
    ·rw [if_neg hle, if_neg hle]
     have hq := ih (x :: xs) A2 ys B2 (by simp at hn ⊢; omega) h1 (fun z hz => h2 z (List.mem_cons_of_mem _ hz))
     simp only [List.cons_append] at hq
     rw [hq]
     rfl
theorem mrg_all (le : α → α → Bool) (A B : List α) (h : ∀ x ∈ A, ∀ y ∈ B, le x y = true) : mrg le A B = A ++ B := by
 have := mrg_split le _ A [] [] B rfl h (by simp)
 simpa [mrg_nil, mrg_nil2] using this
theorem mrg_none (le : α → α → Bool) (A B : List α) (h : ∀ y ∈ B, ∀ x ∈ A, le x y = false) : mrg le A B = B ++ A := by
 have := mrg_split le _ [] A B [] rfl (by simp) h
 simpa [mrg_nil, mrg_nil2] using this
theorem mrg_one (le : α → α → Bool) (x : α) (B1 B2 : List α) (h1 : ∀ y ∈ B1, le x y = false) (h2 : ∀ y ∈ B2, le x y = true) : mrg le [x] (B1 ++ B2) = B1 ++ x :: B2 := by
 have := mrg_split le _ [] [x] B1 B2 rfl (by simp) (by simpa using h1)
 simp only [List.nil_append, mrg_nil] at this
 rw [this, mrg_all le [x] B2 (by simpa using h2)]
 rfl
theorem mrg_last (le : α → α → Bool) (y : α) (A1 A2 : List α) (h1 : ∀ x ∈ A1, le x y = true) (h2 : ∀ x ∈ A2, le x y = false) : mrg le (A1 ++ A2) [y] = A1 ++ y :: A2 := by
 have := mrg_split le _ A1 A2 [] [y] rfl (by simpa using h1) (by simp)
 simp only [List.nil_append, mrg_nil2] at this
 rw [this, mrg_none le A2 [y] (by simpa using h2)]
 rfl
theorem mrg_mem (le : α → α → Bool) (A B : List α) (z : α) : z ∈ mrg le A B ↔ z ∈ A ∨ z ∈ B := by
 unfold mrg
 exact List.mem_merge
theorem mrg_len (le : α → α → Bool) (A B : List α) : (mrg le A B).length = A.length + B.length := by
 unfold mrg
 exact List.length_merge ..
def Asc (le : α → α → Bool) (A : List α) : Prop := A.Pairwise (fun x y => le x y = true)
theorem mrg_asc {le : α → α → Bool} (tr : ∀ x y z, le x y = true → le y z = true → le x z = true) (to : ∀ x y, le x y = true ∨ le y x = true) {A B : List α} (hA : Asc le A) (hB : Asc le B) : Asc le (mrg le A B) := by
 unfold mrg Asc at *
 exact List.pairwise_merge tr (fun x y => by rcases to x y with h | h <;> simp [h]) _ _ hA hB
theorem snoc_induct {p : List α → Prop} (h0 : p []) (h1 : ∀ A x, p A → p (A ++ [x])) (A : List α) : p A := by
 have : ∀ n, ∀ B : List α, B.length = n → p B := by
  intro n
  induction n with
  | zero => intro B hB; rw [List.eq_nil_of_length_eq_zero hB]; exact h0
  | succ n ih =>
   intro B hB
   have hne : B ≠ [] := fun e => by rw [e] at hB; simp at hB
   rw [← List.dropLast_concat_getLast hne]
   exact h1 _ _ (ih _ (by simp; omega))
 exact this _ A rfl
def isort (le : α → α → Bool) (A : List α) : List α := A.foldl (fun acc x => mrg le acc [x]) []
theorem isort_snoc (le : α → α → Bool) (A : List α) (x : α) : isort le (A ++ [x]) = mrg le (isort le A) [x] := by
 unfold isort
 rw [List.foldl_append]
 rfl
theorem isort_asc {le : α → α → Bool} (tr : ∀ x y z, le x y = true → le y z = true → le x z = true) (to : ∀ x y, le x y = true ∨ le y x = true) (A : List α) : Asc le (isort le A) := by
 induction A using snoc_induct with
 | h0 => unfold isort Asc; simp
 | h1 A x ih =>
  rw [isort_snoc]
  exact mrg_asc tr to ih (by unfold Asc; simp)
theorem isort_len (le : α → α → Bool) (A : List α) : (isort le A).length = A.length := by
 induction A using snoc_induct with
 | h0 => rfl
 | h1 A x ih => rw [isort_snoc, mrg_len, ih]; simp
theorem isort_mem (le : α → α → Bool) (A : List α) (z : α) : z ∈ isort le A ↔ z ∈ A := by
 induction A using snoc_induct with
 | h0 => unfold isort; simp
 | h1 A x ih => rw [isort_snoc, mrg_mem, ih]; simp
theorem set_swap (P1 P2 P3 : List α) (x y : α) : ((P1 ++ x :: P2 ++ y :: P3).set P1.length y).set (P1.length + 1 + P2.length) x = P1 ++ y :: P2 ++ x :: P3 := by
 have e1 : (P1 ++ x :: P2 ++ y :: P3).set P1.length y = P1 ++ y :: P2 ++ y :: P3 := by
  rw [List.append_assoc, List.set_append_right _ _ (by omega)]
  simp
 rw [e1, List.set_append_right _ _ (by simp; omega)]
 have e2 : P1.length + 1 + P2.length - (P1 ++ y :: P2).length = 0 := by simp; omega
 rw [e2]
 rfl
theorem asc_last {le : α → α → Bool} (tr : ∀ x y z, le x y = true → le y z = true → le x z = true) {A : List α} {x y : α} (h : Asc le (A ++ [x])) (hxy : le x y = true) : ∀ z ∈ A ++ [x], le z y = true := by
 intro z hz
 rcases List.mem_append.1 hz with hz | hz
 ·have := (List.pairwise_append.1 h).2.2 z hz x (by simp)
  exact tr _ _ _ this hxy
 ·obtain rfl : z = x := by simpa using hz
  exact hxy
end
end Go.Proofs.YtncdininppehkaaGreat

namespace Go.Proofs.YtncdininppehkaaGreat
open Go.RowKit
set_option linter.unusedVariables false
set_option maxRecDepth 100000
def isM (f v : Int) : Mt := ⟨f, 65535, v⟩
def hiM (f v b : Int) : Mt := ⟨f, 65536 - 2 ^ (16 - b).toNat, v⟩
def dataMs : List Mt := [isM 3 3, ⟨6, 65280, 0⟩]
def bareMs (k : Int) : List Mt := [isM 3 k, isM 6 0, isM 7 0]
def sentMs (p : Pr) : List Mt := [isM 0 p.i, isM 8 0, isM 9 0, isM 2 p.m, isM 4 p.p]
def gotoD (n : Int) : Do := ⟨4, 0, n⟩
def toPortD (q : Pr) : List Do := [⟨1, 9, q.i⟩, ⟨6, 0, q.c⟩]
def answerD (ip mac ch : Int) : List Do := [⟨1, 3, 2⟩, ⟨2, 1, 2⟩, ⟨1, 2, mac⟩, ⟨2, 5, 4⟩, ⟨1, 4, ip⟩, ⟨2, 9, 0⟩, ⟨6, 0, ch⟩]
def routeD (p : Pr) : List Do := [⟨1, 1, p.m⟩, ⟨1, 2, 60000 + p.s⟩, ⟨3, 6, 0⟩, ⟨1, 8, p.s⟩]
def ruleMs (r : Ac) : List Mt := [hiM 4 r.src r.sb, hiM 5 r.dst r.db] ++ (if r.o = -1 then [] else [isM 7 r.o])
def isOfB (s : Int) (p : Pr) : Bool := p.s == s
def somewhereB (p : Pr) : Bool := !(p.c == -1)
def othersB (p q : Pr) : Bool := (q.s == p.s && !(q.i == p.i)) && somewhereB q
def routedB (S : List Sw) (t : Int) (p : Pr) : Bool := S.any fun s => s.i == p.s && s.t == t && !(s.g == 0)
def tunnelFl : List Fl := [⟨0, 0, dataMs ++ [isM 0 0], [gotoD 4]⟩, ⟨0, 0, bareMs 2 ++ [isM 0 0], [gotoD 5]⟩]
def portFl (P : List Pr) (p : Pr) : List Fl :=
 [⟨0, 0, sentMs p ++ dataMs, [⟨1, 8, p.s⟩, gotoD 2]⟩, ⟨0, 0, sentMs p ++ bareMs 1, [⟨1, 8, p.s⟩, gotoD 1]⟩, ⟨1, 1, [isM 0 p.i, isM 5 p.p], []⟩, ⟨3, 1, [isM 0 p.i, isM 1 p.m], []⟩,
  ⟨3, 0, [isM 0 p.i, isM 1 65535], (P.filter (othersB p)).flatMap toPortD⟩, ⟨5, 0, [isM 8 p.s, isM 9 p.i], [⟨5, 0, p.i⟩]⟩]
def ansFl (s ip mac ch : Int) : Fl := ⟨1, 0, [isM 8 s, isM 5 ip], answerD ip mac ch⟩
def askFl (P : List Pr) (s : Sw) (ch : Int) : List Fl := (if s.g = 0 then [] else [ansFl s.i s.g (60000 + s.i) ch]) ++ (P.filter (isOfB s.i)).map fun p => ansFl s.i p.p p.m ch
def ruleAt (R : List Ac) (s t n : Int) (i : Nat) : Fl := ⟨t, (R.length : Int) - i, ruleMs (R.getD i ac0) ++ [isM 8 s], if (R.getD i ac0).d then [] else [gotoD n]⟩
def ruleFl (R : List Ac) (s t n : Int) : List Fl := ⟨t, 0, [isM 8 s], [gotoD n]⟩ :: (List.range R.length).map (ruleAt R s t n)
def bridgeFl (P : List Pr) (s : Sw) : List Fl := (P.filter fun p => isOfB s.i p && somewhereB p).map fun p => ⟨3, 0, [isM 8 s.i, isM 1 p.m], toPortD p⟩
def routerMs (s : Sw) : List Mt := [isM 8 s.i, isM 1 (60000 + s.i)]
def routeFl (S : List Sw) (P : List Pr) (s : Sw) : List Fl := if s.g = 0 then [] else
 ⟨3, 1, routerMs s ++ [⟨6, 65534, 0⟩], []⟩ :: (P.filter fun p => routedB S s.t p && somewhereB p).map fun p => ⟨3, 0, routerMs s ++ [isM 5 p.p], routeD p ++ toPortD p⟩
def acLe (x y : Ac) : Bool := decide (y.p ≤ x.p)
def acSort (R : List Ac) : List Ac := mrg acLe (isort acLe (R.take 20)) (isort acLe (R.drop 20))
def rulesB (A : List Ac) (s : Int) (inn : Bool) : List Ac := A.filter fun r => r.s == s && r.n == inn
def switchFl (S : List Sw) (P : List Pr) (A : List Ac) (s : Sw) (ch : Int) : List Fl :=
 askFl P s ch ++ ruleFl (acSort (rulesB A s.i true)) s.i 2 3 ++ bridgeFl P s ++ routeFl S P s ++ ruleFl (acSort (rulesB A s.i false)) s.i 4 5
def hereB (ch : Int) (p : Pr) : Bool := p.c == ch
def comp (S : List Sw) (P : List Pr) (A : List Ac) (ch : Int) : List Fl :=
 tunnelFl ++ (P.filter (hereB ch)).flatMap (portFl P) ++ (S.filter fun s => (P.filter (hereB ch)).any (isOfB s.i)).flatMap fun s => switchFl S P A s ch
end Go.Proofs.YtncdininppehkaaGreat

namespace Go.Proofs.YtncdininppehkaaGreat
open Go.RowKit
set_option linter.unusedVariables false
set_option maxRecDepth 100000
def better (x y : Option Ac) : Option Ac :=
 match x with
 | none => y
 | some a => match y with
  | none => some a
  | some b => if a.p < b.p then some b else some a
theorem better_none (y : Option Ac) : better none y = y := rfl
theorem better_none2 (y : Option Ac) : better y none = y := by cases y <;> rfl
theorem better_assoc (x y z : Option Ac) : better (better x y) z = better x (better y z) := by
 cases x with
 | none => rfl
 | some a =>
  cases y with
  | none => rfl
  | some b =>
   cases z with
   | none => rw [better_none2, better_none2]
   | some c =>
    simp only [better]
    by_cases h1 : a.p < b.p
    ·by_cases h2 : b.p < c.p
     ·simp only [h1, h2, if_true]; rw [if_pos (by omega)]
     ·simp only [h1, h2, if_true, if_false]
    ·by_cases h2 : b.p < c.p
     ·simp only [h1, h2, if_true, if_false]
     ·simp only [h1, h2, if_false]; rw [if_neg (by omega)]
def bestR (l : List Ac) : Option Ac := l.foldl (fun acc r => better acc (some r)) none
theorem bestR_from (l : List Ac) : ∀ x, l.foldl (fun acc r => better acc (some r)) x = better x (bestR l) := by
 induction l with
 | nil => intro x; simp [bestR, better_none2]
 | cons a r ih =>
  intro x
  simp only [bestR, List.foldl_cons]
  rw [ih, ih (better none (some a)), better_none, better_assoc]
theorem bestR_app (a b : List Ac) : bestR (a ++ b) = better (bestR a) (bestR b) := by
 unfold bestR
 rw [List.foldl_append, bestR_from b]
 rfl
theorem acLe_tr (x y z : Ac) (h1 : acLe x y = true) (h2 : acLe y z = true) : acLe x z = true := by
 simp [acLe] at *; omega
theorem acLe_to (x y : Ac) : acLe x y = true ∨ acLe y x = true := by
 simp [acLe]; omega
theorem find_le {q : Ac → Bool} {x z : Ac} {l : List Ac} (h : ∀ y ∈ l, y.p ≤ x.p) (hz : l.find? q = some z) : z.p ≤ x.p := h z (List.mem_of_find?_eq_some hz)
theorem better_left {x : Ac} {o : Option Ac} (h : ∀ z, o = some z → z.p ≤ x.p) : better (some x) o = some x := by
 cases o with
 | none => rfl
 | some z => have := h z rfl; simp only [better]; rw [if_neg (by omega)]
theorem better_right {y : Ac} {o : Option Ac} (h : ∀ z, o = some z → z.p < y.p) : better o (some y) = some y := by
 cases o with
 | none => rfl
 | some z => have := h z rfl; simp only [better]; rw [if_pos this]
theorem find_mrg (q : Ac → Bool) : ∀ (n : Nat) (A B : List Ac), A.length + B.length = n → Asc acLe A → Asc acLe B → (mrg acLe A B).find? q = better (A.find? q) (B.find? q) := by
 intro n
 induction n with
 | zero =>
  intro A B hn _ _
  obtain rfl : A = [] := List.eq_nil_of_length_eq_zero (by omega)
  obtain rfl : B = [] := List.eq_nil_of_length_eq_zero (by omega)
  rw [mrg_nil]; rfl
 | succ n ih =>
  intro A B hn hA hB
  cases A with
  | nil => rw [mrg_nil]; rfl
  | cons x xs =>
   cases B with
   | nil => rw [mrg_nil2, List.find?_nil, better_none2]
   | cons y ys =>
    have hA' := List.pairwise_cons.1 hA
    have hB' := List.pairwise_cons.1 hB
    rw [mrg_cons]
    by_cases hle : acLe x y = true
    ·rw [if_pos hle]
     have hxy : y.p ≤ x.p := by simpa [acLe] using hle
     cases hq : q x with
     | true =>
      rw [List.find?_cons_of_pos (by simpa using hq), List.find?_cons_of_pos (by simpa using hq), better_left]
      intro z hz
      refine find_le (fun u hu => ?_) hz
      rcases List.mem_cons.1 hu with rfl | hu
      ·exact hxy
      ·have := hB'.1 u hu
       simp [acLe] at this; omega
     | false =>
      rw [List.find?_cons_of_neg (by simp [hq]), List.find?_cons_of_neg (by simp [hq])]
      exact ih xs (y :: ys) (by simp at hn ⊢; omega) hA'.2 hB
    ·rw [if_neg hle]
     have hxy : x.p < y.p := by simp [acLe] at hle; exact hle
     cases hq : q y with
     | true =>
      rw [List.find?_cons_of_pos (by simpa using hq), List.find?_cons_of_pos (a := y) (by simpa using hq), better_right]
      intro z hz
      refine Int.lt_of_le_of_lt (find_le (x := x) (fun u hu => ?_) hz) hxy
      rcases List.mem_cons.1 hu with rfl | hu
      ·exact Int.le_refl _
      ·have := hA'.1 u hu
       simpa [acLe] using this
     | false =>
      rw [List.find?_cons_of_neg (by simp [hq]), List.find?_cons_of_neg (a := y) (by simp [hq])]
      exact ih (x :: xs) ys (by simp at hn ⊢; omega) hA hB'.2
theorem find_isort (q : Ac → Bool) (l : List Ac) : (isort acLe l).find? q = bestR (l.filter q) := by
 induction l using snoc_induct with
 | h0 => rfl
 | h1 A x ih =>
  rw [isort_snoc, find_mrg q _ _ _ rfl (isort_asc acLe_tr acLe_to A) (by unfold Asc; simp), ih, List.filter_append, bestR_app]
  congr 1
  cases hq : q x <;> simp [hq, bestR, better]
theorem find_acSort (q : Ac → Bool) (R : List Ac) : (acSort R).find? q = bestR (R.filter q) := by
 unfold acSort
 rw [find_mrg q _ _ _ rfl (isort_asc acLe_tr acLe_to _) (isort_asc acLe_tr acLe_to _), find_isort, find_isort, ← bestR_app, ← List.filter_append, List.take_append_drop]
theorem acSortN_len (R : List Ac) : (acSort R).length = R.length := by
 unfold acSort; rw [mrg_len, isort_len, isort_len]; simp; omega
theorem acSortN_mem (R : List Ac) (x : Ac) : x ∈ acSort R ↔ x ∈ R := by
 unfold acSort
 rw [mrg_mem, isort_mem, isort_mem, ← List.mem_append, List.take_append_drop]
end Go.Proofs.YtncdininppehkaaGreat

namespace Go.Proofs.YtncdininppehkaaGreat
open Go.RowKit
set_option linter.unusedVariables false
set_option maxRecDepth 100000
def idx {α : Type} (p : α → Bool) (l : List α) : Int := match l.findIdx? p with
 | some k => (k : Int)
 | none => -1
theorem idx_at {α : Type} {p : α → Bool} (d : α) {l : List α} {k : Nat} (hk : k < l.length) (h1 : ∀ j, j < k → p (l.getD j d) = false) (h2 : p (l.getD k d) = true) : idx p l = k := by
 have e : l.findIdx? p = some k := by
  rw [List.findIdx?_eq_some_iff_getElem]
  refine ⟨hk, by simpa [List.getD, List.getElem?_eq_getElem hk] using h2, fun j hj => ?_⟩
  have := h1 j hj
  simpa [List.getD, List.getElem?_eq_getElem (show j < l.length by omega)] using this
 unfold idx
 rw [e]
theorem idx_no {α : Type} {p : α → Bool} (d : α) {l : List α} (h1 : ∀ j, j < l.length → p (l.getD j d) = false) : idx p l = -1 := by
 have e : l.findIdx? p = none := by
  rw [List.findIdx?_eq_none_iff]
  intro x hx
  obtain ⟨j, hj, rfl⟩ := List.getElem_of_mem hx
  have := h1 j hj
  simpa [List.getD, List.getElem?_eq_getElem hj] using this
 unfold idx
 rw [e]
theorem idx_any {α : Type} (p : α → Bool) (l : List α) : decide (0 ≤ idx p l) = l.any p := by
 unfold idx
 cases h : l.findIdx? p with
 | none =>
  rw [List.findIdx?_eq_none_iff] at h
  simp only [Int.reduceNeg, Int.reduceLE, decide_false]
  symm
  rw [List.any_eq_false]
  intro x hx
  simp [h x hx]
 | some k =>
  rw [List.findIdx?_eq_some_iff_getElem] at h
  obtain ⟨hk, h1, _⟩ := h
  have h2 : l.any p = true := by
   rw [List.any_eq_true]
   exact ⟨_, List.getElem_mem hk, h1⟩
  rw [h2]
  simp
theorem idx_bd {α : Type} (p : α → Bool) (l : List α) : -1 ≤ idx p l ∧ idx p l < l.length := by
 unfold idx
 cases h : l.findIdx? p with
 | none => exact ⟨by simp, by simp <;> omega⟩
 | some k =>
  rw [List.findIdx?_eq_some_iff_getElem] at h
  obtain ⟨hk, _⟩ := h
  exact ⟨by simp <;> omega, by simpa using hk⟩
def AsksId (w : World) (b0 : Nat) (p : Sw → Bool) : Prop := ∀ (W : World) (x : Sw), Below w.heap.size w W → Calls Tryz.prog 187 #[.agg #[.int .i64 x.i, .int .i64 x.t, .int .i64 x.g], .pointer (some ⟨b0, 0, none⟩)] W fun e w' => e = .returned (.bool (p x)) ∧ Below W.heap.size W w'
set_option maxHeartbeats 2000000 in
theorem idxId_any (l : List Sw) (p : Sw → Bool) (v : Value) (b0 : Nat) (w : World) (hF : SwsAt w v l) (hT : AsksId w b0 p) (hl : l.length * 24 ≤ 140737488355328) :
  Calls Tryz.prog 149 #[v, .func (.func 187) #[] #[.pointer (some ⟨b0, 0, none⟩)]] w fun e w' => e = .returned (.int .i64 (idx p l)) ∧ Below w.heap.size w w' := by
 have HF := hide hF
 have HT := hide hT
 obtain ⟨a, cap, rfl⟩ := hF.slice
 clear hF hT
 go_enter Tryz.func149, Tryz.ntmps149
 go_wp2_with fail
 go_loopw [8] (fun i wr => ∃ k : Nat, k ≤ l.length ∧ i = .int .i64 k ∧ Hid (∀ j, j < k → p (l.getD j sw0) = false) ∧ Below w.heap.size w wr) (fun i _ => l.length - (intOf i).toNat)
 case atStart => exact ⟨0, by omega, rfl, hide (fun j h => absurd h (by omega)), Below.refl _ _⟩
 case round =>
  obtain ⟨k, hk, rfl, HALL, hbr⟩ := hrel
  by_cases hlt : k < l.length
  ·obtain ⟨b, off, cap', e1, hcap, -, g0, g1, g2⟩ := sw_at (RowAt.below HF.out hbr (Nat.le_refl _)) hlt
   simp only [Value.slice.injEq, true_and] at e1
   obtain ⟨rfl, rfl⟩ := e1
   have HST : Hid (∀ W : World, Below w.heap.size w W → Calls Tryz.prog 187 #[.agg #[.int .i64 (l.getD k sw0).i, .int .i64 (l.getD k sw0).t, .int .i64 (l.getD k sw0).g], .pointer (some ⟨b0, 0, none⟩)] W fun e w' => e = .returned (.bool (p (l.getD k sw0))) ∧ Below W.heap.size W w') := fun W hW => HT.out W _ hW
   have HNX : Hid (p (l.getD k sw0) = false → ∀ j, j < k + 1 → p (l.getD j sw0) = false) := fun h j hj => by
    by_cases e : j = k
    ·subst e; exact h
    ·exact HALL.out j (by omega)
   have HFD : Hid (p (l.getD k sw0) = true → idx p l = k) := fun h => idx_at sw0 hlt HALL.out h
   generalize p (l.getD k sw0) = R at *
   generalize (l.getD k sw0).i = y0 at *
   generalize (l.getD k sw0).t = y1 at *
   generalize (l.getD k sw0).g = y2 at *
   have q1 : (0 : Int) ≤ (k : Int) := by omega
   have q2 : (k : Int) < (l.length : Int) := by omega
   clear HALL
   go_wp2_with fail
   refine (unhide HST _ ?_).mono ?_
   ·first | exact hbr | exact hbr.drew | exact ⟨hbr.os, hbr.tape, hbr.output, hbr.size, hbr.block⟩
   rintro e w1 ⟨rfl, hb1⟩
   have HB1 : Hid (Below w.heap.size w w1) := hbr.trans (hb1.mono hbr.size)
   clear hb1 hbr HST g0 g1 g2
   cases R
   ·have HN := hide (HNX.out rfl)
    clear HNX HFD
    go_wp2_with fail
    go_roundw
    case rel => exact ⟨k + 1, by omega, by go_num, HN, HB1.out⟩
    case measure => simp [intOf]; omega
   ·have HN := hide (HFD.out rfl)
    clear HNX HFD
    go_wp2_with fail
    go_ret
    exact ⟨int_ret HN.out.symm, HB1.out⟩
  ·have HN : Hid (idx p l = -1) := idx_no sw0 fun i hi => HALL.out i (by omega)
   have HB1 := hide hbr
   clear HALL hbr
   go_wp2_with fail
   go_ret
   exact ⟨int_ret HN.out.symm, HB1.out⟩
set_option maxHeartbeats 1000000 in
theorem hasId_any (l : List Sw) (p : Sw → Bool) (v : Value) (b0 : Nat) (w : World) (hF : SwsAt w v l) (hT : AsksId w b0 p) (hl : l.length * 24 ≤ 140737488355328) :
  Calls Tryz.prog 160 #[v, .func (.func 187) #[] #[.pointer (some ⟨b0, 0, none⟩)]] w fun e w' => e = .returned (.bool (l.any p)) ∧ Below w.heap.size w w' := by
 have HI := hide (idxId_any l p v b0 w hF hT hl)
 have HA := hide (idx_any p l)
 obtain ⟨a, cap, rfl⟩ := hF.slice
 clear hF hT
 generalize idx p l = I at *
 go_enter Tryz.func160, Tryz.ntmps160
 go_wp2_with fail
 refine (unhide HI).mono ?_
 rintro e w1 ⟨rfl, hb1⟩
 go_wp2_with fail
 go_ret
 exact ⟨bool_ret HA.out, hb1⟩
def AsksGate (w : World) (b0 b1 : Nat) (p : Sw → Bool) : Prop := ∀ (W : World) (x : Sw), Below w.heap.size w W → Calls Tryz.prog 188 #[.agg #[.int .i64 x.i, .int .i64 x.t, .int .i64 x.g], .pointer (some ⟨b0, 0, none⟩), .pointer (some ⟨b1, 0, none⟩)] W fun e w' => e = .returned (.bool (p x)) ∧ Below W.heap.size W w'
set_option maxHeartbeats 2000000 in
theorem idxGate_any (l : List Sw) (p : Sw → Bool) (v : Value) (b0 b1 : Nat) (w : World) (hF : SwsAt w v l) (hT : AsksGate w b0 b1 p) (hl : l.length * 24 ≤ 140737488355328) :
  Calls Tryz.prog 149 #[v, .func (.func 188) #[] #[.pointer (some ⟨b0, 0, none⟩), .pointer (some ⟨b1, 0, none⟩)]] w fun e w' => e = .returned (.int .i64 (idx p l)) ∧ Below w.heap.size w w' := by
 have HF := hide hF
 have HT := hide hT
 obtain ⟨a, cap, rfl⟩ := hF.slice
 clear hF hT
 go_enter Tryz.func149, Tryz.ntmps149
 go_wp2_with fail
 go_loopw [8] (fun i wr => ∃ k : Nat, k ≤ l.length ∧ i = .int .i64 k ∧ Hid (∀ j, j < k → p (l.getD j sw0) = false) ∧ Below w.heap.size w wr) (fun i _ => l.length - (intOf i).toNat)
 case atStart => exact ⟨0, by omega, rfl, hide (fun j h => absurd h (by omega)), Below.refl _ _⟩
 case round =>
  obtain ⟨k, hk, rfl, HALL, hbr⟩ := hrel
  by_cases hlt : k < l.length
  ·obtain ⟨b, off, cap', e1, hcap, -, g0, g1, g2⟩ := sw_at (RowAt.below HF.out hbr (Nat.le_refl _)) hlt
   simp only [Value.slice.injEq, true_and] at e1
   obtain ⟨rfl, rfl⟩ := e1
   have HST : Hid (∀ W : World, Below w.heap.size w W → Calls Tryz.prog 188 #[.agg #[.int .i64 (l.getD k sw0).i, .int .i64 (l.getD k sw0).t, .int .i64 (l.getD k sw0).g], .pointer (some ⟨b0, 0, none⟩), .pointer (some ⟨b1, 0, none⟩)] W fun e w' => e = .returned (.bool (p (l.getD k sw0))) ∧ Below W.heap.size W w') := fun W hW => HT.out W _ hW
   have HNX : Hid (p (l.getD k sw0) = false → ∀ j, j < k + 1 → p (l.getD j sw0) = false) := fun h j hj => by
    by_cases e : j = k
    ·subst e; exact h
    ·exact HALL.out j (by omega)
   have HFD : Hid (p (l.getD k sw0) = true → idx p l = k) := fun h => idx_at sw0 hlt HALL.out h
   generalize p (l.getD k sw0) = R at *
   generalize (l.getD k sw0).i = y0 at *
   generalize (l.getD k sw0).t = y1 at *
   generalize (l.getD k sw0).g = y2 at *
   have q1 : (0 : Int) ≤ (k : Int) := by omega
   have q2 : (k : Int) < (l.length : Int) := by omega
   clear HALL
   go_wp2_with fail
   refine (unhide HST _ ?_).mono ?_
   ·first | exact hbr | exact hbr.drew | exact ⟨hbr.os, hbr.tape, hbr.output, hbr.size, hbr.block⟩
   rintro e w1 ⟨rfl, hb1⟩
   have HB1 : Hid (Below w.heap.size w w1) := hbr.trans (hb1.mono hbr.size)
   clear hb1 hbr HST g0 g1 g2
   cases R
   ·have HN := hide (HNX.out rfl)
    clear HNX HFD
    go_wp2_with fail
    go_roundw
    case rel => exact ⟨k + 1, by omega, by go_num, HN, HB1.out⟩
    case measure => simp [intOf]; omega
   ·have HN := hide (HFD.out rfl)
    clear HNX HFD
    go_wp2_with fail
    go_ret
    exact ⟨int_ret HN.out.symm, HB1.out⟩
  ·have HN : Hid (idx p l = -1) := idx_no sw0 fun i hi => HALL.out i (by omega)
   have HB1 := hide hbr
   clear HALL hbr
   go_wp2_with fail
   go_ret
   exact ⟨int_ret HN.out.symm, HB1.out⟩
set_option maxHeartbeats 1000000 in
theorem hasGate_any (l : List Sw) (p : Sw → Bool) (v : Value) (b0 b1 : Nat) (w : World) (hF : SwsAt w v l) (hT : AsksGate w b0 b1 p) (hl : l.length * 24 ≤ 140737488355328) :
  Calls Tryz.prog 160 #[v, .func (.func 188) #[] #[.pointer (some ⟨b0, 0, none⟩), .pointer (some ⟨b1, 0, none⟩)]] w fun e w' => e = .returned (.bool (l.any p)) ∧ Below w.heap.size w w' := by
 have HI := hide (idxGate_any l p v b0 b1 w hF hT hl)
 have HA := hide (idx_any p l)
 obtain ⟨a, cap, rfl⟩ := hF.slice
 clear hF hT
 generalize idx p l = I at *
 go_enter Tryz.func160, Tryz.ntmps160
 go_wp2_with fail
 refine (unhide HI).mono ?_
 rintro e w1 ⟨rfl, hb1⟩
 go_wp2_with fail
 go_ret
 exact ⟨bool_ret HA.out, hb1⟩
def AsksOf (w : World) (b0 b1 : Nat) (p : Sw → Bool) : Prop := ∀ (W : World) (x : Sw), Below w.heap.size w W → Calls Tryz.prog 190 #[.agg #[.int .i64 x.i, .int .i64 x.t, .int .i64 x.g], .pointer (some ⟨b0, 0, none⟩), .pointer (some ⟨b1, 0, none⟩)] W fun e w' => e = .returned (.bool (p x)) ∧ Below W.heap.size W w'
set_option maxHeartbeats 2000000 in
theorem idxOf_any (l : List Sw) (p : Sw → Bool) (v : Value) (b0 b1 : Nat) (w : World) (hF : SwsAt w v l) (hT : AsksOf w b0 b1 p) (hl : l.length * 24 ≤ 140737488355328) :
  Calls Tryz.prog 149 #[v, .func (.func 190) #[] #[.pointer (some ⟨b0, 0, none⟩), .pointer (some ⟨b1, 0, none⟩)]] w fun e w' => e = .returned (.int .i64 (idx p l)) ∧ Below w.heap.size w w' := by
 have HF := hide hF
 have HT := hide hT
 obtain ⟨a, cap, rfl⟩ := hF.slice
 clear hF hT
 go_enter Tryz.func149, Tryz.ntmps149
 go_wp2_with fail
 go_loopw [8] (fun i wr => ∃ k : Nat, k ≤ l.length ∧ i = .int .i64 k ∧ Hid (∀ j, j < k → p (l.getD j sw0) = false) ∧ Below w.heap.size w wr) (fun i _ => l.length - (intOf i).toNat)
 case atStart => exact ⟨0, by omega, rfl, hide (fun j h => absurd h (by omega)), Below.refl _ _⟩
 case round =>
  obtain ⟨k, hk, rfl, HALL, hbr⟩ := hrel
  by_cases hlt : k < l.length
  ·obtain ⟨b, off, cap', e1, hcap, -, g0, g1, g2⟩ := sw_at (RowAt.below HF.out hbr (Nat.le_refl _)) hlt
   simp only [Value.slice.injEq, true_and] at e1
   obtain ⟨rfl, rfl⟩ := e1
   have HST : Hid (∀ W : World, Below w.heap.size w W → Calls Tryz.prog 190 #[.agg #[.int .i64 (l.getD k sw0).i, .int .i64 (l.getD k sw0).t, .int .i64 (l.getD k sw0).g], .pointer (some ⟨b0, 0, none⟩), .pointer (some ⟨b1, 0, none⟩)] W fun e w' => e = .returned (.bool (p (l.getD k sw0))) ∧ Below W.heap.size W w') := fun W hW => HT.out W _ hW
   have HNX : Hid (p (l.getD k sw0) = false → ∀ j, j < k + 1 → p (l.getD j sw0) = false) := fun h j hj => by
    by_cases e : j = k
    ·subst e; exact h
    ·exact HALL.out j (by omega)
   have HFD : Hid (p (l.getD k sw0) = true → idx p l = k) := fun h => idx_at sw0 hlt HALL.out h
   generalize p (l.getD k sw0) = R at *
   generalize (l.getD k sw0).i = y0 at *
   generalize (l.getD k sw0).t = y1 at *
   generalize (l.getD k sw0).g = y2 at *
   have q1 : (0 : Int) ≤ (k : Int) := by omega
   have q2 : (k : Int) < (l.length : Int) := by omega
   clear HALL
   go_wp2_with fail
   refine (unhide HST _ ?_).mono ?_
   ·first | exact hbr | exact hbr.drew | exact ⟨hbr.os, hbr.tape, hbr.output, hbr.size, hbr.block⟩
   rintro e w1 ⟨rfl, hb1⟩
   have HB1 : Hid (Below w.heap.size w w1) := hbr.trans (hb1.mono hbr.size)
   clear hb1 hbr HST g0 g1 g2
   cases R
   ·have HN := hide (HNX.out rfl)
    clear HNX HFD
    go_wp2_with fail
    go_roundw
    case rel => exact ⟨k + 1, by omega, by go_num, HN, HB1.out⟩
    case measure => simp [intOf]; omega
   ·have HN := hide (HFD.out rfl)
    clear HNX HFD
    go_wp2_with fail
    go_ret
    exact ⟨int_ret HN.out.symm, HB1.out⟩
  ·have HN : Hid (idx p l = -1) := idx_no sw0 fun i hi => HALL.out i (by omega)
   have HB1 := hide hbr
   clear HALL hbr
   go_wp2_with fail
   go_ret
   exact ⟨int_ret HN.out.symm, HB1.out⟩
set_option maxHeartbeats 1000000 in
theorem hasOf_any (l : List Sw) (p : Sw → Bool) (v : Value) (b0 b1 : Nat) (w : World) (hF : SwsAt w v l) (hT : AsksOf w b0 b1 p) (hl : l.length * 24 ≤ 140737488355328) :
  Calls Tryz.prog 160 #[v, .func (.func 190) #[] #[.pointer (some ⟨b0, 0, none⟩), .pointer (some ⟨b1, 0, none⟩)]] w fun e w' => e = .returned (.bool (l.any p)) ∧ Below w.heap.size w w' := by
 have HI := hide (idxOf_any l p v b0 b1 w hF hT hl)
 have HA := hide (idx_any p l)
 obtain ⟨a, cap, rfl⟩ := hF.slice
 clear hF hT
 generalize idx p l = I at *
 go_enter Tryz.func160, Tryz.ntmps160
 go_wp2_with fail
 refine (unhide HI).mono ?_
 rintro e w1 ⟨rfl, hb1⟩
 go_wp2_with fail
 go_ret
 exact ⟨bool_ret HA.out, hb1⟩
def AsksSame (w : World) (b0 : Nat) (p : Pr → Bool) : Prop := ∀ (W : World) (x : Pr), Below w.heap.size w W → Calls Tryz.prog 151 #[.agg #[.int .i64 x.i, .int .i64 x.s, .int .i64 x.m, .int .i64 x.p, .int .i64 x.c], .pointer (some ⟨b0, 0, none⟩)] W fun e w' => e = .returned (.bool (p x)) ∧ Below W.heap.size W w'
set_option maxHeartbeats 2000000 in
theorem idxSame_any (l : List Pr) (p : Pr → Bool) (v : Value) (b0 : Nat) (w : World) (hF : PrsAt w v l) (hT : AsksSame w b0 p) (hl : l.length * 40 ≤ 140737488355328) :
  Calls Tryz.prog 63 #[v, .func (.func 151) #[] #[.pointer (some ⟨b0, 0, none⟩)]] w fun e w' => e = .returned (.int .i64 (idx p l)) ∧ Below w.heap.size w w' := by
 have HF := hide hF
 have HT := hide hT
 obtain ⟨a, cap, rfl⟩ := hF.slice
 clear hF hT
 go_enter Tryz.func63, Tryz.ntmps63
 go_wp2_with fail
 go_loopw [8] (fun i wr => ∃ k : Nat, k ≤ l.length ∧ i = .int .i64 k ∧ Hid (∀ j, j < k → p (l.getD j pr0) = false) ∧ Below w.heap.size w wr) (fun i _ => l.length - (intOf i).toNat)
 case atStart => exact ⟨0, by omega, rfl, hide (fun j h => absurd h (by omega)), Below.refl _ _⟩
 case round =>
  obtain ⟨k, hk, rfl, HALL, hbr⟩ := hrel
  by_cases hlt : k < l.length
  ·obtain ⟨b, off, cap', e1, hcap, -, g0, g1, g2, g3, g4⟩ := pr_at (RowAt.below HF.out hbr (Nat.le_refl _)) hlt
   simp only [Value.slice.injEq, true_and] at e1
   obtain ⟨rfl, rfl⟩ := e1
   have HST : Hid (∀ W : World, Below w.heap.size w W → Calls Tryz.prog 151 #[.agg #[.int .i64 (l.getD k pr0).i, .int .i64 (l.getD k pr0).s, .int .i64 (l.getD k pr0).m, .int .i64 (l.getD k pr0).p, .int .i64 (l.getD k pr0).c], .pointer (some ⟨b0, 0, none⟩)] W fun e w' => e = .returned (.bool (p (l.getD k pr0))) ∧ Below W.heap.size W w') := fun W hW => HT.out W _ hW
   have HNX : Hid (p (l.getD k pr0) = false → ∀ j, j < k + 1 → p (l.getD j pr0) = false) := fun h j hj => by
    by_cases e : j = k
    ·subst e; exact h
    ·exact HALL.out j (by omega)
   have HFD : Hid (p (l.getD k pr0) = true → idx p l = k) := fun h => idx_at pr0 hlt HALL.out h
   generalize p (l.getD k pr0) = R at *
   generalize (l.getD k pr0).i = y0 at *
   generalize (l.getD k pr0).s = y1 at *
   generalize (l.getD k pr0).m = y2 at *
   generalize (l.getD k pr0).p = y3 at *
   generalize (l.getD k pr0).c = y4 at *
   have q1 : (0 : Int) ≤ (k : Int) := by omega
   have q2 : (k : Int) < (l.length : Int) := by omega
   clear HALL
   go_wp2_with fail
   refine (unhide HST _ ?_).mono ?_
   ·first | exact hbr | exact hbr.drew | exact ⟨hbr.os, hbr.tape, hbr.output, hbr.size, hbr.block⟩
   rintro e w1 ⟨rfl, hb1⟩
   have HB1 : Hid (Below w.heap.size w w1) := hbr.trans (hb1.mono hbr.size)
   clear hb1 hbr HST g0 g1 g2 g3 g4
   cases R
   ·have HN := hide (HNX.out rfl)
    clear HNX HFD
    go_wp2_with fail
    go_roundw
    case rel => exact ⟨k + 1, by omega, by go_num, HN, HB1.out⟩
    case measure => simp [intOf]; omega
   ·have HN := hide (HFD.out rfl)
    clear HNX HFD
    go_wp2_with fail
    go_ret
    exact ⟨int_ret HN.out.symm, HB1.out⟩
  ·have HN : Hid (idx p l = -1) := idx_no pr0 fun i hi => HALL.out i (by omega)
   have HB1 := hide hbr
   clear HALL hbr
   go_wp2_with fail
   go_ret
   exact ⟨int_ret HN.out.symm, HB1.out⟩
set_option maxHeartbeats 1000000 in
theorem hasSame_any (l : List Pr) (p : Pr → Bool) (v : Value) (b0 : Nat) (w : World) (hF : PrsAt w v l) (hT : AsksSame w b0 p) (hl : l.length * 40 ≤ 140737488355328) :
  Calls Tryz.prog 31 #[v, .func (.func 151) #[] #[.pointer (some ⟨b0, 0, none⟩)]] w fun e w' => e = .returned (.bool (l.any p)) ∧ Below w.heap.size w w' := by
 have HI := hide (idxSame_any l p v b0 w hF hT hl)
 have HA := hide (idx_any p l)
 obtain ⟨a, cap, rfl⟩ := hF.slice
 clear hF hT
 generalize idx p l = I at *
 go_enter Tryz.func31, Tryz.ntmps31
 go_wp2_with fail
 refine (unhide HI).mono ?_
 rintro e w1 ⟨rfl, hb1⟩
 go_wp2_with fail
 go_ret
 exact ⟨bool_ret HA.out, hb1⟩
def AsksIp (w : World) (b0 b1 b2 : Nat) (p : Pr → Bool) : Prop := ∀ (W : World) (x : Pr), Below w.heap.size w W → Calls Tryz.prog 189 #[.agg #[.int .i64 x.i, .int .i64 x.s, .int .i64 x.m, .int .i64 x.p, .int .i64 x.c], .pointer (some ⟨b0, 0, none⟩), .pointer (some ⟨b1, 0, none⟩), .pointer (some ⟨b2, 0, none⟩)] W fun e w' => e = .returned (.bool (p x)) ∧ Below W.heap.size W w'
set_option maxHeartbeats 2000000 in
theorem idxIp_any (l : List Pr) (p : Pr → Bool) (v : Value) (b0 b1 b2 : Nat) (w : World) (hF : PrsAt w v l) (hT : AsksIp w b0 b1 b2 p) (hl : l.length * 40 ≤ 140737488355328) :
  Calls Tryz.prog 63 #[v, .func (.func 189) #[] #[.pointer (some ⟨b0, 0, none⟩), .pointer (some ⟨b1, 0, none⟩), .pointer (some ⟨b2, 0, none⟩)]] w fun e w' => e = .returned (.int .i64 (idx p l)) ∧ Below w.heap.size w w' := by
 have HF := hide hF
 have HT := hide hT
 obtain ⟨a, cap, rfl⟩ := hF.slice
 clear hF hT
 go_enter Tryz.func63, Tryz.ntmps63
 go_wp2_with fail
 go_loopw [8] (fun i wr => ∃ k : Nat, k ≤ l.length ∧ i = .int .i64 k ∧ Hid (∀ j, j < k → p (l.getD j pr0) = false) ∧ Below w.heap.size w wr) (fun i _ => l.length - (intOf i).toNat)
 case atStart => exact ⟨0, by omega, rfl, hide (fun j h => absurd h (by omega)), Below.refl _ _⟩
 case round =>
  obtain ⟨k, hk, rfl, HALL, hbr⟩ := hrel
  by_cases hlt : k < l.length
  ·obtain ⟨b, off, cap', e1, hcap, -, g0, g1, g2, g3, g4⟩ := pr_at (RowAt.below HF.out hbr (Nat.le_refl _)) hlt
   simp only [Value.slice.injEq, true_and] at e1
   obtain ⟨rfl, rfl⟩ := e1
   have HST : Hid (∀ W : World, Below w.heap.size w W → Calls Tryz.prog 189 #[.agg #[.int .i64 (l.getD k pr0).i, .int .i64 (l.getD k pr0).s, .int .i64 (l.getD k pr0).m, .int .i64 (l.getD k pr0).p, .int .i64 (l.getD k pr0).c], .pointer (some ⟨b0, 0, none⟩), .pointer (some ⟨b1, 0, none⟩), .pointer (some ⟨b2, 0, none⟩)] W fun e w' => e = .returned (.bool (p (l.getD k pr0))) ∧ Below W.heap.size W w') := fun W hW => HT.out W _ hW
   have HNX : Hid (p (l.getD k pr0) = false → ∀ j, j < k + 1 → p (l.getD j pr0) = false) := fun h j hj => by
    by_cases e : j = k
    ·subst e; exact h
    ·exact HALL.out j (by omega)
   have HFD : Hid (p (l.getD k pr0) = true → idx p l = k) := fun h => idx_at pr0 hlt HALL.out h
   generalize p (l.getD k pr0) = R at *
   generalize (l.getD k pr0).i = y0 at *
   generalize (l.getD k pr0).s = y1 at *
   generalize (l.getD k pr0).m = y2 at *
   generalize (l.getD k pr0).p = y3 at *
   generalize (l.getD k pr0).c = y4 at *
   have q1 : (0 : Int) ≤ (k : Int) := by omega
   have q2 : (k : Int) < (l.length : Int) := by omega
   clear HALL
   go_wp2_with fail
   refine (unhide HST _ ?_).mono ?_
   ·first | exact hbr | exact hbr.drew | exact ⟨hbr.os, hbr.tape, hbr.output, hbr.size, hbr.block⟩
   rintro e w1 ⟨rfl, hb1⟩
   have HB1 : Hid (Below w.heap.size w w1) := hbr.trans (hb1.mono hbr.size)
   clear hb1 hbr HST g0 g1 g2 g3 g4
   cases R
   ·have HN := hide (HNX.out rfl)
    clear HNX HFD
    go_wp2_with fail
    go_roundw
    case rel => exact ⟨k + 1, by omega, by go_num, HN, HB1.out⟩
    case measure => simp [intOf]; omega
   ·have HN := hide (HFD.out rfl)
    clear HNX HFD
    go_wp2_with fail
    go_ret
    exact ⟨int_ret HN.out.symm, HB1.out⟩
  ·have HN : Hid (idx p l = -1) := idx_no pr0 fun i hi => HALL.out i (by omega)
   have HB1 := hide hbr
   clear HALL hbr
   go_wp2_with fail
   go_ret
   exact ⟨int_ret HN.out.symm, HB1.out⟩
set_option maxHeartbeats 1000000 in
theorem hasIp_any (l : List Pr) (p : Pr → Bool) (v : Value) (b0 b1 b2 : Nat) (w : World) (hF : PrsAt w v l) (hT : AsksIp w b0 b1 b2 p) (hl : l.length * 40 ≤ 140737488355328) :
  Calls Tryz.prog 31 #[v, .func (.func 189) #[] #[.pointer (some ⟨b0, 0, none⟩), .pointer (some ⟨b1, 0, none⟩), .pointer (some ⟨b2, 0, none⟩)]] w fun e w' => e = .returned (.bool (l.any p)) ∧ Below w.heap.size w w' := by
 have HI := hide (idxIp_any l p v b0 b1 b2 w hF hT hl)
 have HA := hide (idx_any p l)
 obtain ⟨a, cap, rfl⟩ := hF.slice
 clear hF hT
 generalize idx p l = I at *
 go_enter Tryz.func31, Tryz.ntmps31
 go_wp2_with fail
 refine (unhide HI).mono ?_
 rintro e w1 ⟨rfl, hb1⟩
 go_wp2_with fail
 go_ret
 exact ⟨bool_ret HA.out, hb1⟩
end Go.Proofs.YtncdininppehkaaGreat

namespace Go.Proofs.YtncdininppehkaaGreat
open Go.RowKit
set_option linter.unusedVariables false
set_option maxRecDepth 100000
def inB (n a b : Int) : Bool := decide (a ≤ n ∧ n ≤ b)
set_option maxHeartbeats 400000 in
theorem within_any (n a b : Int) (w : World) :
  Calls Tryz.prog 143 #[.int .i64 n, .int .i64 a, .int .i64 b] w fun e w' => e = .returned (.bool (inB n a b)) ∧ w' = w := by
 go_enter Tryz.func143, Tryz.ntmps143
 go_wp2
 all_goals go_ret
 all_goals refine ⟨bool_ret ?_, rfl⟩
 all_goals (unfold inB; rw [Bool.eq_iff_iff]; simp_all; try omega)
set_option maxHeartbeats 400000 in
theorem cIsWord_any (n : Int) (w : World) :
  Calls Tryz.prog 144 #[.int .i64 n] w fun e w' => e = .returned (.bool (inB n 0 65535)) ∧ w' = w := by
 go_enter Tryz.func144, Tryz.ntmps144
 go_wp2_with (go_at_call 143; refine (within_any _ _ _ _).mono ?_; rintro e w' ⟨rfl, rfl⟩)
 go_ret
 exact ⟨rfl, rfl⟩
set_option maxHeartbeats 400000 in
theorem isChassis_any (n : Int) (w : World) :
  Calls Tryz.prog 155 #[.int .i64 n] w fun e w' => e = .returned (.bool (inB n (-1) 5)) ∧ w' = w := by
 go_enter Tryz.func155, Tryz.ntmps155
 go_wp2_with (go_at_call 143; refine (within_any _ _ _ _).mono ?_; rintro e w' ⟨rfl, rfl⟩)
 go_ret
 exact ⟨rfl, rfl⟩
def prInB (x : Pr) : Bool := inB x.i 1 999 && inB x.m 1 59999 && inB x.p 1 65535 && inB x.c (-1) 5
set_option maxHeartbeats 1000000 in
theorem portInBounds_any (i s m p c : Int) (w : World) :
  Calls Tryz.prog 148 #[.agg #[.int .i64 i, .int .i64 s, .int .i64 m, .int .i64 p, .int .i64 c]] w fun e w' => e = .returned (.bool (prInB ⟨i, s, m, p, c⟩)) ∧ Below w.heap.size w w' := by
 go_enter Tryz.func148, Tryz.ntmps148
 go_wp2_with (first | (go_at_call 143; refine (within_any _ _ _ _).mono ?_; rintro e w' ⟨rfl, rfl⟩) | (go_at_call 155; refine (isChassis_any _ _).mono ?_; rintro e w' ⟨rfl, rfl⟩))
 all_goals go_ret
 all_goals refine ⟨bool_ret ?_, (Below.refl _ _).alloc (Nat.le_refl _) _⟩
 all_goals (unfold prInB; simp_all)
def acInB (x : Ac) : Bool := inB x.p 0 1000 && inB x.src 0 65535 && inB x.dst 0 65535 && inB x.sb 0 16 && inB x.db 0 16 && inB x.o (-1) 65535
set_option maxHeartbeats 2000000 in
theorem aclInBounds_any (s p : Int) (n : Bool) (src sb dst db o : Int) (d : Bool) (w : World) :
  Calls Tryz.prog 152 #[.agg #[.int .i64 s, .int .i64 p, .bool n, .int .i64 src, .int .i64 sb, .int .i64 dst, .int .i64 db, .int .i64 o, .bool d]] w fun e w' => e = .returned (.bool (acInB ⟨s, p, n, src, sb, dst, db, o, d⟩)) ∧ Below w.heap.size w w' := by
 go_enter Tryz.func152, Tryz.ntmps152
 go_wp2_with (first | (go_at_call 143; refine (within_any _ _ _ _).mono ?_; rintro e w' ⟨rfl, rfl⟩) | (go_at_call 144; refine (cIsWord_any _ _).mono ?_; rintro e w' ⟨rfl, rfl⟩))
 all_goals go_ret
 all_goals refine ⟨bool_ret ?_, (Below.refl _ _).alloc (Nat.le_refl _) _⟩
 all_goals (unfold acInB; simp_all)
/- the closures -/
set_option maxHeartbeats 400000 in
theorem withId1_any (x : Sw) (id : Int) (b : Nat) (w : World) (h : w.cell? ⟨b, 0, none⟩ = some (.int .i64 id)) :
  Calls Tryz.prog 187 #[.agg #[.int .i64 x.i, .int .i64 x.t, .int .i64 x.g], .pointer (some ⟨b, 0, none⟩)] w fun e w' => e = .returned (.bool (x.i == id)) ∧ Below w.heap.size w w' := by
 have hlt := cell_in h
 have hne : b ≠ w.heap.size := by omega
 go_enter Tryz.func187, Tryz.ntmps187
 go_wp2
 all_goals go_ret
 all_goals exact ⟨bool_ret (by rw [Bool.eq_iff_iff] <;> simp), (Below.refl _ _).alloc (Nat.le_refl _) _⟩
theorem asksId {w : World} {b : Nat} {id : Int} (h : w.cell? ⟨b, 0, none⟩ = some (.int .i64 id)) : AsksId w b (fun x => x.i == id) := fun W x hW => withId1_any x id b W (cell_beh h hW (Nat.le_refl _))
set_option maxHeartbeats 400000 in
theorem isGate_any (x : Sw) (tenant ip : Int) (b c : Nat) (w : World) (h : w.cell? ⟨b, 0, none⟩ = some (.int .i64 tenant)) (h2 : w.cell? ⟨c, 0, none⟩ = some (.int .i64 ip)) :
  Calls Tryz.prog 188 #[.agg #[.int .i64 x.i, .int .i64 x.t, .int .i64 x.g], .pointer (some ⟨b, 0, none⟩), .pointer (some ⟨c, 0, none⟩)] w fun e w' => e = .returned (.bool (x.t == tenant && x.g == ip)) ∧ Below w.heap.size w w' := by
 have hlt := cell_in h
 have hne : b ≠ w.heap.size := by omega
 have hlt2 := cell_in h2
 have hne2 : c ≠ w.heap.size := by omega
 go_enter Tryz.func188, Tryz.ntmps188
 go_wp2
 all_goals go_ret
 all_goals exact ⟨bool_ret (by rw [Bool.eq_iff_iff]; simp_all), (Below.refl _ _).alloc (Nat.le_refl _) _⟩
theorem asksGate {w : World} {b c : Nat} {tenant ip : Int} (h : w.cell? ⟨b, 0, none⟩ = some (.int .i64 tenant)) (h2 : w.cell? ⟨c, 0, none⟩ = some (.int .i64 ip)) : AsksGate w b c (fun x => x.t == tenant && x.g == ip) := fun W x hW => isGate_any x tenant ip b c W (cell_beh h hW (Nat.le_refl _)) (cell_beh h2 hW (Nat.le_refl _))
set_option maxHeartbeats 400000 in
theorem isOf_any (x : Sw) (s tenant : Int) (b c : Nat) (w : World) (h : w.cell? ⟨b, 1, none⟩ = some (.int .i64 s)) (h2 : w.cell? ⟨c, 0, none⟩ = some (.int .i64 tenant)) :
  Calls Tryz.prog 190 #[.agg #[.int .i64 x.i, .int .i64 x.t, .int .i64 x.g], .pointer (some ⟨b, 0, none⟩), .pointer (some ⟨c, 0, none⟩)] w fun e w' => e = .returned (.bool (x.i == s && x.t == tenant)) ∧ Below w.heap.size w w' := by
 have hlt := cell_in h
 have hne : b ≠ w.heap.size := by omega
 have hlt2 := cell_in h2
 have hne2 : c ≠ w.heap.size := by omega
 go_enter Tryz.func190, Tryz.ntmps190
 go_wp2
 all_goals go_ret
 all_goals exact ⟨bool_ret (by rw [Bool.eq_iff_iff]; simp_all), (Below.refl _ _).alloc (Nat.le_refl _) _⟩
theorem asksOf {w : World} {b c : Nat} {s tenant : Int} (h : w.cell? ⟨b, 1, none⟩ = some (.int .i64 s)) (h2 : w.cell? ⟨c, 0, none⟩ = some (.int .i64 tenant)) : AsksOf w b c (fun x => x.i == s && x.t == tenant) := fun W x hW => isOf_any x s tenant b c W (cell_beh h hW (Nat.le_refl _)) (cell_beh h2 hW (Nat.le_refl _))
set_option maxHeartbeats 1000000 in
theorem isSame_any (x : Pr) (i s m : Int) (b : Nat) (w : World) (h : w.cell? ⟨b, 0, none⟩ = some (.int .i64 i)) (h1 : w.cell? ⟨b, 1, none⟩ = some (.int .i64 s)) (h2 : w.cell? ⟨b, 2, none⟩ = some (.int .i64 m)) :
  Calls Tryz.prog 151 #[.agg #[.int .i64 x.i, .int .i64 x.s, .int .i64 x.m, .int .i64 x.p, .int .i64 x.c], .pointer (some ⟨b, 0, none⟩)] w fun e w' => e = .returned (.bool (x.i == i || x.s == s && x.m == m)) ∧ Below w.heap.size w w' := by
 have hlt := cell_in h
 have hne : b ≠ w.heap.size := by omega
 go_enter Tryz.func151, Tryz.ntmps151
 go_wp2
 all_goals go_ret
 all_goals exact ⟨bool_ret (by rw [Bool.eq_iff_iff]; simp_all), (Below.refl _ _).alloc (Nat.le_refl _) _⟩
theorem asksSame {w : World} {b : Nat} {i s m : Int} (h : w.cell? ⟨b, 0, none⟩ = some (.int .i64 i)) (h1 : w.cell? ⟨b, 1, none⟩ = some (.int .i64 s)) (h2 : w.cell? ⟨b, 2, none⟩ = some (.int .i64 m)) : AsksSame w b (fun x => x.i == i || x.s == s && x.m == m) :=
 fun W x hW => isSame_any x i s m b W (cell_beh h hW (Nat.le_refl _)) (cell_beh h1 hW (Nat.le_refl _)) (cell_beh h2 hW (Nat.le_refl _))
/- hasSwitch, hasPort -/
set_option maxHeartbeats 1000000 in
theorem hasSwitchId_any (sv pv av : Value) (S : List Sw) (p : Sw → Bool) (b0 : Nat) (w : World) (hF : SwsAt w sv S) (hpv : ∃ o n c, pv = .slice o n c) (hav : ∃ o n c, av = .slice o n c) (hT : AsksId w b0 p) (hl : S.length * 24 ≤ 140737488355328) :
  Calls Tryz.prog 145 #[.agg #[sv, pv, av], .func (.func 187) #[] #[.pointer (some ⟨b0, 0, none⟩)]] w fun e w' => e = .returned (.bool (S.any p)) ∧ Below w.heap.size w w' := by
 have HI := hide (fun W (hW : Below w.heap.size w W) => hasId_any S p sv b0 W (RowAt.below hF hW (Nat.le_refl _)) (fun W' x hW' => hT W' x (hW.trans (hW'.mono hW.size))) hl)
 obtain ⟨o1, c1, rfl⟩ := hF.slice
 obtain ⟨o2, n2, c2, rfl⟩ := hpv
 obtain ⟨o3, n3, c3, rfl⟩ := hav
 clear hF hT
 generalize S.any p = R at *
 go_enter Tryz.func145, Tryz.ntmps145
 go_wp2_with fail
 have hb0 : Below w.heap.size w (w.alloc (.cells #[.slice o1 S.length c1, .slice o2 n2 c2, .slice o3 n3 c3] 29)) := (Below.refl _ _).alloc (Nat.le_refl _) _
 refine (unhide HI _ hb0).mono ?_
 rintro e w1 ⟨rfl, hb1⟩
 have hb := hb0.trans (hb1.mono hb0.size)
 clear hb1 hb0 HI
 go_wp2_with fail
 go_ret
 exact ⟨rfl, hb⟩
set_option maxHeartbeats 1000000 in
theorem hasSwitchGate_any (sv pv av : Value) (S : List Sw) (p : Sw → Bool) (b0 b1 : Nat) (w : World) (hF : SwsAt w sv S) (hpv : ∃ o n c, pv = .slice o n c) (hav : ∃ o n c, av = .slice o n c) (hT : AsksGate w b0 b1 p) (hl : S.length * 24 ≤ 140737488355328) :
  Calls Tryz.prog 145 #[.agg #[sv, pv, av], .func (.func 188) #[] #[.pointer (some ⟨b0, 0, none⟩), .pointer (some ⟨b1, 0, none⟩)]] w fun e w' => e = .returned (.bool (S.any p)) ∧ Below w.heap.size w w' := by
 have HI := hide (fun W (hW : Below w.heap.size w W) => hasGate_any S p sv b0 b1 W (RowAt.below hF hW (Nat.le_refl _)) (fun W' x hW' => hT W' x (hW.trans (hW'.mono hW.size))) hl)
 obtain ⟨o1, c1, rfl⟩ := hF.slice
 obtain ⟨o2, n2, c2, rfl⟩ := hpv
 obtain ⟨o3, n3, c3, rfl⟩ := hav
 clear hF hT
 generalize S.any p = R at *
 go_enter Tryz.func145, Tryz.ntmps145
 go_wp2_with fail
 have hb0 : Below w.heap.size w (w.alloc (.cells #[.slice o1 S.length c1, .slice o2 n2 c2, .slice o3 n3 c3] 29)) := (Below.refl _ _).alloc (Nat.le_refl _) _
 refine (unhide HI _ hb0).mono ?_
 rintro e w1 ⟨rfl, hb1⟩
 have hb := hb0.trans (hb1.mono hb0.size)
 clear hb1 hb0 HI
 go_wp2_with fail
 go_ret
 exact ⟨rfl, hb⟩
set_option maxHeartbeats 1000000 in
theorem hasSwitchOf_any (sv pv av : Value) (S : List Sw) (p : Sw → Bool) (b0 b1 : Nat) (w : World) (hF : SwsAt w sv S) (hpv : ∃ o n c, pv = .slice o n c) (hav : ∃ o n c, av = .slice o n c) (hT : AsksOf w b0 b1 p) (hl : S.length * 24 ≤ 140737488355328) :
  Calls Tryz.prog 145 #[.agg #[sv, pv, av], .func (.func 190) #[] #[.pointer (some ⟨b0, 0, none⟩), .pointer (some ⟨b1, 0, none⟩)]] w fun e w' => e = .returned (.bool (S.any p)) ∧ Below w.heap.size w w' := by
 have HI := hide (fun W (hW : Below w.heap.size w W) => hasOf_any S p sv b0 b1 W (RowAt.below hF hW (Nat.le_refl _)) (fun W' x hW' => hT W' x (hW.trans (hW'.mono hW.size))) hl)
 obtain ⟨o1, c1, rfl⟩ := hF.slice
 obtain ⟨o2, n2, c2, rfl⟩ := hpv
 obtain ⟨o3, n3, c3, rfl⟩ := hav
 clear hF hT
 generalize S.any p = R at *
 go_enter Tryz.func145, Tryz.ntmps145
 go_wp2_with fail
 have hb0 : Below w.heap.size w (w.alloc (.cells #[.slice o1 S.length c1, .slice o2 n2 c2, .slice o3 n3 c3] 29)) := (Below.refl _ _).alloc (Nat.le_refl _) _
 refine (unhide HI _ hb0).mono ?_
 rintro e w1 ⟨rfl, hb1⟩
 have hb := hb0.trans (hb1.mono hb0.size)
 clear hb1 hb0 HI
 go_wp2_with fail
 go_ret
 exact ⟨rfl, hb⟩
set_option maxHeartbeats 1000000 in
theorem hasPortSame_any (sv pv av : Value) (P : List Pr) (p : Pr → Bool) (b0 : Nat) (w : World) (hsv : ∃ o n c, sv = .slice o n c) (hF : PrsAt w pv P) (hav : ∃ o n c, av = .slice o n c) (hT : AsksSame w b0 p) (hl : P.length * 40 ≤ 140737488355328) :
  Calls Tryz.prog 150 #[.agg #[sv, pv, av], .func (.func 151) #[] #[.pointer (some ⟨b0, 0, none⟩)]] w fun e w' => e = .returned (.bool (P.any p)) ∧ Below w.heap.size w w' := by
 have HI := hide (fun W (hW : Below w.heap.size w W) => hasSame_any P p pv b0 W (RowAt.below hF hW (Nat.le_refl _)) (fun W' x hW' => hT W' x (hW.trans (hW'.mono hW.size))) hl)
 obtain ⟨o1, c1, rfl⟩ := hF.slice
 obtain ⟨o2, n2, c2, rfl⟩ := hsv
 obtain ⟨o3, n3, c3, rfl⟩ := hav
 clear hF hT
 generalize P.any p = R at *
 go_enter Tryz.func150, Tryz.ntmps150
 go_wp2_with fail
 have hb0 : Below w.heap.size w (w.alloc (.cells #[.slice o2 n2 c2, .slice o1 P.length c1, .slice o3 n3 c3] 29)) := (Below.refl _ _).alloc (Nat.le_refl _) _
 refine (unhide HI _ hb0).mono ?_
 rintro e w1 ⟨rfl, hb1⟩
 have hb := hb0.trans (hb1.mono hb0.size)
 clear hb1 hb0 HI
 go_wp2_with fail
 go_ret
 exact ⟨rfl, hb⟩
set_option maxHeartbeats 1000000 in
theorem hasPortIp_any (sv pv av : Value) (P : List Pr) (p : Pr → Bool) (b0 b1 b2 : Nat) (w : World) (hsv : ∃ o n c, sv = .slice o n c) (hF : PrsAt w pv P) (hav : ∃ o n c, av = .slice o n c) (hT : AsksIp w b0 b1 b2 p) (hl : P.length * 40 ≤ 140737488355328) :
  Calls Tryz.prog 150 #[.agg #[sv, pv, av], .func (.func 189) #[] #[.pointer (some ⟨b0, 0, none⟩), .pointer (some ⟨b1, 0, none⟩), .pointer (some ⟨b2, 0, none⟩)]] w fun e w' => e = .returned (.bool (P.any p)) ∧ Below w.heap.size w w' := by
 have HI := hide (fun W (hW : Below w.heap.size w W) => hasIp_any P p pv b0 b1 b2 W (RowAt.below hF hW (Nat.le_refl _)) (fun W' x hW' => hT W' x (hW.trans (hW'.mono hW.size))) hl)
 obtain ⟨o1, c1, rfl⟩ := hF.slice
 obtain ⟨o2, n2, c2, rfl⟩ := hsv
 obtain ⟨o3, n3, c3, rfl⟩ := hav
 clear hF hT
 generalize P.any p = R at *
 go_enter Tryz.func150, Tryz.ntmps150
 go_wp2_with fail
 have hb0 : Below w.heap.size w (w.alloc (.cells #[.slice o2 n2 c2, .slice o1 P.length c1, .slice o3 n3 c3] 29)) := (Below.refl _ _).alloc (Nat.le_refl _) _
 refine (unhide HI _ hb0).mono ?_
 rintro e w1 ⟨rfl, hb1⟩
 have hb := hb0.trans (hb1.mono hb0.size)
 clear hb1 hb0 HI
 go_wp2_with fail
 go_ret
 exact ⟨rfl, hb⟩
end Go.Proofs.YtncdininppehkaaGreat

namespace Go.Proofs.YtncdininppehkaaGreat
open Go.RowKit
set_option linter.unusedVariables false
set_option maxRecDepth 100000
def takenB (S : List Sw) (P : List Pr) (t ip : Int) : Bool := S.any (fun x => x.t == t && x.g == ip) || P.any (fun x => x.p == ip && S.any (fun s => s.i == x.s && s.t == t))
theorem anySlice {α : Type} {C : α → List Value} {sz : Nat} {w : World} {v : Value} {l : List α} (h : RowAt C sz w v l) : ∃ o n c, v = .slice o n c := by
 obtain ⟨o, c, h⟩ := h.slice
 exact ⟨o, _, c, h⟩
set_option maxHeartbeats 2000000 in
theorem isIp_any (x : Pr) (S : List Sw) (sv pv av : Value) (ip t : Int) (bi bc bt : Nat) (w : World) (hS : SwsAt w sv S) (hpv : ∃ o n c, pv = .slice o n c) (hav : ∃ o n c, av = .slice o n c) (h1 : w.cell? ⟨bi, 0, none⟩ = some (.int .i64 ip)) (h2 : w.cell? ⟨bc, 0, none⟩ = some sv) (h3 : w.cell? ⟨bc, 1, none⟩ = some pv) (h4 : w.cell? ⟨bc, 2, none⟩ = some av)
  (h5 : w.cell? ⟨bt, 0, none⟩ = some (.int .i64 t)) (hl : S.length * 24 ≤ 140737488355328) :
  Calls Tryz.prog 189 #[.agg #[.int .i64 x.i, .int .i64 x.s, .int .i64 x.m, .int .i64 x.p, .int .i64 x.c], .pointer (some ⟨bi, 0, none⟩), .pointer (some ⟨bc, 0, none⟩), .pointer (some ⟨bt, 0, none⟩)] w fun e w' => e = .returned (.bool (x.p == ip && S.any (fun s => s.i == x.s && s.t == t))) ∧ Below w.heap.size w w' := by
 have q1 := cell_in h1
 have q2 := cell_in h2
 have q5 := cell_in h5
 have n1 : bi ≠ w.heap.size := by omega
 have n2 : bc ≠ w.heap.size := by omega
 have n5 : bt ≠ w.heap.size := by omega
 obtain ⟨xi, xs, xm, xp, xc⟩ := x
 have HS := hide hS
 have HH : Hid (∀ W : World, Below w.heap.size w W → W.cell? ⟨w.heap.size, 1, none⟩ = some (.int .i64 xs) → Calls Tryz.prog 145 #[.agg #[sv, pv, av], .func (.func 190) #[] #[.pointer (some ⟨w.heap.size, 0, none⟩), .pointer (some ⟨bt, 0, none⟩)]] W fun e w' => e = .returned (.bool (S.any (fun s => s.i == xs && s.t == t))) ∧ Below W.heap.size W w') :=
  fun W hW hx => hasSwitchOf_any sv pv av S _ w.heap.size bt W (RowAt.below hS hW (Nat.le_refl _)) hpv hav (asksOf hx (cell_beh h5 hW (Nat.le_refl _))) hl
 obtain ⟨s1, s2, rfl⟩ := hS.slice
 obtain ⟨p1, pn, p2, rfl⟩ := hpv
 obtain ⟨a1, an, a2, rfl⟩ := hav
 clear hS
 generalize S.any (fun s => s.i == xs && s.t == t) = R at *
 have hb0 : Below w.heap.size w (w.alloc (.cells #[.int .i64 xi, .int .i64 xs, .int .i64 xm, .int .i64 xp, .int .i64 xc] 71)) := (Below.refl _ _).alloc (Nat.le_refl _) _
 go_enter Tryz.func189, Tryz.ntmps189
 by_cases hx : xp = ip
 ·subst hx
  go_wp2_with fail
  refine (unhide HH _ hb0 (by simp)).mono ?_
  rintro e w1 ⟨rfl, hb1⟩
  have hb := hb0.trans (hb1.mono hb0.size)
  clear hb1 hb0 HH
  go_wp2_with fail
  go_ret
  exact ⟨bool_ret (by simp), hb⟩
 ·clear HH
  go_wp2
  go_ret
  exact ⟨bool_ret (by simp [hx]), hb0⟩
set_option maxHeartbeats 4000000 in
theorem isTaken_any (sv pv av : Value) (S : List Sw) (P : List Pr) (A : List Ac) (t ip : Int) (w : World) (hC : CfAt w sv pv av S P A) (h1 : S.length * 24 ≤ 140737488355328) (h2 : P.length * 40 ≤ 140737488355328) :
  Calls Tryz.prog 147 #[.agg #[sv, pv, av], .int .i64 t, .int .i64 ip] w fun e w' => e = .returned (.bool (takenB S P t ip)) ∧ Below w.heap.size w w' := by
 have HC := hide hC
 have HG : Hid (∀ W : World, Below w.heap.size w W → W.cell? ⟨w.heap.size + 1, 0, none⟩ = some (.int .i64 t) → W.cell? ⟨w.heap.size + 1 + 1, 0, none⟩ = some (.int .i64 ip) → Calls Tryz.prog 145 #[.agg #[sv, pv, av], .func (.func 188) #[] #[.pointer (some ⟨w.heap.size + 1, 0, none⟩), .pointer (some ⟨w.heap.size + 1 + 1, 0, none⟩)]] W fun e w' => e = .returned (.bool (S.any (fun x => x.t == t && x.g == ip))) ∧ Below W.heap.size W w') :=
  fun W hW a b => hasSwitchGate_any sv pv av S _ _ _ W (RowAt.below hC.1 hW (Nat.le_refl _)) (anySlice hC.2.1) (anySlice hC.2.2) (asksGate a b) h1
 have HP : Hid (∀ W : World, Below w.heap.size w W → W.cell? ⟨w.heap.size, 0, none⟩ = some sv → W.cell? ⟨w.heap.size, 1, none⟩ = some pv → W.cell? ⟨w.heap.size, 2, none⟩ = some av → W.cell? ⟨w.heap.size + 1, 0, none⟩ = some (.int .i64 t) → W.cell? ⟨w.heap.size + 1 + 1, 0, none⟩ = some (.int .i64 ip) →
   Calls Tryz.prog 150 #[.agg #[sv, pv, av], .func (.func 189) #[] #[.pointer (some ⟨w.heap.size + 1 + 1, 0, none⟩), .pointer (some ⟨w.heap.size, 0, none⟩), .pointer (some ⟨w.heap.size + 1, 0, none⟩)]] W fun e w' => e = .returned (.bool (P.any (fun x => x.p == ip && S.any (fun s => s.i == x.s && s.t == t)))) ∧ Below W.heap.size W w') :=
  fun W hW c0 c1 c2 a b => hasPortIp_any sv pv av P _ _ _ _ W (anySlice hC.1) (RowAt.below hC.2.1 hW (Nat.le_refl _)) (anySlice hC.2.2)
   (fun W' x hW' => isIp_any x S sv pv av ip t _ _ _ W' (RowAt.below hC.1 (hW.trans (hW'.mono hW.size)) (Nat.le_refl _)) (anySlice hC.2.1) (anySlice hC.2.2) (cell_beh b hW' (Nat.le_refl _)) (cell_beh c0 hW' (Nat.le_refl _)) (cell_beh c1 hW' (Nat.le_refl _)) (cell_beh c2 hW' (Nat.le_refl _)) (cell_beh a hW' (Nat.le_refl _)) h1) h2
 have HR : Hid (takenB S P t ip = (S.any (fun x => x.t == t && x.g == ip) || P.any (fun x => x.p == ip && S.any (fun s => s.i == x.s && s.t == t)))) := rfl
 generalize takenB S P t ip = R at *
 generalize S.any (fun x => x.t == t && x.g == ip) = R1 at *
 generalize P.any (fun x => x.p == ip && S.any (fun s => s.i == x.s && s.t == t)) = R2 at *
 obtain ⟨s1, s2, rfl⟩ := hC.1.slice
 obtain ⟨p1, p2, rfl⟩ := hC.2.1.slice
 obtain ⟨a1, a2, rfl⟩ := hC.2.2.slice
 clear hC HC
 go_enter Tryz.func147, Tryz.ntmps147
 go_wp2_with fail
 obtain ⟨W0, hW0⟩ : ∃ W0, W0 = ((w.alloc (.cells #[.slice s1 S.length s2, .slice p1 P.length p2, .slice a1 A.length a2] 29)).alloc (.cells #[.int .i64 t] 3)).alloc (.cells #[.int .i64 ip] 3) := ⟨_, rfl⟩
 have hb0 : Below w.heap.size w W0 := by rw [hW0]; exact (((Below.refl _ _).alloc (Nat.le_refl _) _).alloc (by simp) _).alloc (by simp; omega) _
 have c0 : W0.cell? ⟨w.heap.size, 0, none⟩ = some (.slice s1 S.length s2) := by rw [hW0]; exact old_cell (old_cell (new_cell w _ rfl _ _ _ _ rfl) _) _
 have c1 : W0.cell? ⟨w.heap.size, 1, none⟩ = some (.slice p1 P.length p2) := by rw [hW0]; exact old_cell (old_cell (new_cell w _ rfl _ _ _ _ rfl) _) _
 have c2 : W0.cell? ⟨w.heap.size, 2, none⟩ = some (.slice a1 A.length a2) := by rw [hW0]; exact old_cell (old_cell (new_cell w _ rfl _ _ _ _ rfl) _) _
 have ct : W0.cell? ⟨w.heap.size + 1, 0, none⟩ = some (.int .i64 t) := by rw [hW0]; exact old_cell (new_cell _ _ (by simp) _ _ _ _ rfl) _
 have ci : W0.cell? ⟨w.heap.size + 1 + 1, 0, none⟩ = some (.int .i64 ip) := by rw [hW0]; exact new_cell _ _ (by simp) _ _ _ _ rfl
 rw [← hW0]
 clear hW0
 refine (unhide HG _ hb0 ct ci).mono ?_
 rintro e w1 ⟨rfl, hb1⟩
 have z0 := cell_beh c0 hb1 (Nat.le_refl _)
 have z1 := cell_beh c1 hb1 (Nat.le_refl _)
 have z2 := cell_beh c2 hb1 (Nat.le_refl _)
 have zt := cell_beh ct hb1 (Nat.le_refl _)
 have zi := cell_beh ci hb1 (Nat.le_refl _)
 have hb01 := hb0.trans (hb1.mono hb0.size)
 clear c0 c1 c2 ct ci hb0 hb1 HG
 cases R1
 ·go_wp2_with fail
  refine (unhide HP _ hb01 z0 z1 z2 zt zi).mono ?_
  rintro e w2 ⟨rfl, hb2⟩
  have hb := hb01.trans (hb2.mono hb01.size)
  clear z0 z1 z2 zt zi hb01 hb2 HP
  go_wp2_with fail
  go_ret
  exact ⟨bool_ret (by rw [HR.out]; simp), hb⟩
 ·clear z0 z1 z2 zt zi HP
  go_wp2
  go_ret
  exact ⟨bool_ret (by rw [HR.out]; simp), hb01⟩
end Go.Proofs.YtncdininppehkaaGreat

namespace Go.Proofs.YtncdininppehkaaGreat
open Go.RowKit
set_option linter.unusedVariables false
set_option maxRecDepth 100000
def swFault (S : List Sw) (P : List Pr) (x : Sw) : Int :=
 if (inB x.i 1 500 && inB x.t 1 9 && inB x.g 0 65535) = false then 2 else if (S.any (fun s => s.i == x.i) || (x.g != 0 && takenB S P x.t x.g)) = true then 7 else if 12 ≤ S.length then 1 else 0
set_option maxHeartbeats 1000000 in
theorem withId_any (id : Int) (w : World) : Calls Tryz.prog 146 #[.int .i64 id] w fun e w' => ∃ b, e = .returned (.func (.func 187) #[] #[.pointer (some ⟨b, 0, none⟩)]) ∧ w'.cell? ⟨b, 0, none⟩ = some (.int .i64 id) ∧ Below w.heap.size w w' := by
 go_enter Tryz.func146, Tryz.ntmps146
 go_wp2
 go_ret
 exact ⟨_, rfl, new_cell _ _ rfl _ _ _ _ rfl, (Below.refl _ _).alloc (Nat.le_refl _) _⟩
set_option maxHeartbeats 8000000 in
theorem checkSwitch_any (sv pv av : Value) (S : List Sw) (P : List Pr) (A : List Ac) (x : Sw) (w : World) (hC : CfAt w sv pv av S P A) (h1 : S.length * 24 ≤ 140737488355328) (h2 : P.length * 40 ≤ 140737488355328) :
  Calls Tryz.prog 100 #[.agg #[sv, pv, av], .agg #[.int .i64 x.i, .int .i64 x.t, .int .i64 x.g]] w fun e w' => e = .returned (.int .i64 (swFault S P x)) ∧ Below w.heap.size w w' := by
 obtain ⟨xi, xt, xg⟩ := x
 have HI : Hid (∀ (W : World) (b : Nat), Below w.heap.size w W → W.cell? ⟨b, 0, none⟩ = some (.int .i64 xi) → Calls Tryz.prog 145 #[.agg #[sv, pv, av], .func (.func 187) #[] #[.pointer (some ⟨b, 0, none⟩)]] W fun e w' => e = .returned (.bool (S.any (fun s => s.i == xi))) ∧ Below W.heap.size W w') :=
  fun W b hW a => hasSwitchId_any sv pv av S _ _ W (RowAt.below hC.1 hW (Nat.le_refl _)) (anySlice hC.2.1) (anySlice hC.2.2) (asksId a) h1
 have HT : Hid (∀ W : World, Below w.heap.size w W → Calls Tryz.prog 147 #[.agg #[sv, pv, av], .int .i64 xt, .int .i64 xg] W fun e w' => e = .returned (.bool (takenB S P xt xg)) ∧ Below W.heap.size W w') := fun W hW => isTaken_any sv pv av S P A xt xg W (hC.below hW (Nat.le_refl _)) h1 h2
 have HR : Hid (swFault S P ⟨xi, xt, xg⟩ = if (inB xi 1 500 && inB xt 1 9 && inB xg 0 65535) = false then 2 else if (S.any (fun s => s.i == xi) || (xg != 0 && takenB S P xt xg)) = true then 7 else if 12 ≤ S.length then 1 else 0) := rfl
 generalize swFault S P ⟨xi, xt, xg⟩ = R at *
 generalize S.any (fun s => s.i == xi) = R1 at *
 generalize takenB S P xt xg = R2 at *
 obtain ⟨s1, s2, rfl⟩ := hC.1.slice
 obtain ⟨p1, p2, rfl⟩ := hC.2.1.slice
 obtain ⟨a1, a2, rfl⟩ := hC.2.2.slice
 clear hC
 simp only
 by_cases hr1 : inB xi 1 500 = true
 ·by_cases hr2 : inB xt 1 9 = true
  ·by_cases hr3 : inB xg 0 65535 = true
   ·go_enter Tryz.func100, Tryz.ntmps100
    go_wp2_with (first | (go_at_call 143; refine (within_any _ _ _ _).mono ?_; rintro e w' ⟨rfl, rfl⟩) | (go_at_call 144; refine (cIsWord_any _ _).mono ?_; rintro e w' ⟨rfl, rfl⟩))
    obtain ⟨W0, hW0⟩ : ∃ W0, W0 = (w.alloc (.cells #[.slice s1 S.length s2, .slice p1 P.length p2, .slice a1 A.length a2] 29)).alloc (.cells #[.int .i64 xi, .int .i64 xt, .int .i64 xg] 59) := ⟨_, rfl⟩
    have hb0 : Below w.heap.size w W0 := by rw [hW0]; exact ((Below.refl _ _).alloc (Nat.le_refl _) _).alloc (by simp) _
    have q0 : W0.cell? ⟨w.heap.size, 0, none⟩ = some (.slice s1 S.length s2) := by rw [hW0]; exact old_cell (new_cell w _ rfl _ _ _ _ rfl) _
    have q1 : W0.cell? ⟨w.heap.size, 1, none⟩ = some (.slice p1 P.length p2) := by rw [hW0]; exact old_cell (new_cell w _ rfl _ _ _ _ rfl) _
    have q2 : W0.cell? ⟨w.heap.size, 2, none⟩ = some (.slice a1 A.length a2) := by rw [hW0]; exact old_cell (new_cell w _ rfl _ _ _ _ rfl) _
    have q3 : W0.cell? ⟨w.heap.size + 1, 0, none⟩ = some (.int .i64 xi) := by rw [hW0]; exact new_cell _ _ (by simp) _ _ _ _ rfl
    have q4 : W0.cell? ⟨w.heap.size + 1, 1, none⟩ = some (.int .i64 xt) := by rw [hW0]; exact new_cell _ _ (by simp) _ _ _ _ rfl
    have q5 : W0.cell? ⟨w.heap.size + 1, 2, none⟩ = some (.int .i64 xg) := by rw [hW0]; exact new_cell _ _ (by simp) _ _ _ _ rfl
    rw [← hW0]
    clear hW0
    cases R1
    ·by_cases hg : xg = 0
     ·subst hg
      refine wp_region_held_drew (S := (fun w' => w'.cell? ⟨w.heap.size, 0, none⟩ = some (.slice s1 S.length s2) ∧ w'.cell? ⟨w.heap.size, 1, none⟩ = some (.slice p1 P.length p2) ∧ w'.cell? ⟨w.heap.size, 2, none⟩ = some (.slice a1 A.length a2) ∧ w'.cell? ⟨w.heap.size + 1, 0, none⟩ = some (.int .i64 xi) ∧ w'.cell? ⟨w.heap.size + 1, 1, none⟩ = some (.int .i64 xt) ∧ w'.cell? ⟨w.heap.size + 1, 2, none⟩ = some (.int .i64 0))) (by kernel_rfl) ?hS1 (fun hHeld => ?hR1)
      case hS1 => (try dsimp only); go_keep
      refine tk (i := 0) (d := 23) rfl (by kernel_rfl) (fun _ _ _ h => h) rfl ‹_› (by intro w h; (try dsimp only at h); go_simp <;> with_reducible rfl) ?_
      simp only [nz]
      refine tk (i := 1) (d := 24) rfl (by kernel_rfl) (fun _ _ _ h => h) rfl ‹_› (by intro w h; (try dsimp only at h); go_simp <;> with_reducible rfl) ?_
      simp only [nz]
      refine tk (i := 2) (d := 25) rfl (by kernel_rfl) (fun _ _ _ h => h) rfl ‹_› (by intro w h; (try dsimp only at h); go_simp <;> with_reducible rfl) ?_
      simp only [nz]
      refine rd (i := 3) (o := ⟨some 26, _, _, _, _, _⟩) (by kernel_rfl) rfl (fun K hK => ?_)
      go_simp
      (go_at_call 146; refine (withId_any _ _).mono ?_; rintro e w1 ⟨bi, rfl, hbi, hb1⟩; have g1 : Below W0.heap.size W0 w1 := ((Below.refl _ W0).drew).trans hb1; have k1 : Below w.heap.size w w1 := hb0.trans (g1.mono hb0.size); have y0 := cell_beh q0 g1 (Nat.le_refl _); have y1 := cell_beh q1 g1 (Nat.le_refl _); have y2 := cell_beh q2 g1 (Nat.le_refl _); have y3 := cell_beh q3 g1 (Nat.le_refl _); have y4 := cell_beh q4 g1 (Nat.le_refl _); have y5 := cell_beh q5 g1 (Nat.le_refl _))
      go_wp2_with fail
      refine hK.out _ _ ?hS5 (fun hHeld => ?hR5)
      case hS5 => (try dsimp only); go_keep
      clear hK K
      (try simp only [nz])
      refine rd (i := 4) (o := ⟨some 27, _, _, _, _, _⟩) (by kernel_rfl) rfl (fun K hK => ?_)
      go_simp
      (go_at_call 145; refine (unhide HI _ _ k1 hbi).mono ?_; rintro e w2 ⟨rfl, hb2⟩; have g2 : Below W0.heap.size W0 w2 := g1.trans (hb2.mono g1.size); have k2 : Below w.heap.size w w2 := hb0.trans (g2.mono hb0.size); have z0 := cell_beh q0 g2 (Nat.le_refl _); have z1 := cell_beh q1 g2 (Nat.le_refl _); have z2 := cell_beh q2 g2 (Nat.le_refl _); have z3 := cell_beh q3 g2 (Nat.le_refl _); have z4 := cell_beh q4 g2 (Nat.le_refl _); have z5 := cell_beh q5 g2 (Nat.le_refl _))
      go_wp2_with fail
      refine hK.out _ _ ?hS6 (fun hHeld => ?hR6)
      case hS6 => (try dsimp only); go_keep
      clear hK K
      (try simp only [nz])
      refine tk (i := 5) (d := 28) rfl (by kernel_rfl) (fun _ _ _ h => h) rfl ‹_› (by intro w h; (try dsimp only at h); go_simp <;> with_reducible rfl) ?_
      simp only [nz]
      refine tk (i := 6) (d := 29) rfl (by kernel_rfl) (fun _ _ _ h => h) rfl ‹_› (by intro w h; (try dsimp only at h); go_simp <;> with_reducible rfl) ?_
      simp only [nz]
      refine tk (i := 7) (d := 30) rfl (by kernel_rfl) (fun _ _ _ h => h) rfl ‹_› (by intro w h; (try dsimp only at h); go_simp <;> with_reducible rfl) ?_
      simp only [nz]
      refine tk (i := 8) (d := 31) rfl (by kernel_rfl) (fun _ _ _ h => h) rfl ‹_› (by intro w h; (try dsimp only at h); go_simp <;> with_reducible rfl) ?_
      simp only [nz]
      refine tk (i := 9) (d := 32) rfl (by kernel_rfl) (fun _ _ _ h => h) rfl ‹_› (by intro w h; (try dsimp only at h); go_simp <;> with_reducible rfl) ?_
      simp only [nz]
      refine wpAnyH_take (i := 10) (oi := ⟨some 33, _, _, _, _, _⟩) (v := undef) rfl (by kernel_rfl) (by kernel_rfl) (by kernel_rfl) (fun _ _ _ h => h) (Or.inr ⟨by rfl, rfl⟩) (by assumption) ?_
      (try simp only [nz])
      refine wpAnyH_take (i := 11) (oi := ⟨some 34, _, _, _, _, _⟩) (v := undef) rfl (by kernel_rfl) (by kernel_rfl) (by kernel_rfl) (fun _ _ _ h => h) (Or.inr ⟨by rfl, rfl⟩) (by assumption) ?_
      (try simp only [nz])
      refine wpAnyH_take (i := 12) (oi := ⟨some 35, _, _, _, _, _⟩) (v := undef) rfl (by kernel_rfl) (by kernel_rfl) (by kernel_rfl) (fun _ _ _ h => h) (Or.inr ⟨by rfl, rfl⟩) (by assumption) ?_
      (try simp only [nz])
      refine wpAnyH_take (i := 13) (oi := ⟨some 36, _, _, _, _, _⟩) (v := undef) rfl (by kernel_rfl) (by kernel_rfl) (by kernel_rfl) (fun _ _ _ h => h) (Or.inr ⟨by rfl, rfl⟩) (by assumption) ?_
      (try simp only [nz])
      refine wpAnyH_take (i := 14) (oi := ⟨some 37, _, _, _, _, _⟩) (v := undef) rfl (by kernel_rfl) (by kernel_rfl) (by kernel_rfl) (fun _ _ _ h => h) (Or.inr ⟨by rfl, rfl⟩) (by assumption) ?_
      (try simp only [nz])
      refine rd (i := 15) (o := ⟨some 38, _, _, _, _, _⟩) (by kernel_rfl) rfl (fun K hK => ?_)
      rw [if_neg (by rw [Bool.not_eq_true]; rfl)]
      refine hK.out _ _ ?hS12 (fun hHeld => ?hR12)
      case hS12 => (try dsimp only); go_keep
      clear hK K
      (try simp only [nz])
      refine tk (i := 16) (d := 39) rfl (by kernel_rfl) (fun _ _ _ h => h) rfl ‹_› (by intro w h; (try dsimp only at h); go_simp <;> with_reducible rfl) ?_
      simp only [nz]
      refine tk (i := 17) (d := 40) rfl (by kernel_rfl) (fun _ _ _ h => h) rfl ‹_› (by intro w h; (try dsimp only at h); go_simp <;> with_reducible rfl) ?_
      simp only [nz]
      refine tk (i := 18) (d := 22) rfl (by kernel_rfl) (fun _ _ _ h => h) rfl ‹_› (by intro w h; (try dsimp only at h); go_simp <;> with_reducible rfl) ?_
      simp only [nz]
      refine wpAnyH_done (by kernel_rfl) ?_ _
      clear HI HT
      by_cases h12 : 12 ≤ S.length
      ·have h12i : (12 : Int) ≤ (S.length : Int) := by omega
       go_wp2_with fail
       go_ret
       exact ⟨int_ret (by rw [HR.out]; simp_all), k2⟩
      ·have h12i : ¬ (12 : Int) ≤ (S.length : Int) := by omega
       have h12j : (S.length : Int) < 12 := by omega
       go_wp2_with fail
       go_ret
       exact ⟨int_ret (by rw [HR.out]; simp_all), k2⟩
     ·have hgb : (xg != 0) = true := by simpa using hg
      cases R2
      ·refine wp_region_held_drew (S := (fun w' => w'.cell? ⟨w.heap.size, 0, none⟩ = some (.slice s1 S.length s2) ∧ w'.cell? ⟨w.heap.size, 1, none⟩ = some (.slice p1 P.length p2) ∧ w'.cell? ⟨w.heap.size, 2, none⟩ = some (.slice a1 A.length a2) ∧ w'.cell? ⟨w.heap.size + 1, 0, none⟩ = some (.int .i64 xi) ∧ w'.cell? ⟨w.heap.size + 1, 1, none⟩ = some (.int .i64 xt) ∧ w'.cell? ⟨w.heap.size + 1, 2, none⟩ = some (.int .i64 xg))) (by kernel_rfl) ?hS16 (fun hHeld => ?hR16)
       case hS16 => (try dsimp only); go_keep
       refine tk (i := 0) (d := 23) rfl (by kernel_rfl) (fun _ _ _ h => h) rfl ‹_› (by intro w h; (try dsimp only at h); go_simp <;> with_reducible rfl) ?_
       simp only [nz]
       refine tk (i := 1) (d := 24) rfl (by kernel_rfl) (fun _ _ _ h => h) rfl ‹_› (by intro w h; (try dsimp only at h); go_simp <;> with_reducible rfl) ?_
       simp only [nz]
       refine tk (i := 2) (d := 25) rfl (by kernel_rfl) (fun _ _ _ h => h) rfl ‹_› (by intro w h; (try dsimp only at h); go_simp <;> with_reducible rfl) ?_
       simp only [nz]
       refine rd (i := 3) (o := ⟨some 26, _, _, _, _, _⟩) (by kernel_rfl) rfl (fun K hK => ?_)
       go_simp
       (go_at_call 146; refine (withId_any _ _).mono ?_; rintro e w1 ⟨bi, rfl, hbi, hb1⟩; have g1 : Below W0.heap.size W0 w1 := ((Below.refl _ W0).drew).trans hb1; have k1 : Below w.heap.size w w1 := hb0.trans (g1.mono hb0.size); have y0 := cell_beh q0 g1 (Nat.le_refl _); have y1 := cell_beh q1 g1 (Nat.le_refl _); have y2 := cell_beh q2 g1 (Nat.le_refl _); have y3 := cell_beh q3 g1 (Nat.le_refl _); have y4 := cell_beh q4 g1 (Nat.le_refl _); have y5 := cell_beh q5 g1 (Nat.le_refl _))
       go_wp2_with fail
       refine hK.out _ _ ?hS20 (fun hHeld => ?hR20)
       case hS20 => (try dsimp only); go_keep
       clear hK K
       (try simp only [nz])
       refine rd (i := 4) (o := ⟨some 27, _, _, _, _, _⟩) (by kernel_rfl) rfl (fun K hK => ?_)
       go_simp
       (go_at_call 145; refine (unhide HI _ _ k1 hbi).mono ?_; rintro e w2 ⟨rfl, hb2⟩; have g2 : Below W0.heap.size W0 w2 := g1.trans (hb2.mono g1.size); have k2 : Below w.heap.size w w2 := hb0.trans (g2.mono hb0.size); have z0 := cell_beh q0 g2 (Nat.le_refl _); have z1 := cell_beh q1 g2 (Nat.le_refl _); have z2 := cell_beh q2 g2 (Nat.le_refl _); have z3 := cell_beh q3 g2 (Nat.le_refl _); have z4 := cell_beh q4 g2 (Nat.le_refl _); have z5 := cell_beh q5 g2 (Nat.le_refl _))
       go_wp2_with fail
       refine hK.out _ _ ?hS21 (fun hHeld => ?hR21)
       case hS21 => (try dsimp only); go_keep
       clear hK K
       (try simp only [nz])
       refine tk (i := 5) (d := 28) rfl (by kernel_rfl) (fun _ _ _ h => h) rfl ‹_› (by intro w h; (try dsimp only at h); go_simp <;> with_reducible rfl) ?_
       simp only [nz]
       refine tk (i := 6) (d := 29) rfl (by kernel_rfl) (fun _ _ _ h => h) rfl ‹_› (by intro w h; (try dsimp only at h); go_simp <;> with_reducible rfl) ?_
       simp only [nz]
       refine tk (i := 7) (d := 30) rfl (by kernel_rfl) (fun _ _ _ h => h) rfl ‹_› (by intro w h; (try dsimp only at h); go_simp <;> with_reducible rfl) ?_
       simp only [nz]
       refine tk (i := 8) (d := 31) rfl (by kernel_rfl) (fun _ _ _ h => h) rfl ‹_› (by intro w h; (try dsimp only at h); go_simp <;> with_reducible rfl) ?_
       simp only [nz]
       refine tk (i := 9) (d := 32) rfl (by kernel_rfl) (fun _ _ _ h => h) rfl ‹_› (by intro w h; (try dsimp only at h); go_simp <;> with_reducible rfl) ?_
       simp only [nz]
       refine tk (i := 10) (d := 33) rfl (by kernel_rfl) (fun _ _ _ h => h) rfl ‹_› (by intro w h; (try dsimp only at h); go_simp <;> with_reducible rfl) ?_
       simp only [nz]
       refine tk (i := 11) (d := 34) rfl (by kernel_rfl) (fun _ _ _ h => h) rfl ‹_› (by intro w h; (try dsimp only at h); go_simp <;> with_reducible rfl) ?_
       simp only [nz]
       refine tk (i := 12) (d := 35) rfl (by kernel_rfl) (fun _ _ _ h => h) rfl ‹_› (by intro w h; (try dsimp only at h); go_simp <;> with_reducible rfl) ?_
       simp only [nz]
       refine tk (i := 13) (d := 36) rfl (by kernel_rfl) (fun _ _ _ h => h) rfl ‹_› (by intro w h; (try dsimp only at h); go_simp <;> with_reducible rfl) ?_
       simp only [nz]
       refine tk (i := 14) (d := 37) rfl (by kernel_rfl) (fun _ _ _ h => h) rfl ‹_› (by intro w h; (try dsimp only at h); go_simp <;> with_reducible rfl) ?_
       simp only [nz]
       refine rd (i := 15) (o := ⟨some 38, _, _, _, _, _⟩) (by kernel_rfl) rfl (fun K hK => ?_)
       go_simp
       (go_at_call 147; refine (unhide HT _ k2).mono ?_; rintro e w3 ⟨rfl, hb3⟩; have g3 : Below W0.heap.size W0 w3 := g2.trans (hb3.mono g2.size); have k3 : Below w.heap.size w w3 := hb0.trans (g3.mono hb0.size); have v0 := cell_beh q0 g3 (Nat.le_refl _); have v1 := cell_beh q1 g3 (Nat.le_refl _); have v2 := cell_beh q2 g3 (Nat.le_refl _); have v3 := cell_beh q3 g3 (Nat.le_refl _); have v4 := cell_beh q4 g3 (Nat.le_refl _); have v5 := cell_beh q5 g3 (Nat.le_refl _))
       go_wp2_with fail
       refine hK.out _ _ ?hS32 (fun hHeld => ?hR32)
       case hS32 => (try dsimp only); go_keep
       clear hK K
       (try simp only [nz])
       refine tk (i := 16) (d := 39) rfl (by kernel_rfl) (fun _ _ _ h => h) rfl ‹_› (by intro w h; (try dsimp only at h); go_simp <;> with_reducible rfl) ?_
       simp only [nz]
       refine tk (i := 17) (d := 40) rfl (by kernel_rfl) (fun _ _ _ h => h) rfl ‹_› (by intro w h; (try dsimp only at h); go_simp <;> with_reducible rfl) ?_
       simp only [nz]
       refine tk (i := 18) (d := 22) rfl (by kernel_rfl) (fun _ _ _ h => h) rfl ‹_› (by intro w h; (try dsimp only at h); go_simp <;> with_reducible rfl) ?_
       simp only [nz]
       refine wpAnyH_done (by kernel_rfl) ?_ _
       clear HI HT
       by_cases h12 : 12 ≤ S.length
       ·have h12i : (12 : Int) ≤ (S.length : Int) := by omega
        go_wp2_with fail
        go_ret
        exact ⟨int_ret (by rw [HR.out]; simp_all), k3⟩
       ·have h12i : ¬ (12 : Int) ≤ (S.length : Int) := by omega
        have h12j : (S.length : Int) < 12 := by omega
        go_wp2_with fail
        go_ret
        exact ⟨int_ret (by rw [HR.out]; simp_all), k3⟩
      ·refine wp_region_held_drew (S := (fun w' => w'.cell? ⟨w.heap.size, 0, none⟩ = some (.slice s1 S.length s2) ∧ w'.cell? ⟨w.heap.size, 1, none⟩ = some (.slice p1 P.length p2) ∧ w'.cell? ⟨w.heap.size, 2, none⟩ = some (.slice a1 A.length a2) ∧ w'.cell? ⟨w.heap.size + 1, 0, none⟩ = some (.int .i64 xi) ∧ w'.cell? ⟨w.heap.size + 1, 1, none⟩ = some (.int .i64 xt) ∧ w'.cell? ⟨w.heap.size + 1, 2, none⟩ = some (.int .i64 xg))) (by kernel_rfl) ?hS36 (fun hHeld => ?hR36)
       case hS36 => (try dsimp only); go_keep
       refine tk (i := 0) (d := 23) rfl (by kernel_rfl) (fun _ _ _ h => h) rfl ‹_› (by intro w h; (try dsimp only at h); go_simp <;> with_reducible rfl) ?_
       simp only [nz]
       refine tk (i := 1) (d := 24) rfl (by kernel_rfl) (fun _ _ _ h => h) rfl ‹_› (by intro w h; (try dsimp only at h); go_simp <;> with_reducible rfl) ?_
       simp only [nz]
       refine tk (i := 2) (d := 25) rfl (by kernel_rfl) (fun _ _ _ h => h) rfl ‹_› (by intro w h; (try dsimp only at h); go_simp <;> with_reducible rfl) ?_
       simp only [nz]
       refine rd (i := 3) (o := ⟨some 26, _, _, _, _, _⟩) (by kernel_rfl) rfl (fun K hK => ?_)
       go_simp
       (go_at_call 146; refine (withId_any _ _).mono ?_; rintro e w1 ⟨bi, rfl, hbi, hb1⟩; have g1 : Below W0.heap.size W0 w1 := ((Below.refl _ W0).drew).trans hb1; have k1 : Below w.heap.size w w1 := hb0.trans (g1.mono hb0.size); have y0 := cell_beh q0 g1 (Nat.le_refl _); have y1 := cell_beh q1 g1 (Nat.le_refl _); have y2 := cell_beh q2 g1 (Nat.le_refl _); have y3 := cell_beh q3 g1 (Nat.le_refl _); have y4 := cell_beh q4 g1 (Nat.le_refl _); have y5 := cell_beh q5 g1 (Nat.le_refl _))
       go_wp2_with fail
       refine hK.out _ _ ?hS40 (fun hHeld => ?hR40)
       case hS40 => (try dsimp only); go_keep
       clear hK K
       (try simp only [nz])
       refine rd (i := 4) (o := ⟨some 27, _, _, _, _, _⟩) (by kernel_rfl) rfl (fun K hK => ?_)
       go_simp
       (go_at_call 145; refine (unhide HI _ _ k1 hbi).mono ?_; rintro e w2 ⟨rfl, hb2⟩; have g2 : Below W0.heap.size W0 w2 := g1.trans (hb2.mono g1.size); have k2 : Below w.heap.size w w2 := hb0.trans (g2.mono hb0.size); have z0 := cell_beh q0 g2 (Nat.le_refl _); have z1 := cell_beh q1 g2 (Nat.le_refl _); have z2 := cell_beh q2 g2 (Nat.le_refl _); have z3 := cell_beh q3 g2 (Nat.le_refl _); have z4 := cell_beh q4 g2 (Nat.le_refl _); have z5 := cell_beh q5 g2 (Nat.le_refl _))
       go_wp2_with fail
       refine hK.out _ _ ?hS41 (fun hHeld => ?hR41)
       case hS41 => (try dsimp only); go_keep
       clear hK K
       (try simp only [nz])
       refine tk (i := 5) (d := 28) rfl (by kernel_rfl) (fun _ _ _ h => h) rfl ‹_› (by intro w h; (try dsimp only at h); go_simp <;> with_reducible rfl) ?_
       simp only [nz]
       refine tk (i := 6) (d := 29) rfl (by kernel_rfl) (fun _ _ _ h => h) rfl ‹_› (by intro w h; (try dsimp only at h); go_simp <;> with_reducible rfl) ?_
       simp only [nz]
       refine tk (i := 7) (d := 30) rfl (by kernel_rfl) (fun _ _ _ h => h) rfl ‹_› (by intro w h; (try dsimp only at h); go_simp <;> with_reducible rfl) ?_
       simp only [nz]
       refine tk (i := 8) (d := 31) rfl (by kernel_rfl) (fun _ _ _ h => h) rfl ‹_› (by intro w h; (try dsimp only at h); go_simp <;> with_reducible rfl) ?_
       simp only [nz]
       refine tk (i := 9) (d := 32) rfl (by kernel_rfl) (fun _ _ _ h => h) rfl ‹_› (by intro w h; (try dsimp only at h); go_simp <;> with_reducible rfl) ?_
       simp only [nz]
       refine tk (i := 10) (d := 33) rfl (by kernel_rfl) (fun _ _ _ h => h) rfl ‹_› (by intro w h; (try dsimp only at h); go_simp <;> with_reducible rfl) ?_
       simp only [nz]
       refine tk (i := 11) (d := 34) rfl (by kernel_rfl) (fun _ _ _ h => h) rfl ‹_› (by intro w h; (try dsimp only at h); go_simp <;> with_reducible rfl) ?_
       simp only [nz]
       refine tk (i := 12) (d := 35) rfl (by kernel_rfl) (fun _ _ _ h => h) rfl ‹_› (by intro w h; (try dsimp only at h); go_simp <;> with_reducible rfl) ?_
       simp only [nz]
       refine tk (i := 13) (d := 36) rfl (by kernel_rfl) (fun _ _ _ h => h) rfl ‹_› (by intro w h; (try dsimp only at h); go_simp <;> with_reducible rfl) ?_
       simp only [nz]
       refine tk (i := 14) (d := 37) rfl (by kernel_rfl) (fun _ _ _ h => h) rfl ‹_› (by intro w h; (try dsimp only at h); go_simp <;> with_reducible rfl) ?_
       simp only [nz]
       refine rd (i := 15) (o := ⟨some 38, _, _, _, _, _⟩) (by kernel_rfl) rfl (fun K hK => ?_)
       go_simp
       (go_at_call 147; refine (unhide HT _ k2).mono ?_; rintro e w3 ⟨rfl, hb3⟩; have g3 : Below W0.heap.size W0 w3 := g2.trans (hb3.mono g2.size); have k3 : Below w.heap.size w w3 := hb0.trans (g3.mono hb0.size); have v0 := cell_beh q0 g3 (Nat.le_refl _); have v1 := cell_beh q1 g3 (Nat.le_refl _); have v2 := cell_beh q2 g3 (Nat.le_refl _); have v3 := cell_beh q3 g3 (Nat.le_refl _); have v4 := cell_beh q4 g3 (Nat.le_refl _); have v5 := cell_beh q5 g3 (Nat.le_refl _))
       go_wp2_with fail
       refine hK.out _ _ ?hS52 (fun hHeld => ?hR52)
       case hS52 => (try dsimp only); go_keep
       clear hK K
       (try simp only [nz])
       refine tk (i := 16) (d := 39) rfl (by kernel_rfl) (fun _ _ _ h => h) rfl ‹_› (by intro w h; (try dsimp only at h); go_simp <;> with_reducible rfl) ?_
       simp only [nz]
       refine tk (i := 17) (d := 40) rfl (by kernel_rfl) (fun _ _ _ h => h) rfl ‹_› (by intro w h; (try dsimp only at h); go_simp <;> with_reducible rfl) ?_
       simp only [nz]
       refine tk (i := 18) (d := 22) rfl (by kernel_rfl) (fun _ _ _ h => h) rfl ‹_› (by intro w h; (try dsimp only at h); go_simp <;> with_reducible rfl) ?_
       simp only [nz]
       refine wpAnyH_done (by kernel_rfl) ?_ _
       clear HI HT
       go_wp2_with fail
       go_ret
       exact ⟨int_ret (by rw [HR.out]; simp_all), k3⟩
    ·refine wp_region_held_drew (S := (fun w' => w'.cell? ⟨w.heap.size, 0, none⟩ = some (.slice s1 S.length s2) ∧ w'.cell? ⟨w.heap.size, 1, none⟩ = some (.slice p1 P.length p2) ∧ w'.cell? ⟨w.heap.size, 2, none⟩ = some (.slice a1 A.length a2) ∧ w'.cell? ⟨w.heap.size + 1, 0, none⟩ = some (.int .i64 xi) ∧ w'.cell? ⟨w.heap.size + 1, 1, none⟩ = some (.int .i64 xt) ∧ w'.cell? ⟨w.heap.size + 1, 2, none⟩ = some (.int .i64 xg))) (by kernel_rfl) ?hS56 (fun hHeld => ?hR56)
     case hS56 => (try dsimp only); go_keep
     refine tk (i := 0) (d := 23) rfl (by kernel_rfl) (fun _ _ _ h => h) rfl ‹_› (by intro w h; (try dsimp only at h); go_simp <;> with_reducible rfl) ?_
     simp only [nz]
     refine tk (i := 1) (d := 24) rfl (by kernel_rfl) (fun _ _ _ h => h) rfl ‹_› (by intro w h; (try dsimp only at h); go_simp <;> with_reducible rfl) ?_
     simp only [nz]
     refine tk (i := 2) (d := 25) rfl (by kernel_rfl) (fun _ _ _ h => h) rfl ‹_› (by intro w h; (try dsimp only at h); go_simp <;> with_reducible rfl) ?_
     simp only [nz]
     refine rd (i := 3) (o := ⟨some 26, _, _, _, _, _⟩) (by kernel_rfl) rfl (fun K hK => ?_)
     go_simp
     (go_at_call 146; refine (withId_any _ _).mono ?_; rintro e w1 ⟨bi, rfl, hbi, hb1⟩; have g1 : Below W0.heap.size W0 w1 := ((Below.refl _ W0).drew).trans hb1; have k1 : Below w.heap.size w w1 := hb0.trans (g1.mono hb0.size); have y0 := cell_beh q0 g1 (Nat.le_refl _); have y1 := cell_beh q1 g1 (Nat.le_refl _); have y2 := cell_beh q2 g1 (Nat.le_refl _); have y3 := cell_beh q3 g1 (Nat.le_refl _); have y4 := cell_beh q4 g1 (Nat.le_refl _); have y5 := cell_beh q5 g1 (Nat.le_refl _))
     go_wp2_with fail
     refine hK.out _ _ ?hS60 (fun hHeld => ?hR60)
     case hS60 => (try dsimp only); go_keep
     clear hK K
     (try simp only [nz])
     refine rd (i := 4) (o := ⟨some 27, _, _, _, _, _⟩) (by kernel_rfl) rfl (fun K hK => ?_)
     go_simp
     (go_at_call 145; refine (unhide HI _ _ k1 hbi).mono ?_; rintro e w2 ⟨rfl, hb2⟩; have g2 : Below W0.heap.size W0 w2 := g1.trans (hb2.mono g1.size); have k2 : Below w.heap.size w w2 := hb0.trans (g2.mono hb0.size); have z0 := cell_beh q0 g2 (Nat.le_refl _); have z1 := cell_beh q1 g2 (Nat.le_refl _); have z2 := cell_beh q2 g2 (Nat.le_refl _); have z3 := cell_beh q3 g2 (Nat.le_refl _); have z4 := cell_beh q4 g2 (Nat.le_refl _); have z5 := cell_beh q5 g2 (Nat.le_refl _))
     go_wp2_with fail
     refine hK.out _ _ ?hS61 (fun hHeld => ?hR61)
     case hS61 => (try dsimp only); go_keep
     clear hK K
     (try simp only [nz])
     refine tk (i := 5) (d := 28) rfl (by kernel_rfl) (fun _ _ _ h => h) rfl ‹_› (by intro w h; (try dsimp only at h); go_simp <;> with_reducible rfl) ?_
     simp only [nz]
     refine wpAnyH_take (i := 6) (oi := ⟨some 29, _, _, _, _, _⟩) (v := undef) rfl (by kernel_rfl) (by kernel_rfl) (by kernel_rfl) (fun _ _ _ h => h) (Or.inr ⟨by rfl, rfl⟩) (by assumption) ?_
     (try simp only [nz])
     refine wpAnyH_take (i := 7) (oi := ⟨some 30, _, _, _, _, _⟩) (v := undef) rfl (by kernel_rfl) (by kernel_rfl) (by kernel_rfl) (fun _ _ _ h => h) (Or.inr ⟨by rfl, rfl⟩) (by assumption) ?_
     (try simp only [nz])
     refine wpAnyH_take (i := 8) (oi := ⟨some 31, _, _, _, _, _⟩) (v := undef) rfl (by kernel_rfl) (by kernel_rfl) (by kernel_rfl) (fun _ _ _ h => h) (Or.inr ⟨by rfl, rfl⟩) (by assumption) ?_
     (try simp only [nz])
     refine wpAnyH_take (i := 9) (oi := ⟨some 32, _, _, _, _, _⟩) (v := undef) rfl (by kernel_rfl) (by kernel_rfl) (by kernel_rfl) (fun _ _ _ h => h) (Or.inr ⟨by rfl, rfl⟩) (by assumption) ?_
     (try simp only [nz])
     refine wpAnyH_take (i := 10) (oi := ⟨some 33, _, _, _, _, _⟩) (v := undef) rfl (by kernel_rfl) (by kernel_rfl) (by kernel_rfl) (fun _ _ _ h => h) (Or.inr ⟨by rfl, rfl⟩) (by assumption) ?_
     (try simp only [nz])
     refine wpAnyH_take (i := 11) (oi := ⟨some 34, _, _, _, _, _⟩) (v := undef) rfl (by kernel_rfl) (by kernel_rfl) (by kernel_rfl) (fun _ _ _ h => h) (Or.inr ⟨by rfl, rfl⟩) (by assumption) ?_
     (try simp only [nz])
     refine wpAnyH_take (i := 12) (oi := ⟨some 35, _, _, _, _, _⟩) (v := undef) rfl (by kernel_rfl) (by kernel_rfl) (by kernel_rfl) (fun _ _ _ h => h) (Or.inr ⟨by rfl, rfl⟩) (by assumption) ?_
     (try simp only [nz])
     refine wpAnyH_take (i := 13) (oi := ⟨some 36, _, _, _, _, _⟩) (v := undef) rfl (by kernel_rfl) (by kernel_rfl) (by kernel_rfl) (fun _ _ _ h => h) (Or.inr ⟨by rfl, rfl⟩) (by assumption) ?_
     (try simp only [nz])
     refine wpAnyH_take (i := 14) (oi := ⟨some 37, _, _, _, _, _⟩) (v := undef) rfl (by kernel_rfl) (by kernel_rfl) (by kernel_rfl) (fun _ _ _ h => h) (Or.inr ⟨by rfl, rfl⟩) (by assumption) ?_
     (try simp only [nz])
     refine rd (i := 15) (o := ⟨some 38, _, _, _, _, _⟩) (by kernel_rfl) rfl (fun K hK => ?_)
     rw [if_neg (by rw [Bool.not_eq_true]; rfl)]
     refine hK.out _ _ ?hS63 (fun hHeld => ?hR63)
     case hS63 => (try dsimp only); go_keep
     clear hK K
     (try simp only [nz])
     refine wpAnyH_take (i := 16) (oi := ⟨some 39, _, _, _, _, _⟩) (v := undef) rfl (by kernel_rfl) (by kernel_rfl) (by kernel_rfl) (fun _ _ _ h => h) (Or.inr ⟨by rfl, rfl⟩) (by assumption) ?_
     (try simp only [nz])
     refine tk (i := 17) (d := 40) rfl (by kernel_rfl) (fun _ _ _ h => h) rfl ‹_› (by intro w h; (try dsimp only at h); go_simp <;> with_reducible rfl) ?_
     simp only [nz]
     refine tk (i := 18) (d := 22) rfl (by kernel_rfl) (fun _ _ _ h => h) rfl ‹_› (by intro w h; (try dsimp only at h); go_simp <;> with_reducible rfl) ?_
     simp only [nz]
     refine wpAnyH_done (by kernel_rfl) ?_ _
     clear HI HT
     go_wp2_with fail
     go_ret
     exact ⟨int_ret (by rw [HR.out]; simp_all), k2⟩
   ·have hr3' : inB xg 0 65535 = false := by simpa using hr3
    clear hr3 HI HT
    go_enter Tryz.func100, Tryz.ntmps100
    go_wp2_with (first | (go_at_call 143; refine (within_any _ _ _ _).mono ?_; rintro e w' ⟨rfl, rfl⟩) | (go_at_call 144; refine (cIsWord_any _ _).mono ?_; rintro e w' ⟨rfl, rfl⟩))
    go_ret
    exact ⟨int_ret (by rw [HR.out]; simp_all), ((Below.refl _ _).alloc (Nat.le_refl _) _).alloc (by simp) _⟩
  ·have hr2' : inB xt 1 9 = false := by simpa using hr2
   clear hr2 HI HT
   go_enter Tryz.func100, Tryz.ntmps100
   go_wp2_with (first | (go_at_call 143; refine (within_any _ _ _ _).mono ?_; rintro e w' ⟨rfl, rfl⟩) | (go_at_call 144; refine (cIsWord_any _ _).mono ?_; rintro e w' ⟨rfl, rfl⟩))
   go_ret
   exact ⟨int_ret (by rw [HR.out]; simp_all), ((Below.refl _ _).alloc (Nat.le_refl _) _).alloc (by simp) _⟩
 ·have hr1' : inB xi 1 500 = false := by simpa using hr1
  clear hr1 HI HT
  go_enter Tryz.func100, Tryz.ntmps100
  go_wp2_with (first | (go_at_call 143; refine (within_any _ _ _ _).mono ?_; rintro e w' ⟨rfl, rfl⟩) | (go_at_call 144; refine (cIsWord_any _ _).mono ?_; rintro e w' ⟨rfl, rfl⟩))
  go_ret
  exact ⟨int_ret (by rw [HR.out]; simp_all), ((Below.refl _ _).alloc (Nat.le_refl _) _).alloc (by simp) _⟩
end Go.Proofs.YtncdininppehkaaGreat

namespace Go.Proofs.YtncdininppehkaaGreat
open Go.RowKit
set_option linter.unusedVariables false
set_option maxRecDepth 100000
def prFault (S : List Sw) (P : List Pr) (x : Pr) : Int :=
 if prInB x = false then 2 else if idx (fun s => s.i == x.s) S < 0 then 6 else if P.any (fun y => y.i == x.i || y.s == x.s && y.m == x.m) = true then 7 else
 if takenB S P (S.getD (idx (fun s => s.i == x.s) S).toNat sw0).t x.p = true then 7 else if 40 ≤ P.length then 1 else 0
set_option maxHeartbeats 8000000 in
theorem checkPort_any (sv pv av : Value) (S : List Sw) (P : List Pr) (A : List Ac) (x : Pr) (w : World) (hC : CfAt w sv pv av S P A) (h1 : S.length * 24 ≤ 140737488355328) (h2 : P.length * 40 ≤ 140737488355328) :
  Calls Tryz.prog 101 #[.agg #[sv, pv, av], .agg #[.int .i64 x.i, .int .i64 x.s, .int .i64 x.m, .int .i64 x.p, .int .i64 x.c]] w fun e w' => e = .returned (.int .i64 (prFault S P x)) ∧ Below w.heap.size w w' := by
 obtain ⟨xi, xs, xm, xp, xc⟩ := x
 have HC := hide hC
 have HB := hide (fun W => portInBounds_any xi xs xm xp xc W)
 have HI : Hid (∀ (W : World) (b : Nat), Below w.heap.size w W → W.cell? ⟨b, 0, none⟩ = some (.int .i64 xs) → Calls Tryz.prog 149 #[sv, .func (.func 187) #[] #[.pointer (some ⟨b, 0, none⟩)]] W fun e w' => e = .returned (.int .i64 (idx (fun s => s.i == xs) S)) ∧ Below W.heap.size W w') :=
  fun W b hW a => idxId_any S _ sv _ W (RowAt.below hC.1 hW (Nat.le_refl _)) (asksId a) h1
 have HP : Hid (∀ (W : World), Below w.heap.size w W → W.cell? ⟨w.heap.size + 1, 0, none⟩ = some (.int .i64 xi) → W.cell? ⟨w.heap.size + 1, 1, none⟩ = some (.int .i64 xs) → W.cell? ⟨w.heap.size + 1, 2, none⟩ = some (.int .i64 xm) → Calls Tryz.prog 150 #[.agg #[sv, pv, av], .func (.func 151) #[] #[.pointer (some ⟨w.heap.size + 1, 0, none⟩)]] W fun e w' => e = .returned (.bool (P.any (fun y => y.i == xi || y.s == xs && y.m == xm))) ∧ Below W.heap.size W w') :=
  fun W hW a b c => hasPortSame_any sv pv av P _ _ W (anySlice hC.1) (RowAt.below hC.2.1 hW (Nat.le_refl _)) (anySlice hC.2.2) (asksSame a b c) h2
 have HT : Hid (∀ (W : World) (t : Int), Below w.heap.size w W → Calls Tryz.prog 147 #[.agg #[sv, pv, av], .int .i64 t, .int .i64 xp] W fun e w' => e = .returned (.bool (takenB S P t xp)) ∧ Below W.heap.size W w') := fun W t hW => isTaken_any sv pv av S P A t xp W (hC.below hW (Nat.le_refl _)) h1 h2
 have HR : Hid (prFault S P ⟨xi, xs, xm, xp, xc⟩ = if prInB ⟨xi, xs, xm, xp, xc⟩ = false then 2 else if idx (fun s => s.i == xs) S < 0 then 6 else if P.any (fun y => y.i == xi || y.s == xs && y.m == xm) = true then 7 else
  if takenB S P (S.getD (idx (fun s => s.i == xs) S).toNat sw0).t xp = true then 7 else if 40 ≤ P.length then 1 else 0) := rfl
 have hbd := idx_bd (fun s : Sw => s.i == xs) S
 generalize prFault S P ⟨xi, xs, xm, xp, xc⟩ = R at *
 generalize idx (fun s : Sw => s.i == xs) S = I at *
 generalize P.any (fun y => y.i == xi || y.s == xs && y.m == xm) = R1 at *
 generalize prInB ⟨xi, xs, xm, xp, xc⟩ = R0 at *
 obtain ⟨s1, s2, rfl⟩ := hC.1.slice
 obtain ⟨p1, p2, rfl⟩ := hC.2.1.slice
 obtain ⟨a1, a2, rfl⟩ := hC.2.2.slice
 clear hC
 simp only
 go_enter Tryz.func101, Tryz.ntmps101
 go_wp2_with fail
 obtain ⟨W0, hW0⟩ : ∃ W0, W0 = (w.alloc (.cells #[.slice s1 S.length s2, .slice p1 P.length p2, .slice a1 A.length a2] 29)).alloc (.cells #[.int .i64 xi, .int .i64 xs, .int .i64 xm, .int .i64 xp, .int .i64 xc] 71) := ⟨_, rfl⟩
 have hb0 : Below w.heap.size w W0 := by rw [hW0]; exact ((Below.refl _ _).alloc (Nat.le_refl _) _).alloc (by simp) _
 have d0 : W0.cell? ⟨w.heap.size, 0, none⟩ = some (.slice s1 S.length s2) := by rw [hW0]; exact old_cell (new_cell w _ rfl _ _ _ _ rfl) _
 have d1 : W0.cell? ⟨w.heap.size, 1, none⟩ = some (.slice p1 P.length p2) := by rw [hW0]; exact old_cell (new_cell w _ rfl _ _ _ _ rfl) _
 have d2 : W0.cell? ⟨w.heap.size, 2, none⟩ = some (.slice a1 A.length a2) := by rw [hW0]; exact old_cell (new_cell w _ rfl _ _ _ _ rfl) _
 have d3 : W0.cell? ⟨w.heap.size + 1, 0, none⟩ = some (.int .i64 xi) := by rw [hW0]; exact new_cell _ _ (by simp) _ _ _ _ rfl
 have d4 : W0.cell? ⟨w.heap.size + 1, 1, none⟩ = some (.int .i64 xs) := by rw [hW0]; exact new_cell _ _ (by simp) _ _ _ _ rfl
 have d5 : W0.cell? ⟨w.heap.size + 1, 2, none⟩ = some (.int .i64 xm) := by rw [hW0]; exact new_cell _ _ (by simp) _ _ _ _ rfl
 have d6 : W0.cell? ⟨w.heap.size + 1, 3, none⟩ = some (.int .i64 xp) := by rw [hW0]; exact new_cell _ _ (by simp) _ _ _ _ rfl
 have d7 : W0.cell? ⟨w.heap.size + 1, 4, none⟩ = some (.int .i64 xc) := by rw [hW0]; exact new_cell _ _ (by simp) _ _ _ _ rfl
 rw [← hW0]
 clear hW0
 refine (unhide HB _).mono ?_
 rintro e W1 ⟨rfl, hB1⟩
 have q0 := cell_beh d0 hB1 (Nat.le_refl _)
 have q1 := cell_beh d1 hB1 (Nat.le_refl _)
 have q2 := cell_beh d2 hB1 (Nat.le_refl _)
 have q3 := cell_beh d3 hB1 (Nat.le_refl _)
 have q4 := cell_beh d4 hB1 (Nat.le_refl _)
 have q5 := cell_beh d5 hB1 (Nat.le_refl _)
 have q6 := cell_beh d6 hB1 (Nat.le_refl _)
 have q7 := cell_beh d7 hB1 (Nat.le_refl _)
 have hb1 := hb0.trans (hB1.mono hb0.size)
 clear HB hB1 hb0 d0 d1 d2 d3 d4 d5 d6 d7
 cases R0
 ·clear HI HP HT
  go_wp2_with fail
  go_ret
  exact ⟨int_ret (by rw [HR.out]; simp), hb1⟩
 ·go_wp2_with fail
  go_region_held3 (fun w' => w'.cell? ⟨w.heap.size, 0, none⟩ = some (.slice s1 S.length s2) ∧ w'.cell? ⟨w.heap.size, 1, none⟩ = some (.slice p1 P.length p2) ∧ w'.cell? ⟨w.heap.size, 2, none⟩ = some (.slice a1 A.length a2) ∧ w'.cell? ⟨w.heap.size + 1, 0, none⟩ = some (.int .i64 xi) ∧ w'.cell? ⟨w.heap.size + 1, 1, none⟩ = some (.int .i64 xs) ∧ w'.cell? ⟨w.heap.size + 1, 2, none⟩ = some (.int .i64 xm) ∧ w'.cell? ⟨w.heap.size + 1, 3, none⟩ = some (.int .i64 xp) ∧ w'.cell? ⟨w.heap.size + 1, 4, none⟩ = some (.int .i64 xc)) (go_keep)
   (first | (go_at_call 146; refine (withId_any _ _).mono ?_; rintro e w1 ⟨bi, rfl, hbi, hc1⟩; have g1 : Below W1.heap.size W1 w1 := ((Below.refl _ W1).drew).trans hc1; have k1 : Below w.heap.size w w1 := hb1.trans (g1.mono hb1.size); have y0 := cell_beh q0 g1 (Nat.le_refl _); have y1 := cell_beh q1 g1 (Nat.le_refl _); have y2 := cell_beh q2 g1 (Nat.le_refl _); have y3 := cell_beh q3 g1 (Nat.le_refl _); have y4 := cell_beh q4 g1 (Nat.le_refl _); have y5 := cell_beh q5 g1 (Nat.le_refl _); have y6 := cell_beh q6 g1 (Nat.le_refl _); have y7 := cell_beh q7 g1 (Nat.le_refl _)) | (go_at_call 149; refine (unhide HI _ _ k1 hbi).mono ?_; rintro e w2 ⟨rfl, hc2⟩; have g2 : Below W1.heap.size W1 w2 := g1.trans (hc2.mono g1.size); have k2 : Below w.heap.size w w2 := hb1.trans (g2.mono hb1.size); have z0 := cell_beh q0 g2 (Nat.le_refl _); have z1 := cell_beh q1 g2 (Nat.le_refl _); have z2 := cell_beh q2 g2 (Nat.le_refl _); have z3 := cell_beh q3 g2 (Nat.le_refl _); have z4 := cell_beh q4 g2 (Nat.le_refl _); have z5 := cell_beh q5 g2 (Nat.le_refl _); have z6 := cell_beh q6 g2 (Nat.le_refl _); have z7 := cell_beh q7 g2 (Nat.le_refl _)))
  clear y0 y1 y2 y3 y4 y5 y6 y7 q0 q1 q2 q3 q4 q5 q6 q7 HI hbi hc1 hc2 g1 g2 k1 hb1
  by_cases hI : I < 0
  ·clear HP HT
   go_wp2_with fail
   go_ret
   exact ⟨int_ret (by rw [HR.out]; simp [hI]), k2⟩
  ·obtain ⟨k, rfl⟩ : ∃ k : Nat, I = (k : Int) := ⟨I.toNat, by omega⟩
   have hk : k < S.length := by omega
   have hi1 : (0 : Int) ≤ (k : Int) := by omega
   have hi2 : (k : Int) < (S.length : Int) := by omega
   go_wp2_with fail
   refine (unhide HP _ k2 z3 z4 z5).mono ?_
   rintro e w3 ⟨rfl, hc3⟩
   have k3 := k2.trans (hc3.mono k2.size)
   have q0 := cell_beh z0 hc3 (Nat.le_refl _)
   have q1 := cell_beh z1 hc3 (Nat.le_refl _)
   have q2 := cell_beh z2 hc3 (Nat.le_refl _)
   have q3 := cell_beh z3 hc3 (Nat.le_refl _)
   have q4 := cell_beh z4 hc3 (Nat.le_refl _)
   have q5 := cell_beh z5 hc3 (Nat.le_refl _)
   have q6 := cell_beh z6 hc3 (Nat.le_refl _)
   have q7 := cell_beh z7 hc3 (Nat.le_refl _)
   clear HP hc3 k2 z0 z1 z2 z3 z4 z5 z6 z7
   cases R1
   ·obtain ⟨b, off, cap, e1, hcap, hb, u0, u1, u2⟩ := sw_at (RowAt.below HC.out.1 k3 (Nat.le_refl _)) hk
    simp only [Value.slice.injEq, true_and] at e1
    obtain ⟨rfl, rfl⟩ := e1
    have HTT := hide (fun W hW => HT.out W (S.getD k sw0).t hW)
    have HRR : Hid (R = if takenB S P (S.getD k sw0).t xp = true then 7 else if 40 ≤ P.length then 1 else 0) := by
     show R = _
     rw [HR.out, if_neg (by simp), if_neg (by omega), if_neg (by simp), Int.toNat_natCast]
    clear HR HT HC
    generalize takenB S P (S.getD k sw0).t xp = R2 at *
    generalize (S.getD k sw0).t = xt at *
    generalize (S.getD k sw0).i = xj at *
    generalize (S.getD k sw0).g = xg at *
    go_wp2_with fail
    go_region_held3 (fun w' => w'.cell? ⟨w.heap.size, 0, none⟩ = some (.slice (some ⟨b, off, none⟩) S.length s2) ∧ w'.cell? ⟨w.heap.size, 1, none⟩ = some (.slice p1 P.length p2) ∧ w'.cell? ⟨w.heap.size, 2, none⟩ = some (.slice a1 A.length a2) ∧ w'.cell? ⟨w.heap.size + 1, 3, none⟩ = some (.int .i64 xp) ∧ w'.cell? ⟨b, off + k * 3 + 1, none⟩ = some (.int .i64 xt)) (go_keep)
     (first | (go_at_call 147; refine (unhide HTT _ k3.drew).mono ?_; rintro e w4 ⟨rfl, hc4⟩; have g4 : Below w3.heap.size w3 w4 := ((Below.refl _ w3).drew).trans hc4; have k4 : Below w.heap.size w w4 := k3.trans (g4.mono k3.size); have v0 := cell_beh q0 g4 (Nat.le_refl _); have v1 := cell_beh q1 g4 (Nat.le_refl _); have v2 := cell_beh q2 g4 (Nat.le_refl _); have v3 := cell_beh q6 g4 (Nat.le_refl _); have v4 := cell_beh u1 g4 (Nat.le_refl _)))
    clear HTT q0 q1 q2 q3 q4 q5 q6 q7 u0 u1 u2 k3 g4 hc4
    cases R2
    ·by_cases h40 : 40 ≤ P.length
     ·have h40i : (40 : Int) ≤ (P.length : Int) := by omega
      go_wp2_with fail
      go_ret
      exact ⟨int_ret (by rw [HRR.out, if_neg (by simp), if_pos h40]), k4⟩
     ·have h40i : (P.length : Int) < 40 := by omega
      go_wp2_with fail
      go_ret
      exact ⟨int_ret (by rw [HRR.out, if_neg (by simp), if_neg h40]), k4⟩
    ·go_wp2_with fail
     go_ret
     exact ⟨int_ret (by rw [HRR.out]; simp), k4⟩
   ·clear HT
    go_wp2_with fail
    go_ret
    exact ⟨int_ret (by rw [HR.out, if_neg (by simp), if_neg (by omega)]; simp), k3⟩
end Go.Proofs.YtncdininppehkaaGreat
