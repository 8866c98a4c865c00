/-
  What the keepers' Flows answers.
-/
import Derived.Test.YtonhfgdnkkkikacSv
import Derived.Test.YtonhfgdnkkkikacOrw
import Derived.Test.YtonhfgdnkkkikacKp
import Derived.Test.YtonhfgdnkkkikacKt
import Derived.Test.YtonhfgdnkkkikacFd
import Derived.Deep.RegionLaw
import Derived.Deep.RegionHeld3
import Derived.Deep.QuietTactic
import Derived.BigQuiet
namespace Go.Proofs.Ytonhfgdnkkkikac
open Go.RowKit
set_option linter.unusedVariables false
set_option maxRecDepth 100000

/-- What holds of a flow that the keepers make. -/
def Tm (f : Fl) : Prop := flFault f = 0 ∧ f.p ≤ 3 ∧ f.ms.length ≤ 2 ∧ f.ds.length ≤ 4
/-- The masks that the keepers take. -/
def mask (k : Nat) : Int := [3, 1, 65535].getD k 0
theorem mask_at {k : Nat} (h : k < 3) : (#[Value.int .i64 3, .int .i64 1, .int .i64 65535] : Array Value)[k]? = some (.int .i64 (mask k)) := by
  rcases (show k = 0 ∨ k = 1 ∨ k = 2 by omega) with rfl | rfl | rfl <;> rfl
theorem mask_in {k : Nat} (h : k < 3) : 0 ≤ mask k ∧ mask k ≤ 65535 := by
  rcases (show k = 0 ∨ k = 1 ∨ k = 2 by omega) with rfl | rfl | rfl <;> decide
theorem and_mask {n m : Int} (h0 : 0 ≤ n) (h1 : n ≤ 65535) (h2 : 0 ≤ m) (h3 : m ≤ 65535) : bits .and .i64 n m = mk n m := by
  obtain ⟨a, rfl⟩ := Int.eq_ofNat_of_zero_le h0
  obtain ⟨b, rfl⟩ := Int.eq_ofNat_of_zero_le h2
  have e : ∀ c : Nat, c ≤ 65535 → (BitVec.ofInt 64 (c : Int)).toNat = c := fun c hc => by simp; omega
  show IntKind.i64.wrap ((BitVec.ofInt 64 (a : Int) &&& BitVec.ofInt 64 (b : Int)).toNat : Int) = _
  rw [BitVec.toNat_and, e a (by omega), e b (by omega)]
  unfold mk
  have : a &&& b ≤ a := Nat.and_le_left
  simp only [Int.toNat_natCast]
  generalize a &&& b = n at *
  simp [IntKind.wrap, IntKind.bits, IntKind.signed]
  split <;> omega
theorem tdiv_half (a k : Int) (hk : 2 ≤ k) (h0 : -9223372036854775808 ≤ a) (h1 : a ≤ 9223372036854775807) : -4611686018427387905 ≤ a.tdiv k ∧ a.tdiv k ≤ 4611686018427387905 := by
  have key : ∀ b : Int, 0 ≤ b → b ≤ 9223372036854775808 → 0 ≤ b / k ∧ b / k ≤ 4611686018427387904 := fun b hb hb1 => by
    have p := Int.ediv_nonneg hb (by omega : (0 : Int) ≤ k)
    have q := Int.ediv_mul_le b (show k ≠ 0 by omega)
    have r := Int.mul_le_mul_of_nonneg_left hk p
    omega
  rcases Int.le_total 0 a with h | h
  · rw [Int.tdiv_eq_ediv_of_nonneg h]
    have := key a h (by omega)
    omega
  · have e : a.tdiv k = -((-a).tdiv k) := by rw [Int.neg_tdiv]; omega
    rw [e, Int.tdiv_eq_ediv_of_nonneg (by omega)]
    have := key (-a) (by omega) (by omega)
    omega
/-- Behind j matches of a flow: its box, and what it holds. -/
def L1 (W1 wr : World) (fb : Nat) (t p : Int) (j : Nat) : Prop := ∃ (ms : List Mt) (v : Value), ms.length = j ∧ (∀ m ∈ ms, matchB m = true) ∧ wr.cell? ⟨fb, 0, none⟩ = some (.int .i64 t) ∧ wr.cell? ⟨fb, 1, none⟩ = some (.int .i64 p) ∧ wr.cell? ⟨fb, 2, none⟩ = some v ∧ wr.cell? ⟨fb, 3, none⟩ = some (.slice none 0 0) ∧
  wr.frozen? ⟨fb, 2, none⟩ = false ∧ wr.frozen? ⟨fb, 3, none⟩ = false ∧ wr.ownsRow (fb + 1) 35 3 v j (M ms) ∧ Below fb W1 wr
theorem L1.mk {W1 wr : World} {fb : Nat} {t p : Int} {j : Nat} (h : ∃ (ms : List Mt) (v : Value), ms.length = j ∧ (∀ m ∈ ms, matchB m = true) ∧ wr.cell? ⟨fb, 0, none⟩ = some (.int .i64 t) ∧ wr.cell? ⟨fb, 1, none⟩ = some (.int .i64 p) ∧ wr.cell? ⟨fb, 2, none⟩ = some v ∧ wr.cell? ⟨fb, 3, none⟩ = some (.slice none 0 0) ∧
  wr.frozen? ⟨fb, 2, none⟩ = false ∧ wr.frozen? ⟨fb, 3, none⟩ = false ∧ wr.ownsRow (fb + 1) 35 3 v j (M ms) ∧ Below fb W1 wr) : L1 W1 wr fb t p j := h
theorem mem_snoc {α : Type} {p : α → Prop} {l : List α} {x : α} (h : ∀ m ∈ l, p m) (hx : p x) : ∀ m ∈ l ++ [x], p m := fun m hm => by
  rcases List.mem_append.1 hm with h' | h'
  · exact h m h'
  · rw [List.mem_singleton.1 h']; exact hx
theorem M_snoc (ms : List Mt) (x : Mt) : M (ms ++ [x]) = M ms ++ [.int .i64 x.f, .int .i64 x.m, .int .i64 x.v] := by simp [M]
theorem new_match {f m n : Int} (f0 : 0 ≤ f) (f1 : f ≤ 9) (m0 : 0 ≤ m) (m1 : m ≤ 65535) (n0 : 0 ≤ n) (n1 : n ≤ 65535) : matchB ⟨f, m, mk n m⟩ = true := by
  obtain ⟨a, rfl⟩ := Int.eq_ofNat_of_zero_le n0
  obtain ⟨b, rfl⟩ := Int.eq_ofNat_of_zero_le m0
  have h1 : a &&& b ≤ a := Nat.and_le_left
  have h2 : (a &&& b) &&& b = a &&& b := by rw [Nat.and_assoc, Nat.and_self]
  unfold matchB mk
  simp only [Int.toNat_natCast, h2]
  generalize a &&& b = c at *
  simp [fieldB, wordB]
  omega
/-- What a flow does, wherever it stands. -/
def DoT (d : Do) : Prop := ∀ t last, doesB d.k d.a d.n t last = true
theorem doT1 {a n : Int} (h0 : 0 ≤ a) (h1 : a ≤ 9) (h2 : 0 ≤ n) (h3 : n ≤ 9) : DoT ⟨1, a, n⟩ := fun t last => by simp [doesB]; omega
theorem doT2 {a n : Int} (h0 : 0 ≤ a) (h1 : a ≤ 9) (h2 : 0 ≤ n) (h3 : n ≤ 9) : DoT ⟨2, a, n⟩ := fun t last => by simp [doesB]; omega
theorem doT3 {a : Int} (h0 : 0 ≤ a) (h1 : a ≤ 9) : DoT ⟨3, a, 0⟩ := fun t last => by simp [doesB]; omega
theorem doT5 {n : Int} (h2 : 0 ≤ n) (h3 : n ≤ 9) : DoT ⟨5, 0, n⟩ := fun t last => by simp [doesB]; omega
theorem doT6 {n : Int} (h2 : 0 ≤ n) (h3 : n ≤ 5) : DoT ⟨6, 0, n⟩ := fun t last => by simp [doesB]; omega
theorem D_snoc (ds : List Do) (x : Do) : D (ds ++ [x]) = D ds ++ [.int .i64 x.k, .int .i64 x.a, .int .i64 x.n] := by simp [D]
/-- Behind j doings of a flow. -/
def L2 (W1 wr : World) (fb : Nat) (t p : Int) (v : Value) (n : Nat) (ms : List Mt) (j : Nat) : Prop := ∃ (ds : List Do) (v2 : Value), ds.length = j ∧ (∀ d ∈ ds, DoT d) ∧ wr.cell? ⟨fb, 0, none⟩ = some (.int .i64 t) ∧ wr.cell? ⟨fb, 1, none⟩ = some (.int .i64 p) ∧ wr.cell? ⟨fb, 2, none⟩ = some v ∧ wr.cell? ⟨fb, 3, none⟩ = some v2 ∧
  wr.frozen? ⟨fb, 2, none⟩ = false ∧ wr.frozen? ⟨fb, 3, none⟩ = false ∧ wr.ownsRow (fb + 1) 38 3 v2 j (D ds) ∧ wr.ownsRow (fb + 1) 35 3 v n (M ms) ∧ (v.ownBlock = none ∨ v.ownBlock ≠ v2.ownBlock) ∧ Below fb W1 wr
theorem L2.mk {W1 wr : World} {fb : Nat} {t p : Int} {v : Value} {n : Nat} {ms : List Mt} {j : Nat} (h : ∃ (ds : List Do) (v2 : Value), ds.length = j ∧ (∀ d ∈ ds, DoT d) ∧ wr.cell? ⟨fb, 0, none⟩ = some (.int .i64 t) ∧ wr.cell? ⟨fb, 1, none⟩ = some (.int .i64 p) ∧ wr.cell? ⟨fb, 2, none⟩ = some v ∧ wr.cell? ⟨fb, 3, none⟩ = some v2 ∧
  wr.frozen? ⟨fb, 2, none⟩ = false ∧ wr.frozen? ⟨fb, 3, none⟩ = false ∧ wr.ownsRow (fb + 1) 38 3 v2 j (D ds) ∧ wr.ownsRow (fb + 1) 35 3 v n (M ms) ∧ (v.ownBlock = none ∨ v.ownBlock ≠ v2.ownBlock) ∧ Below fb W1 wr) : L2 W1 wr fb t p v n ms j := h
theorem infoFw : (Try.prog.info? 41).map (fun i => (i.zero, i.size, i.bytes)) = some (some (.agg #[.int .i64 0, .int .i64 0, .slice none 0 0, .slice none 0 0]), 4, 64) := by kernel_rfl
theorem shift2 {w : World} {B : Nat} {vo vn : Value} {lo ln : List Fv} (h : Rows2 w B vo lo vn ln) : Rows2 w B vn ln (.slice none 0 0) [] :=
  ⟨h.next, ⟨by simp [C], .inl ⟨rfl, rfl⟩⟩, by cases e : vn.ownBlock with
    | none => exact .inl e
    | some g => exact .inr (by rw [e]; simp [Value.ownBlock]), fun x hx => by
    have hx' : x ∈ ln := by simpa using hx
    obtain ⟨k0, _, _, k3, k4⟩ := h.oks x (List.mem_append_right _ hx')
    refine ⟨k0, k3, k4, ?_, ?_⟩
    · cases e : x.mv.ownBlock with
      | none => exact .inl e
      | some g => exact .inr (by rw [e]; simp [Value.ownBlock])
    · cases e : x.dv.ownBlock with
      | none => exact .inl e
      | some g => exact .inr (by rw [e]; simp [Value.ownBlock])⟩
theorem apart_far {u v : Value} {B : Nat} (hu : ∀ g, u.ownBlock = some g → B ≤ g) (hv : ∀ g, v.ownBlock = some g → g < B) : Apart u v := by
  cases e : u.ownBlock with
  | none => exact .inl e
  | some g =>
    refine .inr fun h => ?_
    have := hu g e
    have := hv g (h.symm.trans e)
    omega
theorem apart_nil (u : Value) : Apart u (.slice none 0 0) := by
  cases e : u.ownBlock with
  | none => exact .inl e
  | some g => exact .inr (by rw [e]; simp [Value.ownBlock])
theorem flow_ok {t p : Int} {ms : List Mt} {ds : List Do} (t0 : 0 ≤ t) (t1 : t ≤ 3) (p0 : 0 ≤ p) (p1 : p ≤ 3) (hm : ms.length ≤ 2) (hmb : ∀ m ∈ ms, matchB m = true) (hd : ds.length ≤ 4) (hdo : ∀ j, j < ds.length → doB t ds j = true) : Tm ⟨t, p, ms, ds⟩ := by
  refine ⟨?_, p1, hm, hd⟩
  unfold flFault
  rw [if_neg (by simp only; omega)]
  have h1 : (tableB t && prioB p) = true := by simp [tableB, prioB]; omega
  have h2 : ms.all matchB = true := List.all_eq_true.2 hmb
  have h3 : (List.range ds.length).all (doB t ds) = true := List.all_eq_true.2 fun j hj => hdo j (List.mem_range.1 hj)
  simp only [h1, h2, h3]
  rfl
theorem do_all {t : Int} {ds : List Do} (h : ∀ d ∈ ds, DoT d) {j : Nat} (hj : j < ds.length) : doB t ds j = true := by
  unfold doB
  have hg : ds.getD j do0 = ds[j] := by simp [List.getD, List.getElem?_eq_getElem hj]
  rw [hg]
  exact h _ (List.getElem_mem hj) _ _
theorem do_goto {t n : Int} {ds : List Do} (h : ∀ d ∈ ds, DoT d) (h0 : t + 1 ≤ n) (h1 : n ≤ 7) : ∀ j, j < (ds ++ [(⟨4, 0, n⟩ : Do)]).length → doB t (ds ++ [⟨4, 0, n⟩]) j = true := fun j hj => by
  unfold doB
  by_cases hl : j < ds.length
  · have hg : (ds ++ [(⟨4, 0, n⟩ : Do)]).getD j do0 = ds[j] := by simp [List.getD, List.getElem?_append_left hl, List.getElem?_eq_getElem hl]
    rw [hg]
    exact h _ (List.getElem_mem hl) _ _
  · have hj' : j = ds.length := by simp at hj; omega
    subst hj'
    have hg : (ds ++ [(⟨4, 0, n⟩ : Do)]).getD ds.length do0 = ⟨4, 0, n⟩ := by simp [List.getD]
    rw [hg]
    simp [doesB]
    omega
theorem far3 {w : World} {b b' o : Nat} {v : Value} (h : w.cell? ⟨b, o, none⟩ = some v) (hb : b' ≠ b) (x y z : Value) : (((w.setCell ⟨b', 0, none⟩ x).setCell ⟨b', 1, none⟩ y).setCell ⟨b', 2, none⟩ z).cell? ⟨b, o, none⟩ = some v := (World.cell?_setCell_other _ _ _ _ (fun e => hb (by simpa using congrArg Addr.block e))).trans ((World.cell?_setCell_other _ _ _ _ (fun e => hb (by simpa using congrArg Addr.block e))).trans ((World.cell?_setCell_other _ _ _ _ (fun e => hb (by simpa using congrArg Addr.block e))).trans (h)))
theorem below3 {a w : World} {B b' : Nat} (h : Below B a w) (hb : B ≤ b') (x y z : Value) : Below B a (((w.setCell ⟨b', 0, none⟩ x).setCell ⟨b', 1, none⟩ y).setCell ⟨b', 2, none⟩ z) := (((h.setCell (p := ⟨b', 0, none⟩) hb x).setCell (p := ⟨b', 1, none⟩) hb y).setCell (p := ⟨b', 2, none⟩) hb z)
theorem frz3 {w : World} {b b' o : Nat} (h : w.frozen? ⟨b, o, none⟩ = false) (x y z : Value) : (((w.setCell ⟨b', 0, none⟩ x).setCell ⟨b', 1, none⟩ y).setCell ⟨b', 2, none⟩ z).frozen? ⟨b, o, none⟩ = false := by rw [World.frozen?_setCell, World.frozen?_setCell, World.frozen?_setCell]; exact h
theorem far4 {w : World} {b b' o : Nat} {v : Value} (h : w.cell? ⟨b, o, none⟩ = some v) (hb : b' ≠ b) (x y z u : Value) : ((((w.setCell ⟨b', 0, none⟩ x).setCell ⟨b', 1, none⟩ y).setCell ⟨b', 2, none⟩ z).setCell ⟨b', 3, none⟩ u).cell? ⟨b, o, none⟩ = some v := (World.cell?_setCell_other _ _ _ _ (fun e => hb (by simpa using congrArg Addr.block e))).trans ((World.cell?_setCell_other _ _ _ _ (fun e => hb (by simpa using congrArg Addr.block e))).trans ((World.cell?_setCell_other _ _ _ _ (fun e => hb (by simpa using congrArg Addr.block e))).trans ((World.cell?_setCell_other _ _ _ _ (fun e => hb (by simpa using congrArg Addr.block e))).trans (h))))
theorem below4 {a w : World} {B b' : Nat} (h : Below B a w) (hb : B ≤ b') (x y z u : Value) : Below B a ((((w.setCell ⟨b', 0, none⟩ x).setCell ⟨b', 1, none⟩ y).setCell ⟨b', 2, none⟩ z).setCell ⟨b', 3, none⟩ u) := ((((h.setCell (p := ⟨b', 0, none⟩) hb x).setCell (p := ⟨b', 1, none⟩) hb y).setCell (p := ⟨b', 2, none⟩) hb z).setCell (p := ⟨b', 3, none⟩) hb u)
theorem frz4 {w : World} {b b' o : Nat} (h : w.frozen? ⟨b, o, none⟩ = false) (x y z u : Value) : ((((w.setCell ⟨b', 0, none⟩ x).setCell ⟨b', 1, none⟩ y).setCell ⟨b', 2, none⟩ z).setCell ⟨b', 3, none⟩ u).frozen? ⟨b, o, none⟩ = false := by rw [World.frozen?_setCell, World.frozen?_setCell, World.frozen?_setCell, World.frozen?_setCell]; exact h
theorem set4 {w : World} {b : Nat} {p q r s : Value} (h0 : w.cell? ⟨b, 0, none⟩ = some p) (h1 : w.cell? ⟨b, 1, none⟩ = some q) (h2 : w.cell? ⟨b, 2, none⟩ = some r) (h3 : w.cell? ⟨b, 3, none⟩ = some s) (x y z u : Value) : ((((w.setCell ⟨b, 0, none⟩ x).setCell ⟨b, 1, none⟩ y).setCell ⟨b, 2, none⟩ z).setCell ⟨b, 3, none⟩ u).cell? ⟨b, 0, none⟩ = some x ∧ ((((w.setCell ⟨b, 0, none⟩ x).setCell ⟨b, 1, none⟩ y).setCell ⟨b, 2, none⟩ z).setCell ⟨b, 3, none⟩ u).cell? ⟨b, 1, none⟩ = some y ∧ ((((w.setCell ⟨b, 0, none⟩ x).setCell ⟨b, 1, none⟩ y).setCell ⟨b, 2, none⟩ z).setCell ⟨b, 3, none⟩ u).cell? ⟨b, 2, none⟩ = some z ∧ ((((w.setCell ⟨b, 0, none⟩ x).setCell ⟨b, 1, none⟩ y).setCell ⟨b, 2, none⟩ z).setCell ⟨b, 3, none⟩ u).cell? ⟨b, 3, none⟩ = some u :=
  ⟨(World.cell?_setCell_other _ _ _ _ (by simp)).trans ((World.cell?_setCell_other _ _ _ _ (by simp)).trans ((World.cell?_setCell_other _ _ _ _ (by simp)).trans (World.cell?_setCell_same _ _ _ (h0)))), (World.cell?_setCell_other _ _ _ _ (by simp)).trans ((World.cell?_setCell_other _ _ _ _ (by simp)).trans (World.cell?_setCell_same _ _ _ ((World.cell?_setCell_other _ _ _ _ (by simp)).trans (h1)))), (World.cell?_setCell_other _ _ _ _ (by simp)).trans (World.cell?_setCell_same _ _ _ ((World.cell?_setCell_other _ _ _ _ (by simp)).trans ((World.cell?_setCell_other _ _ _ _ (by simp)).trans (h2)))), World.cell?_setCell_same _ _ _ ((World.cell?_setCell_other _ _ _ _ (by simp)).trans ((World.cell?_setCell_other _ _ _ _ (by simp)).trans ((World.cell?_setCell_other _ _ _ _ (by simp)).trans (h3))))⟩
theorem cell_eq {V W : World} {a : Addr} {v : Value} (h : V = W) (hc : W.cell? a = some v) : V.cell? a = some v := h ▸ hc
theorem frz_eq {V W : World} {a : Addr} (h : V = W) (hc : W.frozen? a = false) : V.frozen? a = false := h ▸ hc
theorem below_eq {V W a : World} {B : Nat} (h : V = W) (hc : Below B a W) : Below B a V := h ▸ hc
/-- Whatever the order in which a region is run, what it leaves is one thing, but for where new boxes lie. -/
theorem wp_same1 {P : Program} {c : Code} {Q : Exit → Act → World → Prop} {a : Act} {w : World} (F : Nat → World → Prop) (A1 : Nat → Act) (h : c.wp P (fun e a' w' => e = .normal ∧ ∃ x, a' = A1 x ∧ F x w') a w) (hq : ∀ x w', F x w' → Q .normal (A1 x) w') : c.wp P Q a w :=
  Code.wp_mono (fun e a' w' ⟨he, x, ha, hf⟩ => by subst he; subst ha; exact hq x w' hf) h
theorem wp_same2 {P : Program} {c : Code} {Q : Exit → Act → World → Prop} {a : Act} {w : World} (F : Nat → Nat → World → Prop) (A1 : Nat → Nat → Act) (h : c.wp P (fun e a' w' => e = .normal ∧ ∃ x y, a' = A1 x y ∧ F x y w') a w) (hq : ∀ x y w', F x y w' → Q .normal (A1 x y) w') : c.wp P Q a w :=
  Code.wp_mono (fun e a' w' ⟨he, x, y, ha, hf⟩ => by subst he; subst ha; exact hq x y w' hf) h

set_option maxHeartbeats 16000000 in
theorem flows_any (l : List Rw) (lv : Value) (w : World) (hL : RowAt rwC 4 w lv l) :
    Calls Try.prog 16 #[lv, .int .i64 20] w fun e w' => ∃ u, e = .returned u ∧ ∃ lo : List Fv, Rows2 w' w.heap.size u lo (.slice none 0 0) [] ∧ lo.length ≤ 20 ∧ (∀ x ∈ lo, Tm x.f) ∧ Below w.heap.size w w' := by
  obtain ⟨ifw, hifw, hF0, hF1, hF2⟩ := info_parts infoFw
  obtain ⟨im, him, hM0, hM1, hM2⟩ := info_parts infoMatch
  obtain ⟨id, hid, hD0, hD1, hD2⟩ := info_parts infoDoes
  have HL := hide hL
  obtain ⟨la, lc, rfl⟩ := hL.slice
  clear hL
  go_enter Try.func16, Try.ntmps16
  go_wp2_with fail
  go_loopw [5, 6] (fun vo i wr => ∃ (k : Nat) (lo : List Fv), k ≤ 20 ∧ k ≤ l.length ∧ i = .int .i64 k ∧ Hid (lo.length = k) ∧ Hid (∀ x ∈ lo, Tm x.f) ∧ Hid (Rows2 wr w.heap.size (.slice none 0 0) [] vo lo) ∧ Below w.heap.size w wr) (fun _ i _ => l.length - (intOf i).toNat)
  case atStart => exact ⟨0, [], by omega, by omega, rfl, hide rfl, hide (by simp), hide ⟨⟨by simp [C], .inl ⟨rfl, rfl⟩⟩, ⟨by simp [C], .inl ⟨rfl, rfl⟩⟩, .inl rfl, by simp⟩, Below.refl _ _⟩
  case round =>
    obtain ⟨VV, hVV⟩ : ∃ VV, VV = wr := ⟨_, rfl⟩
    subst hVV
    obtain ⟨k, lo, hk, hkl, rfl, HLL, HTM, HR, hbw⟩ := hrel
    by_cases hlt : k < l.length
    · by_cases h20 : k < 20
      · obtain ⟨b, off, cap', e1, hcap, hb, g0, g1, g2, g3⟩ := rw_at (RowAt.below HL.out hbw (Nat.le_refl _)) hlt
        simp only [Value.slice.injEq, true_and] at e1
        obtain ⟨rfl, rfl⟩ := e1
        obtain ⟨⟨ha0, ha1⟩, ⟨hb0, hb1⟩, ⟨hc0, hc1⟩, hd0, hd1⟩ := (l.getD k rw0).ok
        generalize (l.getD k rw0).k = x0 at *
        generalize (l.getD k rw0).a = x1 at *
        generalize (l.getD k rw0).b = x2 at *
        generalize (l.getD k rw0).c = x3 at *
        have q3 : (0 : Int) ≤ (k : Int) := by omega
        have q4 : (k : Int) < (l.length : Int) := by omega
        have q5 : (k : Int) < 20 := by omega
        go_wp2_with fail
        obtain ⟨rb, hrb⟩ : ∃ rb, rb = VV.heap.size := ⟨_, rfl⟩
        obtain ⟨W0, hW0⟩ : ∃ W0, W0 = VV.alloc (.cells #[.int .i64 x0, .int .i64 x1, .int .i64 x2, .int .i64 x3] 70) := ⟨_, rfl⟩
        have k0 : Below VV.heap.size VV W0 := by rw [hW0]; exact (Below.refl _ _).alloc (Nat.le_refl _) _
        have c0 : W0.cell? ⟨rb, 0, none⟩ = some (.int .i64 x0) := by rw [hW0, hrb]; exact new_cell VV _ rfl _ _ _ _ rfl
        have c1 : W0.cell? ⟨rb, 1, none⟩ = some (.int .i64 x1) := by rw [hW0, hrb]; exact new_cell VV _ rfl _ _ _ _ rfl
        have c2 : W0.cell? ⟨rb, 2, none⟩ = some (.int .i64 x2) := by rw [hW0, hrb]; exact new_cell VV _ rfl _ _ _ _ rfl
        have c3 : W0.cell? ⟨rb, 3, none⟩ = some (.int .i64 x3) := by rw [hW0, hrb]; exact new_cell VV _ rfl _ _ _ _ rfl
        have hrw : VV.heap.size ≤ rb := by omega
        rw [← hW0, ← hrb]
        have HRB := hide hrb
        clear hW0 hrb g0 g1 g2 g3 hb
        apply wp_same1 (fun fb w' => rb < fb ∧ w'.cell? ⟨rb, 0, none⟩ = some (.int .i64 x0) ∧ w'.cell? ⟨rb, 1, none⟩ = some (.int .i64 x1) ∧ w'.cell? ⟨rb, 2, none⟩ = some (.int .i64 x2) ∧ w'.cell? ⟨rb, 3, none⟩ = some (.int .i64 x3) ∧ w'.cell? ⟨fb, 0, none⟩ = some (.int .i64 (pk x0 4)) ∧ w'.cell? ⟨fb, 1, none⟩ = some (.int .i64 (pk x1 4)) ∧ w'.cell? ⟨fb, 2, none⟩ = some (.slice none 0 0) ∧ w'.cell? ⟨fb, 3, none⟩ = some (.slice none 0 0) ∧ w'.frozen? ⟨fb, 2, none⟩ = false ∧ w'.frozen? ⟨fb, 3, none⟩ = false ∧ Below VV.heap.size VV w')
        · refine wp_region_held_drew (S := (fun w' => w'.cell? ⟨rb, 0, none⟩ = some (.int .i64 x0) ∧ w'.cell? ⟨rb, 1, none⟩ = some (.int .i64 x1) ∧ w'.cell? ⟨rb, 2, none⟩ = some (.int .i64 x2) ∧ w'.cell? ⟨rb, 3, none⟩ = some (.int .i64 x3))) (by kernel_rfl) ⟨c0, c1, c2, c3⟩ (fun hHeld => ?_)
          have HDW : Below W0.heap.size W0 W0.drew := (Below.refl _ _).drew
          replace c0 := cell_beh c0 HDW (Nat.le_refl _)
          replace c1 := cell_beh c1 HDW (Nat.le_refl _)
          replace c2 := cell_beh c2 HDW (Nat.le_refl _)
          replace c3 := cell_beh c3 HDW (Nat.le_refl _)
          replace k0 := k0.trans (HDW.mono k0.size)
          clear HDW
          generalize W0.drew = V0 at *
          refine wpAnyH_take (i := 0) (oi := ⟨some 28, _, _, _, _, _⟩) (v := ?v1) rfl (by kernel_rfl) (by kernel_rfl) (by kernel_rfl) (fun _ _ _ h => absurd h.1 (by simp)) (Or.inl ⟨by rfl, ?h1⟩) (by assumption) ?r1
          case h1 => (intro w hSw; (try dsimp only at hSw); go_simp <;> with_reducible rfl)
          (try simp only [Act.put, List.setIfInBounds_toArray, List.set_cons_zero, List.set_cons_succ])
          refine wpAnyH_take (i := 1) (oi := ⟨some 29, _, _, _, _, _⟩) (v := ?v2) rfl (by kernel_rfl) (by kernel_rfl) (by kernel_rfl) (fun _ _ _ h => absurd h.1 (by simp)) (Or.inl ⟨by rfl, ?h2⟩) (by assumption) ?r2
          case h2 => (intro w hSw; (try dsimp only at hSw); go_simp <;> with_reducible rfl)
          (try simp only [Act.put, List.setIfInBounds_toArray, List.set_cons_zero, List.set_cons_succ])
          refine wpAnyH_take (i := 3) (oi := ⟨some 31, _, _, _, _, _⟩) (v := ?v3) rfl (by kernel_rfl) (by kernel_rfl) (by kernel_rfl) (fun _ _ _ h => absurd h.1 (by simp)) (Or.inl ⟨by rfl, ?h3⟩) (by assumption) ?r3
          case h3 => (intro w hSw; (try dsimp only at hSw); go_simp <;> with_reducible rfl)
          (try simp only [Act.put, List.setIfInBounds_toArray, List.set_cons_zero, List.set_cons_succ])
          refine wpAnyH_take (i := 4) (oi := ⟨some 32, _, _, _, _, _⟩) (v := ?v4) rfl (by kernel_rfl) (by kernel_rfl) (by kernel_rfl) (fun _ _ _ h => absurd h.1 (by simp)) (Or.inl ⟨by rfl, ?h4⟩) (by assumption) ?r4
          case h4 => (intro w hSw; (try dsimp only at hSw); go_simp <;> with_reducible rfl)
          (try simp only [Act.put, List.setIfInBounds_toArray, List.set_cons_zero, List.set_cons_succ])
          refine wpAnyH_ready (rs := [2, 7]) (by kernel_rfl) (by simp) ?_
          refine (AllReadyH.cons (o := ⟨some 30, _, _, _, _, _⟩) rfl (fun K hK => ?_) (AllReadyH.cons (o := ⟨some 8, _, _, _, _, _⟩) rfl (fun K hK => ?_) AllReadyH.nil))
          · go_simp
            clear hHeld
            refine (picked_any _ _ _ (by omega) (by omega) (by omega) (by omega)).mono ?_
            rintro e W91 ⟨rfl, rfl⟩
            refine hK.out _ _ ⟨c0, c1, c2, c3⟩ (fun hHeld => ?_)
            clear hK K
            (try simp only [Act.put, List.setIfInBounds_toArray, List.set_cons_zero, List.set_cons_succ])
            refine wpAnyH_ready (rs := [5, 7]) (by kernel_rfl) (by simp) ?_
            refine (AllReadyH.cons (o := ⟨some 33, _, _, _, _, _⟩) rfl (fun K hK => ?_) (AllReadyH.cons (o := ⟨some 8, _, _, _, _, _⟩) rfl (fun K hK => ?_) AllReadyH.nil))
            · go_simp
              clear hHeld
              refine (picked_any _ _ _ (by omega) (by omega) (by omega) (by omega)).mono ?_
              rintro e W92 ⟨rfl, rfl⟩
              refine hK.out _ _ ⟨c0, c1, c2, c3⟩ (fun hHeld => ?_)
              clear hK K
              (try simp only [Act.put, List.setIfInBounds_toArray, List.set_cons_zero, List.set_cons_succ])
              refine wpAnyH_take (i := 6) (oi := ⟨some 34, _, _, _, _, _⟩) (v := ?v5) rfl (by kernel_rfl) (by kernel_rfl) (by kernel_rfl) (fun _ _ _ h => absurd h.1 (by simp)) (Or.inl ⟨by rfl, ?h5⟩) (by assumption) ?r5
              case h5 => (intro w hSw; (try dsimp only at hSw); go_simp <;> with_reducible rfl)
              (try simp only [Act.put, List.setIfInBounds_toArray, List.set_cons_zero, List.set_cons_succ])
              refine wpAnyH_ready (rs := [7]) (by kernel_rfl) (by simp) ?_
              refine (AllReadyH.cons (o := ⟨some 8, _, _, _, _, _⟩) rfl (fun K hK => ?_) AllReadyH.nil)
              go_simp
              clear hHeld
              obtain ⟨V3, hV⟩ : ∃ V3, V3 = W92.alloc (.cells #[.int .i64 0, .int .i64 0, .slice none 0 0, .slice none 0 0] 41) := ⟨_, rfl⟩
              obtain ⟨fb, hbx⟩ : ∃ fb, fb = W92.heap.size := ⟨_, rfl⟩
              have hbN : Below W92.heap.size W92 V3 := by rw [hV]; exact (Below.refl _ _).alloc (Nat.le_refl _) _
              have f0 : V3.cell? ⟨fb, 0, none⟩ = some (.int .i64 0) := by rw [hV, hbx]; exact new_cell W92 _ rfl _ _ _ _ rfl
              have f1 : V3.cell? ⟨fb, 1, none⟩ = some (.int .i64 0) := by rw [hV, hbx]; exact new_cell W92 _ rfl _ _ _ _ rfl
              have f2 : V3.cell? ⟨fb, 2, none⟩ = some (.slice none 0 0) := by rw [hV, hbx]; exact new_cell W92 _ rfl _ _ _ _ rfl
              have f3 : V3.cell? ⟨fb, 3, none⟩ = some (.slice none 0 0) := by rw [hV, hbx]; exact new_cell W92 _ rfl _ _ _ _ rfl
              have zf0 : V3.frozen? ⟨fb, 0, none⟩ = false := by rw [hV, hbx]; exact new_frozen W92 _ rfl _ _ _
              have zf1 : V3.frozen? ⟨fb, 1, none⟩ = false := by rw [hV, hbx]; exact new_frozen W92 _ rfl _ _ _
              have zf2 : V3.frozen? ⟨fb, 2, none⟩ = false := by rw [hV, hbx]; exact new_frozen W92 _ rfl _ _ _
              have zf3 : V3.frozen? ⟨fb, 3, none⟩ = false := by rw [hV, hbx]; exact new_frozen W92 _ rfl _ _ _
              have hrf : rb < fb := by rw [hbx]; exact cell_in c0
              have hfb : VV.heap.size ≤ fb := by rw [hbx]; exact k0.size
              replace c0 := cell_beh c0 hbN (Nat.le_refl _)
              replace c1 := cell_beh c1 hbN (Nat.le_refl _)
              replace c2 := cell_beh c2 hbN (Nat.le_refl _)
              replace c3 := cell_beh c3 hbN (Nat.le_refl _)
              replace k0 := k0.trans (hbN.mono k0.size)
              rw [← hV, ← hbx]
              clear hV hbx hbN
              refine hK.out _ _ ⟨c0, c1, c2, c3⟩ (fun hHeld => ?_)
              clear hK K
              (try simp only [Act.put, List.setIfInBounds_toArray, List.set_cons_zero, List.set_cons_succ])
              refine wpAnyH_ready (rs := [8]) (by kernel_rfl) (by simp) ?_
              refine (AllReadyH.cons (o := ⟨none, _, _, _, _, _⟩) rfl (fun K hK => ?_) AllReadyH.nil)
              go_simp
              clear hHeld
              obtain ⟨V, hVs⟩ : ∃ V, V = ((((V3.setCell ⟨fb, 0, none⟩ (.int .i64 (pk x0 4))).setCell ⟨fb, 1, none⟩ (.int .i64 (pk x1 4))).setCell ⟨fb, 2, none⟩ (.slice none 0 0)).setCell ⟨fb, 3, none⟩ (.slice none 0 0)) := ⟨_, rfl⟩
              rw [← hVs]
              obtain ⟨nf0, nf1, nf2, nf3⟩ := set4 f0 f1 f2 f3 (.int .i64 (pk x0 4)) (.int .i64 (pk x1 4)) (.slice none 0 0) (.slice none 0 0)
              rw [← hVs] at nf0 nf1 nf2 nf3
              replace k0 := below_eq hVs (below4 k0 (by omega) _ _ _ _)
              replace c0 := cell_eq hVs (far4 c0 (by omega) _ _ _ _)
              replace c1 := cell_eq hVs (far4 c1 (by omega) _ _ _ _)
              replace c2 := cell_eq hVs (far4 c2 (by omega) _ _ _ _)
              replace c3 := cell_eq hVs (far4 c3 (by omega) _ _ _ _)
              replace zf0 := frz_eq hVs (frz4 zf0 _ _ _ _)
              replace zf1 := frz_eq hVs (frz4 zf1 _ _ _ _)
              replace zf2 := frz_eq hVs (frz4 zf2 _ _ _ _)
              replace zf3 := frz_eq hVs (frz4 zf3 _ _ _ _)
              clear hVs f0 f1 f2 f3
              have f0 := nf0
              have f1 := nf1
              have f2 := nf2
              have f3 := nf3
              clear nf0 nf1 nf2 nf3
              refine hK.out _ _ ⟨c0, c1, c2, c3⟩ (fun hHeld => ?_)
              clear hK K
              (try simp only [Act.put, List.setIfInBounds_toArray, List.set_cons_zero, List.set_cons_succ])
              refine wpAnyH_done (by kernel_rfl) ?_ _
              clear hHeld
              exact ⟨rfl, fb, rfl, hrf, c0, c1, c2, c3, f0, f1, f2, f3, zf2, zf3, k0⟩
            · go_simp
              clear hHeld
              obtain ⟨V2, hV⟩ : ∃ V2, V2 = W91.alloc (.cells #[.int .i64 0, .int .i64 0, .slice none 0 0, .slice none 0 0] 41) := ⟨_, rfl⟩
              obtain ⟨fb, hbx⟩ : ∃ fb, fb = W91.heap.size := ⟨_, rfl⟩
              have hbN : Below W91.heap.size W91 V2 := by rw [hV]; exact (Below.refl _ _).alloc (Nat.le_refl _) _
              have f0 : V2.cell? ⟨fb, 0, none⟩ = some (.int .i64 0) := by rw [hV, hbx]; exact new_cell W91 _ rfl _ _ _ _ rfl
              have f1 : V2.cell? ⟨fb, 1, none⟩ = some (.int .i64 0) := by rw [hV, hbx]; exact new_cell W91 _ rfl _ _ _ _ rfl
              have f2 : V2.cell? ⟨fb, 2, none⟩ = some (.slice none 0 0) := by rw [hV, hbx]; exact new_cell W91 _ rfl _ _ _ _ rfl
              have f3 : V2.cell? ⟨fb, 3, none⟩ = some (.slice none 0 0) := by rw [hV, hbx]; exact new_cell W91 _ rfl _ _ _ _ rfl
              have zf0 : V2.frozen? ⟨fb, 0, none⟩ = false := by rw [hV, hbx]; exact new_frozen W91 _ rfl _ _ _
              have zf1 : V2.frozen? ⟨fb, 1, none⟩ = false := by rw [hV, hbx]; exact new_frozen W91 _ rfl _ _ _
              have zf2 : V2.frozen? ⟨fb, 2, none⟩ = false := by rw [hV, hbx]; exact new_frozen W91 _ rfl _ _ _
              have zf3 : V2.frozen? ⟨fb, 3, none⟩ = false := by rw [hV, hbx]; exact new_frozen W91 _ rfl _ _ _
              have hrf : rb < fb := by rw [hbx]; exact cell_in c0
              have hfb : VV.heap.size ≤ fb := by rw [hbx]; exact k0.size
              replace c0 := cell_beh c0 hbN (Nat.le_refl _)
              replace c1 := cell_beh c1 hbN (Nat.le_refl _)
              replace c2 := cell_beh c2 hbN (Nat.le_refl _)
              replace c3 := cell_beh c3 hbN (Nat.le_refl _)
              replace k0 := k0.trans (hbN.mono k0.size)
              rw [← hV, ← hbx]
              clear hV hbx hbN
              refine hK.out _ _ ⟨c0, c1, c2, c3⟩ (fun hHeld => ?_)
              clear hK K
              (try simp only [Act.put, List.setIfInBounds_toArray, List.set_cons_zero, List.set_cons_succ])
              refine wpAnyH_ready (rs := [5]) (by kernel_rfl) (by simp) ?_
              refine (AllReadyH.cons (o := ⟨some 33, _, _, _, _, _⟩) rfl (fun K hK => ?_) AllReadyH.nil)
              go_simp
              clear hHeld
              refine (picked_any _ _ _ (by omega) (by omega) (by omega) (by omega)).mono ?_
              rintro e W93 ⟨rfl, rfl⟩
              refine hK.out _ _ ⟨c0, c1, c2, c3⟩ (fun hHeld => ?_)
              clear hK K
              (try simp only [Act.put, List.setIfInBounds_toArray, List.set_cons_zero, List.set_cons_succ])
              refine wpAnyH_take (i := 6) (oi := ⟨some 34, _, _, _, _, _⟩) (v := ?v6) rfl (by kernel_rfl) (by kernel_rfl) (by kernel_rfl) (fun _ _ _ h => absurd h.1 (by simp)) (Or.inl ⟨by rfl, ?h6⟩) (by assumption) ?r6
              case h6 => (intro w hSw; (try dsimp only at hSw); go_simp <;> with_reducible rfl)
              (try simp only [Act.put, List.setIfInBounds_toArray, List.set_cons_zero, List.set_cons_succ])
              refine wpAnyH_ready (rs := [8]) (by kernel_rfl) (by simp) ?_
              refine (AllReadyH.cons (o := ⟨none, _, _, _, _, _⟩) rfl (fun K hK => ?_) AllReadyH.nil)
              go_simp
              clear hHeld
              obtain ⟨V, hVs⟩ : ∃ V, V = ((((W93.setCell ⟨fb, 0, none⟩ (.int .i64 (pk x0 4))).setCell ⟨fb, 1, none⟩ (.int .i64 (pk x1 4))).setCell ⟨fb, 2, none⟩ (.slice none 0 0)).setCell ⟨fb, 3, none⟩ (.slice none 0 0)) := ⟨_, rfl⟩
              rw [← hVs]
              obtain ⟨nf0, nf1, nf2, nf3⟩ := set4 f0 f1 f2 f3 (.int .i64 (pk x0 4)) (.int .i64 (pk x1 4)) (.slice none 0 0) (.slice none 0 0)
              rw [← hVs] at nf0 nf1 nf2 nf3
              replace k0 := below_eq hVs (below4 k0 (by omega) _ _ _ _)
              replace c0 := cell_eq hVs (far4 c0 (by omega) _ _ _ _)
              replace c1 := cell_eq hVs (far4 c1 (by omega) _ _ _ _)
              replace c2 := cell_eq hVs (far4 c2 (by omega) _ _ _ _)
              replace c3 := cell_eq hVs (far4 c3 (by omega) _ _ _ _)
              replace zf0 := frz_eq hVs (frz4 zf0 _ _ _ _)
              replace zf1 := frz_eq hVs (frz4 zf1 _ _ _ _)
              replace zf2 := frz_eq hVs (frz4 zf2 _ _ _ _)
              replace zf3 := frz_eq hVs (frz4 zf3 _ _ _ _)
              clear hVs f0 f1 f2 f3
              have f0 := nf0
              have f1 := nf1
              have f2 := nf2
              have f3 := nf3
              clear nf0 nf1 nf2 nf3
              refine hK.out _ _ ⟨c0, c1, c2, c3⟩ (fun hHeld => ?_)
              clear hK K
              (try simp only [Act.put, List.setIfInBounds_toArray, List.set_cons_zero, List.set_cons_succ])
              refine wpAnyH_done (by kernel_rfl) ?_ _
              clear hHeld
              exact ⟨rfl, fb, rfl, hrf, c0, c1, c2, c3, f0, f1, f2, f3, zf2, zf3, k0⟩
          · go_simp
            clear hHeld
            obtain ⟨V1, hV⟩ : ∃ V1, V1 = V0.alloc (.cells #[.int .i64 0, .int .i64 0, .slice none 0 0, .slice none 0 0] 41) := ⟨_, rfl⟩
            obtain ⟨fb, hbx⟩ : ∃ fb, fb = V0.heap.size := ⟨_, rfl⟩
            have hbN : Below V0.heap.size V0 V1 := by rw [hV]; exact (Below.refl _ _).alloc (Nat.le_refl _) _
            have f0 : V1.cell? ⟨fb, 0, none⟩ = some (.int .i64 0) := by rw [hV, hbx]; exact new_cell V0 _ rfl _ _ _ _ rfl
            have f1 : V1.cell? ⟨fb, 1, none⟩ = some (.int .i64 0) := by rw [hV, hbx]; exact new_cell V0 _ rfl _ _ _ _ rfl
            have f2 : V1.cell? ⟨fb, 2, none⟩ = some (.slice none 0 0) := by rw [hV, hbx]; exact new_cell V0 _ rfl _ _ _ _ rfl
            have f3 : V1.cell? ⟨fb, 3, none⟩ = some (.slice none 0 0) := by rw [hV, hbx]; exact new_cell V0 _ rfl _ _ _ _ rfl
            have zf0 : V1.frozen? ⟨fb, 0, none⟩ = false := by rw [hV, hbx]; exact new_frozen V0 _ rfl _ _ _
            have zf1 : V1.frozen? ⟨fb, 1, none⟩ = false := by rw [hV, hbx]; exact new_frozen V0 _ rfl _ _ _
            have zf2 : V1.frozen? ⟨fb, 2, none⟩ = false := by rw [hV, hbx]; exact new_frozen V0 _ rfl _ _ _
            have zf3 : V1.frozen? ⟨fb, 3, none⟩ = false := by rw [hV, hbx]; exact new_frozen V0 _ rfl _ _ _
            have hrf : rb < fb := by rw [hbx]; exact cell_in c0
            have hfb : VV.heap.size ≤ fb := by rw [hbx]; exact k0.size
            replace c0 := cell_beh c0 hbN (Nat.le_refl _)
            replace c1 := cell_beh c1 hbN (Nat.le_refl _)
            replace c2 := cell_beh c2 hbN (Nat.le_refl _)
            replace c3 := cell_beh c3 hbN (Nat.le_refl _)
            replace k0 := k0.trans (hbN.mono k0.size)
            rw [← hV, ← hbx]
            clear hV hbx hbN
            refine hK.out _ _ ⟨c0, c1, c2, c3⟩ (fun hHeld => ?_)
            clear hK K
            (try simp only [Act.put, List.setIfInBounds_toArray, List.set_cons_zero, List.set_cons_succ])
            refine wpAnyH_ready (rs := [2]) (by kernel_rfl) (by simp) ?_
            refine (AllReadyH.cons (o := ⟨some 30, _, _, _, _, _⟩) rfl (fun K hK => ?_) AllReadyH.nil)
            go_simp
            clear hHeld
            refine (picked_any _ _ _ (by omega) (by omega) (by omega) (by omega)).mono ?_
            rintro e W92 ⟨rfl, rfl⟩
            refine hK.out _ _ ⟨c0, c1, c2, c3⟩ (fun hHeld => ?_)
            clear hK K
            (try simp only [Act.put, List.setIfInBounds_toArray, List.set_cons_zero, List.set_cons_succ])
            refine wpAnyH_ready (rs := [5]) (by kernel_rfl) (by simp) ?_
            refine (AllReadyH.cons (o := ⟨some 33, _, _, _, _, _⟩) rfl (fun K hK => ?_) AllReadyH.nil)
            go_simp
            clear hHeld
            refine (picked_any _ _ _ (by omega) (by omega) (by omega) (by omega)).mono ?_
            rintro e W93 ⟨rfl, rfl⟩
            refine hK.out _ _ ⟨c0, c1, c2, c3⟩ (fun hHeld => ?_)
            clear hK K
            (try simp only [Act.put, List.setIfInBounds_toArray, List.set_cons_zero, List.set_cons_succ])
            refine wpAnyH_take (i := 6) (oi := ⟨some 34, _, _, _, _, _⟩) (v := ?v7) rfl (by kernel_rfl) (by kernel_rfl) (by kernel_rfl) (fun _ _ _ h => absurd h.1 (by simp)) (Or.inl ⟨by rfl, ?h7⟩) (by assumption) ?r7
            case h7 => (intro w hSw; (try dsimp only at hSw); go_simp <;> with_reducible rfl)
            (try simp only [Act.put, List.setIfInBounds_toArray, List.set_cons_zero, List.set_cons_succ])
            refine wpAnyH_ready (rs := [8]) (by kernel_rfl) (by simp) ?_
            refine (AllReadyH.cons (o := ⟨none, _, _, _, _, _⟩) rfl (fun K hK => ?_) AllReadyH.nil)
            go_simp
            clear hHeld
            obtain ⟨V, hVs⟩ : ∃ V, V = ((((W93.setCell ⟨fb, 0, none⟩ (.int .i64 (pk x0 4))).setCell ⟨fb, 1, none⟩ (.int .i64 (pk x1 4))).setCell ⟨fb, 2, none⟩ (.slice none 0 0)).setCell ⟨fb, 3, none⟩ (.slice none 0 0)) := ⟨_, rfl⟩
            rw [← hVs]
            obtain ⟨nf0, nf1, nf2, nf3⟩ := set4 f0 f1 f2 f3 (.int .i64 (pk x0 4)) (.int .i64 (pk x1 4)) (.slice none 0 0) (.slice none 0 0)
            rw [← hVs] at nf0 nf1 nf2 nf3
            replace k0 := below_eq hVs (below4 k0 (by omega) _ _ _ _)
            replace c0 := cell_eq hVs (far4 c0 (by omega) _ _ _ _)
            replace c1 := cell_eq hVs (far4 c1 (by omega) _ _ _ _)
            replace c2 := cell_eq hVs (far4 c2 (by omega) _ _ _ _)
            replace c3 := cell_eq hVs (far4 c3 (by omega) _ _ _ _)
            replace zf0 := frz_eq hVs (frz4 zf0 _ _ _ _)
            replace zf1 := frz_eq hVs (frz4 zf1 _ _ _ _)
            replace zf2 := frz_eq hVs (frz4 zf2 _ _ _ _)
            replace zf3 := frz_eq hVs (frz4 zf3 _ _ _ _)
            clear hVs f0 f1 f2 f3
            have f0 := nf0
            have f1 := nf1
            have f2 := nf2
            have f3 := nf3
            clear nf0 nf1 nf2 nf3
            refine hK.out _ _ ⟨c0, c1, c2, c3⟩ (fun hHeld => ?_)
            clear hK K
            (try simp only [Act.put, List.setIfInBounds_toArray, List.set_cons_zero, List.set_cons_succ])
            refine wpAnyH_done (by kernel_rfl) ?_ _
            clear hHeld
            exact ⟨rfl, fb, rfl, hrf, c0, c1, c2, c3, f0, f1, f2, f3, zf2, zf3, k0⟩
        · intro fb W1 hF
          obtain ⟨hrf, c0', c1', c2', c3', f0, f1, f2, f3, zf2, zf3, k1⟩ := hF
          clear c0 c1 c2 c3 k0
          have c0 := c0'
          have c1 := c1'
          have c2 := c2'
          have c3 := c3'
          clear c0' c1' c2' c3'
          go_wp2_with (first | (go_at_call 14; refine (picked_any _ _ _ (by omega) (by omega) (by omega) (by omega)).mono ?_; rintro e W1a ⟨rfl, rfl⟩))
          rename World => W1
          obtain ⟨ip, hip⟩ : ∃ ip : Nat, pk x3 3 = (ip : Int) := ⟨(pk x3 3).toNat, by have := pk_in x3 3 (by omega); omega⟩
          have hip3 : ip < 3 := by have := pk_in x3 3 (by omega); omega
          have hip4 : (ip : Int) < 3 := by omega
          have hip5 : (0 : Int) ≤ (ip : Int) := by omega
          have HPI : Hid (∀ W : World, Calls Try.prog 14 #[.int .i64 x3, .int .i64 3] W fun e w' => e = .returned (.int .i64 (ip : Int)) ∧ w' = W) := fun W => by rw [← hip]; exact picked_any x3 3 W hd0 hd1 (by omega) (by omega)
          have HIP := hide hip
          clear hip
          obtain ⟨t30, t31⟩ := tdiv_half x2 3 (by omega) hc0 hc1
          have v3 := wrap_i64_in (x2.tdiv 3) (by omega) (by omega)
          obtain ⟨t40, t41⟩ := tdiv_half x1 4 (by omega) hb0 hb1
          have v4 := wrap_i64_in (x1.tdiv 4) (by omega) (by omega)
          obtain ⟨pb0, pb1⟩ := pk_in x2 3 (by omega)
          obtain ⟨pa0, pa1⟩ := pk_in (x1.tdiv 4) 4 (by omega)
          go_loopw [38] (fun i wr => ∃ j : Nat, (j : Int) ≤ pk x2 3 ∧ i = .int .i64 j ∧ L1 W1 wr fb (pk x0 4) (pk x1 4) j) (fun i _ => (pk x2 3).toNat - (intOf i).toNat)
          case atStart => exact ⟨0, by omega, rfl, [], _, rfl, by simp, f0, f1, f2, f3, zf2, zf3, ⟨by simp [M], .inl ⟨rfl, rfl⟩⟩, Below.refl _ _⟩
          case round =>
            clear f0 f1 f2 f3 zf2 zf3
            obtain ⟨j, hj, rfl, ms, v, hml, hmb, f0, f1, f2, f3, zf2, zf3, HO, hbr⟩ := hrel
            have HO1 := hide HO
            have HML := hide hml
            have HMB := hide hmb
            clear HO hml hmb
            by_cases hjl : (j : Int) < pk x2 3
            · have e0 : wr.cell? ⟨rb, 0, none⟩ = some (.int .i64 x0) := (hbr.cell (p := ⟨rb, 0, none⟩) hrf).trans c0
              have e1 : wr.cell? ⟨rb, 1, none⟩ = some (.int .i64 x1) := (hbr.cell (p := ⟨rb, 1, none⟩) hrf).trans c1
              have e2 : wr.cell? ⟨rb, 2, none⟩ = some (.int .i64 x2) := (hbr.cell (p := ⟨rb, 2, none⟩) hrf).trans c2
              have e3 : wr.cell? ⟨rb, 3, none⟩ = some (.int .i64 x3) := (hbr.cell (p := ⟨rb, 3, none⟩) hrf).trans c3
              have hfw : fb < wr.heap.size := cell_in f0
              have w3 := wrap_i64_in (x2.tdiv 3 + (j : Int)) (by omega) (by omega)
              obtain ⟨pf0, pf1⟩ := pk_in (x2.tdiv 3 + (j : Int)) 10 (by omega)
              have k0 : Below wr.heap.size wr wr := Below.refl _ _
              go_wp2_with fail
              have hrw2 : rb < wr.heap.size := by omega
              apply wp_same2 (fun mb _ w' => wr.heap.size ≤ mb ∧ w'.cell? ⟨mb, 0, none⟩ = some (.int .i64 (pk (x2.tdiv 3 + (j : Int)) 10)) ∧ w'.cell? ⟨mb, 1, none⟩ = some (.int .i64 (mask ip)) ∧ w'.cell? ⟨mb, 2, none⟩ = some (.int .i64 0) ∧ w'.frozen? ⟨mb, 2, none⟩ = false ∧ Below wr.heap.size wr w')
              · refine wp_region_held_drew (S := (fun w' => w'.cell? ⟨rb, 0, none⟩ = some (.int .i64 x0) ∧ w'.cell? ⟨rb, 1, none⟩ = some (.int .i64 x1) ∧ w'.cell? ⟨rb, 2, none⟩ = some (.int .i64 x2) ∧ w'.cell? ⟨rb, 3, none⟩ = some (.int .i64 x3))) (by kernel_rfl) ⟨e0, e1, e2, e3⟩ (fun hHeld => ?_)
                have HDW : Below wr.heap.size wr wr.drew := (Below.refl _ _).drew
                replace e0 := cell_beh e0 HDW (Nat.le_refl _)
                replace e1 := cell_beh e1 HDW (Nat.le_refl _)
                replace e2 := cell_beh e2 HDW (Nat.le_refl _)
                replace e3 := cell_beh e3 HDW (Nat.le_refl _)
                replace k0 := k0.trans (HDW.mono k0.size)
                clear HDW
                generalize wr.drew = V0 at *
                refine wpAnyH_take (i := 0) (oi := ⟨some 41, _, _, _, _, _⟩) (v := ?v8) rfl (by kernel_rfl) (by kernel_rfl) (by kernel_rfl) (fun _ _ _ h => absurd h.1 (by simp)) (Or.inl ⟨by rfl, ?h8⟩) (by assumption) ?r8
                case h8 => (intro w hSw; (try dsimp only at hSw); go_simp <;> with_reducible rfl)
                (try simp only [Act.put, List.setIfInBounds_toArray, List.set_cons_zero, List.set_cons_succ])
                refine wpAnyH_take (i := 1) (oi := ⟨some 42, _, _, _, _, _⟩) (v := ?v9) rfl (by kernel_rfl) (by kernel_rfl) (by kernel_rfl) (fun _ _ _ h => absurd h.1 (by simp)) (Or.inl ⟨by rfl, ?h9⟩) (by assumption) ?r9
                case h9 => (intro w hSw; (try dsimp only at hSw); go_simp <;> with_reducible rfl)
                (try simp only [Act.put, List.setIfInBounds_toArray, List.set_cons_zero, List.set_cons_succ])
                refine wpAnyH_take (i := 2) (oi := ⟨some 43, _, _, _, _, _⟩) (v := ?v10) rfl (by kernel_rfl) (by kernel_rfl) (by kernel_rfl) (fun _ _ _ h => absurd h.1 (by simp)) (Or.inl ⟨by rfl, ?h10⟩) (by assumption) ?r10
                case h10 => (intro w hSw; (try dsimp only at hSw); go_simp <;> with_reducible rfl)
                (try simp only [Act.put, List.setIfInBounds_toArray, List.set_cons_zero, List.set_cons_succ])
                refine wpAnyH_take (i := 3) (oi := ⟨some 44, _, _, _, _, _⟩) (v := ?v11) rfl (by kernel_rfl) (by kernel_rfl) (by kernel_rfl) (fun _ _ _ h => absurd h.1 (by simp)) (Or.inl ⟨by rfl, ?h11⟩) (by assumption) ?r11
                case h11 => (intro w hSw; (try dsimp only at hSw); go_simp <;> with_reducible rfl)
                (try simp only [Act.put, List.setIfInBounds_toArray, List.set_cons_zero, List.set_cons_succ])
                refine wpAnyH_take (i := 4) (oi := ⟨some 45, _, _, _, _, _⟩) (v := ?v12) rfl (by kernel_rfl) (by kernel_rfl) (by kernel_rfl) (fun _ _ _ h => absurd h.1 (by simp)) (Or.inl ⟨by rfl, ?h12⟩) (by assumption) ?r12
                case h12 => (intro w hSw; (try dsimp only at hSw); go_simp <;> with_reducible rfl)
                (try simp only [Act.put, List.setIfInBounds_toArray, List.set_cons_zero, List.set_cons_succ])
                refine wpAnyH_take (i := 7) (oi := ⟨some 48, _, _, _, _, _⟩) (v := ?v13) rfl (by kernel_rfl) (by kernel_rfl) (by kernel_rfl) (fun _ _ _ h => absurd h.1 (by simp)) (Or.inl ⟨by rfl, ?h13⟩) (by assumption) ?r13
                case h13 => (intro w hSw; (try dsimp only at hSw); go_simp <;> with_reducible rfl)
                (try simp only [Act.put, List.setIfInBounds_toArray, List.set_cons_zero, List.set_cons_succ])
                refine wpAnyH_take (i := 8) (oi := ⟨some 49, _, _, _, _, _⟩) (v := ?v14) rfl (by kernel_rfl) (by kernel_rfl) (by kernel_rfl) (fun _ _ _ h => absurd h.1 (by simp)) (Or.inl ⟨by rfl, ?h14⟩) (by assumption) ?r14
                case h14 => (intro w hSw; (try dsimp only at hSw); go_simp <;> with_reducible rfl)
                (try simp only [Act.put, List.setIfInBounds_toArray, List.set_cons_zero, List.set_cons_succ])
                refine wpAnyH_ready (rs := [5, 6, 13]) (by kernel_rfl) (by simp) ?_
                refine (AllReadyH.cons (o := ⟨some 46, _, _, _, _, _⟩) rfl (fun K hK => ?_) (AllReadyH.cons (o := ⟨some 47, _, _, _, _, _⟩) rfl (fun K hK => ?_) (AllReadyH.cons (o := ⟨some 10, _, _, _, _, _⟩) rfl (fun K hK => ?_) AllReadyH.nil)))
                · go_simp
                  clear hHeld
                  refine (picked_any _ _ _ (by omega) (by omega) (by omega) (by omega)).mono ?_
                  rintro e W91 ⟨rfl, rfl⟩
                  refine hK.out _ _ ⟨e0, e1, e2, e3⟩ (fun hHeld => ?_)
                  clear hK K
                  (try simp only [Act.put, List.setIfInBounds_toArray, List.set_cons_zero, List.set_cons_succ])
                  refine wpAnyH_ready (rs := [6, 9, 13]) (by kernel_rfl) (by simp) ?_
                  refine (AllReadyH.cons (o := ⟨some 47, _, _, _, _, _⟩) rfl (fun K hK => ?_) (AllReadyH.cons (o := ⟨some 50, _, _, _, _, _⟩) rfl (fun K hK => ?_) (AllReadyH.cons (o := ⟨some 10, _, _, _, _, _⟩) rfl (fun K hK => ?_) AllReadyH.nil)))
                  · go_simp
                    clear hHeld
                    obtain ⟨V2, hV⟩ : ∃ V2, V2 = W91.alloc (.cells #[.int .i64 3, .int .i64 1, .int .i64 65535] 3) := ⟨_, rfl⟩
                    obtain ⟨ab, hbx⟩ : ∃ ab, ab = W91.heap.size := ⟨_, rfl⟩
                    have hbN : Below W91.heap.size W91 V2 := by rw [hV]; exact (Below.refl _ _).alloc (Nat.le_refl _) _
                    have ag : V2.cell? ⟨ab, ip, none⟩ = some (.int .i64 (mask ip)) := by rw [hV, hbx]; exact new_cell W91 _ rfl _ _ _ _ (mask_at hip3)
                    replace e0 := cell_beh e0 hbN (Nat.le_refl _)
                    replace e1 := cell_beh e1 hbN (Nat.le_refl _)
                    replace e2 := cell_beh e2 hbN (Nat.le_refl _)
                    replace e3 := cell_beh e3 hbN (Nat.le_refl _)
                    replace k0 := k0.trans (hbN.mono k0.size)
                    rw [← hV, ← hbx]
                    clear hV hbx hbN
                    refine hK.out _ _ ⟨e0, e1, e2, e3⟩ (fun hHeld => ?_)
                    clear hK K
                    (try simp only [Act.put, List.setIfInBounds_toArray, List.set_cons_zero, List.set_cons_succ])
                    refine wpAnyH_ready (rs := [9, 13]) (by kernel_rfl) (by simp) ?_
                    refine (AllReadyH.cons (o := ⟨some 50, _, _, _, _, _⟩) rfl (fun K hK => ?_) (AllReadyH.cons (o := ⟨some 10, _, _, _, _, _⟩) rfl (fun K hK => ?_) AllReadyH.nil))
                    · go_simp
                      clear hHeld
                      refine (unhide HPI _).mono ?_
                      rintro e W93 ⟨rfl, rfl⟩
                      refine hK.out _ _ ⟨e0, e1, e2, e3⟩ (fun hHeld => ?_)
                      clear hK K
                      (try simp only [Act.put, List.setIfInBounds_toArray, List.set_cons_zero, List.set_cons_succ])
                      refine wpAnyH_take (i := 10) (oi := ⟨some 51, _, _, _, _, _⟩) (v := ?v15) rfl (by kernel_rfl) (by kernel_rfl) (by kernel_rfl) (fun _ _ _ h => absurd h.1 (by simp)) (Or.inl ⟨by rfl, ?h15⟩) (by assumption) ?r15
                      case h15 => (intro w hSw; (try dsimp only at hSw); go_simp <;> with_reducible rfl)
                      (try simp only [Act.put, List.setIfInBounds_toArray, List.set_cons_zero, List.set_cons_succ])
                      refine wpAnyH_ready (rs := [11, 13]) (by kernel_rfl) (by simp) ?_
                      refine (AllReadyH.cons (o := ⟨some 52, _, _, _, _, _⟩) rfl (fun K hK => ?_) (AllReadyH.cons (o := ⟨some 10, _, _, _, _, _⟩) rfl (fun K hK => ?_) AllReadyH.nil))
                      · clear hHeld
                        go_simp
                        refine hK.out _ _ ⟨e0, e1, e2, e3⟩ (fun hHeld => ?_)
                        clear hK K
                        (try simp only [Act.put, List.setIfInBounds_toArray, List.set_cons_zero, List.set_cons_succ])
                        refine wpAnyH_take (i := 12) (oi := ⟨some 53, _, _, _, _, _⟩) (v := ?v16) rfl (by kernel_rfl) (by kernel_rfl) (by kernel_rfl) (fun _ _ _ h => absurd h.1 (by simp)) (Or.inl ⟨by rfl, ?h16⟩) (by assumption) ?r16
                        case h16 => (intro w hSw; (try dsimp only at hSw); go_simp <;> with_reducible rfl)
                        (try simp only [Act.put, List.setIfInBounds_toArray, List.set_cons_zero, List.set_cons_succ])
                        refine wpAnyH_ready (rs := [13]) (by kernel_rfl) (by simp) ?_
                        refine (AllReadyH.cons (o := ⟨some 10, _, _, _, _, _⟩) rfl (fun K hK => ?_) AllReadyH.nil)
                        go_simp
                        clear hHeld
                        obtain ⟨V5, hV⟩ : ∃ V5, V5 = W93.alloc (.cells #[.int .i64 0, .int .i64 0, .int .i64 0] 35) := ⟨_, rfl⟩
                        obtain ⟨mb, hbx⟩ : ∃ mb, mb = W93.heap.size := ⟨_, rfl⟩
                        have hbN : Below W93.heap.size W93 V5 := by rw [hV]; exact (Below.refl _ _).alloc (Nat.le_refl _) _
                        have m0 : V5.cell? ⟨mb, 0, none⟩ = some (.int .i64 0) := by rw [hV, hbx]; exact new_cell W93 _ rfl _ _ _ _ rfl
                        have m1 : V5.cell? ⟨mb, 1, none⟩ = some (.int .i64 0) := by rw [hV, hbx]; exact new_cell W93 _ rfl _ _ _ _ rfl
                        have m2 : V5.cell? ⟨mb, 2, none⟩ = some (.int .i64 0) := by rw [hV, hbx]; exact new_cell W93 _ rfl _ _ _ _ rfl
                        have zm0 : V5.frozen? ⟨mb, 0, none⟩ = false := by rw [hV, hbx]; exact new_frozen W93 _ rfl _ _ _
                        have zm1 : V5.frozen? ⟨mb, 1, none⟩ = false := by rw [hV, hbx]; exact new_frozen W93 _ rfl _ _ _
                        have zm2 : V5.frozen? ⟨mb, 2, none⟩ = false := by rw [hV, hbx]; exact new_frozen W93 _ rfl _ _ _
                        have hmb : wr.heap.size ≤ mb := by rw [hbx]; exact k0.size
                        replace e0 := cell_beh e0 hbN (Nat.le_refl _)
                        replace e1 := cell_beh e1 hbN (Nat.le_refl _)
                        replace e2 := cell_beh e2 hbN (Nat.le_refl _)
                        replace e3 := cell_beh e3 hbN (Nat.le_refl _)
                        replace ag := cell_beh ag hbN (Nat.le_refl _)
                        replace k0 := k0.trans (hbN.mono k0.size)
                        rw [← hV, ← hbx]
                        clear hV hbx hbN
                        refine hK.out _ _ ⟨e0, e1, e2, e3⟩ (fun hHeld => ?_)
                        clear hK K
                        (try simp only [Act.put, List.setIfInBounds_toArray, List.set_cons_zero, List.set_cons_succ])
                        refine wpAnyH_ready (rs := [14]) (by kernel_rfl) (by simp) ?_
                        refine (AllReadyH.cons (o := ⟨none, _, _, _, _, _⟩) rfl (fun K hK => ?_) AllReadyH.nil)
                        clear ag
                        have hrm : rb < mb := by omega
                        go_simp
                        clear hHeld
                        obtain ⟨V, hVs⟩ : ∃ V, V = (((V5.setCell ⟨mb, 0, none⟩ (.int .i64 (pk (x2.tdiv 3 + (j : Int)) 10))).setCell ⟨mb, 1, none⟩ (.int .i64 (mask ip))).setCell ⟨mb, 2, none⟩ (.int .i64 0)) := ⟨_, rfl⟩
                        rw [← hVs]
                        obtain ⟨nm0, nm1, nm2⟩ := set3 m0 m1 m2 (.int .i64 (pk (x2.tdiv 3 + (j : Int)) 10)) (.int .i64 (mask ip)) (.int .i64 0)
                        rw [← hVs] at nm0 nm1 nm2
                        replace k0 := below_eq hVs (below3 k0 (by omega) _ _ _)
                        replace e0 := cell_eq hVs (far3 e0 (by omega) _ _ _)
                        replace e1 := cell_eq hVs (far3 e1 (by omega) _ _ _)
                        replace e2 := cell_eq hVs (far3 e2 (by omega) _ _ _)
                        replace e3 := cell_eq hVs (far3 e3 (by omega) _ _ _)
                        replace zm0 := frz_eq hVs (frz3 zm0 _ _ _)
                        replace zm1 := frz_eq hVs (frz3 zm1 _ _ _)
                        replace zm2 := frz_eq hVs (frz3 zm2 _ _ _)
                        clear hVs m0 m1 m2
                        have m0 := nm0
                        have m1 := nm1
                        have m2 := nm2
                        clear nm0 nm1 nm2
                        refine hK.out _ _ ⟨e0, e1, e2, e3⟩ (fun hHeld => ?_)
                        clear hK K
                        (try simp only [Act.put, List.setIfInBounds_toArray, List.set_cons_zero, List.set_cons_succ])
                        refine wpAnyH_done (by kernel_rfl) ?_ _
                        clear hHeld
                        exact ⟨rfl, mb, ab, rfl, hmb, m0, m1, m2, zm2, k0⟩
                      · go_simp
                        clear hHeld
                        obtain ⟨V4, hV⟩ : ∃ V4, V4 = W93.alloc (.cells #[.int .i64 0, .int .i64 0, .int .i64 0] 35) := ⟨_, rfl⟩
                        obtain ⟨mb, hbx⟩ : ∃ mb, mb = W93.heap.size := ⟨_, rfl⟩
                        have hbN : Below W93.heap.size W93 V4 := by rw [hV]; exact (Below.refl _ _).alloc (Nat.le_refl _) _
                        have m0 : V4.cell? ⟨mb, 0, none⟩ = some (.int .i64 0) := by rw [hV, hbx]; exact new_cell W93 _ rfl _ _ _ _ rfl
                        have m1 : V4.cell? ⟨mb, 1, none⟩ = some (.int .i64 0) := by rw [hV, hbx]; exact new_cell W93 _ rfl _ _ _ _ rfl
                        have m2 : V4.cell? ⟨mb, 2, none⟩ = some (.int .i64 0) := by rw [hV, hbx]; exact new_cell W93 _ rfl _ _ _ _ rfl
                        have zm0 : V4.frozen? ⟨mb, 0, none⟩ = false := by rw [hV, hbx]; exact new_frozen W93 _ rfl _ _ _
                        have zm1 : V4.frozen? ⟨mb, 1, none⟩ = false := by rw [hV, hbx]; exact new_frozen W93 _ rfl _ _ _
                        have zm2 : V4.frozen? ⟨mb, 2, none⟩ = false := by rw [hV, hbx]; exact new_frozen W93 _ rfl _ _ _
                        have hmb : wr.heap.size ≤ mb := by rw [hbx]; exact k0.size
                        replace e0 := cell_beh e0 hbN (Nat.le_refl _)
                        replace e1 := cell_beh e1 hbN (Nat.le_refl _)
                        replace e2 := cell_beh e2 hbN (Nat.le_refl _)
                        replace e3 := cell_beh e3 hbN (Nat.le_refl _)
                        replace ag := cell_beh ag hbN (Nat.le_refl _)
                        replace k0 := k0.trans (hbN.mono k0.size)
                        rw [← hV, ← hbx]
                        clear hV hbx hbN
                        refine hK.out _ _ ⟨e0, e1, e2, e3⟩ (fun hHeld => ?_)
                        clear hK K
                        (try simp only [Act.put, List.setIfInBounds_toArray, List.set_cons_zero, List.set_cons_succ])
                        refine wpAnyH_ready (rs := [11]) (by kernel_rfl) (by simp) ?_
                        refine (AllReadyH.cons (o := ⟨some 52, _, _, _, _, _⟩) rfl (fun K hK => ?_) AllReadyH.nil)
                        clear hHeld
                        go_simp
                        refine hK.out _ _ ⟨e0, e1, e2, e3⟩ (fun hHeld => ?_)
                        clear hK K
                        (try simp only [Act.put, List.setIfInBounds_toArray, List.set_cons_zero, List.set_cons_succ])
                        refine wpAnyH_take (i := 12) (oi := ⟨some 53, _, _, _, _, _⟩) (v := ?v17) rfl (by kernel_rfl) (by kernel_rfl) (by kernel_rfl) (fun _ _ _ h => absurd h.1 (by simp)) (Or.inl ⟨by rfl, ?h17⟩) (by assumption) ?r17
                        case h17 => (intro w hSw; (try dsimp only at hSw); go_simp <;> with_reducible rfl)
                        (try simp only [Act.put, List.setIfInBounds_toArray, List.set_cons_zero, List.set_cons_succ])
                        refine wpAnyH_ready (rs := [14]) (by kernel_rfl) (by simp) ?_
                        refine (AllReadyH.cons (o := ⟨none, _, _, _, _, _⟩) rfl (fun K hK => ?_) AllReadyH.nil)
                        clear ag
                        have hrm : rb < mb := by omega
                        go_simp
                        clear hHeld
                        obtain ⟨V, hVs⟩ : ∃ V, V = (((V4.setCell ⟨mb, 0, none⟩ (.int .i64 (pk (x2.tdiv 3 + (j : Int)) 10))).setCell ⟨mb, 1, none⟩ (.int .i64 (mask ip))).setCell ⟨mb, 2, none⟩ (.int .i64 0)) := ⟨_, rfl⟩
                        rw [← hVs]
                        obtain ⟨nm0, nm1, nm2⟩ := set3 m0 m1 m2 (.int .i64 (pk (x2.tdiv 3 + (j : Int)) 10)) (.int .i64 (mask ip)) (.int .i64 0)
                        rw [← hVs] at nm0 nm1 nm2
                        replace k0 := below_eq hVs (below3 k0 (by omega) _ _ _)
                        replace e0 := cell_eq hVs (far3 e0 (by omega) _ _ _)
                        replace e1 := cell_eq hVs (far3 e1 (by omega) _ _ _)
                        replace e2 := cell_eq hVs (far3 e2 (by omega) _ _ _)
                        replace e3 := cell_eq hVs (far3 e3 (by omega) _ _ _)
                        replace zm0 := frz_eq hVs (frz3 zm0 _ _ _)
                        replace zm1 := frz_eq hVs (frz3 zm1 _ _ _)
                        replace zm2 := frz_eq hVs (frz3 zm2 _ _ _)
                        clear hVs m0 m1 m2
                        have m0 := nm0
                        have m1 := nm1
                        have m2 := nm2
                        clear nm0 nm1 nm2
                        refine hK.out _ _ ⟨e0, e1, e2, e3⟩ (fun hHeld => ?_)
                        clear hK K
                        (try simp only [Act.put, List.setIfInBounds_toArray, List.set_cons_zero, List.set_cons_succ])
                        refine wpAnyH_done (by kernel_rfl) ?_ _
                        clear hHeld
                        exact ⟨rfl, mb, ab, rfl, hmb, m0, m1, m2, zm2, k0⟩
                    · go_simp
                      clear hHeld
                      obtain ⟨V3, hV⟩ : ∃ V3, V3 = V2.alloc (.cells #[.int .i64 0, .int .i64 0, .int .i64 0] 35) := ⟨_, rfl⟩
                      obtain ⟨mb, hbx⟩ : ∃ mb, mb = V2.heap.size := ⟨_, rfl⟩
                      have hbN : Below V2.heap.size V2 V3 := by rw [hV]; exact (Below.refl _ _).alloc (Nat.le_refl _) _
                      have m0 : V3.cell? ⟨mb, 0, none⟩ = some (.int .i64 0) := by rw [hV, hbx]; exact new_cell V2 _ rfl _ _ _ _ rfl
                      have m1 : V3.cell? ⟨mb, 1, none⟩ = some (.int .i64 0) := by rw [hV, hbx]; exact new_cell V2 _ rfl _ _ _ _ rfl
                      have m2 : V3.cell? ⟨mb, 2, none⟩ = some (.int .i64 0) := by rw [hV, hbx]; exact new_cell V2 _ rfl _ _ _ _ rfl
                      have zm0 : V3.frozen? ⟨mb, 0, none⟩ = false := by rw [hV, hbx]; exact new_frozen V2 _ rfl _ _ _
                      have zm1 : V3.frozen? ⟨mb, 1, none⟩ = false := by rw [hV, hbx]; exact new_frozen V2 _ rfl _ _ _
                      have zm2 : V3.frozen? ⟨mb, 2, none⟩ = false := by rw [hV, hbx]; exact new_frozen V2 _ rfl _ _ _
                      have hmb : wr.heap.size ≤ mb := by rw [hbx]; exact k0.size
                      replace e0 := cell_beh e0 hbN (Nat.le_refl _)
                      replace e1 := cell_beh e1 hbN (Nat.le_refl _)
                      replace e2 := cell_beh e2 hbN (Nat.le_refl _)
                      replace e3 := cell_beh e3 hbN (Nat.le_refl _)
                      replace ag := cell_beh ag hbN (Nat.le_refl _)
                      replace k0 := k0.trans (hbN.mono k0.size)
                      rw [← hV, ← hbx]
                      clear hV hbx hbN
                      refine hK.out _ _ ⟨e0, e1, e2, e3⟩ (fun hHeld => ?_)
                      clear hK K
                      (try simp only [Act.put, List.setIfInBounds_toArray, List.set_cons_zero, List.set_cons_succ])
                      refine wpAnyH_ready (rs := [9]) (by kernel_rfl) (by simp) ?_
                      refine (AllReadyH.cons (o := ⟨some 50, _, _, _, _, _⟩) rfl (fun K hK => ?_) AllReadyH.nil)
                      go_simp
                      clear hHeld
                      refine (unhide HPI _).mono ?_
                      rintro e W94 ⟨rfl, rfl⟩
                      refine hK.out _ _ ⟨e0, e1, e2, e3⟩ (fun hHeld => ?_)
                      clear hK K
                      (try simp only [Act.put, List.setIfInBounds_toArray, List.set_cons_zero, List.set_cons_succ])
                      refine wpAnyH_take (i := 10) (oi := ⟨some 51, _, _, _, _, _⟩) (v := ?v18) rfl (by kernel_rfl) (by kernel_rfl) (by kernel_rfl) (fun _ _ _ h => absurd h.1 (by simp)) (Or.inl ⟨by rfl, ?h18⟩) (by assumption) ?r18
                      case h18 => (intro w hSw; (try dsimp only at hSw); go_simp <;> with_reducible rfl)
                      (try simp only [Act.put, List.setIfInBounds_toArray, List.set_cons_zero, List.set_cons_succ])
                      refine wpAnyH_ready (rs := [11]) (by kernel_rfl) (by simp) ?_
                      refine (AllReadyH.cons (o := ⟨some 52, _, _, _, _, _⟩) rfl (fun K hK => ?_) AllReadyH.nil)
                      clear hHeld
                      go_simp
                      refine hK.out _ _ ⟨e0, e1, e2, e3⟩ (fun hHeld => ?_)
                      clear hK K
                      (try simp only [Act.put, List.setIfInBounds_toArray, List.set_cons_zero, List.set_cons_succ])
                      refine wpAnyH_take (i := 12) (oi := ⟨some 53, _, _, _, _, _⟩) (v := ?v19) rfl (by kernel_rfl) (by kernel_rfl) (by kernel_rfl) (fun _ _ _ h => absurd h.1 (by simp)) (Or.inl ⟨by rfl, ?h19⟩) (by assumption) ?r19
                      case h19 => (intro w hSw; (try dsimp only at hSw); go_simp <;> with_reducible rfl)
                      (try simp only [Act.put, List.setIfInBounds_toArray, List.set_cons_zero, List.set_cons_succ])
                      refine wpAnyH_ready (rs := [14]) (by kernel_rfl) (by simp) ?_
                      refine (AllReadyH.cons (o := ⟨none, _, _, _, _, _⟩) rfl (fun K hK => ?_) AllReadyH.nil)
                      clear ag
                      have hrm : rb < mb := by omega
                      go_simp
                      clear hHeld
                      obtain ⟨V, hVs⟩ : ∃ V, V = (((W94.setCell ⟨mb, 0, none⟩ (.int .i64 (pk (x2.tdiv 3 + (j : Int)) 10))).setCell ⟨mb, 1, none⟩ (.int .i64 (mask ip))).setCell ⟨mb, 2, none⟩ (.int .i64 0)) := ⟨_, rfl⟩
                      rw [← hVs]
                      obtain ⟨nm0, nm1, nm2⟩ := set3 m0 m1 m2 (.int .i64 (pk (x2.tdiv 3 + (j : Int)) 10)) (.int .i64 (mask ip)) (.int .i64 0)
                      rw [← hVs] at nm0 nm1 nm2
                      replace k0 := below_eq hVs (below3 k0 (by omega) _ _ _)
                      replace e0 := cell_eq hVs (far3 e0 (by omega) _ _ _)
                      replace e1 := cell_eq hVs (far3 e1 (by omega) _ _ _)
                      replace e2 := cell_eq hVs (far3 e2 (by omega) _ _ _)
                      replace e3 := cell_eq hVs (far3 e3 (by omega) _ _ _)
                      replace zm0 := frz_eq hVs (frz3 zm0 _ _ _)
                      replace zm1 := frz_eq hVs (frz3 zm1 _ _ _)
                      replace zm2 := frz_eq hVs (frz3 zm2 _ _ _)
                      clear hVs m0 m1 m2
                      have m0 := nm0
                      have m1 := nm1
                      have m2 := nm2
                      clear nm0 nm1 nm2
                      refine hK.out _ _ ⟨e0, e1, e2, e3⟩ (fun hHeld => ?_)
                      clear hK K
                      (try simp only [Act.put, List.setIfInBounds_toArray, List.set_cons_zero, List.set_cons_succ])
                      refine wpAnyH_done (by kernel_rfl) ?_ _
                      clear hHeld
                      exact ⟨rfl, mb, ab, rfl, hmb, m0, m1, m2, zm2, k0⟩
                  · go_simp
                    clear hHeld
                    refine (unhide HPI _).mono ?_
                    rintro e W92 ⟨rfl, rfl⟩
                    refine hK.out _ _ ⟨e0, e1, e2, e3⟩ (fun hHeld => ?_)
                    clear hK K
                    (try simp only [Act.put, List.setIfInBounds_toArray, List.set_cons_zero, List.set_cons_succ])
                    refine wpAnyH_ready (rs := [6, 13]) (by kernel_rfl) (by simp) ?_
                    refine (AllReadyH.cons (o := ⟨some 47, _, _, _, _, _⟩) rfl (fun K hK => ?_) (AllReadyH.cons (o := ⟨some 10, _, _, _, _, _⟩) rfl (fun K hK => ?_) AllReadyH.nil))
                    · go_simp
                      clear hHeld
                      obtain ⟨V3, hV⟩ : ∃ V3, V3 = W92.alloc (.cells #[.int .i64 3, .int .i64 1, .int .i64 65535] 3) := ⟨_, rfl⟩
                      obtain ⟨ab, hbx⟩ : ∃ ab, ab = W92.heap.size := ⟨_, rfl⟩
                      have hbN : Below W92.heap.size W92 V3 := by rw [hV]; exact (Below.refl _ _).alloc (Nat.le_refl _) _
                      have ag : V3.cell? ⟨ab, ip, none⟩ = some (.int .i64 (mask ip)) := by rw [hV, hbx]; exact new_cell W92 _ rfl _ _ _ _ (mask_at hip3)
                      replace e0 := cell_beh e0 hbN (Nat.le_refl _)
                      replace e1 := cell_beh e1 hbN (Nat.le_refl _)
                      replace e2 := cell_beh e2 hbN (Nat.le_refl _)
                      replace e3 := cell_beh e3 hbN (Nat.le_refl _)
                      replace k0 := k0.trans (hbN.mono k0.size)
                      rw [← hV, ← hbx]
                      clear hV hbx hbN
                      refine hK.out _ _ ⟨e0, e1, e2, e3⟩ (fun hHeld => ?_)
                      clear hK K
                      (try simp only [Act.put, List.setIfInBounds_toArray, List.set_cons_zero, List.set_cons_succ])
                      refine wpAnyH_take (i := 10) (oi := ⟨some 51, _, _, _, _, _⟩) (v := ?v20) rfl (by kernel_rfl) (by kernel_rfl) (by kernel_rfl) (fun _ _ _ h => absurd h.1 (by simp)) (Or.inl ⟨by rfl, ?h20⟩) (by assumption) ?r20
                      case h20 => (intro w hSw; (try dsimp only at hSw); go_simp <;> with_reducible rfl)
                      (try simp only [Act.put, List.setIfInBounds_toArray, List.set_cons_zero, List.set_cons_succ])
                      refine wpAnyH_ready (rs := [11, 13]) (by kernel_rfl) (by simp) ?_
                      refine (AllReadyH.cons (o := ⟨some 52, _, _, _, _, _⟩) rfl (fun K hK => ?_) (AllReadyH.cons (o := ⟨some 10, _, _, _, _, _⟩) rfl (fun K hK => ?_) AllReadyH.nil))
                      · clear hHeld
                        go_simp
                        refine hK.out _ _ ⟨e0, e1, e2, e3⟩ (fun hHeld => ?_)
                        clear hK K
                        (try simp only [Act.put, List.setIfInBounds_toArray, List.set_cons_zero, List.set_cons_succ])
                        refine wpAnyH_take (i := 12) (oi := ⟨some 53, _, _, _, _, _⟩) (v := ?v21) rfl (by kernel_rfl) (by kernel_rfl) (by kernel_rfl) (fun _ _ _ h => absurd h.1 (by simp)) (Or.inl ⟨by rfl, ?h21⟩) (by assumption) ?r21
                        case h21 => (intro w hSw; (try dsimp only at hSw); go_simp <;> with_reducible rfl)
                        (try simp only [Act.put, List.setIfInBounds_toArray, List.set_cons_zero, List.set_cons_succ])
                        refine wpAnyH_ready (rs := [13]) (by kernel_rfl) (by simp) ?_
                        refine (AllReadyH.cons (o := ⟨some 10, _, _, _, _, _⟩) rfl (fun K hK => ?_) AllReadyH.nil)
                        go_simp
                        clear hHeld
                        obtain ⟨V5, hV⟩ : ∃ V5, V5 = V3.alloc (.cells #[.int .i64 0, .int .i64 0, .int .i64 0] 35) := ⟨_, rfl⟩
                        obtain ⟨mb, hbx⟩ : ∃ mb, mb = V3.heap.size := ⟨_, rfl⟩
                        have hbN : Below V3.heap.size V3 V5 := by rw [hV]; exact (Below.refl _ _).alloc (Nat.le_refl _) _
                        have m0 : V5.cell? ⟨mb, 0, none⟩ = some (.int .i64 0) := by rw [hV, hbx]; exact new_cell V3 _ rfl _ _ _ _ rfl
                        have m1 : V5.cell? ⟨mb, 1, none⟩ = some (.int .i64 0) := by rw [hV, hbx]; exact new_cell V3 _ rfl _ _ _ _ rfl
                        have m2 : V5.cell? ⟨mb, 2, none⟩ = some (.int .i64 0) := by rw [hV, hbx]; exact new_cell V3 _ rfl _ _ _ _ rfl
                        have zm0 : V5.frozen? ⟨mb, 0, none⟩ = false := by rw [hV, hbx]; exact new_frozen V3 _ rfl _ _ _
                        have zm1 : V5.frozen? ⟨mb, 1, none⟩ = false := by rw [hV, hbx]; exact new_frozen V3 _ rfl _ _ _
                        have zm2 : V5.frozen? ⟨mb, 2, none⟩ = false := by rw [hV, hbx]; exact new_frozen V3 _ rfl _ _ _
                        have hmb : wr.heap.size ≤ mb := by rw [hbx]; exact k0.size
                        replace e0 := cell_beh e0 hbN (Nat.le_refl _)
                        replace e1 := cell_beh e1 hbN (Nat.le_refl _)
                        replace e2 := cell_beh e2 hbN (Nat.le_refl _)
                        replace e3 := cell_beh e3 hbN (Nat.le_refl _)
                        replace ag := cell_beh ag hbN (Nat.le_refl _)
                        replace k0 := k0.trans (hbN.mono k0.size)
                        rw [← hV, ← hbx]
                        clear hV hbx hbN
                        refine hK.out _ _ ⟨e0, e1, e2, e3⟩ (fun hHeld => ?_)
                        clear hK K
                        (try simp only [Act.put, List.setIfInBounds_toArray, List.set_cons_zero, List.set_cons_succ])
                        refine wpAnyH_ready (rs := [14]) (by kernel_rfl) (by simp) ?_
                        refine (AllReadyH.cons (o := ⟨none, _, _, _, _, _⟩) rfl (fun K hK => ?_) AllReadyH.nil)
                        clear ag
                        have hrm : rb < mb := by omega
                        go_simp
                        clear hHeld
                        obtain ⟨V, hVs⟩ : ∃ V, V = (((V5.setCell ⟨mb, 0, none⟩ (.int .i64 (pk (x2.tdiv 3 + (j : Int)) 10))).setCell ⟨mb, 1, none⟩ (.int .i64 (mask ip))).setCell ⟨mb, 2, none⟩ (.int .i64 0)) := ⟨_, rfl⟩
                        rw [← hVs]
                        obtain ⟨nm0, nm1, nm2⟩ := set3 m0 m1 m2 (.int .i64 (pk (x2.tdiv 3 + (j : Int)) 10)) (.int .i64 (mask ip)) (.int .i64 0)
                        rw [← hVs] at nm0 nm1 nm2
                        replace k0 := below_eq hVs (below3 k0 (by omega) _ _ _)
                        replace e0 := cell_eq hVs (far3 e0 (by omega) _ _ _)
                        replace e1 := cell_eq hVs (far3 e1 (by omega) _ _ _)
                        replace e2 := cell_eq hVs (far3 e2 (by omega) _ _ _)
                        replace e3 := cell_eq hVs (far3 e3 (by omega) _ _ _)
                        replace zm0 := frz_eq hVs (frz3 zm0 _ _ _)
                        replace zm1 := frz_eq hVs (frz3 zm1 _ _ _)
                        replace zm2 := frz_eq hVs (frz3 zm2 _ _ _)
                        clear hVs m0 m1 m2
                        have m0 := nm0
                        have m1 := nm1
                        have m2 := nm2
                        clear nm0 nm1 nm2
                        refine hK.out _ _ ⟨e0, e1, e2, e3⟩ (fun hHeld => ?_)
                        clear hK K
                        (try simp only [Act.put, List.setIfInBounds_toArray, List.set_cons_zero, List.set_cons_succ])
                        refine wpAnyH_done (by kernel_rfl) ?_ _
                        clear hHeld
                        exact ⟨rfl, mb, ab, rfl, hmb, m0, m1, m2, zm2, k0⟩
                      · go_simp
                        clear hHeld
                        obtain ⟨V4, hV⟩ : ∃ V4, V4 = V3.alloc (.cells #[.int .i64 0, .int .i64 0, .int .i64 0] 35) := ⟨_, rfl⟩
                        obtain ⟨mb, hbx⟩ : ∃ mb, mb = V3.heap.size := ⟨_, rfl⟩
                        have hbN : Below V3.heap.size V3 V4 := by rw [hV]; exact (Below.refl _ _).alloc (Nat.le_refl _) _
                        have m0 : V4.cell? ⟨mb, 0, none⟩ = some (.int .i64 0) := by rw [hV, hbx]; exact new_cell V3 _ rfl _ _ _ _ rfl
                        have m1 : V4.cell? ⟨mb, 1, none⟩ = some (.int .i64 0) := by rw [hV, hbx]; exact new_cell V3 _ rfl _ _ _ _ rfl
                        have m2 : V4.cell? ⟨mb, 2, none⟩ = some (.int .i64 0) := by rw [hV, hbx]; exact new_cell V3 _ rfl _ _ _ _ rfl
                        have zm0 : V4.frozen? ⟨mb, 0, none⟩ = false := by rw [hV, hbx]; exact new_frozen V3 _ rfl _ _ _
                        have zm1 : V4.frozen? ⟨mb, 1, none⟩ = false := by rw [hV, hbx]; exact new_frozen V3 _ rfl _ _ _
                        have zm2 : V4.frozen? ⟨mb, 2, none⟩ = false := by rw [hV, hbx]; exact new_frozen V3 _ rfl _ _ _
                        have hmb : wr.heap.size ≤ mb := by rw [hbx]; exact k0.size
                        replace e0 := cell_beh e0 hbN (Nat.le_refl _)
                        replace e1 := cell_beh e1 hbN (Nat.le_refl _)
                        replace e2 := cell_beh e2 hbN (Nat.le_refl _)
                        replace e3 := cell_beh e3 hbN (Nat.le_refl _)
                        replace ag := cell_beh ag hbN (Nat.le_refl _)
                        replace k0 := k0.trans (hbN.mono k0.size)
                        rw [← hV, ← hbx]
                        clear hV hbx hbN
                        refine hK.out _ _ ⟨e0, e1, e2, e3⟩ (fun hHeld => ?_)
                        clear hK K
                        (try simp only [Act.put, List.setIfInBounds_toArray, List.set_cons_zero, List.set_cons_succ])
                        refine wpAnyH_ready (rs := [11]) (by kernel_rfl) (by simp) ?_
                        refine (AllReadyH.cons (o := ⟨some 52, _, _, _, _, _⟩) rfl (fun K hK => ?_) AllReadyH.nil)
                        clear hHeld
                        go_simp
                        refine hK.out _ _ ⟨e0, e1, e2, e3⟩ (fun hHeld => ?_)
                        clear hK K
                        (try simp only [Act.put, List.setIfInBounds_toArray, List.set_cons_zero, List.set_cons_succ])
                        refine wpAnyH_take (i := 12) (oi := ⟨some 53, _, _, _, _, _⟩) (v := ?v22) rfl (by kernel_rfl) (by kernel_rfl) (by kernel_rfl) (fun _ _ _ h => absurd h.1 (by simp)) (Or.inl ⟨by rfl, ?h22⟩) (by assumption) ?r22
                        case h22 => (intro w hSw; (try dsimp only at hSw); go_simp <;> with_reducible rfl)
                        (try simp only [Act.put, List.setIfInBounds_toArray, List.set_cons_zero, List.set_cons_succ])
                        refine wpAnyH_ready (rs := [14]) (by kernel_rfl) (by simp) ?_
                        refine (AllReadyH.cons (o := ⟨none, _, _, _, _, _⟩) rfl (fun K hK => ?_) AllReadyH.nil)
                        clear ag
                        have hrm : rb < mb := by omega
                        go_simp
                        clear hHeld
                        obtain ⟨V, hVs⟩ : ∃ V, V = (((V4.setCell ⟨mb, 0, none⟩ (.int .i64 (pk (x2.tdiv 3 + (j : Int)) 10))).setCell ⟨mb, 1, none⟩ (.int .i64 (mask ip))).setCell ⟨mb, 2, none⟩ (.int .i64 0)) := ⟨_, rfl⟩
                        rw [← hVs]
                        obtain ⟨nm0, nm1, nm2⟩ := set3 m0 m1 m2 (.int .i64 (pk (x2.tdiv 3 + (j : Int)) 10)) (.int .i64 (mask ip)) (.int .i64 0)
                        rw [← hVs] at nm0 nm1 nm2
                        replace k0 := below_eq hVs (below3 k0 (by omega) _ _ _)
                        replace e0 := cell_eq hVs (far3 e0 (by omega) _ _ _)
                        replace e1 := cell_eq hVs (far3 e1 (by omega) _ _ _)
                        replace e2 := cell_eq hVs (far3 e2 (by omega) _ _ _)
                        replace e3 := cell_eq hVs (far3 e3 (by omega) _ _ _)
                        replace zm0 := frz_eq hVs (frz3 zm0 _ _ _)
                        replace zm1 := frz_eq hVs (frz3 zm1 _ _ _)
                        replace zm2 := frz_eq hVs (frz3 zm2 _ _ _)
                        clear hVs m0 m1 m2
                        have m0 := nm0
                        have m1 := nm1
                        have m2 := nm2
                        clear nm0 nm1 nm2
                        refine hK.out _ _ ⟨e0, e1, e2, e3⟩ (fun hHeld => ?_)
                        clear hK K
                        (try simp only [Act.put, List.setIfInBounds_toArray, List.set_cons_zero, List.set_cons_succ])
                        refine wpAnyH_done (by kernel_rfl) ?_ _
                        clear hHeld
                        exact ⟨rfl, mb, ab, rfl, hmb, m0, m1, m2, zm2, k0⟩
                    · go_simp
                      clear hHeld
                      obtain ⟨V3, hV⟩ : ∃ V3, V3 = W92.alloc (.cells #[.int .i64 0, .int .i64 0, .int .i64 0] 35) := ⟨_, rfl⟩
                      obtain ⟨mb, hbx⟩ : ∃ mb, mb = W92.heap.size := ⟨_, rfl⟩
                      have hbN : Below W92.heap.size W92 V3 := by rw [hV]; exact (Below.refl _ _).alloc (Nat.le_refl _) _
                      have m0 : V3.cell? ⟨mb, 0, none⟩ = some (.int .i64 0) := by rw [hV, hbx]; exact new_cell W92 _ rfl _ _ _ _ rfl
                      have m1 : V3.cell? ⟨mb, 1, none⟩ = some (.int .i64 0) := by rw [hV, hbx]; exact new_cell W92 _ rfl _ _ _ _ rfl
                      have m2 : V3.cell? ⟨mb, 2, none⟩ = some (.int .i64 0) := by rw [hV, hbx]; exact new_cell W92 _ rfl _ _ _ _ rfl
                      have zm0 : V3.frozen? ⟨mb, 0, none⟩ = false := by rw [hV, hbx]; exact new_frozen W92 _ rfl _ _ _
                      have zm1 : V3.frozen? ⟨mb, 1, none⟩ = false := by rw [hV, hbx]; exact new_frozen W92 _ rfl _ _ _
                      have zm2 : V3.frozen? ⟨mb, 2, none⟩ = false := by rw [hV, hbx]; exact new_frozen W92 _ rfl _ _ _
                      have hmb : wr.heap.size ≤ mb := by rw [hbx]; exact k0.size
                      replace e0 := cell_beh e0 hbN (Nat.le_refl _)
                      replace e1 := cell_beh e1 hbN (Nat.le_refl _)
                      replace e2 := cell_beh e2 hbN (Nat.le_refl _)
                      replace e3 := cell_beh e3 hbN (Nat.le_refl _)
                      replace k0 := k0.trans (hbN.mono k0.size)
                      rw [← hV, ← hbx]
                      clear hV hbx hbN
                      refine hK.out _ _ ⟨e0, e1, e2, e3⟩ (fun hHeld => ?_)
                      clear hK K
                      (try simp only [Act.put, List.setIfInBounds_toArray, List.set_cons_zero, List.set_cons_succ])
                      refine wpAnyH_ready (rs := [6]) (by kernel_rfl) (by simp) ?_
                      refine (AllReadyH.cons (o := ⟨some 47, _, _, _, _, _⟩) rfl (fun K hK => ?_) AllReadyH.nil)
                      go_simp
                      clear hHeld
                      obtain ⟨V4, hV⟩ : ∃ V4, V4 = V3.alloc (.cells #[.int .i64 3, .int .i64 1, .int .i64 65535] 3) := ⟨_, rfl⟩
                      obtain ⟨ab, hbx⟩ : ∃ ab, ab = V3.heap.size := ⟨_, rfl⟩
                      have hbN : Below V3.heap.size V3 V4 := by rw [hV]; exact (Below.refl _ _).alloc (Nat.le_refl _) _
                      have ag : V4.cell? ⟨ab, ip, none⟩ = some (.int .i64 (mask ip)) := by rw [hV, hbx]; exact new_cell V3 _ rfl _ _ _ _ (mask_at hip3)
                      replace zm0 := (hbN.frozen (p := ⟨mb, 0, none⟩) (cell_in m0)).trans zm0
                      replace zm1 := (hbN.frozen (p := ⟨mb, 1, none⟩) (cell_in m1)).trans zm1
                      replace zm2 := (hbN.frozen (p := ⟨mb, 2, none⟩) (cell_in m2)).trans zm2
                      replace e0 := cell_beh e0 hbN (Nat.le_refl _)
                      replace e1 := cell_beh e1 hbN (Nat.le_refl _)
                      replace e2 := cell_beh e2 hbN (Nat.le_refl _)
                      replace e3 := cell_beh e3 hbN (Nat.le_refl _)
                      replace m0 := cell_beh m0 hbN (Nat.le_refl _)
                      replace m1 := cell_beh m1 hbN (Nat.le_refl _)
                      replace m2 := cell_beh m2 hbN (Nat.le_refl _)
                      replace k0 := k0.trans (hbN.mono k0.size)
                      rw [← hV, ← hbx]
                      clear hV hbx hbN
                      refine hK.out _ _ ⟨e0, e1, e2, e3⟩ (fun hHeld => ?_)
                      clear hK K
                      (try simp only [Act.put, List.setIfInBounds_toArray, List.set_cons_zero, List.set_cons_succ])
                      refine wpAnyH_take (i := 10) (oi := ⟨some 51, _, _, _, _, _⟩) (v := ?v23) rfl (by kernel_rfl) (by kernel_rfl) (by kernel_rfl) (fun _ _ _ h => absurd h.1 (by simp)) (Or.inl ⟨by rfl, ?h23⟩) (by assumption) ?r23
                      case h23 => (intro w hSw; (try dsimp only at hSw); go_simp <;> with_reducible rfl)
                      (try simp only [Act.put, List.setIfInBounds_toArray, List.set_cons_zero, List.set_cons_succ])
                      refine wpAnyH_ready (rs := [11]) (by kernel_rfl) (by simp) ?_
                      refine (AllReadyH.cons (o := ⟨some 52, _, _, _, _, _⟩) rfl (fun K hK => ?_) AllReadyH.nil)
                      clear hHeld
                      go_simp
                      refine hK.out _ _ ⟨e0, e1, e2, e3⟩ (fun hHeld => ?_)
                      clear hK K
                      (try simp only [Act.put, List.setIfInBounds_toArray, List.set_cons_zero, List.set_cons_succ])
                      refine wpAnyH_take (i := 12) (oi := ⟨some 53, _, _, _, _, _⟩) (v := ?v24) rfl (by kernel_rfl) (by kernel_rfl) (by kernel_rfl) (fun _ _ _ h => absurd h.1 (by simp)) (Or.inl ⟨by rfl, ?h24⟩) (by assumption) ?r24
                      case h24 => (intro w hSw; (try dsimp only at hSw); go_simp <;> with_reducible rfl)
                      (try simp only [Act.put, List.setIfInBounds_toArray, List.set_cons_zero, List.set_cons_succ])
                      refine wpAnyH_ready (rs := [14]) (by kernel_rfl) (by simp) ?_
                      refine (AllReadyH.cons (o := ⟨none, _, _, _, _, _⟩) rfl (fun K hK => ?_) AllReadyH.nil)
                      clear ag
                      have hrm : rb < mb := by omega
                      go_simp
                      clear hHeld
                      obtain ⟨V, hVs⟩ : ∃ V, V = (((V4.setCell ⟨mb, 0, none⟩ (.int .i64 (pk (x2.tdiv 3 + (j : Int)) 10))).setCell ⟨mb, 1, none⟩ (.int .i64 (mask ip))).setCell ⟨mb, 2, none⟩ (.int .i64 0)) := ⟨_, rfl⟩
                      rw [← hVs]
                      obtain ⟨nm0, nm1, nm2⟩ := set3 m0 m1 m2 (.int .i64 (pk (x2.tdiv 3 + (j : Int)) 10)) (.int .i64 (mask ip)) (.int .i64 0)
                      rw [← hVs] at nm0 nm1 nm2
                      replace k0 := below_eq hVs (below3 k0 (by omega) _ _ _)
                      replace e0 := cell_eq hVs (far3 e0 (by omega) _ _ _)
                      replace e1 := cell_eq hVs (far3 e1 (by omega) _ _ _)
                      replace e2 := cell_eq hVs (far3 e2 (by omega) _ _ _)
                      replace e3 := cell_eq hVs (far3 e3 (by omega) _ _ _)
                      replace zm0 := frz_eq hVs (frz3 zm0 _ _ _)
                      replace zm1 := frz_eq hVs (frz3 zm1 _ _ _)
                      replace zm2 := frz_eq hVs (frz3 zm2 _ _ _)
                      clear hVs m0 m1 m2
                      have m0 := nm0
                      have m1 := nm1
                      have m2 := nm2
                      clear nm0 nm1 nm2
                      refine hK.out _ _ ⟨e0, e1, e2, e3⟩ (fun hHeld => ?_)
                      clear hK K
                      (try simp only [Act.put, List.setIfInBounds_toArray, List.set_cons_zero, List.set_cons_succ])
                      refine wpAnyH_done (by kernel_rfl) ?_ _
                      clear hHeld
                      exact ⟨rfl, mb, ab, rfl, hmb, m0, m1, m2, zm2, k0⟩
                  · go_simp
                    clear hHeld
                    obtain ⟨V2, hV⟩ : ∃ V2, V2 = W91.alloc (.cells #[.int .i64 0, .int .i64 0, .int .i64 0] 35) := ⟨_, rfl⟩
                    obtain ⟨mb, hbx⟩ : ∃ mb, mb = W91.heap.size := ⟨_, rfl⟩
                    have hbN : Below W91.heap.size W91 V2 := by rw [hV]; exact (Below.refl _ _).alloc (Nat.le_refl _) _
                    have m0 : V2.cell? ⟨mb, 0, none⟩ = some (.int .i64 0) := by rw [hV, hbx]; exact new_cell W91 _ rfl _ _ _ _ rfl
                    have m1 : V2.cell? ⟨mb, 1, none⟩ = some (.int .i64 0) := by rw [hV, hbx]; exact new_cell W91 _ rfl _ _ _ _ rfl
                    have m2 : V2.cell? ⟨mb, 2, none⟩ = some (.int .i64 0) := by rw [hV, hbx]; exact new_cell W91 _ rfl _ _ _ _ rfl
                    have zm0 : V2.frozen? ⟨mb, 0, none⟩ = false := by rw [hV, hbx]; exact new_frozen W91 _ rfl _ _ _
                    have zm1 : V2.frozen? ⟨mb, 1, none⟩ = false := by rw [hV, hbx]; exact new_frozen W91 _ rfl _ _ _
                    have zm2 : V2.frozen? ⟨mb, 2, none⟩ = false := by rw [hV, hbx]; exact new_frozen W91 _ rfl _ _ _
                    have hmb : wr.heap.size ≤ mb := by rw [hbx]; exact k0.size
                    replace e0 := cell_beh e0 hbN (Nat.le_refl _)
                    replace e1 := cell_beh e1 hbN (Nat.le_refl _)
                    replace e2 := cell_beh e2 hbN (Nat.le_refl _)
                    replace e3 := cell_beh e3 hbN (Nat.le_refl _)
                    replace k0 := k0.trans (hbN.mono k0.size)
                    rw [← hV, ← hbx]
                    clear hV hbx hbN
                    refine hK.out _ _ ⟨e0, e1, e2, e3⟩ (fun hHeld => ?_)
                    clear hK K
                    (try simp only [Act.put, List.setIfInBounds_toArray, List.set_cons_zero, List.set_cons_succ])
                    refine wpAnyH_ready (rs := [6, 9]) (by kernel_rfl) (by simp) ?_
                    refine (AllReadyH.cons (o := ⟨some 47, _, _, _, _, _⟩) rfl (fun K hK => ?_) (AllReadyH.cons (o := ⟨some 50, _, _, _, _, _⟩) rfl (fun K hK => ?_) AllReadyH.nil))
                    · go_simp
                      clear hHeld
                      obtain ⟨V3, hV⟩ : ∃ V3, V3 = V2.alloc (.cells #[.int .i64 3, .int .i64 1, .int .i64 65535] 3) := ⟨_, rfl⟩
                      obtain ⟨ab, hbx⟩ : ∃ ab, ab = V2.heap.size := ⟨_, rfl⟩
                      have hbN : Below V2.heap.size V2 V3 := by rw [hV]; exact (Below.refl _ _).alloc (Nat.le_refl _) _
                      have ag : V3.cell? ⟨ab, ip, none⟩ = some (.int .i64 (mask ip)) := by rw [hV, hbx]; exact new_cell V2 _ rfl _ _ _ _ (mask_at hip3)
                      replace zm0 := (hbN.frozen (p := ⟨mb, 0, none⟩) (cell_in m0)).trans zm0
                      replace zm1 := (hbN.frozen (p := ⟨mb, 1, none⟩) (cell_in m1)).trans zm1
                      replace zm2 := (hbN.frozen (p := ⟨mb, 2, none⟩) (cell_in m2)).trans zm2
                      replace e0 := cell_beh e0 hbN (Nat.le_refl _)
                      replace e1 := cell_beh e1 hbN (Nat.le_refl _)
                      replace e2 := cell_beh e2 hbN (Nat.le_refl _)
                      replace e3 := cell_beh e3 hbN (Nat.le_refl _)
                      replace m0 := cell_beh m0 hbN (Nat.le_refl _)
                      replace m1 := cell_beh m1 hbN (Nat.le_refl _)
                      replace m2 := cell_beh m2 hbN (Nat.le_refl _)
                      replace k0 := k0.trans (hbN.mono k0.size)
                      rw [← hV, ← hbx]
                      clear hV hbx hbN
                      refine hK.out _ _ ⟨e0, e1, e2, e3⟩ (fun hHeld => ?_)
                      clear hK K
                      (try simp only [Act.put, List.setIfInBounds_toArray, List.set_cons_zero, List.set_cons_succ])
                      refine wpAnyH_ready (rs := [9]) (by kernel_rfl) (by simp) ?_
                      refine (AllReadyH.cons (o := ⟨some 50, _, _, _, _, _⟩) rfl (fun K hK => ?_) AllReadyH.nil)
                      go_simp
                      clear hHeld
                      refine (unhide HPI _).mono ?_
                      rintro e W94 ⟨rfl, rfl⟩
                      refine hK.out _ _ ⟨e0, e1, e2, e3⟩ (fun hHeld => ?_)
                      clear hK K
                      (try simp only [Act.put, List.setIfInBounds_toArray, List.set_cons_zero, List.set_cons_succ])
                      refine wpAnyH_take (i := 10) (oi := ⟨some 51, _, _, _, _, _⟩) (v := ?v25) rfl (by kernel_rfl) (by kernel_rfl) (by kernel_rfl) (fun _ _ _ h => absurd h.1 (by simp)) (Or.inl ⟨by rfl, ?h25⟩) (by assumption) ?r25
                      case h25 => (intro w hSw; (try dsimp only at hSw); go_simp <;> with_reducible rfl)
                      (try simp only [Act.put, List.setIfInBounds_toArray, List.set_cons_zero, List.set_cons_succ])
                      refine wpAnyH_ready (rs := [11]) (by kernel_rfl) (by simp) ?_
                      refine (AllReadyH.cons (o := ⟨some 52, _, _, _, _, _⟩) rfl (fun K hK => ?_) AllReadyH.nil)
                      clear hHeld
                      go_simp
                      refine hK.out _ _ ⟨e0, e1, e2, e3⟩ (fun hHeld => ?_)
                      clear hK K
                      (try simp only [Act.put, List.setIfInBounds_toArray, List.set_cons_zero, List.set_cons_succ])
                      refine wpAnyH_take (i := 12) (oi := ⟨some 53, _, _, _, _, _⟩) (v := ?v26) rfl (by kernel_rfl) (by kernel_rfl) (by kernel_rfl) (fun _ _ _ h => absurd h.1 (by simp)) (Or.inl ⟨by rfl, ?h26⟩) (by assumption) ?r26
                      case h26 => (intro w hSw; (try dsimp only at hSw); go_simp <;> with_reducible rfl)
                      (try simp only [Act.put, List.setIfInBounds_toArray, List.set_cons_zero, List.set_cons_succ])
                      refine wpAnyH_ready (rs := [14]) (by kernel_rfl) (by simp) ?_
                      refine (AllReadyH.cons (o := ⟨none, _, _, _, _, _⟩) rfl (fun K hK => ?_) AllReadyH.nil)
                      clear ag
                      have hrm : rb < mb := by omega
                      go_simp
                      clear hHeld
                      obtain ⟨V, hVs⟩ : ∃ V, V = (((W94.setCell ⟨mb, 0, none⟩ (.int .i64 (pk (x2.tdiv 3 + (j : Int)) 10))).setCell ⟨mb, 1, none⟩ (.int .i64 (mask ip))).setCell ⟨mb, 2, none⟩ (.int .i64 0)) := ⟨_, rfl⟩
                      rw [← hVs]
                      obtain ⟨nm0, nm1, nm2⟩ := set3 m0 m1 m2 (.int .i64 (pk (x2.tdiv 3 + (j : Int)) 10)) (.int .i64 (mask ip)) (.int .i64 0)
                      rw [← hVs] at nm0 nm1 nm2
                      replace k0 := below_eq hVs (below3 k0 (by omega) _ _ _)
                      replace e0 := cell_eq hVs (far3 e0 (by omega) _ _ _)
                      replace e1 := cell_eq hVs (far3 e1 (by omega) _ _ _)
                      replace e2 := cell_eq hVs (far3 e2 (by omega) _ _ _)
                      replace e3 := cell_eq hVs (far3 e3 (by omega) _ _ _)
                      replace zm0 := frz_eq hVs (frz3 zm0 _ _ _)
                      replace zm1 := frz_eq hVs (frz3 zm1 _ _ _)
                      replace zm2 := frz_eq hVs (frz3 zm2 _ _ _)
                      clear hVs m0 m1 m2
                      have m0 := nm0
                      have m1 := nm1
                      have m2 := nm2
                      clear nm0 nm1 nm2
                      refine hK.out _ _ ⟨e0, e1, e2, e3⟩ (fun hHeld => ?_)
                      clear hK K
                      (try simp only [Act.put, List.setIfInBounds_toArray, List.set_cons_zero, List.set_cons_succ])
                      refine wpAnyH_done (by kernel_rfl) ?_ _
                      clear hHeld
                      exact ⟨rfl, mb, ab, rfl, hmb, m0, m1, m2, zm2, k0⟩
                    · go_simp
                      clear hHeld
                      refine (unhide HPI _).mono ?_
                      rintro e W93 ⟨rfl, rfl⟩
                      refine hK.out _ _ ⟨e0, e1, e2, e3⟩ (fun hHeld => ?_)
                      clear hK K
                      (try simp only [Act.put, List.setIfInBounds_toArray, List.set_cons_zero, List.set_cons_succ])
                      refine wpAnyH_ready (rs := [6]) (by kernel_rfl) (by simp) ?_
                      refine (AllReadyH.cons (o := ⟨some 47, _, _, _, _, _⟩) rfl (fun K hK => ?_) AllReadyH.nil)
                      go_simp
                      clear hHeld
                      obtain ⟨V4, hV⟩ : ∃ V4, V4 = W93.alloc (.cells #[.int .i64 3, .int .i64 1, .int .i64 65535] 3) := ⟨_, rfl⟩
                      obtain ⟨ab, hbx⟩ : ∃ ab, ab = W93.heap.size := ⟨_, rfl⟩
                      have hbN : Below W93.heap.size W93 V4 := by rw [hV]; exact (Below.refl _ _).alloc (Nat.le_refl _) _
                      have ag : V4.cell? ⟨ab, ip, none⟩ = some (.int .i64 (mask ip)) := by rw [hV, hbx]; exact new_cell W93 _ rfl _ _ _ _ (mask_at hip3)
                      replace zm0 := (hbN.frozen (p := ⟨mb, 0, none⟩) (cell_in m0)).trans zm0
                      replace zm1 := (hbN.frozen (p := ⟨mb, 1, none⟩) (cell_in m1)).trans zm1
                      replace zm2 := (hbN.frozen (p := ⟨mb, 2, none⟩) (cell_in m2)).trans zm2
                      replace e0 := cell_beh e0 hbN (Nat.le_refl _)
                      replace e1 := cell_beh e1 hbN (Nat.le_refl _)
                      replace e2 := cell_beh e2 hbN (Nat.le_refl _)
                      replace e3 := cell_beh e3 hbN (Nat.le_refl _)
                      replace m0 := cell_beh m0 hbN (Nat.le_refl _)
                      replace m1 := cell_beh m1 hbN (Nat.le_refl _)
                      replace m2 := cell_beh m2 hbN (Nat.le_refl _)
                      replace k0 := k0.trans (hbN.mono k0.size)
                      rw [← hV, ← hbx]
                      clear hV hbx hbN
                      refine hK.out _ _ ⟨e0, e1, e2, e3⟩ (fun hHeld => ?_)
                      clear hK K
                      (try simp only [Act.put, List.setIfInBounds_toArray, List.set_cons_zero, List.set_cons_succ])
                      refine wpAnyH_take (i := 10) (oi := ⟨some 51, _, _, _, _, _⟩) (v := ?v27) rfl (by kernel_rfl) (by kernel_rfl) (by kernel_rfl) (fun _ _ _ h => absurd h.1 (by simp)) (Or.inl ⟨by rfl, ?h27⟩) (by assumption) ?r27
                      case h27 => (intro w hSw; (try dsimp only at hSw); go_simp <;> with_reducible rfl)
                      (try simp only [Act.put, List.setIfInBounds_toArray, List.set_cons_zero, List.set_cons_succ])
                      refine wpAnyH_ready (rs := [11]) (by kernel_rfl) (by simp) ?_
                      refine (AllReadyH.cons (o := ⟨some 52, _, _, _, _, _⟩) rfl (fun K hK => ?_) AllReadyH.nil)
                      clear hHeld
                      go_simp
                      refine hK.out _ _ ⟨e0, e1, e2, e3⟩ (fun hHeld => ?_)
                      clear hK K
                      (try simp only [Act.put, List.setIfInBounds_toArray, List.set_cons_zero, List.set_cons_succ])
                      refine wpAnyH_take (i := 12) (oi := ⟨some 53, _, _, _, _, _⟩) (v := ?v28) rfl (by kernel_rfl) (by kernel_rfl) (by kernel_rfl) (fun _ _ _ h => absurd h.1 (by simp)) (Or.inl ⟨by rfl, ?h28⟩) (by assumption) ?r28
                      case h28 => (intro w hSw; (try dsimp only at hSw); go_simp <;> with_reducible rfl)
                      (try simp only [Act.put, List.setIfInBounds_toArray, List.set_cons_zero, List.set_cons_succ])
                      refine wpAnyH_ready (rs := [14]) (by kernel_rfl) (by simp) ?_
                      refine (AllReadyH.cons (o := ⟨none, _, _, _, _, _⟩) rfl (fun K hK => ?_) AllReadyH.nil)
                      clear ag
                      have hrm : rb < mb := by omega
                      go_simp
                      clear hHeld
                      obtain ⟨V, hVs⟩ : ∃ V, V = (((V4.setCell ⟨mb, 0, none⟩ (.int .i64 (pk (x2.tdiv 3 + (j : Int)) 10))).setCell ⟨mb, 1, none⟩ (.int .i64 (mask ip))).setCell ⟨mb, 2, none⟩ (.int .i64 0)) := ⟨_, rfl⟩
                      rw [← hVs]
                      obtain ⟨nm0, nm1, nm2⟩ := set3 m0 m1 m2 (.int .i64 (pk (x2.tdiv 3 + (j : Int)) 10)) (.int .i64 (mask ip)) (.int .i64 0)
                      rw [← hVs] at nm0 nm1 nm2
                      replace k0 := below_eq hVs (below3 k0 (by omega) _ _ _)
                      replace e0 := cell_eq hVs (far3 e0 (by omega) _ _ _)
                      replace e1 := cell_eq hVs (far3 e1 (by omega) _ _ _)
                      replace e2 := cell_eq hVs (far3 e2 (by omega) _ _ _)
                      replace e3 := cell_eq hVs (far3 e3 (by omega) _ _ _)
                      replace zm0 := frz_eq hVs (frz3 zm0 _ _ _)
                      replace zm1 := frz_eq hVs (frz3 zm1 _ _ _)
                      replace zm2 := frz_eq hVs (frz3 zm2 _ _ _)
                      clear hVs m0 m1 m2
                      have m0 := nm0
                      have m1 := nm1
                      have m2 := nm2
                      clear nm0 nm1 nm2
                      refine hK.out _ _ ⟨e0, e1, e2, e3⟩ (fun hHeld => ?_)
                      clear hK K
                      (try simp only [Act.put, List.setIfInBounds_toArray, List.set_cons_zero, List.set_cons_succ])
                      refine wpAnyH_done (by kernel_rfl) ?_ _
                      clear hHeld
                      exact ⟨rfl, mb, ab, rfl, hmb, m0, m1, m2, zm2, k0⟩
                · go_simp
                  clear hHeld
                  obtain ⟨V1, hV⟩ : ∃ V1, V1 = V0.alloc (.cells #[.int .i64 3, .int .i64 1, .int .i64 65535] 3) := ⟨_, rfl⟩
                  obtain ⟨ab, hbx⟩ : ∃ ab, ab = V0.heap.size := ⟨_, rfl⟩
                  have hbN : Below V0.heap.size V0 V1 := by rw [hV]; exact (Below.refl _ _).alloc (Nat.le_refl _) _
                  have ag : V1.cell? ⟨ab, ip, none⟩ = some (.int .i64 (mask ip)) := by rw [hV, hbx]; exact new_cell V0 _ rfl _ _ _ _ (mask_at hip3)
                  replace e0 := cell_beh e0 hbN (Nat.le_refl _)
                  replace e1 := cell_beh e1 hbN (Nat.le_refl _)
                  replace e2 := cell_beh e2 hbN (Nat.le_refl _)
                  replace e3 := cell_beh e3 hbN (Nat.le_refl _)
                  replace k0 := k0.trans (hbN.mono k0.size)
                  rw [← hV, ← hbx]
                  clear hV hbx hbN
                  refine hK.out _ _ ⟨e0, e1, e2, e3⟩ (fun hHeld => ?_)
                  clear hK K
                  (try simp only [Act.put, List.setIfInBounds_toArray, List.set_cons_zero, List.set_cons_succ])
                  refine wpAnyH_ready (rs := [5, 13]) (by kernel_rfl) (by simp) ?_
                  refine (AllReadyH.cons (o := ⟨some 46, _, _, _, _, _⟩) rfl (fun K hK => ?_) (AllReadyH.cons (o := ⟨some 10, _, _, _, _, _⟩) rfl (fun K hK => ?_) AllReadyH.nil))
                  · go_simp
                    clear hHeld
                    refine (picked_any _ _ _ (by omega) (by omega) (by omega) (by omega)).mono ?_
                    rintro e W92 ⟨rfl, rfl⟩
                    refine hK.out _ _ ⟨e0, e1, e2, e3⟩ (fun hHeld => ?_)
                    clear hK K
                    (try simp only [Act.put, List.setIfInBounds_toArray, List.set_cons_zero, List.set_cons_succ])
                    refine wpAnyH_ready (rs := [9, 13]) (by kernel_rfl) (by simp) ?_
                    refine (AllReadyH.cons (o := ⟨some 50, _, _, _, _, _⟩) rfl (fun K hK => ?_) (AllReadyH.cons (o := ⟨some 10, _, _, _, _, _⟩) rfl (fun K hK => ?_) AllReadyH.nil))
                    · go_simp
                      clear hHeld
                      refine (unhide HPI _).mono ?_
                      rintro e W93 ⟨rfl, rfl⟩
                      refine hK.out _ _ ⟨e0, e1, e2, e3⟩ (fun hHeld => ?_)
                      clear hK K
                      (try simp only [Act.put, List.setIfInBounds_toArray, List.set_cons_zero, List.set_cons_succ])
                      refine wpAnyH_take (i := 10) (oi := ⟨some 51, _, _, _, _, _⟩) (v := ?v29) rfl (by kernel_rfl) (by kernel_rfl) (by kernel_rfl) (fun _ _ _ h => absurd h.1 (by simp)) (Or.inl ⟨by rfl, ?h29⟩) (by assumption) ?r29
                      case h29 => (intro w hSw; (try dsimp only at hSw); go_simp <;> with_reducible rfl)
                      (try simp only [Act.put, List.setIfInBounds_toArray, List.set_cons_zero, List.set_cons_succ])
                      refine wpAnyH_ready (rs := [11, 13]) (by kernel_rfl) (by simp) ?_
                      refine (AllReadyH.cons (o := ⟨some 52, _, _, _, _, _⟩) rfl (fun K hK => ?_) (AllReadyH.cons (o := ⟨some 10, _, _, _, _, _⟩) rfl (fun K hK => ?_) AllReadyH.nil))
                      · clear hHeld
                        go_simp
                        refine hK.out _ _ ⟨e0, e1, e2, e3⟩ (fun hHeld => ?_)
                        clear hK K
                        (try simp only [Act.put, List.setIfInBounds_toArray, List.set_cons_zero, List.set_cons_succ])
                        refine wpAnyH_take (i := 12) (oi := ⟨some 53, _, _, _, _, _⟩) (v := ?v30) rfl (by kernel_rfl) (by kernel_rfl) (by kernel_rfl) (fun _ _ _ h => absurd h.1 (by simp)) (Or.inl ⟨by rfl, ?h30⟩) (by assumption) ?r30
                        case h30 => (intro w hSw; (try dsimp only at hSw); go_simp <;> with_reducible rfl)
                        (try simp only [Act.put, List.setIfInBounds_toArray, List.set_cons_zero, List.set_cons_succ])
                        refine wpAnyH_ready (rs := [13]) (by kernel_rfl) (by simp) ?_
                        refine (AllReadyH.cons (o := ⟨some 10, _, _, _, _, _⟩) rfl (fun K hK => ?_) AllReadyH.nil)
                        go_simp
                        clear hHeld
                        obtain ⟨V5, hV⟩ : ∃ V5, V5 = W93.alloc (.cells #[.int .i64 0, .int .i64 0, .int .i64 0] 35) := ⟨_, rfl⟩
                        obtain ⟨mb, hbx⟩ : ∃ mb, mb = W93.heap.size := ⟨_, rfl⟩
                        have hbN : Below W93.heap.size W93 V5 := by rw [hV]; exact (Below.refl _ _).alloc (Nat.le_refl _) _
                        have m0 : V5.cell? ⟨mb, 0, none⟩ = some (.int .i64 0) := by rw [hV, hbx]; exact new_cell W93 _ rfl _ _ _ _ rfl
                        have m1 : V5.cell? ⟨mb, 1, none⟩ = some (.int .i64 0) := by rw [hV, hbx]; exact new_cell W93 _ rfl _ _ _ _ rfl
                        have m2 : V5.cell? ⟨mb, 2, none⟩ = some (.int .i64 0) := by rw [hV, hbx]; exact new_cell W93 _ rfl _ _ _ _ rfl
                        have zm0 : V5.frozen? ⟨mb, 0, none⟩ = false := by rw [hV, hbx]; exact new_frozen W93 _ rfl _ _ _
                        have zm1 : V5.frozen? ⟨mb, 1, none⟩ = false := by rw [hV, hbx]; exact new_frozen W93 _ rfl _ _ _
                        have zm2 : V5.frozen? ⟨mb, 2, none⟩ = false := by rw [hV, hbx]; exact new_frozen W93 _ rfl _ _ _
                        have hmb : wr.heap.size ≤ mb := by rw [hbx]; exact k0.size
                        replace e0 := cell_beh e0 hbN (Nat.le_refl _)
                        replace e1 := cell_beh e1 hbN (Nat.le_refl _)
                        replace e2 := cell_beh e2 hbN (Nat.le_refl _)
                        replace e3 := cell_beh e3 hbN (Nat.le_refl _)
                        replace ag := cell_beh ag hbN (Nat.le_refl _)
                        replace k0 := k0.trans (hbN.mono k0.size)
                        rw [← hV, ← hbx]
                        clear hV hbx hbN
                        refine hK.out _ _ ⟨e0, e1, e2, e3⟩ (fun hHeld => ?_)
                        clear hK K
                        (try simp only [Act.put, List.setIfInBounds_toArray, List.set_cons_zero, List.set_cons_succ])
                        refine wpAnyH_ready (rs := [14]) (by kernel_rfl) (by simp) ?_
                        refine (AllReadyH.cons (o := ⟨none, _, _, _, _, _⟩) rfl (fun K hK => ?_) AllReadyH.nil)
                        clear ag
                        have hrm : rb < mb := by omega
                        go_simp
                        clear hHeld
                        obtain ⟨V, hVs⟩ : ∃ V, V = (((V5.setCell ⟨mb, 0, none⟩ (.int .i64 (pk (x2.tdiv 3 + (j : Int)) 10))).setCell ⟨mb, 1, none⟩ (.int .i64 (mask ip))).setCell ⟨mb, 2, none⟩ (.int .i64 0)) := ⟨_, rfl⟩
                        rw [← hVs]
                        obtain ⟨nm0, nm1, nm2⟩ := set3 m0 m1 m2 (.int .i64 (pk (x2.tdiv 3 + (j : Int)) 10)) (.int .i64 (mask ip)) (.int .i64 0)
                        rw [← hVs] at nm0 nm1 nm2
                        replace k0 := below_eq hVs (below3 k0 (by omega) _ _ _)
                        replace e0 := cell_eq hVs (far3 e0 (by omega) _ _ _)
                        replace e1 := cell_eq hVs (far3 e1 (by omega) _ _ _)
                        replace e2 := cell_eq hVs (far3 e2 (by omega) _ _ _)
                        replace e3 := cell_eq hVs (far3 e3 (by omega) _ _ _)
                        replace zm0 := frz_eq hVs (frz3 zm0 _ _ _)
                        replace zm1 := frz_eq hVs (frz3 zm1 _ _ _)
                        replace zm2 := frz_eq hVs (frz3 zm2 _ _ _)
                        clear hVs m0 m1 m2
                        have m0 := nm0
                        have m1 := nm1
                        have m2 := nm2
                        clear nm0 nm1 nm2
                        refine hK.out _ _ ⟨e0, e1, e2, e3⟩ (fun hHeld => ?_)
                        clear hK K
                        (try simp only [Act.put, List.setIfInBounds_toArray, List.set_cons_zero, List.set_cons_succ])
                        refine wpAnyH_done (by kernel_rfl) ?_ _
                        clear hHeld
                        exact ⟨rfl, mb, ab, rfl, hmb, m0, m1, m2, zm2, k0⟩
                      · go_simp
                        clear hHeld
                        obtain ⟨V4, hV⟩ : ∃ V4, V4 = W93.alloc (.cells #[.int .i64 0, .int .i64 0, .int .i64 0] 35) := ⟨_, rfl⟩
                        obtain ⟨mb, hbx⟩ : ∃ mb, mb = W93.heap.size := ⟨_, rfl⟩
                        have hbN : Below W93.heap.size W93 V4 := by rw [hV]; exact (Below.refl _ _).alloc (Nat.le_refl _) _
                        have m0 : V4.cell? ⟨mb, 0, none⟩ = some (.int .i64 0) := by rw [hV, hbx]; exact new_cell W93 _ rfl _ _ _ _ rfl
                        have m1 : V4.cell? ⟨mb, 1, none⟩ = some (.int .i64 0) := by rw [hV, hbx]; exact new_cell W93 _ rfl _ _ _ _ rfl
                        have m2 : V4.cell? ⟨mb, 2, none⟩ = some (.int .i64 0) := by rw [hV, hbx]; exact new_cell W93 _ rfl _ _ _ _ rfl
                        have zm0 : V4.frozen? ⟨mb, 0, none⟩ = false := by rw [hV, hbx]; exact new_frozen W93 _ rfl _ _ _
                        have zm1 : V4.frozen? ⟨mb, 1, none⟩ = false := by rw [hV, hbx]; exact new_frozen W93 _ rfl _ _ _
                        have zm2 : V4.frozen? ⟨mb, 2, none⟩ = false := by rw [hV, hbx]; exact new_frozen W93 _ rfl _ _ _
                        have hmb : wr.heap.size ≤ mb := by rw [hbx]; exact k0.size
                        replace e0 := cell_beh e0 hbN (Nat.le_refl _)
                        replace e1 := cell_beh e1 hbN (Nat.le_refl _)
                        replace e2 := cell_beh e2 hbN (Nat.le_refl _)
                        replace e3 := cell_beh e3 hbN (Nat.le_refl _)
                        replace ag := cell_beh ag hbN (Nat.le_refl _)
                        replace k0 := k0.trans (hbN.mono k0.size)
                        rw [← hV, ← hbx]
                        clear hV hbx hbN
                        refine hK.out _ _ ⟨e0, e1, e2, e3⟩ (fun hHeld => ?_)
                        clear hK K
                        (try simp only [Act.put, List.setIfInBounds_toArray, List.set_cons_zero, List.set_cons_succ])
                        refine wpAnyH_ready (rs := [11]) (by kernel_rfl) (by simp) ?_
                        refine (AllReadyH.cons (o := ⟨some 52, _, _, _, _, _⟩) rfl (fun K hK => ?_) AllReadyH.nil)
                        clear hHeld
                        go_simp
                        refine hK.out _ _ ⟨e0, e1, e2, e3⟩ (fun hHeld => ?_)
                        clear hK K
                        (try simp only [Act.put, List.setIfInBounds_toArray, List.set_cons_zero, List.set_cons_succ])
                        refine wpAnyH_take (i := 12) (oi := ⟨some 53, _, _, _, _, _⟩) (v := ?v31) rfl (by kernel_rfl) (by kernel_rfl) (by kernel_rfl) (fun _ _ _ h => absurd h.1 (by simp)) (Or.inl ⟨by rfl, ?h31⟩) (by assumption) ?r31
                        case h31 => (intro w hSw; (try dsimp only at hSw); go_simp <;> with_reducible rfl)
                        (try simp only [Act.put, List.setIfInBounds_toArray, List.set_cons_zero, List.set_cons_succ])
                        refine wpAnyH_ready (rs := [14]) (by kernel_rfl) (by simp) ?_
                        refine (AllReadyH.cons (o := ⟨none, _, _, _, _, _⟩) rfl (fun K hK => ?_) AllReadyH.nil)
                        clear ag
                        have hrm : rb < mb := by omega
                        go_simp
                        clear hHeld
                        obtain ⟨V, hVs⟩ : ∃ V, V = (((V4.setCell ⟨mb, 0, none⟩ (.int .i64 (pk (x2.tdiv 3 + (j : Int)) 10))).setCell ⟨mb, 1, none⟩ (.int .i64 (mask ip))).setCell ⟨mb, 2, none⟩ (.int .i64 0)) := ⟨_, rfl⟩
                        rw [← hVs]
                        obtain ⟨nm0, nm1, nm2⟩ := set3 m0 m1 m2 (.int .i64 (pk (x2.tdiv 3 + (j : Int)) 10)) (.int .i64 (mask ip)) (.int .i64 0)
                        rw [← hVs] at nm0 nm1 nm2
                        replace k0 := below_eq hVs (below3 k0 (by omega) _ _ _)
                        replace e0 := cell_eq hVs (far3 e0 (by omega) _ _ _)
                        replace e1 := cell_eq hVs (far3 e1 (by omega) _ _ _)
                        replace e2 := cell_eq hVs (far3 e2 (by omega) _ _ _)
                        replace e3 := cell_eq hVs (far3 e3 (by omega) _ _ _)
                        replace zm0 := frz_eq hVs (frz3 zm0 _ _ _)
                        replace zm1 := frz_eq hVs (frz3 zm1 _ _ _)
                        replace zm2 := frz_eq hVs (frz3 zm2 _ _ _)
                        clear hVs m0 m1 m2
                        have m0 := nm0
                        have m1 := nm1
                        have m2 := nm2
                        clear nm0 nm1 nm2
                        refine hK.out _ _ ⟨e0, e1, e2, e3⟩ (fun hHeld => ?_)
                        clear hK K
                        (try simp only [Act.put, List.setIfInBounds_toArray, List.set_cons_zero, List.set_cons_succ])
                        refine wpAnyH_done (by kernel_rfl) ?_ _
                        clear hHeld
                        exact ⟨rfl, mb, ab, rfl, hmb, m0, m1, m2, zm2, k0⟩
                    · go_simp
                      clear hHeld
                      obtain ⟨V3, hV⟩ : ∃ V3, V3 = W92.alloc (.cells #[.int .i64 0, .int .i64 0, .int .i64 0] 35) := ⟨_, rfl⟩
                      obtain ⟨mb, hbx⟩ : ∃ mb, mb = W92.heap.size := ⟨_, rfl⟩
                      have hbN : Below W92.heap.size W92 V3 := by rw [hV]; exact (Below.refl _ _).alloc (Nat.le_refl _) _
                      have m0 : V3.cell? ⟨mb, 0, none⟩ = some (.int .i64 0) := by rw [hV, hbx]; exact new_cell W92 _ rfl _ _ _ _ rfl
                      have m1 : V3.cell? ⟨mb, 1, none⟩ = some (.int .i64 0) := by rw [hV, hbx]; exact new_cell W92 _ rfl _ _ _ _ rfl
                      have m2 : V3.cell? ⟨mb, 2, none⟩ = some (.int .i64 0) := by rw [hV, hbx]; exact new_cell W92 _ rfl _ _ _ _ rfl
                      have zm0 : V3.frozen? ⟨mb, 0, none⟩ = false := by rw [hV, hbx]; exact new_frozen W92 _ rfl _ _ _
                      have zm1 : V3.frozen? ⟨mb, 1, none⟩ = false := by rw [hV, hbx]; exact new_frozen W92 _ rfl _ _ _
                      have zm2 : V3.frozen? ⟨mb, 2, none⟩ = false := by rw [hV, hbx]; exact new_frozen W92 _ rfl _ _ _
                      have hmb : wr.heap.size ≤ mb := by rw [hbx]; exact k0.size
                      replace e0 := cell_beh e0 hbN (Nat.le_refl _)
                      replace e1 := cell_beh e1 hbN (Nat.le_refl _)
                      replace e2 := cell_beh e2 hbN (Nat.le_refl _)
                      replace e3 := cell_beh e3 hbN (Nat.le_refl _)
                      replace ag := cell_beh ag hbN (Nat.le_refl _)
                      replace k0 := k0.trans (hbN.mono k0.size)
                      rw [← hV, ← hbx]
                      clear hV hbx hbN
                      refine hK.out _ _ ⟨e0, e1, e2, e3⟩ (fun hHeld => ?_)
                      clear hK K
                      (try simp only [Act.put, List.setIfInBounds_toArray, List.set_cons_zero, List.set_cons_succ])
                      refine wpAnyH_ready (rs := [9]) (by kernel_rfl) (by simp) ?_
                      refine (AllReadyH.cons (o := ⟨some 50, _, _, _, _, _⟩) rfl (fun K hK => ?_) AllReadyH.nil)
                      go_simp
                      clear hHeld
                      refine (unhide HPI _).mono ?_
                      rintro e W94 ⟨rfl, rfl⟩
                      refine hK.out _ _ ⟨e0, e1, e2, e3⟩ (fun hHeld => ?_)
                      clear hK K
                      (try simp only [Act.put, List.setIfInBounds_toArray, List.set_cons_zero, List.set_cons_succ])
                      refine wpAnyH_take (i := 10) (oi := ⟨some 51, _, _, _, _, _⟩) (v := ?v32) rfl (by kernel_rfl) (by kernel_rfl) (by kernel_rfl) (fun _ _ _ h => absurd h.1 (by simp)) (Or.inl ⟨by rfl, ?h32⟩) (by assumption) ?r32
                      case h32 => (intro w hSw; (try dsimp only at hSw); go_simp <;> with_reducible rfl)
                      (try simp only [Act.put, List.setIfInBounds_toArray, List.set_cons_zero, List.set_cons_succ])
                      refine wpAnyH_ready (rs := [11]) (by kernel_rfl) (by simp) ?_
                      refine (AllReadyH.cons (o := ⟨some 52, _, _, _, _, _⟩) rfl (fun K hK => ?_) AllReadyH.nil)
                      clear hHeld
                      go_simp
                      refine hK.out _ _ ⟨e0, e1, e2, e3⟩ (fun hHeld => ?_)
                      clear hK K
                      (try simp only [Act.put, List.setIfInBounds_toArray, List.set_cons_zero, List.set_cons_succ])
                      refine wpAnyH_take (i := 12) (oi := ⟨some 53, _, _, _, _, _⟩) (v := ?v33) rfl (by kernel_rfl) (by kernel_rfl) (by kernel_rfl) (fun _ _ _ h => absurd h.1 (by simp)) (Or.inl ⟨by rfl, ?h33⟩) (by assumption) ?r33
                      case h33 => (intro w hSw; (try dsimp only at hSw); go_simp <;> with_reducible rfl)
                      (try simp only [Act.put, List.setIfInBounds_toArray, List.set_cons_zero, List.set_cons_succ])
                      refine wpAnyH_ready (rs := [14]) (by kernel_rfl) (by simp) ?_
                      refine (AllReadyH.cons (o := ⟨none, _, _, _, _, _⟩) rfl (fun K hK => ?_) AllReadyH.nil)
                      clear ag
                      have hrm : rb < mb := by omega
                      go_simp
                      clear hHeld
                      obtain ⟨V, hVs⟩ : ∃ V, V = (((W94.setCell ⟨mb, 0, none⟩ (.int .i64 (pk (x2.tdiv 3 + (j : Int)) 10))).setCell ⟨mb, 1, none⟩ (.int .i64 (mask ip))).setCell ⟨mb, 2, none⟩ (.int .i64 0)) := ⟨_, rfl⟩
                      rw [← hVs]
                      obtain ⟨nm0, nm1, nm2⟩ := set3 m0 m1 m2 (.int .i64 (pk (x2.tdiv 3 + (j : Int)) 10)) (.int .i64 (mask ip)) (.int .i64 0)
                      rw [← hVs] at nm0 nm1 nm2
                      replace k0 := below_eq hVs (below3 k0 (by omega) _ _ _)
                      replace e0 := cell_eq hVs (far3 e0 (by omega) _ _ _)
                      replace e1 := cell_eq hVs (far3 e1 (by omega) _ _ _)
                      replace e2 := cell_eq hVs (far3 e2 (by omega) _ _ _)
                      replace e3 := cell_eq hVs (far3 e3 (by omega) _ _ _)
                      replace zm0 := frz_eq hVs (frz3 zm0 _ _ _)
                      replace zm1 := frz_eq hVs (frz3 zm1 _ _ _)
                      replace zm2 := frz_eq hVs (frz3 zm2 _ _ _)
                      clear hVs m0 m1 m2
                      have m0 := nm0
                      have m1 := nm1
                      have m2 := nm2
                      clear nm0 nm1 nm2
                      refine hK.out _ _ ⟨e0, e1, e2, e3⟩ (fun hHeld => ?_)
                      clear hK K
                      (try simp only [Act.put, List.setIfInBounds_toArray, List.set_cons_zero, List.set_cons_succ])
                      refine wpAnyH_done (by kernel_rfl) ?_ _
                      clear hHeld
                      exact ⟨rfl, mb, ab, rfl, hmb, m0, m1, m2, zm2, k0⟩
                  · go_simp
                    clear hHeld
                    obtain ⟨V2, hV⟩ : ∃ V2, V2 = V1.alloc (.cells #[.int .i64 0, .int .i64 0, .int .i64 0] 35) := ⟨_, rfl⟩
                    obtain ⟨mb, hbx⟩ : ∃ mb, mb = V1.heap.size := ⟨_, rfl⟩
                    have hbN : Below V1.heap.size V1 V2 := by rw [hV]; exact (Below.refl _ _).alloc (Nat.le_refl _) _
                    have m0 : V2.cell? ⟨mb, 0, none⟩ = some (.int .i64 0) := by rw [hV, hbx]; exact new_cell V1 _ rfl _ _ _ _ rfl
                    have m1 : V2.cell? ⟨mb, 1, none⟩ = some (.int .i64 0) := by rw [hV, hbx]; exact new_cell V1 _ rfl _ _ _ _ rfl
                    have m2 : V2.cell? ⟨mb, 2, none⟩ = some (.int .i64 0) := by rw [hV, hbx]; exact new_cell V1 _ rfl _ _ _ _ rfl
                    have zm0 : V2.frozen? ⟨mb, 0, none⟩ = false := by rw [hV, hbx]; exact new_frozen V1 _ rfl _ _ _
                    have zm1 : V2.frozen? ⟨mb, 1, none⟩ = false := by rw [hV, hbx]; exact new_frozen V1 _ rfl _ _ _
                    have zm2 : V2.frozen? ⟨mb, 2, none⟩ = false := by rw [hV, hbx]; exact new_frozen V1 _ rfl _ _ _
                    have hmb : wr.heap.size ≤ mb := by rw [hbx]; exact k0.size
                    replace e0 := cell_beh e0 hbN (Nat.le_refl _)
                    replace e1 := cell_beh e1 hbN (Nat.le_refl _)
                    replace e2 := cell_beh e2 hbN (Nat.le_refl _)
                    replace e3 := cell_beh e3 hbN (Nat.le_refl _)
                    replace ag := cell_beh ag hbN (Nat.le_refl _)
                    replace k0 := k0.trans (hbN.mono k0.size)
                    rw [← hV, ← hbx]
                    clear hV hbx hbN
                    refine hK.out _ _ ⟨e0, e1, e2, e3⟩ (fun hHeld => ?_)
                    clear hK K
                    (try simp only [Act.put, List.setIfInBounds_toArray, List.set_cons_zero, List.set_cons_succ])
                    refine wpAnyH_ready (rs := [5]) (by kernel_rfl) (by simp) ?_
                    refine (AllReadyH.cons (o := ⟨some 46, _, _, _, _, _⟩) rfl (fun K hK => ?_) AllReadyH.nil)
                    go_simp
                    clear hHeld
                    refine (picked_any _ _ _ (by omega) (by omega) (by omega) (by omega)).mono ?_
                    rintro e W93 ⟨rfl, rfl⟩
                    refine hK.out _ _ ⟨e0, e1, e2, e3⟩ (fun hHeld => ?_)
                    clear hK K
                    (try simp only [Act.put, List.setIfInBounds_toArray, List.set_cons_zero, List.set_cons_succ])
                    refine wpAnyH_ready (rs := [9]) (by kernel_rfl) (by simp) ?_
                    refine (AllReadyH.cons (o := ⟨some 50, _, _, _, _, _⟩) rfl (fun K hK => ?_) AllReadyH.nil)
                    go_simp
                    clear hHeld
                    refine (unhide HPI _).mono ?_
                    rintro e W94 ⟨rfl, rfl⟩
                    refine hK.out _ _ ⟨e0, e1, e2, e3⟩ (fun hHeld => ?_)
                    clear hK K
                    (try simp only [Act.put, List.setIfInBounds_toArray, List.set_cons_zero, List.set_cons_succ])
                    refine wpAnyH_take (i := 10) (oi := ⟨some 51, _, _, _, _, _⟩) (v := ?v34) rfl (by kernel_rfl) (by kernel_rfl) (by kernel_rfl) (fun _ _ _ h => absurd h.1 (by simp)) (Or.inl ⟨by rfl, ?h34⟩) (by assumption) ?r34
                    case h34 => (intro w hSw; (try dsimp only at hSw); go_simp <;> with_reducible rfl)
                    (try simp only [Act.put, List.setIfInBounds_toArray, List.set_cons_zero, List.set_cons_succ])
                    refine wpAnyH_ready (rs := [11]) (by kernel_rfl) (by simp) ?_
                    refine (AllReadyH.cons (o := ⟨some 52, _, _, _, _, _⟩) rfl (fun K hK => ?_) AllReadyH.nil)
                    clear hHeld
                    go_simp
                    refine hK.out _ _ ⟨e0, e1, e2, e3⟩ (fun hHeld => ?_)
                    clear hK K
                    (try simp only [Act.put, List.setIfInBounds_toArray, List.set_cons_zero, List.set_cons_succ])
                    refine wpAnyH_take (i := 12) (oi := ⟨some 53, _, _, _, _, _⟩) (v := ?v35) rfl (by kernel_rfl) (by kernel_rfl) (by kernel_rfl) (fun _ _ _ h => absurd h.1 (by simp)) (Or.inl ⟨by rfl, ?h35⟩) (by assumption) ?r35
                    case h35 => (intro w hSw; (try dsimp only at hSw); go_simp <;> with_reducible rfl)
                    (try simp only [Act.put, List.setIfInBounds_toArray, List.set_cons_zero, List.set_cons_succ])
                    refine wpAnyH_ready (rs := [14]) (by kernel_rfl) (by simp) ?_
                    refine (AllReadyH.cons (o := ⟨none, _, _, _, _, _⟩) rfl (fun K hK => ?_) AllReadyH.nil)
                    clear ag
                    have hrm : rb < mb := by omega
                    go_simp
                    clear hHeld
                    obtain ⟨V, hVs⟩ : ∃ V, V = (((W94.setCell ⟨mb, 0, none⟩ (.int .i64 (pk (x2.tdiv 3 + (j : Int)) 10))).setCell ⟨mb, 1, none⟩ (.int .i64 (mask ip))).setCell ⟨mb, 2, none⟩ (.int .i64 0)) := ⟨_, rfl⟩
                    rw [← hVs]
                    obtain ⟨nm0, nm1, nm2⟩ := set3 m0 m1 m2 (.int .i64 (pk (x2.tdiv 3 + (j : Int)) 10)) (.int .i64 (mask ip)) (.int .i64 0)
                    rw [← hVs] at nm0 nm1 nm2
                    replace k0 := below_eq hVs (below3 k0 (by omega) _ _ _)
                    replace e0 := cell_eq hVs (far3 e0 (by omega) _ _ _)
                    replace e1 := cell_eq hVs (far3 e1 (by omega) _ _ _)
                    replace e2 := cell_eq hVs (far3 e2 (by omega) _ _ _)
                    replace e3 := cell_eq hVs (far3 e3 (by omega) _ _ _)
                    replace zm0 := frz_eq hVs (frz3 zm0 _ _ _)
                    replace zm1 := frz_eq hVs (frz3 zm1 _ _ _)
                    replace zm2 := frz_eq hVs (frz3 zm2 _ _ _)
                    clear hVs m0 m1 m2
                    have m0 := nm0
                    have m1 := nm1
                    have m2 := nm2
                    clear nm0 nm1 nm2
                    refine hK.out _ _ ⟨e0, e1, e2, e3⟩ (fun hHeld => ?_)
                    clear hK K
                    (try simp only [Act.put, List.setIfInBounds_toArray, List.set_cons_zero, List.set_cons_succ])
                    refine wpAnyH_done (by kernel_rfl) ?_ _
                    clear hHeld
                    exact ⟨rfl, mb, ab, rfl, hmb, m0, m1, m2, zm2, k0⟩
                · go_simp
                  clear hHeld
                  obtain ⟨V1, hV⟩ : ∃ V1, V1 = V0.alloc (.cells #[.int .i64 0, .int .i64 0, .int .i64 0] 35) := ⟨_, rfl⟩
                  obtain ⟨mb, hbx⟩ : ∃ mb, mb = V0.heap.size := ⟨_, rfl⟩
                  have hbN : Below V0.heap.size V0 V1 := by rw [hV]; exact (Below.refl _ _).alloc (Nat.le_refl _) _
                  have m0 : V1.cell? ⟨mb, 0, none⟩ = some (.int .i64 0) := by rw [hV, hbx]; exact new_cell V0 _ rfl _ _ _ _ rfl
                  have m1 : V1.cell? ⟨mb, 1, none⟩ = some (.int .i64 0) := by rw [hV, hbx]; exact new_cell V0 _ rfl _ _ _ _ rfl
                  have m2 : V1.cell? ⟨mb, 2, none⟩ = some (.int .i64 0) := by rw [hV, hbx]; exact new_cell V0 _ rfl _ _ _ _ rfl
                  have zm0 : V1.frozen? ⟨mb, 0, none⟩ = false := by rw [hV, hbx]; exact new_frozen V0 _ rfl _ _ _
                  have zm1 : V1.frozen? ⟨mb, 1, none⟩ = false := by rw [hV, hbx]; exact new_frozen V0 _ rfl _ _ _
                  have zm2 : V1.frozen? ⟨mb, 2, none⟩ = false := by rw [hV, hbx]; exact new_frozen V0 _ rfl _ _ _
                  have hmb : wr.heap.size ≤ mb := by rw [hbx]; exact k0.size
                  replace e0 := cell_beh e0 hbN (Nat.le_refl _)
                  replace e1 := cell_beh e1 hbN (Nat.le_refl _)
                  replace e2 := cell_beh e2 hbN (Nat.le_refl _)
                  replace e3 := cell_beh e3 hbN (Nat.le_refl _)
                  replace k0 := k0.trans (hbN.mono k0.size)
                  rw [← hV, ← hbx]
                  clear hV hbx hbN
                  refine hK.out _ _ ⟨e0, e1, e2, e3⟩ (fun hHeld => ?_)
                  clear hK K
                  (try simp only [Act.put, List.setIfInBounds_toArray, List.set_cons_zero, List.set_cons_succ])
                  refine wpAnyH_ready (rs := [5, 6]) (by kernel_rfl) (by simp) ?_
                  refine (AllReadyH.cons (o := ⟨some 46, _, _, _, _, _⟩) rfl (fun K hK => ?_) (AllReadyH.cons (o := ⟨some 47, _, _, _, _, _⟩) rfl (fun K hK => ?_) AllReadyH.nil))
                  · go_simp
                    clear hHeld
                    refine (picked_any _ _ _ (by omega) (by omega) (by omega) (by omega)).mono ?_
                    rintro e W92 ⟨rfl, rfl⟩
                    refine hK.out _ _ ⟨e0, e1, e2, e3⟩ (fun hHeld => ?_)
                    clear hK K
                    (try simp only [Act.put, List.setIfInBounds_toArray, List.set_cons_zero, List.set_cons_succ])
                    refine wpAnyH_ready (rs := [6, 9]) (by kernel_rfl) (by simp) ?_
                    refine (AllReadyH.cons (o := ⟨some 47, _, _, _, _, _⟩) rfl (fun K hK => ?_) (AllReadyH.cons (o := ⟨some 50, _, _, _, _, _⟩) rfl (fun K hK => ?_) AllReadyH.nil))
                    · go_simp
                      clear hHeld
                      obtain ⟨V3, hV⟩ : ∃ V3, V3 = W92.alloc (.cells #[.int .i64 3, .int .i64 1, .int .i64 65535] 3) := ⟨_, rfl⟩
                      obtain ⟨ab, hbx⟩ : ∃ ab, ab = W92.heap.size := ⟨_, rfl⟩
                      have hbN : Below W92.heap.size W92 V3 := by rw [hV]; exact (Below.refl _ _).alloc (Nat.le_refl _) _
                      have ag : V3.cell? ⟨ab, ip, none⟩ = some (.int .i64 (mask ip)) := by rw [hV, hbx]; exact new_cell W92 _ rfl _ _ _ _ (mask_at hip3)
                      replace zm0 := (hbN.frozen (p := ⟨mb, 0, none⟩) (cell_in m0)).trans zm0
                      replace zm1 := (hbN.frozen (p := ⟨mb, 1, none⟩) (cell_in m1)).trans zm1
                      replace zm2 := (hbN.frozen (p := ⟨mb, 2, none⟩) (cell_in m2)).trans zm2
                      replace e0 := cell_beh e0 hbN (Nat.le_refl _)
                      replace e1 := cell_beh e1 hbN (Nat.le_refl _)
                      replace e2 := cell_beh e2 hbN (Nat.le_refl _)
                      replace e3 := cell_beh e3 hbN (Nat.le_refl _)
                      replace m0 := cell_beh m0 hbN (Nat.le_refl _)
                      replace m1 := cell_beh m1 hbN (Nat.le_refl _)
                      replace m2 := cell_beh m2 hbN (Nat.le_refl _)
                      replace k0 := k0.trans (hbN.mono k0.size)
                      rw [← hV, ← hbx]
                      clear hV hbx hbN
                      refine hK.out _ _ ⟨e0, e1, e2, e3⟩ (fun hHeld => ?_)
                      clear hK K
                      (try simp only [Act.put, List.setIfInBounds_toArray, List.set_cons_zero, List.set_cons_succ])
                      refine wpAnyH_ready (rs := [9]) (by kernel_rfl) (by simp) ?_
                      refine (AllReadyH.cons (o := ⟨some 50, _, _, _, _, _⟩) rfl (fun K hK => ?_) AllReadyH.nil)
                      go_simp
                      clear hHeld
                      refine (unhide HPI _).mono ?_
                      rintro e W94 ⟨rfl, rfl⟩
                      refine hK.out _ _ ⟨e0, e1, e2, e3⟩ (fun hHeld => ?_)
                      clear hK K
                      (try simp only [Act.put, List.setIfInBounds_toArray, List.set_cons_zero, List.set_cons_succ])
                      refine wpAnyH_take (i := 10) (oi := ⟨some 51, _, _, _, _, _⟩) (v := ?v36) rfl (by kernel_rfl) (by kernel_rfl) (by kernel_rfl) (fun _ _ _ h => absurd h.1 (by simp)) (Or.inl ⟨by rfl, ?h36⟩) (by assumption) ?r36
                      case h36 => (intro w hSw; (try dsimp only at hSw); go_simp <;> with_reducible rfl)
                      (try simp only [Act.put, List.setIfInBounds_toArray, List.set_cons_zero, List.set_cons_succ])
                      refine wpAnyH_ready (rs := [11]) (by kernel_rfl) (by simp) ?_
                      refine (AllReadyH.cons (o := ⟨some 52, _, _, _, _, _⟩) rfl (fun K hK => ?_) AllReadyH.nil)
                      clear hHeld
                      go_simp
                      refine hK.out _ _ ⟨e0, e1, e2, e3⟩ (fun hHeld => ?_)
                      clear hK K
                      (try simp only [Act.put, List.setIfInBounds_toArray, List.set_cons_zero, List.set_cons_succ])
                      refine wpAnyH_take (i := 12) (oi := ⟨some 53, _, _, _, _, _⟩) (v := ?v37) rfl (by kernel_rfl) (by kernel_rfl) (by kernel_rfl) (fun _ _ _ h => absurd h.1 (by simp)) (Or.inl ⟨by rfl, ?h37⟩) (by assumption) ?r37
                      case h37 => (intro w hSw; (try dsimp only at hSw); go_simp <;> with_reducible rfl)
                      (try simp only [Act.put, List.setIfInBounds_toArray, List.set_cons_zero, List.set_cons_succ])
                      refine wpAnyH_ready (rs := [14]) (by kernel_rfl) (by simp) ?_
                      refine (AllReadyH.cons (o := ⟨none, _, _, _, _, _⟩) rfl (fun K hK => ?_) AllReadyH.nil)
                      clear ag
                      have hrm : rb < mb := by omega
                      go_simp
                      clear hHeld
                      obtain ⟨V, hVs⟩ : ∃ V, V = (((W94.setCell ⟨mb, 0, none⟩ (.int .i64 (pk (x2.tdiv 3 + (j : Int)) 10))).setCell ⟨mb, 1, none⟩ (.int .i64 (mask ip))).setCell ⟨mb, 2, none⟩ (.int .i64 0)) := ⟨_, rfl⟩
                      rw [← hVs]
                      obtain ⟨nm0, nm1, nm2⟩ := set3 m0 m1 m2 (.int .i64 (pk (x2.tdiv 3 + (j : Int)) 10)) (.int .i64 (mask ip)) (.int .i64 0)
                      rw [← hVs] at nm0 nm1 nm2
                      replace k0 := below_eq hVs (below3 k0 (by omega) _ _ _)
                      replace e0 := cell_eq hVs (far3 e0 (by omega) _ _ _)
                      replace e1 := cell_eq hVs (far3 e1 (by omega) _ _ _)
                      replace e2 := cell_eq hVs (far3 e2 (by omega) _ _ _)
                      replace e3 := cell_eq hVs (far3 e3 (by omega) _ _ _)
                      replace zm0 := frz_eq hVs (frz3 zm0 _ _ _)
                      replace zm1 := frz_eq hVs (frz3 zm1 _ _ _)
                      replace zm2 := frz_eq hVs (frz3 zm2 _ _ _)
                      clear hVs m0 m1 m2
                      have m0 := nm0
                      have m1 := nm1
                      have m2 := nm2
                      clear nm0 nm1 nm2
                      refine hK.out _ _ ⟨e0, e1, e2, e3⟩ (fun hHeld => ?_)
                      clear hK K
                      (try simp only [Act.put, List.setIfInBounds_toArray, List.set_cons_zero, List.set_cons_succ])
                      refine wpAnyH_done (by kernel_rfl) ?_ _
                      clear hHeld
                      exact ⟨rfl, mb, ab, rfl, hmb, m0, m1, m2, zm2, k0⟩
                    · go_simp
                      clear hHeld
                      refine (unhide HPI _).mono ?_
                      rintro e W93 ⟨rfl, rfl⟩
                      refine hK.out _ _ ⟨e0, e1, e2, e3⟩ (fun hHeld => ?_)
                      clear hK K
                      (try simp only [Act.put, List.setIfInBounds_toArray, List.set_cons_zero, List.set_cons_succ])
                      refine wpAnyH_ready (rs := [6]) (by kernel_rfl) (by simp) ?_
                      refine (AllReadyH.cons (o := ⟨some 47, _, _, _, _, _⟩) rfl (fun K hK => ?_) AllReadyH.nil)
                      go_simp
                      clear hHeld
                      obtain ⟨V4, hV⟩ : ∃ V4, V4 = W93.alloc (.cells #[.int .i64 3, .int .i64 1, .int .i64 65535] 3) := ⟨_, rfl⟩
                      obtain ⟨ab, hbx⟩ : ∃ ab, ab = W93.heap.size := ⟨_, rfl⟩
                      have hbN : Below W93.heap.size W93 V4 := by rw [hV]; exact (Below.refl _ _).alloc (Nat.le_refl _) _
                      have ag : V4.cell? ⟨ab, ip, none⟩ = some (.int .i64 (mask ip)) := by rw [hV, hbx]; exact new_cell W93 _ rfl _ _ _ _ (mask_at hip3)
                      replace zm0 := (hbN.frozen (p := ⟨mb, 0, none⟩) (cell_in m0)).trans zm0
                      replace zm1 := (hbN.frozen (p := ⟨mb, 1, none⟩) (cell_in m1)).trans zm1
                      replace zm2 := (hbN.frozen (p := ⟨mb, 2, none⟩) (cell_in m2)).trans zm2
                      replace e0 := cell_beh e0 hbN (Nat.le_refl _)
                      replace e1 := cell_beh e1 hbN (Nat.le_refl _)
                      replace e2 := cell_beh e2 hbN (Nat.le_refl _)
                      replace e3 := cell_beh e3 hbN (Nat.le_refl _)
                      replace m0 := cell_beh m0 hbN (Nat.le_refl _)
                      replace m1 := cell_beh m1 hbN (Nat.le_refl _)
                      replace m2 := cell_beh m2 hbN (Nat.le_refl _)
                      replace k0 := k0.trans (hbN.mono k0.size)
                      rw [← hV, ← hbx]
                      clear hV hbx hbN
                      refine hK.out _ _ ⟨e0, e1, e2, e3⟩ (fun hHeld => ?_)
                      clear hK K
                      (try simp only [Act.put, List.setIfInBounds_toArray, List.set_cons_zero, List.set_cons_succ])
                      refine wpAnyH_take (i := 10) (oi := ⟨some 51, _, _, _, _, _⟩) (v := ?v38) rfl (by kernel_rfl) (by kernel_rfl) (by kernel_rfl) (fun _ _ _ h => absurd h.1 (by simp)) (Or.inl ⟨by rfl, ?h38⟩) (by assumption) ?r38
                      case h38 => (intro w hSw; (try dsimp only at hSw); go_simp <;> with_reducible rfl)
                      (try simp only [Act.put, List.setIfInBounds_toArray, List.set_cons_zero, List.set_cons_succ])
                      refine wpAnyH_ready (rs := [11]) (by kernel_rfl) (by simp) ?_
                      refine (AllReadyH.cons (o := ⟨some 52, _, _, _, _, _⟩) rfl (fun K hK => ?_) AllReadyH.nil)
                      clear hHeld
                      go_simp
                      refine hK.out _ _ ⟨e0, e1, e2, e3⟩ (fun hHeld => ?_)
                      clear hK K
                      (try simp only [Act.put, List.setIfInBounds_toArray, List.set_cons_zero, List.set_cons_succ])
                      refine wpAnyH_take (i := 12) (oi := ⟨some 53, _, _, _, _, _⟩) (v := ?v39) rfl (by kernel_rfl) (by kernel_rfl) (by kernel_rfl) (fun _ _ _ h => absurd h.1 (by simp)) (Or.inl ⟨by rfl, ?h39⟩) (by assumption) ?r39
                      case h39 => (intro w hSw; (try dsimp only at hSw); go_simp <;> with_reducible rfl)
                      (try simp only [Act.put, List.setIfInBounds_toArray, List.set_cons_zero, List.set_cons_succ])
                      refine wpAnyH_ready (rs := [14]) (by kernel_rfl) (by simp) ?_
                      refine (AllReadyH.cons (o := ⟨none, _, _, _, _, _⟩) rfl (fun K hK => ?_) AllReadyH.nil)
                      clear ag
                      have hrm : rb < mb := by omega
                      go_simp
                      clear hHeld
                      obtain ⟨V, hVs⟩ : ∃ V, V = (((V4.setCell ⟨mb, 0, none⟩ (.int .i64 (pk (x2.tdiv 3 + (j : Int)) 10))).setCell ⟨mb, 1, none⟩ (.int .i64 (mask ip))).setCell ⟨mb, 2, none⟩ (.int .i64 0)) := ⟨_, rfl⟩
                      rw [← hVs]
                      obtain ⟨nm0, nm1, nm2⟩ := set3 m0 m1 m2 (.int .i64 (pk (x2.tdiv 3 + (j : Int)) 10)) (.int .i64 (mask ip)) (.int .i64 0)
                      rw [← hVs] at nm0 nm1 nm2
                      replace k0 := below_eq hVs (below3 k0 (by omega) _ _ _)
                      replace e0 := cell_eq hVs (far3 e0 (by omega) _ _ _)
                      replace e1 := cell_eq hVs (far3 e1 (by omega) _ _ _)
                      replace e2 := cell_eq hVs (far3 e2 (by omega) _ _ _)
                      replace e3 := cell_eq hVs (far3 e3 (by omega) _ _ _)
                      replace zm0 := frz_eq hVs (frz3 zm0 _ _ _)
                      replace zm1 := frz_eq hVs (frz3 zm1 _ _ _)
                      replace zm2 := frz_eq hVs (frz3 zm2 _ _ _)
                      clear hVs m0 m1 m2
                      have m0 := nm0
                      have m1 := nm1
                      have m2 := nm2
                      clear nm0 nm1 nm2
                      refine hK.out _ _ ⟨e0, e1, e2, e3⟩ (fun hHeld => ?_)
                      clear hK K
                      (try simp only [Act.put, List.setIfInBounds_toArray, List.set_cons_zero, List.set_cons_succ])
                      refine wpAnyH_done (by kernel_rfl) ?_ _
                      clear hHeld
                      exact ⟨rfl, mb, ab, rfl, hmb, m0, m1, m2, zm2, k0⟩
                  · go_simp
                    clear hHeld
                    obtain ⟨V2, hV⟩ : ∃ V2, V2 = V1.alloc (.cells #[.int .i64 3, .int .i64 1, .int .i64 65535] 3) := ⟨_, rfl⟩
                    obtain ⟨ab, hbx⟩ : ∃ ab, ab = V1.heap.size := ⟨_, rfl⟩
                    have hbN : Below V1.heap.size V1 V2 := by rw [hV]; exact (Below.refl _ _).alloc (Nat.le_refl _) _
                    have ag : V2.cell? ⟨ab, ip, none⟩ = some (.int .i64 (mask ip)) := by rw [hV, hbx]; exact new_cell V1 _ rfl _ _ _ _ (mask_at hip3)
                    replace zm0 := (hbN.frozen (p := ⟨mb, 0, none⟩) (cell_in m0)).trans zm0
                    replace zm1 := (hbN.frozen (p := ⟨mb, 1, none⟩) (cell_in m1)).trans zm1
                    replace zm2 := (hbN.frozen (p := ⟨mb, 2, none⟩) (cell_in m2)).trans zm2
                    replace e0 := cell_beh e0 hbN (Nat.le_refl _)
                    replace e1 := cell_beh e1 hbN (Nat.le_refl _)
                    replace e2 := cell_beh e2 hbN (Nat.le_refl _)
                    replace e3 := cell_beh e3 hbN (Nat.le_refl _)
                    replace m0 := cell_beh m0 hbN (Nat.le_refl _)
                    replace m1 := cell_beh m1 hbN (Nat.le_refl _)
                    replace m2 := cell_beh m2 hbN (Nat.le_refl _)
                    replace k0 := k0.trans (hbN.mono k0.size)
                    rw [← hV, ← hbx]
                    clear hV hbx hbN
                    refine hK.out _ _ ⟨e0, e1, e2, e3⟩ (fun hHeld => ?_)
                    clear hK K
                    (try simp only [Act.put, List.setIfInBounds_toArray, List.set_cons_zero, List.set_cons_succ])
                    refine wpAnyH_ready (rs := [5]) (by kernel_rfl) (by simp) ?_
                    refine (AllReadyH.cons (o := ⟨some 46, _, _, _, _, _⟩) rfl (fun K hK => ?_) AllReadyH.nil)
                    go_simp
                    clear hHeld
                    refine (picked_any _ _ _ (by omega) (by omega) (by omega) (by omega)).mono ?_
                    rintro e W93 ⟨rfl, rfl⟩
                    refine hK.out _ _ ⟨e0, e1, e2, e3⟩ (fun hHeld => ?_)
                    clear hK K
                    (try simp only [Act.put, List.setIfInBounds_toArray, List.set_cons_zero, List.set_cons_succ])
                    refine wpAnyH_ready (rs := [9]) (by kernel_rfl) (by simp) ?_
                    refine (AllReadyH.cons (o := ⟨some 50, _, _, _, _, _⟩) rfl (fun K hK => ?_) AllReadyH.nil)
                    go_simp
                    clear hHeld
                    refine (unhide HPI _).mono ?_
                    rintro e W94 ⟨rfl, rfl⟩
                    refine hK.out _ _ ⟨e0, e1, e2, e3⟩ (fun hHeld => ?_)
                    clear hK K
                    (try simp only [Act.put, List.setIfInBounds_toArray, List.set_cons_zero, List.set_cons_succ])
                    refine wpAnyH_take (i := 10) (oi := ⟨some 51, _, _, _, _, _⟩) (v := ?v40) rfl (by kernel_rfl) (by kernel_rfl) (by kernel_rfl) (fun _ _ _ h => absurd h.1 (by simp)) (Or.inl ⟨by rfl, ?h40⟩) (by assumption) ?r40
                    case h40 => (intro w hSw; (try dsimp only at hSw); go_simp <;> with_reducible rfl)
                    (try simp only [Act.put, List.setIfInBounds_toArray, List.set_cons_zero, List.set_cons_succ])
                    refine wpAnyH_ready (rs := [11]) (by kernel_rfl) (by simp) ?_
                    refine (AllReadyH.cons (o := ⟨some 52, _, _, _, _, _⟩) rfl (fun K hK => ?_) AllReadyH.nil)
                    clear hHeld
                    go_simp
                    refine hK.out _ _ ⟨e0, e1, e2, e3⟩ (fun hHeld => ?_)
                    clear hK K
                    (try simp only [Act.put, List.setIfInBounds_toArray, List.set_cons_zero, List.set_cons_succ])
                    refine wpAnyH_take (i := 12) (oi := ⟨some 53, _, _, _, _, _⟩) (v := ?v41) rfl (by kernel_rfl) (by kernel_rfl) (by kernel_rfl) (fun _ _ _ h => absurd h.1 (by simp)) (Or.inl ⟨by rfl, ?h41⟩) (by assumption) ?r41
                    case h41 => (intro w hSw; (try dsimp only at hSw); go_simp <;> with_reducible rfl)
                    (try simp only [Act.put, List.setIfInBounds_toArray, List.set_cons_zero, List.set_cons_succ])
                    refine wpAnyH_ready (rs := [14]) (by kernel_rfl) (by simp) ?_
                    refine (AllReadyH.cons (o := ⟨none, _, _, _, _, _⟩) rfl (fun K hK => ?_) AllReadyH.nil)
                    clear ag
                    have hrm : rb < mb := by omega
                    go_simp
                    clear hHeld
                    obtain ⟨V, hVs⟩ : ∃ V, V = (((W94.setCell ⟨mb, 0, none⟩ (.int .i64 (pk (x2.tdiv 3 + (j : Int)) 10))).setCell ⟨mb, 1, none⟩ (.int .i64 (mask ip))).setCell ⟨mb, 2, none⟩ (.int .i64 0)) := ⟨_, rfl⟩
                    rw [← hVs]
                    obtain ⟨nm0, nm1, nm2⟩ := set3 m0 m1 m2 (.int .i64 (pk (x2.tdiv 3 + (j : Int)) 10)) (.int .i64 (mask ip)) (.int .i64 0)
                    rw [← hVs] at nm0 nm1 nm2
                    replace k0 := below_eq hVs (below3 k0 (by omega) _ _ _)
                    replace e0 := cell_eq hVs (far3 e0 (by omega) _ _ _)
                    replace e1 := cell_eq hVs (far3 e1 (by omega) _ _ _)
                    replace e2 := cell_eq hVs (far3 e2 (by omega) _ _ _)
                    replace e3 := cell_eq hVs (far3 e3 (by omega) _ _ _)
                    replace zm0 := frz_eq hVs (frz3 zm0 _ _ _)
                    replace zm1 := frz_eq hVs (frz3 zm1 _ _ _)
                    replace zm2 := frz_eq hVs (frz3 zm2 _ _ _)
                    clear hVs m0 m1 m2
                    have m0 := nm0
                    have m1 := nm1
                    have m2 := nm2
                    clear nm0 nm1 nm2
                    refine hK.out _ _ ⟨e0, e1, e2, e3⟩ (fun hHeld => ?_)
                    clear hK K
                    (try simp only [Act.put, List.setIfInBounds_toArray, List.set_cons_zero, List.set_cons_succ])
                    refine wpAnyH_done (by kernel_rfl) ?_ _
                    clear hHeld
                    exact ⟨rfl, mb, ab, rfl, hmb, m0, m1, m2, zm2, k0⟩
              · intro mb ab W2 hF
                obtain ⟨hmw, m0, m1, m2, zm2, k2⟩ := hF
                go_wp2_with fail
                have g0 := cell_beh e0 k2 (Nat.le_refl _)
                have g1 := cell_beh e1 k2 (Nat.le_refl _)
                have g2 := cell_beh e2 k2 (Nat.le_refl _)
                have g3 := cell_beh e3 k2 (Nat.le_refl _)
                clear e0 e1 e2 e3
                have hmx := mask_in hip3
                have hand := and_mask (n := pk (x1.tdiv 4) 4) (m := mask ip) pa0 (by omega) hmx.1 hmx.2
                refine wp_region_held_drew (S := (fun w' => w'.cell? ⟨rb, 0, none⟩ = some (.int .i64 x0) ∧ w'.cell? ⟨rb, 1, none⟩ = some (.int .i64 x1) ∧ w'.cell? ⟨rb, 2, none⟩ = some (.int .i64 x2) ∧ w'.cell? ⟨rb, 3, none⟩ = some (.int .i64 x3) ∧ w'.cell? ⟨mb, 0, none⟩ = some (.int .i64 (pk (x2.tdiv 3 + (j : Int)) 10)) ∧ w'.cell? ⟨mb, 1, none⟩ = some (.int .i64 (mask ip)))) (by kernel_rfl) ⟨g0, g1, g2, g3, m0, m1⟩ (fun hHeld => ?_)
                have HDW : Below W2.heap.size W2 W2.drew := (Below.refl _ _).drew
                replace zm2 := (HDW.frozen (p := ⟨mb, 2, none⟩) (cell_in m2)).trans zm2
                replace g0 := cell_beh g0 HDW (Nat.le_refl _)
                replace g1 := cell_beh g1 HDW (Nat.le_refl _)
                replace g2 := cell_beh g2 HDW (Nat.le_refl _)
                replace g3 := cell_beh g3 HDW (Nat.le_refl _)
                replace m0 := cell_beh m0 HDW (Nat.le_refl _)
                replace m1 := cell_beh m1 HDW (Nat.le_refl _)
                replace m2 := cell_beh m2 HDW (Nat.le_refl _)
                replace k2 := k2.trans (HDW.mono k2.size)
                clear HDW
                generalize W2.drew = V0 at *
                refine wpAnyH_take (i := 0) (oi := ⟨some 54, _, _, _, _, _⟩) (v := ?v42) rfl (by kernel_rfl) (by kernel_rfl) (by kernel_rfl) (fun _ _ _ h => h) (Or.inl ⟨by rfl, ?h42⟩) (by assumption) ?r42
                case h42 => (intro w hSw; (try dsimp only at hSw); go_simp <;> with_reducible rfl)
                (try simp only [Act.put, List.setIfInBounds_toArray, List.set_cons_zero, List.set_cons_succ])
                refine wpAnyH_take (i := 1) (oi := ⟨some 55, _, _, _, _, _⟩) (v := ?v43) rfl (by kernel_rfl) (by kernel_rfl) (by kernel_rfl) (fun _ _ _ h => h) (Or.inl ⟨by rfl, ?h43⟩) (by assumption) ?r43
                case h43 => (intro w hSw; (try dsimp only at hSw); go_simp <;> with_reducible rfl)
                (try simp only [Act.put, List.setIfInBounds_toArray, List.set_cons_zero, List.set_cons_succ])
                refine wpAnyH_take (i := 2) (oi := ⟨some 56, _, _, _, _, _⟩) (v := ?v44) rfl (by kernel_rfl) (by kernel_rfl) (by kernel_rfl) (fun _ _ _ h => h) (Or.inl ⟨by rfl, ?h44⟩) (by assumption) ?r44
                case h44 => (intro w hSw; (try dsimp only at hSw); go_simp <;> with_reducible rfl)
                (try simp only [Act.put, List.setIfInBounds_toArray, List.set_cons_zero, List.set_cons_succ])
                refine wpAnyH_take (i := 4) (oi := ⟨some 58, _, _, _, _, _⟩) (v := ?v45) rfl (by kernel_rfl) (by kernel_rfl) (by kernel_rfl) (fun _ _ _ h => h) (Or.inl ⟨by rfl, ?h45⟩) (by assumption) ?r45
                case h45 => (intro w hSw; (try dsimp only at hSw); go_simp <;> with_reducible rfl)
                (try simp only [Act.put, List.setIfInBounds_toArray, List.set_cons_zero, List.set_cons_succ])
                refine wpAnyH_take (i := 5) (oi := ⟨some 59, _, _, _, _, _⟩) (v := ?v46) rfl (by kernel_rfl) (by kernel_rfl) (by kernel_rfl) (fun _ _ _ h => h) (Or.inl ⟨by rfl, ?h46⟩) (by assumption) ?r46
                case h46 => (intro w hSw; (try dsimp only at hSw); go_simp <;> with_reducible rfl)
                (try simp only [Act.put, List.setIfInBounds_toArray, List.set_cons_zero, List.set_cons_succ])
                refine wpAnyH_ready (rs := [3]) (by kernel_rfl) (by simp) ?_
                refine (AllReadyH.cons (o := ⟨some 57, _, _, _, _, _⟩) rfl (fun K hK => ?_) AllReadyH.nil)
                go_simp
                clear hHeld
                refine (picked_any _ _ _ (by omega) (by omega) (by omega) (by omega)).mono ?_
                rintro e W91 ⟨rfl, rfl⟩
                refine hK.out _ _ ⟨g0, g1, g2, g3, m0, m1⟩ (fun hHeld => ?_)
                clear hK K
                (try simp only [Act.put, List.setIfInBounds_toArray, List.set_cons_zero, List.set_cons_succ])
                refine wpAnyH_take (i := 6) (oi := ⟨some 60, _, _, _, _, _⟩) (v := ?v47) rfl (by kernel_rfl) (by kernel_rfl) (by kernel_rfl) (fun _ _ _ h => h) (Or.inl ⟨by rfl, ?h47⟩) (by assumption) ?r47
                case h47 => (intro w hSw; (try dsimp only at hSw); go_simp <;> with_reducible rfl)
                (try simp only [Act.put, List.setIfInBounds_toArray, List.set_cons_zero, List.set_cons_succ])
                refine wpAnyH_take (i := 7) (oi := ⟨some 61, _, _, _, _, _⟩) (v := ?v48) rfl (by kernel_rfl) (by kernel_rfl) (by kernel_rfl) (fun _ _ _ h => h) (Or.inl ⟨by rfl, ?h48⟩) (by assumption) ?r48
                case h48 => (intro w hSw; (try dsimp only at hSw); go_simp <;> with_reducible rfl)
                (try simp only [Act.put, List.setIfInBounds_toArray, List.set_cons_zero, List.set_cons_succ])
                refine wpAnyH_ready (rs := [8]) (by kernel_rfl) (by simp) ?_
                refine (AllReadyH.cons (o := ⟨none, _, _, _, _, _⟩) rfl (fun K hK => ?_) AllReadyH.nil)
                have hrm : rb < mb := by omega
                go_simp
                clear hHeld
                replace k2 := k2.setCell (p := ⟨mb, 2, none⟩) (by show _ ≤ mb; omega) (.int .i64 (mk (pk (x1.tdiv 4) 4) (mask ip)))
                replace g0 : (W91.setCell ⟨mb, 2, none⟩ (.int .i64 (mk (pk (x1.tdiv 4) 4) (mask ip)))).cell? ⟨rb, 0, none⟩ = some _ := (World.cell?_setCell_other _ _ _ _ (by simp <;> omega)).trans g0
                replace g1 : (W91.setCell ⟨mb, 2, none⟩ (.int .i64 (mk (pk (x1.tdiv 4) 4) (mask ip)))).cell? ⟨rb, 1, none⟩ = some _ := (World.cell?_setCell_other _ _ _ _ (by simp <;> omega)).trans g1
                replace g2 : (W91.setCell ⟨mb, 2, none⟩ (.int .i64 (mk (pk (x1.tdiv 4) 4) (mask ip)))).cell? ⟨rb, 2, none⟩ = some _ := (World.cell?_setCell_other _ _ _ _ (by simp <;> omega)).trans g2
                replace g3 : (W91.setCell ⟨mb, 2, none⟩ (.int .i64 (mk (pk (x1.tdiv 4) 4) (mask ip)))).cell? ⟨rb, 3, none⟩ = some _ := (World.cell?_setCell_other _ _ _ _ (by simp <;> omega)).trans g3
                replace m0 : (W91.setCell ⟨mb, 2, none⟩ (.int .i64 (mk (pk (x1.tdiv 4) 4) (mask ip)))).cell? ⟨mb, 0, none⟩ = some _ := (World.cell?_setCell_other _ _ _ _ (by simp <;> omega)).trans m0
                replace m1 : (W91.setCell ⟨mb, 2, none⟩ (.int .i64 (mk (pk (x1.tdiv 4) 4) (mask ip)))).cell? ⟨mb, 1, none⟩ = some _ := (World.cell?_setCell_other _ _ _ _ (by simp <;> omega)).trans m1
                replace m2 : (W91.setCell ⟨mb, 2, none⟩ (.int .i64 (mk (pk (x1.tdiv 4) 4) (mask ip)))).cell? ⟨mb, 2, none⟩ = some (.int .i64 (mk (pk (x1.tdiv 4) 4) (mask ip))) := World.cell?_setCell_same _ _ _ m2
                generalize (W91.setCell ⟨mb, 2, none⟩ (.int .i64 (mk (pk (x1.tdiv 4) 4) (mask ip)))) = W3 at *
                refine hK.out _ _ ⟨g0, g1, g2, g3, m0, m1⟩ (fun hHeld => ?_)
                clear hK K
                (try simp only [Act.put, List.setIfInBounds_toArray, List.set_cons_zero, List.set_cons_succ])
                refine wpAnyH_done (by kernel_rfl) ?_ _
                clear hHeld
                clear zm2 g0 g1 g2 g3
                have HO3 := hide (own_below HO1.out k2)
                replace f0 := cell_beh f0 k2 (Nat.le_refl _)
                replace f1 := cell_beh f1 k2 (Nat.le_refl _)
                replace f2 := cell_beh f2 k2 (Nat.le_refl _)
                replace f3 := cell_beh f3 k2 (Nat.le_refl _)
                replace zf2 := (k2.frozen (p := ⟨fb, 2, none⟩) hfw).trans zf2
                replace zf3 := (k2.frozen (p := ⟨fb, 3, none⟩) hfw).trans zf3
                have HW : Hid (Below fb W1 W3) := hide (hbr.trans (k2.mono (Nat.le_of_lt hfw)))
                have HMT : Hid (matchB ⟨pk (x2.tdiv 3 + (j : Int)) 10, mask ip, mk (pk (x1.tdiv 4) 4) (mask ip)⟩ = true) := new_match pf0 (by omega) hmx.1 hmx.2 pa0 (by omega)
                have hfw3 : fb < W3.heap.size := cell_in f0
                clear HO1 hbr k2 hand hmx
                obtain ⟨vo, vn, vc, rfl⟩ := own_slice HO3.out
                have own1 := hide (HO3.out.alloc (.cells #[.int .i64 (pk (x2.tdiv 3 + (j : Int)) 10), .int .i64 (mask ip), .int .i64 (mk (pk (x1.tdiv 4) 4) (mask ip))] 35))
                have NEWS1 : Hid (∀ q u, [Value.int .i64 (pk (x2.tdiv 3 + (j : Int)) 10), .int .i64 (mask ip), .int .i64 (mk (pk (x1.tdiv 4) 4) (mask ip))][q]? = some u → (W3.alloc (.cells #[.int .i64 (pk (x2.tdiv 3 + (j : Int)) 10), .int .i64 (mask ip), .int .i64 (mk (pk (x1.tdiv 4) 4) (mask ip))] 35)).cell? ((⟨W3.heap.size, 0, none⟩ : Addr).add q) = some u) := by
                  intro q u hq
                  match q, hq with
                  | 0, hq => simp at hq; subst hq; simp [Addr.add]
                  | 1, hq => simp at hq; subst hq; simp [Addr.add]
                  | 2, hq => simp at hq; subst hq; simp [Addr.add]
                have base1 : fb + 1 ≤ (W3.alloc (.cells #[.int .i64 (pk (x2.tdiv 3 + (j : Int)) 10), .int .i64 (mask ip), .int .i64 (mk (pk (x1.tdiv 4) 4) (mask ip))] 35)).heap.size := by simp; omega
                have bel1 : Below (fb + 1) W3 (W3.alloc (.cells #[.int .i64 (pk (x2.tdiv 3 + (j : Int)) 10), .int .i64 (mask ip), .int .i64 (mk (pk (x1.tdiv 4) 4) (mask ip))] 35)) := (Below.refl _ W3).alloc (by omega) _
                have hx1 : j + 1 ≤ maxLen := by unfold maxLen; omega
                have hx2 : (j + 1) * 24 ≤ 140737488355328 := by omega
                have nfm : ¬ mb = fb := by omega
                go_wp2_with (at_builtin; refine wpList_append_lies _ rfl (.tmp 63) (.tmp 65) 36 rfl (fb + 1) 35 im _ 3 24 Try.underlying36 him hM0 hM1 hM2 rfl (by decide) _ _ _ rfl (unhide own1) ⟨W3.heap.size, 0, none⟩ 1 1 [Value.int .i64 (pk (x2.tdiv 3 + (j : Int)) 10), .int .i64 (mask ip), .int .i64 (mk (pk (x1.tdiv 4) 4) (mask ip))] rfl rfl (unhide NEWS1) (one3 _ _ _) (by decide) hx1 hx2 base1 _ rfl ?_)
                intro g cap w4 ho4 hg4 hat _
                have hb4 := bel1.grown hg4 base1 (own_ge (unhide own1))
                have HO4 := hide ho4
                replace f0 := (hb4.cell (p := ⟨fb, 0, none⟩) (Nat.lt_succ_self _)).trans f0
                replace f1 := (hb4.cell (p := ⟨fb, 1, none⟩) (Nat.lt_succ_self _)).trans f1
                replace f2 := (hb4.cell (p := ⟨fb, 2, none⟩) (Nat.lt_succ_self _)).trans f2
                replace f3 := (hb4.cell (p := ⟨fb, 3, none⟩) (Nat.lt_succ_self _)).trans f3
                replace zf2 := (hb4.frozen (p := ⟨fb, 2, none⟩) (Nat.lt_succ_self _)).trans zf2
                replace zf3 := (hb4.frozen (p := ⟨fb, 3, none⟩) (Nat.lt_succ_self _)).trans zf3
                have HB4 := hide (HW.out.trans (hb4.mono (Nat.le_succ _)))
                clear own1 NEWS1 base1 bel1 ho4 hg4 hat hb4 HW HO3 m0 m1 m2 hfw hfw3
                go_wp2_with fail
                go_roundw
                case rel => exact ⟨j + 1, by omega, by go_num, L1.mk ⟨ms ++ [⟨pk (x2.tdiv 3 + (j : Int)) 10, mask ip, mk (pk (x1.tdiv 4) 4) (mask ip)⟩], (.slice (some ⟨g, 0, none⟩) (j + 1) cap), by simp [HML.out], mem_snoc HMB.out HMT.out, (World.cell?_setCell_other _ _ _ _ (by simp <;> omega)).trans f0, (World.cell?_setCell_other _ _ _ _ (by simp <;> omega)).trans f1, World.cell?_setCell_same _ _ _ f2, (World.cell?_setCell_other _ _ _ _ (by simp <;> omega)).trans f3, (by rw [World.frozen?_setCell]; exact zf2), (by rw [World.frozen?_setCell]; exact zf3), (by rw [M_snoc]; exact ownsRow_setCell_below HO4.out (a := ⟨fb, 2, none⟩) (Nat.lt_succ_self _) _), HB4.out.setCell (p := ⟨fb, 2, none⟩) (Nat.le_refl _) _⟩⟩
                case measure => simp [intOf]; omega
            · have hj2 : j ≤ 2 := by omega
              have e0 : wr.cell? ⟨rb, 0, none⟩ = some (.int .i64 x0) := (hbr.cell (p := ⟨rb, 0, none⟩) hrf).trans c0
              have e1 : wr.cell? ⟨rb, 1, none⟩ = some (.int .i64 x1) := (hbr.cell (p := ⟨rb, 1, none⟩) hrf).trans c1
              have e2 : wr.cell? ⟨rb, 2, none⟩ = some (.int .i64 x2) := (hbr.cell (p := ⟨rb, 2, none⟩) hrf).trans c2
              have e3 : wr.cell? ⟨rb, 3, none⟩ = some (.int .i64 x3) := (hbr.cell (p := ⟨rb, 3, none⟩) hrf).trans c3
              obtain ⟨t161, t162⟩ := tdiv_half x1 16 (by omega) hb0 hb1
              have v16 := wrap_i64_in (x1.tdiv 16) (by omega) (by omega)
              obtain ⟨t91, t92⟩ := tdiv_half x2 9 (by omega) hc0 hc1
              have v9 := wrap_i64_in (x2.tdiv 9) (by omega) (by omega)
              obtain ⟨t341, t342⟩ := tdiv_half x3 4 (by omega) hd0 hd1
              have v34 := wrap_i64_in (x3.tdiv 4) (by omega) (by omega)
              obtain ⟨pc0, pc1⟩ := pk_in x3 4 (by omega)
              obtain ⟨pd0, pd1⟩ := pk_in (x1.tdiv 16) 10 (by omega)
              obtain ⟨pe0, pe1⟩ := pk_in (x2.tdiv 9) 10 (by omega)
              obtain ⟨pg0, pg1⟩ := pk_in x2 6 (by omega)
              clear HPI HIP hip3 hip4 hip5
              go_wp2_with (first | (go_at_call 14; refine (picked_any _ _ _ (by omega) (by omega) (by omega) (by omega)).mono ?_; rintro e W4a ⟨rfl, rfl⟩))
              rename World => W4
              clear hjl
              clear c0 c1 c2 c3
              have hf4 : fb < W4.heap.size := cell_in f0
              obtain ⟨vo, vn, vc, rfl⟩ := own_slice HO1.out
              have sep0 : Hid ((Value.slice vo vn vc).ownBlock = none ∨ (Value.slice vo vn vc).ownBlock ≠ (Value.slice none 0 0).ownBlock) := by
                cases h : (Value.slice vo vn vc).ownBlock with
                | none => exact hide (.inl rfl)
                | some g => exact hide (.inr (by simp [Value.ownBlock]))
              go_loopw [72] (fun i wr => ∃ i2 : Nat, (i2 : Int) ≤ pk x3 4 ∧ i = .int .i64 i2 ∧ L2 W4 wr fb (pk x0 4) (pk x1 4) (.slice vo vn vc) j ms i2) (fun i _ => (pk x3 4).toNat - (intOf i).toNat)
              case atStart => exact ⟨0, by omega, rfl, L2.mk ⟨[], _, rfl, by simp, f0, f1, f2, f3, zf2, zf3, ⟨by simp [D], .inl ⟨rfl, rfl⟩⟩, HO1.out, sep0.out, Below.refl _ _⟩⟩
              case round =>
                clear f0 f1 f2 f3 zf2 zf3 HO1 sep0
                obtain ⟨i2, hi2, rfl, ds, v2, hdl, hdb, f0, f1, f2, f3, zf2, zf3, HO2', HO1', HSEP', hbr2⟩ := hrel
                have HO2 := hide HO2'
                have HO1 := hide HO1'
                have HSEP := hide HSEP'
                have HDL := hide hdl
                have HDB := hide hdb
                clear HO2' HO1' HSEP' hdl hdb
                by_cases hil : (i2 : Int) < pk x3 4
                · have g0 : wr.cell? ⟨rb, 0, none⟩ = some (.int .i64 x0) := (hbr2.cell (p := ⟨rb, 0, none⟩) hrf).trans e0
                  have g1 : wr.cell? ⟨rb, 1, none⟩ = some (.int .i64 x1) := (hbr2.cell (p := ⟨rb, 1, none⟩) hrf).trans e1
                  have g2 : wr.cell? ⟨rb, 2, none⟩ = some (.int .i64 x2) := (hbr2.cell (p := ⟨rb, 2, none⟩) hrf).trans e2
                  have g3 : wr.cell? ⟨rb, 3, none⟩ = some (.int .i64 x3) := (hbr2.cell (p := ⟨rb, 3, none⟩) hrf).trans e3
                  have hfw : fb < wr.heap.size := cell_in f0
                  have nfw : ¬ fb = wr.heap.size := by omega
                  have nrw : ¬ rb = wr.heap.size := by omega
                  have hrl : rb < wr.heap.size := by omega
                  have w4' := wrap_i64_in (x3.tdiv 4 + (i2 : Int)) (by omega) (by omega)
                  obtain ⟨vo2, vn2, vc2, rfl⟩ := own_slice HO2.out
                  obtain ⟨pz0, pz1⟩ := pk_in (x3.tdiv 4 + (i2 : Int)) 6 (by omega)
                  have HPD := hide (fun W => picked_any (x3.tdiv 4 + (i2 : Int)) 6 W (by omega) (by omega) (by omega) (by omega))
                  have hx1 : i2 + 1 ≤ maxLen := by unfold maxLen; omega
                  have hx2 : (i2 + 1) * 24 ≤ 140737488355328 := by omega
                  generalize pk (x3.tdiv 4 + (i2 : Int)) 6 = kd at *
                  rcases (show kd = 0 ∨ kd = 1 ∨ kd = 2 ∨ kd = 3 ∨ kd = 4 ∨ kd = 5 by omega) with rfl | rfl | rfl | rfl | rfl | rfl
                  · go_wp2_with (first | (go_at_call 14; refine (unhide HPD _).mono ?_; rintro e WD ⟨rfl, hWD⟩; rw [hWD]; clear hWD WD))
                    obtain ⟨W5, hW5⟩ : ∃ W5, W5 = wr.alloc (.cells #[.int .i64 1, .int .i64 0, .int .i64 0] 38) := ⟨_, rfl⟩
                    obtain ⟨db, hdb⟩ : ∃ db, db = wr.heap.size := ⟨_, rfl⟩
                    rw [← hW5, ← hdb]
                    have k5 : Below wr.heap.size wr W5 := by rw [hW5]; exact (Below.refl _ _).alloc (Nat.le_refl _) _
                    have y0 : W5.cell? ⟨db, 0, none⟩ = some (.int .i64 1) := by rw [hW5, hdb]; exact new_cell wr _ rfl _ _ _ _ rfl
                    have zy0 : W5.frozen? ⟨db, 0, none⟩ = false := by rw [hW5, hdb]; exact new_frozen wr _ rfl _ _ _
                    have y1 : W5.cell? ⟨db, 1, none⟩ = some (.int .i64 0) := by rw [hW5, hdb]; exact new_cell wr _ rfl _ _ _ _ rfl
                    have zy1 : W5.frozen? ⟨db, 1, none⟩ = false := by rw [hW5, hdb]; exact new_frozen wr _ rfl _ _ _
                    have y2 : W5.cell? ⟨db, 2, none⟩ = some (.int .i64 0) := by rw [hW5, hdb]; exact new_cell wr _ rfl _ _ _ _ rfl
                    have zy2 : W5.frozen? ⟨db, 2, none⟩ = false := by rw [hW5, hdb]; exact new_frozen wr _ rfl _ _ _
                    replace g0 := cell_beh g0 k5 (Nat.le_refl _)
                    replace g1 := cell_beh g1 k5 (Nat.le_refl _)
                    replace g2 := cell_beh g2 k5 (Nat.le_refl _)
                    replace g3 := cell_beh g3 k5 (Nat.le_refl _)
                    have hrd : rb < db := by omega
                    have hwd : wr.heap.size ≤ db := by omega
                    have hfd : fb < db := by omega
                    clear hW5 hdb
                    refine wp_region_held_drew (S := (fun w' => w'.cell? ⟨rb, 0, none⟩ = some (.int .i64 x0) ∧ w'.cell? ⟨rb, 1, none⟩ = some (.int .i64 x1) ∧ w'.cell? ⟨rb, 2, none⟩ = some (.int .i64 x2) ∧ w'.cell? ⟨rb, 3, none⟩ = some (.int .i64 x3))) (by kernel_rfl) ⟨g0, g1, g2, g3⟩ (fun hHeld => ?_)
                    have HDW : Below W5.heap.size W5 W5.drew := (Below.refl _ _).drew
                    replace zy1 := (HDW.frozen (p := ⟨db, 1, none⟩) (cell_in y1)).trans zy1
                    replace zy2 := (HDW.frozen (p := ⟨db, 2, none⟩) (cell_in y2)).trans zy2
                    replace g0 := cell_beh g0 HDW (Nat.le_refl _)
                    replace g1 := cell_beh g1 HDW (Nat.le_refl _)
                    replace g2 := cell_beh g2 HDW (Nat.le_refl _)
                    replace g3 := cell_beh g3 HDW (Nat.le_refl _)
                    replace y0 := cell_beh y0 HDW (Nat.le_refl _)
                    replace y1 := cell_beh y1 HDW (Nat.le_refl _)
                    replace y2 := cell_beh y2 HDW (Nat.le_refl _)
                    replace k5 := k5.trans (HDW.mono k5.size)
                    clear HDW
                    generalize W5.drew = V0 at *
                    refine wpAnyH_take (i := 0) (oi := ⟨some 92, _, _, _, _, _⟩) (v := ?v49) rfl (by kernel_rfl) (by kernel_rfl) (by kernel_rfl) (fun _ _ _ h => h) (Or.inl ⟨by rfl, ?h49⟩) (by assumption) ?r49
                    case h49 => (intro w hSw; (try dsimp only at hSw); go_simp <;> with_reducible rfl)
                    (try simp only [Act.put, List.setIfInBounds_toArray, List.set_cons_zero, List.set_cons_succ])
                    refine wpAnyH_take (i := 1) (oi := ⟨some 93, _, _, _, _, _⟩) (v := ?v50) rfl (by kernel_rfl) (by kernel_rfl) (by kernel_rfl) (fun _ _ _ h => h) (Or.inl ⟨by rfl, ?h50⟩) (by assumption) ?r50
                    case h50 => (intro w hSw; (try dsimp only at hSw); go_simp <;> with_reducible rfl)
                    (try simp only [Act.put, List.setIfInBounds_toArray, List.set_cons_zero, List.set_cons_succ])
                    refine wpAnyH_take (i := 2) (oi := ⟨some 94, _, _, _, _, _⟩) (v := ?v51) rfl (by kernel_rfl) (by kernel_rfl) (by kernel_rfl) (fun _ _ _ h => h) (Or.inl ⟨by rfl, ?h51⟩) (by assumption) ?r51
                    case h51 => (intro w hSw; (try dsimp only at hSw); go_simp <;> with_reducible rfl)
                    (try simp only [Act.put, List.setIfInBounds_toArray, List.set_cons_zero, List.set_cons_succ])
                    refine wpAnyH_take (i := 4) (oi := ⟨some 96, _, _, _, _, _⟩) (v := ?v52) rfl (by kernel_rfl) (by kernel_rfl) (by kernel_rfl) (fun _ _ _ h => h) (Or.inl ⟨by rfl, ?h52⟩) (by assumption) ?r52
                    case h52 => (intro w hSw; (try dsimp only at hSw); go_simp <;> with_reducible rfl)
                    (try simp only [Act.put, List.setIfInBounds_toArray, List.set_cons_zero, List.set_cons_succ])
                    refine wpAnyH_take (i := 5) (oi := ⟨some 97, _, _, _, _, _⟩) (v := ?v53) rfl (by kernel_rfl) (by kernel_rfl) (by kernel_rfl) (fun _ _ _ h => h) (Or.inl ⟨by rfl, ?h53⟩) (by assumption) ?r53
                    case h53 => (intro w hSw; (try dsimp only at hSw); go_simp <;> with_reducible rfl)
                    (try simp only [Act.put, List.setIfInBounds_toArray, List.set_cons_zero, List.set_cons_succ])
                    refine wpAnyH_take (i := 6) (oi := ⟨some 98, _, _, _, _, _⟩) (v := ?v54) rfl (by kernel_rfl) (by kernel_rfl) (by kernel_rfl) (fun _ _ _ h => h) (Or.inl ⟨by rfl, ?h54⟩) (by assumption) ?r54
                    case h54 => (intro w hSw; (try dsimp only at hSw); go_simp <;> with_reducible rfl)
                    (try simp only [Act.put, List.setIfInBounds_toArray, List.set_cons_zero, List.set_cons_succ])
                    refine wpAnyH_ready (rs := [3]) (by kernel_rfl) (by simp) ?_
                    refine (AllReadyH.cons (o := ⟨some 95, _, _, _, _, _⟩) rfl (fun K hK => ?_) AllReadyH.nil)
                    go_simp
                    clear hHeld
                    refine (picked_any _ _ _ (by omega) (by omega) (by omega) (by omega)).mono ?_
                    rintro e W91 ⟨rfl, rfl⟩
                    refine hK.out _ _ ⟨g0, g1, g2, g3⟩ (fun hHeld => ?_)
                    clear hK K
                    (try simp only [Act.put, List.setIfInBounds_toArray, List.set_cons_zero, List.set_cons_succ])
                    refine wpAnyH_take (i := 8) (oi := ⟨some 100, _, _, _, _, _⟩) (v := ?v55) rfl (by kernel_rfl) (by kernel_rfl) (by kernel_rfl) (fun _ _ _ h => h) (Or.inl ⟨by rfl, ?h55⟩) (by assumption) ?r55
                    case h55 => (intro w hSw; (try dsimp only at hSw); go_simp <;> with_reducible rfl)
                    (try simp only [Act.put, List.setIfInBounds_toArray, List.set_cons_zero, List.set_cons_succ])
                    refine wpAnyH_ready (rs := [7]) (by kernel_rfl) (by simp) ?_
                    refine (AllReadyH.cons (o := ⟨some 99, _, _, _, _, _⟩) rfl (fun K hK => ?_) AllReadyH.nil)
                    go_simp
                    clear hHeld
                    refine (picked_any _ _ _ (by omega) (by omega) (by omega) (by omega)).mono ?_
                    rintro e W92 ⟨rfl, rfl⟩
                    refine hK.out _ _ ⟨g0, g1, g2, g3⟩ (fun hHeld => ?_)
                    clear hK K
                    (try simp only [Act.put, List.setIfInBounds_toArray, List.set_cons_zero, List.set_cons_succ])
                    refine wpAnyH_ready (rs := [9]) (by kernel_rfl) (by simp) ?_
                    refine (AllReadyH.cons (o := ⟨none, _, _, _, _, _⟩) rfl (fun K hK => ?_) AllReadyH.nil)
                    go_simp
                    clear hHeld
                    replace k5 := k5.setCell (p := ⟨db, 1, none⟩) (by show _ ≤ db; omega) (.int .i64 (pk (x1.tdiv 16) 10))
                    replace g0 : (W92.setCell ⟨db, 1, none⟩ (.int .i64 (pk (x1.tdiv 16) 10))).cell? ⟨rb, 0, none⟩ = some _ := (World.cell?_setCell_other _ _ _ _ (by simp <;> omega)).trans g0
                    replace g1 : (W92.setCell ⟨db, 1, none⟩ (.int .i64 (pk (x1.tdiv 16) 10))).cell? ⟨rb, 1, none⟩ = some _ := (World.cell?_setCell_other _ _ _ _ (by simp <;> omega)).trans g1
                    replace g2 : (W92.setCell ⟨db, 1, none⟩ (.int .i64 (pk (x1.tdiv 16) 10))).cell? ⟨rb, 2, none⟩ = some _ := (World.cell?_setCell_other _ _ _ _ (by simp <;> omega)).trans g2
                    replace g3 : (W92.setCell ⟨db, 1, none⟩ (.int .i64 (pk (x1.tdiv 16) 10))).cell? ⟨rb, 3, none⟩ = some _ := (World.cell?_setCell_other _ _ _ _ (by simp <;> omega)).trans g3
                    replace y0 : (W92.setCell ⟨db, 1, none⟩ (.int .i64 (pk (x1.tdiv 16) 10))).cell? ⟨db, 0, none⟩ = some _ := (World.cell?_setCell_other _ _ _ _ (by simp <;> omega)).trans y0
                    replace y1 : (W92.setCell ⟨db, 1, none⟩ (.int .i64 (pk (x1.tdiv 16) 10))).cell? ⟨db, 1, none⟩ = some _ := World.cell?_setCell_same _ _ _ y1
                    replace y2 : (W92.setCell ⟨db, 1, none⟩ (.int .i64 (pk (x1.tdiv 16) 10))).cell? ⟨db, 2, none⟩ = some _ := (World.cell?_setCell_other _ _ _ _ (by simp <;> omega)).trans y2
                    replace zy1 : (W92.setCell ⟨db, 1, none⟩ (.int .i64 (pk (x1.tdiv 16) 10))).frozen? ⟨db, 1, none⟩ = false := by rw [World.frozen?_setCell]; exact zy1
                    replace zy2 : (W92.setCell ⟨db, 1, none⟩ (.int .i64 (pk (x1.tdiv 16) 10))).frozen? ⟨db, 2, none⟩ = false := by rw [World.frozen?_setCell]; exact zy2
                    generalize (W92.setCell ⟨db, 1, none⟩ (.int .i64 (pk (x1.tdiv 16) 10))) = W6 at *
                    refine hK.out _ _ ⟨g0, g1, g2, g3⟩ (fun hHeld => ?_)
                    clear hK K
                    (try simp only [Act.put, List.setIfInBounds_toArray, List.set_cons_zero, List.set_cons_succ])
                    refine wpAnyH_take (i := 10) (oi := ⟨some 101, _, _, _, _, _⟩) (v := ?v56) rfl (by kernel_rfl) (by kernel_rfl) (by kernel_rfl) (fun _ _ _ h => h) (Or.inl ⟨by rfl, ?h56⟩) (by assumption) ?r56
                    case h56 => (intro w hSw; (try dsimp only at hSw); go_simp <;> with_reducible rfl)
                    (try simp only [Act.put, List.setIfInBounds_toArray, List.set_cons_zero, List.set_cons_succ])
                    refine wpAnyH_ready (rs := [11]) (by kernel_rfl) (by simp) ?_
                    refine (AllReadyH.cons (o := ⟨none, _, _, _, _, _⟩) rfl (fun K hK => ?_) AllReadyH.nil)
                    go_simp
                    clear hHeld
                    replace k5 := k5.setCell (p := ⟨db, 2, none⟩) (by show _ ≤ db; omega) (.int .i64 (pk (x2.tdiv 9) 10))
                    replace g0 : (W6.setCell ⟨db, 2, none⟩ (.int .i64 (pk (x2.tdiv 9) 10))).cell? ⟨rb, 0, none⟩ = some _ := (World.cell?_setCell_other _ _ _ _ (by simp <;> omega)).trans g0
                    replace g1 : (W6.setCell ⟨db, 2, none⟩ (.int .i64 (pk (x2.tdiv 9) 10))).cell? ⟨rb, 1, none⟩ = some _ := (World.cell?_setCell_other _ _ _ _ (by simp <;> omega)).trans g1
                    replace g2 : (W6.setCell ⟨db, 2, none⟩ (.int .i64 (pk (x2.tdiv 9) 10))).cell? ⟨rb, 2, none⟩ = some _ := (World.cell?_setCell_other _ _ _ _ (by simp <;> omega)).trans g2
                    replace g3 : (W6.setCell ⟨db, 2, none⟩ (.int .i64 (pk (x2.tdiv 9) 10))).cell? ⟨rb, 3, none⟩ = some _ := (World.cell?_setCell_other _ _ _ _ (by simp <;> omega)).trans g3
                    replace y0 : (W6.setCell ⟨db, 2, none⟩ (.int .i64 (pk (x2.tdiv 9) 10))).cell? ⟨db, 0, none⟩ = some _ := (World.cell?_setCell_other _ _ _ _ (by simp <;> omega)).trans y0
                    replace y1 : (W6.setCell ⟨db, 2, none⟩ (.int .i64 (pk (x2.tdiv 9) 10))).cell? ⟨db, 1, none⟩ = some _ := (World.cell?_setCell_other _ _ _ _ (by simp <;> omega)).trans y1
                    replace y2 : (W6.setCell ⟨db, 2, none⟩ (.int .i64 (pk (x2.tdiv 9) 10))).cell? ⟨db, 2, none⟩ = some _ := World.cell?_setCell_same _ _ _ y2
                    replace zy1 : (W6.setCell ⟨db, 2, none⟩ (.int .i64 (pk (x2.tdiv 9) 10))).frozen? ⟨db, 1, none⟩ = false := by rw [World.frozen?_setCell]; exact zy1
                    replace zy2 : (W6.setCell ⟨db, 2, none⟩ (.int .i64 (pk (x2.tdiv 9) 10))).frozen? ⟨db, 2, none⟩ = false := by rw [World.frozen?_setCell]; exact zy2
                    generalize (W6.setCell ⟨db, 2, none⟩ (.int .i64 (pk (x2.tdiv 9) 10))) = WB at *
                    refine hK.out _ _ ⟨g0, g1, g2, g3⟩ (fun hHeld => ?_)
                    clear hK K
                    (try simp only [Act.put, List.setIfInBounds_toArray, List.set_cons_zero, List.set_cons_succ])
                    refine wpAnyH_done (by kernel_rfl) ?_ _
                    clear hHeld
                    have HW : Hid (Below fb W4 WB) := hide (hbr2.trans (k5.mono (Nat.le_of_lt hfw)))
                    replace HO2 := hide (own_below HO2.out k5)
                    replace HO1 := hide (own_below HO1.out k5)
                    replace f0 := cell_beh f0 k5 (Nat.le_refl _)
                    replace f1 := cell_beh f1 k5 (Nat.le_refl _)
                    replace f2 := cell_beh f2 k5 (Nat.le_refl _)
                    replace f3 := cell_beh f3 k5 (Nat.le_refl _)
                    replace zf2 := (k5.frozen (p := ⟨fb, 2, none⟩) hfw).trans zf2
                    replace zf3 := (k5.frozen (p := ⟨fb, 3, none⟩) hfw).trans zf3
                    have hfB : fb < WB.heap.size := cell_in f0
                    clear k5 g0 g1 g2 g3
                    have own1 := hide (HO2.out.alloc (.cells #[.int .i64 1, .int .i64 (pk (x1.tdiv 16) 10), .int .i64 (pk (x2.tdiv 9) 10)] 38))
                    have NEWS1 : Hid (∀ q u, [Value.int .i64 1, .int .i64 (pk (x1.tdiv 16) 10), .int .i64 (pk (x2.tdiv 9) 10)][q]? = some u → ((WB).alloc (.cells #[.int .i64 1, .int .i64 (pk (x1.tdiv 16) 10), .int .i64 (pk (x2.tdiv 9) 10)] 38)).cell? ((⟨WB.heap.size, 0, none⟩ : Addr).add q) = some u) := by
                      intro q u hq
                      have hz : WB.heap.size = WB.heap.size := rfl
                      match q, hq with
                      | 0, hq => simp at hq; subst hq; rw [add_fl, ← hz]; exact new_cell _ _ rfl _ _ _ _ rfl
                      | 1, hq => simp at hq; subst hq; rw [add_fl, ← hz]; exact new_cell _ _ rfl _ _ _ _ rfl
                      | 2, hq => simp at hq; subst hq; rw [add_fl, ← hz]; exact new_cell _ _ rfl _ _ _ _ rfl
                    have base1 : fb + 1 ≤ ((WB).alloc (.cells #[.int .i64 1, .int .i64 (pk (x1.tdiv 16) 10), .int .i64 (pk (x2.tdiv 9) 10)] 38)).heap.size := by simp; omega
                    have bel1 : Below (fb + 1) WB ((WB).alloc (.cells #[.int .i64 1, .int .i64 (pk (x1.tdiv 16) 10), .int .i64 (pk (x2.tdiv 9) 10)] 38)) := (Below.refl (fb + 1) WB).alloc (by first | omega | (simp; omega)) (.cells #[.int .i64 1, .int .i64 (pk (x1.tdiv 16) 10), .int .i64 (pk (x2.tdiv 9) 10)] 38)
                    go_wp2_with (at_builtin; refine wpList_append_lies _ rfl (.tmp 113) (.tmp 115) 39 rfl (fb + 1) 38 id _ 3 24 Try.underlying39 hid hD0 hD1 hD2 rfl (by decide) _ _ _ rfl (unhide own1) ⟨WB.heap.size, 0, none⟩ 1 1 [Value.int .i64 1, .int .i64 (pk (x1.tdiv 16) 10), .int .i64 (pk (x2.tdiv 9) 10)] rfl rfl (unhide NEWS1) (one3 _ _ _) (by decide) hx1 hx2 base1 _ rfl ?_)
                    intro g cap w4 ho4 hg4 hat _
                    have hb4 := bel1.grown hg4 base1 (own_ge (unhide own1))
                    have HO4 := hide ho4
                    have HS4 := hide (sep_app HO1.out HSEP.out hat (by first | omega | (simp; done) | (simp; omega)))
                    have HM4 := hide ((HO1.out.alloc (.cells #[.int .i64 1, .int .i64 (pk (x1.tdiv 16) 10), .int .i64 (pk (x2.tdiv 9) 10)] 38)).kept hg4 HSEP.out)
                    replace f0 := (hb4.cell (p := ⟨fb, 0, none⟩) (Nat.lt_succ_self _)).trans f0
                    replace f1 := (hb4.cell (p := ⟨fb, 1, none⟩) (Nat.lt_succ_self _)).trans f1
                    replace f2 := (hb4.cell (p := ⟨fb, 2, none⟩) (Nat.lt_succ_self _)).trans f2
                    replace f3 := (hb4.cell (p := ⟨fb, 3, none⟩) (Nat.lt_succ_self _)).trans f3
                    replace zf2 := (hb4.frozen (p := ⟨fb, 2, none⟩) (Nat.lt_succ_self _)).trans zf2
                    replace zf3 := (hb4.frozen (p := ⟨fb, 3, none⟩) (Nat.lt_succ_self _)).trans zf3
                    have HB4 := hide (HW.out.trans (hb4.mono (Nat.le_succ _)))
                    clear own1 NEWS1 base1 bel1 ho4 hg4 hat hb4 HW HO2 HO1 HSEP hfw
                    go_wp2_with fail
                    go_roundw
                    case rel => exact ⟨i2 + 1, by omega, by go_num, L2.mk ⟨ds ++ [⟨1, pk (x1.tdiv 16) 10, pk (x2.tdiv 9) 10⟩], (.slice (some ⟨g, 0, none⟩) (i2 + 1) cap), by simp [HDL.out], mem_snoc HDB.out (doT1 pd0 (by omega) pe0 (by omega)), (World.cell?_setCell_other _ _ _ _ (by simp <;> omega)).trans f0, (World.cell?_setCell_other _ _ _ _ (by simp <;> omega)).trans f1, (World.cell?_setCell_other _ _ _ _ (by simp <;> omega)).trans f2, World.cell?_setCell_same _ _ _ f3, (by rw [World.frozen?_setCell]; exact zf2), (by rw [World.frozen?_setCell]; exact zf3), (by rw [D_snoc]; exact ownsRow_setCell_below HO4.out (a := ⟨fb, 3, none⟩) (Nat.lt_succ_self _) _), ownsRow_setCell_below HM4.out (a := ⟨fb, 3, none⟩) (Nat.lt_succ_self _) _, HS4.out, HB4.out.setCell (p := ⟨fb, 3, none⟩) (Nat.le_refl _) _⟩⟩
                    case measure => simp [intOf]; omega
                  · go_wp2_with (first | (go_at_call 14; refine (unhide HPD _).mono ?_; rintro e WD ⟨rfl, hWD⟩; rw [hWD]; clear hWD WD))
                    obtain ⟨W5, hW5⟩ : ∃ W5, W5 = wr.alloc (.cells #[.int .i64 2, .int .i64 0, .int .i64 0] 38) := ⟨_, rfl⟩
                    obtain ⟨db, hdb⟩ : ∃ db, db = wr.heap.size := ⟨_, rfl⟩
                    rw [← hW5, ← hdb]
                    have k5 : Below wr.heap.size wr W5 := by rw [hW5]; exact (Below.refl _ _).alloc (Nat.le_refl _) _
                    have y0 : W5.cell? ⟨db, 0, none⟩ = some (.int .i64 2) := by rw [hW5, hdb]; exact new_cell wr _ rfl _ _ _ _ rfl
                    have zy0 : W5.frozen? ⟨db, 0, none⟩ = false := by rw [hW5, hdb]; exact new_frozen wr _ rfl _ _ _
                    have y1 : W5.cell? ⟨db, 1, none⟩ = some (.int .i64 0) := by rw [hW5, hdb]; exact new_cell wr _ rfl _ _ _ _ rfl
                    have zy1 : W5.frozen? ⟨db, 1, none⟩ = false := by rw [hW5, hdb]; exact new_frozen wr _ rfl _ _ _
                    have y2 : W5.cell? ⟨db, 2, none⟩ = some (.int .i64 0) := by rw [hW5, hdb]; exact new_cell wr _ rfl _ _ _ _ rfl
                    have zy2 : W5.frozen? ⟨db, 2, none⟩ = false := by rw [hW5, hdb]; exact new_frozen wr _ rfl _ _ _
                    replace g0 := cell_beh g0 k5 (Nat.le_refl _)
                    replace g1 := cell_beh g1 k5 (Nat.le_refl _)
                    replace g2 := cell_beh g2 k5 (Nat.le_refl _)
                    replace g3 := cell_beh g3 k5 (Nat.le_refl _)
                    have hrd : rb < db := by omega
                    have hwd : wr.heap.size ≤ db := by omega
                    have hfd : fb < db := by omega
                    clear hW5 hdb
                    refine wp_region_held_drew (S := (fun w' => w'.cell? ⟨rb, 0, none⟩ = some (.int .i64 x0) ∧ w'.cell? ⟨rb, 1, none⟩ = some (.int .i64 x1) ∧ w'.cell? ⟨rb, 2, none⟩ = some (.int .i64 x2) ∧ w'.cell? ⟨rb, 3, none⟩ = some (.int .i64 x3))) (by kernel_rfl) ⟨g0, g1, g2, g3⟩ (fun hHeld => ?_)
                    have HDW : Below W5.heap.size W5 W5.drew := (Below.refl _ _).drew
                    replace zy1 := (HDW.frozen (p := ⟨db, 1, none⟩) (cell_in y1)).trans zy1
                    replace zy2 := (HDW.frozen (p := ⟨db, 2, none⟩) (cell_in y2)).trans zy2
                    replace g0 := cell_beh g0 HDW (Nat.le_refl _)
                    replace g1 := cell_beh g1 HDW (Nat.le_refl _)
                    replace g2 := cell_beh g2 HDW (Nat.le_refl _)
                    replace g3 := cell_beh g3 HDW (Nat.le_refl _)
                    replace y0 := cell_beh y0 HDW (Nat.le_refl _)
                    replace y1 := cell_beh y1 HDW (Nat.le_refl _)
                    replace y2 := cell_beh y2 HDW (Nat.le_refl _)
                    replace k5 := k5.trans (HDW.mono k5.size)
                    clear HDW
                    generalize W5.drew = V0 at *
                    refine wpAnyH_take (i := 0) (oi := ⟨some 92, _, _, _, _, _⟩) (v := ?v57) rfl (by kernel_rfl) (by kernel_rfl) (by kernel_rfl) (fun _ _ _ h => h) (Or.inl ⟨by rfl, ?h57⟩) (by assumption) ?r57
                    case h57 => (intro w hSw; (try dsimp only at hSw); go_simp <;> with_reducible rfl)
                    (try simp only [Act.put, List.setIfInBounds_toArray, List.set_cons_zero, List.set_cons_succ])
                    refine wpAnyH_take (i := 1) (oi := ⟨some 93, _, _, _, _, _⟩) (v := ?v58) rfl (by kernel_rfl) (by kernel_rfl) (by kernel_rfl) (fun _ _ _ h => h) (Or.inl ⟨by rfl, ?h58⟩) (by assumption) ?r58
                    case h58 => (intro w hSw; (try dsimp only at hSw); go_simp <;> with_reducible rfl)
                    (try simp only [Act.put, List.setIfInBounds_toArray, List.set_cons_zero, List.set_cons_succ])
                    refine wpAnyH_take (i := 2) (oi := ⟨some 94, _, _, _, _, _⟩) (v := ?v59) rfl (by kernel_rfl) (by kernel_rfl) (by kernel_rfl) (fun _ _ _ h => h) (Or.inl ⟨by rfl, ?h59⟩) (by assumption) ?r59
                    case h59 => (intro w hSw; (try dsimp only at hSw); go_simp <;> with_reducible rfl)
                    (try simp only [Act.put, List.setIfInBounds_toArray, List.set_cons_zero, List.set_cons_succ])
                    refine wpAnyH_take (i := 4) (oi := ⟨some 96, _, _, _, _, _⟩) (v := ?v60) rfl (by kernel_rfl) (by kernel_rfl) (by kernel_rfl) (fun _ _ _ h => h) (Or.inl ⟨by rfl, ?h60⟩) (by assumption) ?r60
                    case h60 => (intro w hSw; (try dsimp only at hSw); go_simp <;> with_reducible rfl)
                    (try simp only [Act.put, List.setIfInBounds_toArray, List.set_cons_zero, List.set_cons_succ])
                    refine wpAnyH_take (i := 5) (oi := ⟨some 97, _, _, _, _, _⟩) (v := ?v61) rfl (by kernel_rfl) (by kernel_rfl) (by kernel_rfl) (fun _ _ _ h => h) (Or.inl ⟨by rfl, ?h61⟩) (by assumption) ?r61
                    case h61 => (intro w hSw; (try dsimp only at hSw); go_simp <;> with_reducible rfl)
                    (try simp only [Act.put, List.setIfInBounds_toArray, List.set_cons_zero, List.set_cons_succ])
                    refine wpAnyH_take (i := 6) (oi := ⟨some 98, _, _, _, _, _⟩) (v := ?v62) rfl (by kernel_rfl) (by kernel_rfl) (by kernel_rfl) (fun _ _ _ h => h) (Or.inl ⟨by rfl, ?h62⟩) (by assumption) ?r62
                    case h62 => (intro w hSw; (try dsimp only at hSw); go_simp <;> with_reducible rfl)
                    (try simp only [Act.put, List.setIfInBounds_toArray, List.set_cons_zero, List.set_cons_succ])
                    refine wpAnyH_ready (rs := [3]) (by kernel_rfl) (by simp) ?_
                    refine (AllReadyH.cons (o := ⟨some 95, _, _, _, _, _⟩) rfl (fun K hK => ?_) AllReadyH.nil)
                    go_simp
                    clear hHeld
                    refine (picked_any _ _ _ (by omega) (by omega) (by omega) (by omega)).mono ?_
                    rintro e W91 ⟨rfl, rfl⟩
                    refine hK.out _ _ ⟨g0, g1, g2, g3⟩ (fun hHeld => ?_)
                    clear hK K
                    (try simp only [Act.put, List.setIfInBounds_toArray, List.set_cons_zero, List.set_cons_succ])
                    refine wpAnyH_take (i := 8) (oi := ⟨some 100, _, _, _, _, _⟩) (v := ?v63) rfl (by kernel_rfl) (by kernel_rfl) (by kernel_rfl) (fun _ _ _ h => h) (Or.inl ⟨by rfl, ?h63⟩) (by assumption) ?r63
                    case h63 => (intro w hSw; (try dsimp only at hSw); go_simp <;> with_reducible rfl)
                    (try simp only [Act.put, List.setIfInBounds_toArray, List.set_cons_zero, List.set_cons_succ])
                    refine wpAnyH_ready (rs := [7]) (by kernel_rfl) (by simp) ?_
                    refine (AllReadyH.cons (o := ⟨some 99, _, _, _, _, _⟩) rfl (fun K hK => ?_) AllReadyH.nil)
                    go_simp
                    clear hHeld
                    refine (picked_any _ _ _ (by omega) (by omega) (by omega) (by omega)).mono ?_
                    rintro e W92 ⟨rfl, rfl⟩
                    refine hK.out _ _ ⟨g0, g1, g2, g3⟩ (fun hHeld => ?_)
                    clear hK K
                    (try simp only [Act.put, List.setIfInBounds_toArray, List.set_cons_zero, List.set_cons_succ])
                    refine wpAnyH_ready (rs := [9]) (by kernel_rfl) (by simp) ?_
                    refine (AllReadyH.cons (o := ⟨none, _, _, _, _, _⟩) rfl (fun K hK => ?_) AllReadyH.nil)
                    go_simp
                    clear hHeld
                    replace k5 := k5.setCell (p := ⟨db, 1, none⟩) (by show _ ≤ db; omega) (.int .i64 (pk (x1.tdiv 16) 10))
                    replace g0 : (W92.setCell ⟨db, 1, none⟩ (.int .i64 (pk (x1.tdiv 16) 10))).cell? ⟨rb, 0, none⟩ = some _ := (World.cell?_setCell_other _ _ _ _ (by simp <;> omega)).trans g0
                    replace g1 : (W92.setCell ⟨db, 1, none⟩ (.int .i64 (pk (x1.tdiv 16) 10))).cell? ⟨rb, 1, none⟩ = some _ := (World.cell?_setCell_other _ _ _ _ (by simp <;> omega)).trans g1
                    replace g2 : (W92.setCell ⟨db, 1, none⟩ (.int .i64 (pk (x1.tdiv 16) 10))).cell? ⟨rb, 2, none⟩ = some _ := (World.cell?_setCell_other _ _ _ _ (by simp <;> omega)).trans g2
                    replace g3 : (W92.setCell ⟨db, 1, none⟩ (.int .i64 (pk (x1.tdiv 16) 10))).cell? ⟨rb, 3, none⟩ = some _ := (World.cell?_setCell_other _ _ _ _ (by simp <;> omega)).trans g3
                    replace y0 : (W92.setCell ⟨db, 1, none⟩ (.int .i64 (pk (x1.tdiv 16) 10))).cell? ⟨db, 0, none⟩ = some _ := (World.cell?_setCell_other _ _ _ _ (by simp <;> omega)).trans y0
                    replace y1 : (W92.setCell ⟨db, 1, none⟩ (.int .i64 (pk (x1.tdiv 16) 10))).cell? ⟨db, 1, none⟩ = some _ := World.cell?_setCell_same _ _ _ y1
                    replace y2 : (W92.setCell ⟨db, 1, none⟩ (.int .i64 (pk (x1.tdiv 16) 10))).cell? ⟨db, 2, none⟩ = some _ := (World.cell?_setCell_other _ _ _ _ (by simp <;> omega)).trans y2
                    replace zy1 : (W92.setCell ⟨db, 1, none⟩ (.int .i64 (pk (x1.tdiv 16) 10))).frozen? ⟨db, 1, none⟩ = false := by rw [World.frozen?_setCell]; exact zy1
                    replace zy2 : (W92.setCell ⟨db, 1, none⟩ (.int .i64 (pk (x1.tdiv 16) 10))).frozen? ⟨db, 2, none⟩ = false := by rw [World.frozen?_setCell]; exact zy2
                    generalize (W92.setCell ⟨db, 1, none⟩ (.int .i64 (pk (x1.tdiv 16) 10))) = W6 at *
                    refine hK.out _ _ ⟨g0, g1, g2, g3⟩ (fun hHeld => ?_)
                    clear hK K
                    (try simp only [Act.put, List.setIfInBounds_toArray, List.set_cons_zero, List.set_cons_succ])
                    refine wpAnyH_take (i := 10) (oi := ⟨some 101, _, _, _, _, _⟩) (v := ?v64) rfl (by kernel_rfl) (by kernel_rfl) (by kernel_rfl) (fun _ _ _ h => h) (Or.inl ⟨by rfl, ?h64⟩) (by assumption) ?r64
                    case h64 => (intro w hSw; (try dsimp only at hSw); go_simp <;> with_reducible rfl)
                    (try simp only [Act.put, List.setIfInBounds_toArray, List.set_cons_zero, List.set_cons_succ])
                    refine wpAnyH_ready (rs := [11]) (by kernel_rfl) (by simp) ?_
                    refine (AllReadyH.cons (o := ⟨none, _, _, _, _, _⟩) rfl (fun K hK => ?_) AllReadyH.nil)
                    go_simp
                    clear hHeld
                    replace k5 := k5.setCell (p := ⟨db, 2, none⟩) (by show _ ≤ db; omega) (.int .i64 (pk (x2.tdiv 9) 10))
                    replace g0 : (W6.setCell ⟨db, 2, none⟩ (.int .i64 (pk (x2.tdiv 9) 10))).cell? ⟨rb, 0, none⟩ = some _ := (World.cell?_setCell_other _ _ _ _ (by simp <;> omega)).trans g0
                    replace g1 : (W6.setCell ⟨db, 2, none⟩ (.int .i64 (pk (x2.tdiv 9) 10))).cell? ⟨rb, 1, none⟩ = some _ := (World.cell?_setCell_other _ _ _ _ (by simp <;> omega)).trans g1
                    replace g2 : (W6.setCell ⟨db, 2, none⟩ (.int .i64 (pk (x2.tdiv 9) 10))).cell? ⟨rb, 2, none⟩ = some _ := (World.cell?_setCell_other _ _ _ _ (by simp <;> omega)).trans g2
                    replace g3 : (W6.setCell ⟨db, 2, none⟩ (.int .i64 (pk (x2.tdiv 9) 10))).cell? ⟨rb, 3, none⟩ = some _ := (World.cell?_setCell_other _ _ _ _ (by simp <;> omega)).trans g3
                    replace y0 : (W6.setCell ⟨db, 2, none⟩ (.int .i64 (pk (x2.tdiv 9) 10))).cell? ⟨db, 0, none⟩ = some _ := (World.cell?_setCell_other _ _ _ _ (by simp <;> omega)).trans y0
                    replace y1 : (W6.setCell ⟨db, 2, none⟩ (.int .i64 (pk (x2.tdiv 9) 10))).cell? ⟨db, 1, none⟩ = some _ := (World.cell?_setCell_other _ _ _ _ (by simp <;> omega)).trans y1
                    replace y2 : (W6.setCell ⟨db, 2, none⟩ (.int .i64 (pk (x2.tdiv 9) 10))).cell? ⟨db, 2, none⟩ = some _ := World.cell?_setCell_same _ _ _ y2
                    replace zy1 : (W6.setCell ⟨db, 2, none⟩ (.int .i64 (pk (x2.tdiv 9) 10))).frozen? ⟨db, 1, none⟩ = false := by rw [World.frozen?_setCell]; exact zy1
                    replace zy2 : (W6.setCell ⟨db, 2, none⟩ (.int .i64 (pk (x2.tdiv 9) 10))).frozen? ⟨db, 2, none⟩ = false := by rw [World.frozen?_setCell]; exact zy2
                    generalize (W6.setCell ⟨db, 2, none⟩ (.int .i64 (pk (x2.tdiv 9) 10))) = WB at *
                    refine hK.out _ _ ⟨g0, g1, g2, g3⟩ (fun hHeld => ?_)
                    clear hK K
                    (try simp only [Act.put, List.setIfInBounds_toArray, List.set_cons_zero, List.set_cons_succ])
                    refine wpAnyH_done (by kernel_rfl) ?_ _
                    clear hHeld
                    have HW : Hid (Below fb W4 WB) := hide (hbr2.trans (k5.mono (Nat.le_of_lt hfw)))
                    replace HO2 := hide (own_below HO2.out k5)
                    replace HO1 := hide (own_below HO1.out k5)
                    replace f0 := cell_beh f0 k5 (Nat.le_refl _)
                    replace f1 := cell_beh f1 k5 (Nat.le_refl _)
                    replace f2 := cell_beh f2 k5 (Nat.le_refl _)
                    replace f3 := cell_beh f3 k5 (Nat.le_refl _)
                    replace zf2 := (k5.frozen (p := ⟨fb, 2, none⟩) hfw).trans zf2
                    replace zf3 := (k5.frozen (p := ⟨fb, 3, none⟩) hfw).trans zf3
                    have hfB : fb < WB.heap.size := cell_in f0
                    clear k5 g0 g1 g2 g3
                    have own1 := hide (HO2.out.alloc (.cells #[.int .i64 2, .int .i64 (pk (x1.tdiv 16) 10), .int .i64 (pk (x2.tdiv 9) 10)] 38))
                    have NEWS1 : Hid (∀ q u, [Value.int .i64 2, .int .i64 (pk (x1.tdiv 16) 10), .int .i64 (pk (x2.tdiv 9) 10)][q]? = some u → ((WB).alloc (.cells #[.int .i64 2, .int .i64 (pk (x1.tdiv 16) 10), .int .i64 (pk (x2.tdiv 9) 10)] 38)).cell? ((⟨WB.heap.size, 0, none⟩ : Addr).add q) = some u) := by
                      intro q u hq
                      have hz : WB.heap.size = WB.heap.size := rfl
                      match q, hq with
                      | 0, hq => simp at hq; subst hq; rw [add_fl, ← hz]; exact new_cell _ _ rfl _ _ _ _ rfl
                      | 1, hq => simp at hq; subst hq; rw [add_fl, ← hz]; exact new_cell _ _ rfl _ _ _ _ rfl
                      | 2, hq => simp at hq; subst hq; rw [add_fl, ← hz]; exact new_cell _ _ rfl _ _ _ _ rfl
                    have base1 : fb + 1 ≤ ((WB).alloc (.cells #[.int .i64 2, .int .i64 (pk (x1.tdiv 16) 10), .int .i64 (pk (x2.tdiv 9) 10)] 38)).heap.size := by simp; omega
                    have bel1 : Below (fb + 1) WB ((WB).alloc (.cells #[.int .i64 2, .int .i64 (pk (x1.tdiv 16) 10), .int .i64 (pk (x2.tdiv 9) 10)] 38)) := (Below.refl (fb + 1) WB).alloc (by first | omega | (simp; omega)) (.cells #[.int .i64 2, .int .i64 (pk (x1.tdiv 16) 10), .int .i64 (pk (x2.tdiv 9) 10)] 38)
                    go_wp2_with (at_builtin; refine wpList_append_lies _ rfl (.tmp 113) (.tmp 115) 39 rfl (fb + 1) 38 id _ 3 24 Try.underlying39 hid hD0 hD1 hD2 rfl (by decide) _ _ _ rfl (unhide own1) ⟨WB.heap.size, 0, none⟩ 1 1 [Value.int .i64 2, .int .i64 (pk (x1.tdiv 16) 10), .int .i64 (pk (x2.tdiv 9) 10)] rfl rfl (unhide NEWS1) (one3 _ _ _) (by decide) hx1 hx2 base1 _ rfl ?_)
                    intro g cap w4 ho4 hg4 hat _
                    have hb4 := bel1.grown hg4 base1 (own_ge (unhide own1))
                    have HO4 := hide ho4
                    have HS4 := hide (sep_app HO1.out HSEP.out hat (by first | omega | (simp; done) | (simp; omega)))
                    have HM4 := hide ((HO1.out.alloc (.cells #[.int .i64 2, .int .i64 (pk (x1.tdiv 16) 10), .int .i64 (pk (x2.tdiv 9) 10)] 38)).kept hg4 HSEP.out)
                    replace f0 := (hb4.cell (p := ⟨fb, 0, none⟩) (Nat.lt_succ_self _)).trans f0
                    replace f1 := (hb4.cell (p := ⟨fb, 1, none⟩) (Nat.lt_succ_self _)).trans f1
                    replace f2 := (hb4.cell (p := ⟨fb, 2, none⟩) (Nat.lt_succ_self _)).trans f2
                    replace f3 := (hb4.cell (p := ⟨fb, 3, none⟩) (Nat.lt_succ_self _)).trans f3
                    replace zf2 := (hb4.frozen (p := ⟨fb, 2, none⟩) (Nat.lt_succ_self _)).trans zf2
                    replace zf3 := (hb4.frozen (p := ⟨fb, 3, none⟩) (Nat.lt_succ_self _)).trans zf3
                    have HB4 := hide (HW.out.trans (hb4.mono (Nat.le_succ _)))
                    clear own1 NEWS1 base1 bel1 ho4 hg4 hat hb4 HW HO2 HO1 HSEP hfw
                    go_wp2_with fail
                    go_roundw
                    case rel => exact ⟨i2 + 1, by omega, by go_num, L2.mk ⟨ds ++ [⟨2, pk (x1.tdiv 16) 10, pk (x2.tdiv 9) 10⟩], (.slice (some ⟨g, 0, none⟩) (i2 + 1) cap), by simp [HDL.out], mem_snoc HDB.out (doT2 pd0 (by omega) pe0 (by omega)), (World.cell?_setCell_other _ _ _ _ (by simp <;> omega)).trans f0, (World.cell?_setCell_other _ _ _ _ (by simp <;> omega)).trans f1, (World.cell?_setCell_other _ _ _ _ (by simp <;> omega)).trans f2, World.cell?_setCell_same _ _ _ f3, (by rw [World.frozen?_setCell]; exact zf2), (by rw [World.frozen?_setCell]; exact zf3), (by rw [D_snoc]; exact ownsRow_setCell_below HO4.out (a := ⟨fb, 3, none⟩) (Nat.lt_succ_self _) _), ownsRow_setCell_below HM4.out (a := ⟨fb, 3, none⟩) (Nat.lt_succ_self _) _, HS4.out, HB4.out.setCell (p := ⟨fb, 3, none⟩) (Nat.le_refl _) _⟩⟩
                    case measure => simp [intOf]; omega
                  · have HW : Hid (Below fb W4 wr) := hide hbr2
                    have own1 := hide ((HO2.out.alloc (.cells #[.int .i64 3, .int .i64 (pk (x1.tdiv 16) 10), .int .i64 0] 38)).alloc (.cells #[.int .i64 3, .int .i64 (pk (x1.tdiv 16) 10), .int .i64 0] 38))
                    have NEWS1 : Hid (∀ q u, [Value.int .i64 3, .int .i64 (pk (x1.tdiv 16) 10), .int .i64 0][q]? = some u → ((wr.alloc (.cells #[.int .i64 3, .int .i64 (pk (x1.tdiv 16) 10), .int .i64 0] 38)).alloc (.cells #[.int .i64 3, .int .i64 (pk (x1.tdiv 16) 10), .int .i64 0] 38)).cell? ((⟨wr.heap.size + 1, 0, none⟩ : Addr).add q) = some u) := by
                      intro q u hq
                      have hz : (wr.alloc (.cells #[.int .i64 3, .int .i64 (pk (x1.tdiv 16) 10), .int .i64 0] 38)).heap.size = wr.heap.size + 1 := by simp
                      match q, hq with
                      | 0, hq => simp at hq; subst hq; rw [add_fl, ← hz]; exact new_cell _ _ rfl _ _ _ _ rfl
                      | 1, hq => simp at hq; subst hq; rw [add_fl, ← hz]; exact new_cell _ _ rfl _ _ _ _ rfl
                      | 2, hq => simp at hq; subst hq; rw [add_fl, ← hz]; exact new_cell _ _ rfl _ _ _ _ rfl
                    have base1 : fb + 1 ≤ ((wr.alloc (.cells #[.int .i64 3, .int .i64 (pk (x1.tdiv 16) 10), .int .i64 0] 38)).alloc (.cells #[.int .i64 3, .int .i64 (pk (x1.tdiv 16) 10), .int .i64 0] 38)).heap.size := by simp; omega
                    have bel1 : Below (fb + 1) wr ((wr.alloc (.cells #[.int .i64 3, .int .i64 (pk (x1.tdiv 16) 10), .int .i64 0] 38)).alloc (.cells #[.int .i64 3, .int .i64 (pk (x1.tdiv 16) 10), .int .i64 0] 38)) := ((Below.refl (fb + 1) wr).alloc (by omega) (.cells #[.int .i64 3, .int .i64 (pk (x1.tdiv 16) 10), .int .i64 0] 38)).alloc (by first | omega | (simp; omega)) (.cells #[.int .i64 3, .int .i64 (pk (x1.tdiv 16) 10), .int .i64 0] 38)
                    go_wp2_with fail
                    refine (unhide HPD _).mono ?_
                    rintro e WD ⟨rfl, hWD⟩
                    rw [hWD]
                    clear hWD WD HPD
                    go_wp2_with (first | (go_at_call 14; refine (picked_any _ _ _ (by omega) (by omega) (by omega) (by omega)).mono ?_; rintro e WD ⟨rfl, hWD⟩; rw [hWD]; clear hWD WD) | (at_builtin; refine wpList_append_lies _ rfl (.tmp 113) (.tmp 115) 39 rfl (fb + 1) 38 id _ 3 24 Try.underlying39 hid hD0 hD1 hD2 rfl (by decide) _ _ _ rfl (unhide own1) ⟨wr.heap.size + 1, 0, none⟩ 1 1 [Value.int .i64 3, .int .i64 (pk (x1.tdiv 16) 10), .int .i64 0] rfl rfl (unhide NEWS1) (one3 _ _ _) (by decide) hx1 hx2 base1 _ rfl ?_))
                    intro g cap w4 ho4 hg4 hat _
                    have hb4 := bel1.grown hg4 base1 (own_ge (unhide own1))
                    have HO4 := hide ho4
                    have HS4 := hide (sep_app HO1.out HSEP.out hat (by first | omega | (simp; done) | (simp; omega)))
                    have HM4 := hide (((HO1.out.alloc (.cells #[.int .i64 3, .int .i64 (pk (x1.tdiv 16) 10), .int .i64 0] 38)).alloc (.cells #[.int .i64 3, .int .i64 (pk (x1.tdiv 16) 10), .int .i64 0] 38)).kept hg4 HSEP.out)
                    replace f0 := (hb4.cell (p := ⟨fb, 0, none⟩) (Nat.lt_succ_self _)).trans f0
                    replace f1 := (hb4.cell (p := ⟨fb, 1, none⟩) (Nat.lt_succ_self _)).trans f1
                    replace f2 := (hb4.cell (p := ⟨fb, 2, none⟩) (Nat.lt_succ_self _)).trans f2
                    replace f3 := (hb4.cell (p := ⟨fb, 3, none⟩) (Nat.lt_succ_self _)).trans f3
                    replace zf2 := (hb4.frozen (p := ⟨fb, 2, none⟩) (Nat.lt_succ_self _)).trans zf2
                    replace zf3 := (hb4.frozen (p := ⟨fb, 3, none⟩) (Nat.lt_succ_self _)).trans zf3
                    have HB4 := hide (HW.out.trans (hb4.mono (Nat.le_succ _)))
                    clear own1 NEWS1 base1 bel1 ho4 hg4 hat hb4 HW HO2 HO1 HSEP hfw
                    go_wp2_with fail
                    go_roundw
                    case rel => exact ⟨i2 + 1, by omega, by go_num, L2.mk ⟨ds ++ [⟨3, pk (x1.tdiv 16) 10, 0⟩], (.slice (some ⟨g, 0, none⟩) (i2 + 1) cap), by simp [HDL.out], mem_snoc HDB.out (doT3 pd0 (by omega)), (World.cell?_setCell_other _ _ _ _ (by simp <;> omega)).trans f0, (World.cell?_setCell_other _ _ _ _ (by simp <;> omega)).trans f1, (World.cell?_setCell_other _ _ _ _ (by simp <;> omega)).trans f2, World.cell?_setCell_same _ _ _ f3, (by rw [World.frozen?_setCell]; exact zf2), (by rw [World.frozen?_setCell]; exact zf3), (by rw [D_snoc]; exact ownsRow_setCell_below HO4.out (a := ⟨fb, 3, none⟩) (Nat.lt_succ_self _) _), ownsRow_setCell_below HM4.out (a := ⟨fb, 3, none⟩) (Nat.lt_succ_self _) _, HS4.out, HB4.out.setCell (p := ⟨fb, 3, none⟩) (Nat.le_refl _) _⟩⟩
                    case measure => simp [intOf]; omega
                  · have HW : Hid (Below fb W4 wr) := hide hbr2
                    have own1 := hide ((HO2.out.alloc (.cells #[.int .i64 5, .int .i64 0, .int .i64 9] 38)).alloc (.cells #[.int .i64 5, .int .i64 0, .int .i64 9] 38))
                    have NEWS1 : Hid (∀ q u, [Value.int .i64 5, .int .i64 0, .int .i64 9][q]? = some u → ((wr.alloc (.cells #[.int .i64 5, .int .i64 0, .int .i64 9] 38)).alloc (.cells #[.int .i64 5, .int .i64 0, .int .i64 9] 38)).cell? ((⟨wr.heap.size + 1, 0, none⟩ : Addr).add q) = some u) := by
                      intro q u hq
                      have hz : (wr.alloc (.cells #[.int .i64 5, .int .i64 0, .int .i64 9] 38)).heap.size = wr.heap.size + 1 := by simp
                      match q, hq with
                      | 0, hq => simp at hq; subst hq; rw [add_fl, ← hz]; exact new_cell _ _ rfl _ _ _ _ rfl
                      | 1, hq => simp at hq; subst hq; rw [add_fl, ← hz]; exact new_cell _ _ rfl _ _ _ _ rfl
                      | 2, hq => simp at hq; subst hq; rw [add_fl, ← hz]; exact new_cell _ _ rfl _ _ _ _ rfl
                    have base1 : fb + 1 ≤ ((wr.alloc (.cells #[.int .i64 5, .int .i64 0, .int .i64 9] 38)).alloc (.cells #[.int .i64 5, .int .i64 0, .int .i64 9] 38)).heap.size := by simp; omega
                    have bel1 : Below (fb + 1) wr ((wr.alloc (.cells #[.int .i64 5, .int .i64 0, .int .i64 9] 38)).alloc (.cells #[.int .i64 5, .int .i64 0, .int .i64 9] 38)) := ((Below.refl (fb + 1) wr).alloc (by omega) (.cells #[.int .i64 5, .int .i64 0, .int .i64 9] 38)).alloc (by first | omega | (simp; omega)) (.cells #[.int .i64 5, .int .i64 0, .int .i64 9] 38)
                    go_wp2_with fail
                    refine (unhide HPD _).mono ?_
                    rintro e WD ⟨rfl, hWD⟩
                    rw [hWD]
                    clear hWD WD HPD
                    go_wp2_with (first | (go_at_call 14; refine (picked_any _ _ _ (by omega) (by omega) (by omega) (by omega)).mono ?_; rintro e WD ⟨rfl, hWD⟩; rw [hWD]; clear hWD WD) | (at_builtin; refine wpList_append_lies _ rfl (.tmp 113) (.tmp 115) 39 rfl (fb + 1) 38 id _ 3 24 Try.underlying39 hid hD0 hD1 hD2 rfl (by decide) _ _ _ rfl (unhide own1) ⟨wr.heap.size + 1, 0, none⟩ 1 1 [Value.int .i64 5, .int .i64 0, .int .i64 9] rfl rfl (unhide NEWS1) (one3 _ _ _) (by decide) hx1 hx2 base1 _ rfl ?_))
                    intro g cap w4 ho4 hg4 hat _
                    have hb4 := bel1.grown hg4 base1 (own_ge (unhide own1))
                    have HO4 := hide ho4
                    have HS4 := hide (sep_app HO1.out HSEP.out hat (by first | omega | (simp; done) | (simp; omega)))
                    have HM4 := hide (((HO1.out.alloc (.cells #[.int .i64 5, .int .i64 0, .int .i64 9] 38)).alloc (.cells #[.int .i64 5, .int .i64 0, .int .i64 9] 38)).kept hg4 HSEP.out)
                    replace f0 := (hb4.cell (p := ⟨fb, 0, none⟩) (Nat.lt_succ_self _)).trans f0
                    replace f1 := (hb4.cell (p := ⟨fb, 1, none⟩) (Nat.lt_succ_self _)).trans f1
                    replace f2 := (hb4.cell (p := ⟨fb, 2, none⟩) (Nat.lt_succ_self _)).trans f2
                    replace f3 := (hb4.cell (p := ⟨fb, 3, none⟩) (Nat.lt_succ_self _)).trans f3
                    replace zf2 := (hb4.frozen (p := ⟨fb, 2, none⟩) (Nat.lt_succ_self _)).trans zf2
                    replace zf3 := (hb4.frozen (p := ⟨fb, 3, none⟩) (Nat.lt_succ_self _)).trans zf3
                    have HB4 := hide (HW.out.trans (hb4.mono (Nat.le_succ _)))
                    clear own1 NEWS1 base1 bel1 ho4 hg4 hat hb4 HW HO2 HO1 HSEP hfw
                    go_wp2_with fail
                    go_roundw
                    case rel => exact ⟨i2 + 1, by omega, by go_num, L2.mk ⟨ds ++ [⟨5, 0, 9⟩], (.slice (some ⟨g, 0, none⟩) (i2 + 1) cap), by simp [HDL.out], mem_snoc HDB.out (doT5 (by omega) (by omega)), (World.cell?_setCell_other _ _ _ _ (by simp <;> omega)).trans f0, (World.cell?_setCell_other _ _ _ _ (by simp <;> omega)).trans f1, (World.cell?_setCell_other _ _ _ _ (by simp <;> omega)).trans f2, World.cell?_setCell_same _ _ _ f3, (by rw [World.frozen?_setCell]; exact zf2), (by rw [World.frozen?_setCell]; exact zf3), (by rw [D_snoc]; exact ownsRow_setCell_below HO4.out (a := ⟨fb, 3, none⟩) (Nat.lt_succ_self _) _), ownsRow_setCell_below HM4.out (a := ⟨fb, 3, none⟩) (Nat.lt_succ_self _) _, HS4.out, HB4.out.setCell (p := ⟨fb, 3, none⟩) (Nat.le_refl _) _⟩⟩
                    case measure => simp [intOf]; omega
                  · have HW : Hid (Below fb W4 wr) := hide hbr2
                    have own1 := hide ((HO2.out.alloc (.cells #[.int .i64 5, .int .i64 0, .int .i64 (pk x2 6)] 38)).alloc (.cells #[.int .i64 5, .int .i64 0, .int .i64 (pk x2 6)] 38))
                    have NEWS1 : Hid (∀ q u, [Value.int .i64 5, .int .i64 0, .int .i64 (pk x2 6)][q]? = some u → ((wr.alloc (.cells #[.int .i64 5, .int .i64 0, .int .i64 (pk x2 6)] 38)).alloc (.cells #[.int .i64 5, .int .i64 0, .int .i64 (pk x2 6)] 38)).cell? ((⟨wr.heap.size + 1, 0, none⟩ : Addr).add q) = some u) := by
                      intro q u hq
                      have hz : (wr.alloc (.cells #[.int .i64 5, .int .i64 0, .int .i64 (pk x2 6)] 38)).heap.size = wr.heap.size + 1 := by simp
                      match q, hq with
                      | 0, hq => simp at hq; subst hq; rw [add_fl, ← hz]; exact new_cell _ _ rfl _ _ _ _ rfl
                      | 1, hq => simp at hq; subst hq; rw [add_fl, ← hz]; exact new_cell _ _ rfl _ _ _ _ rfl
                      | 2, hq => simp at hq; subst hq; rw [add_fl, ← hz]; exact new_cell _ _ rfl _ _ _ _ rfl
                    have base1 : fb + 1 ≤ ((wr.alloc (.cells #[.int .i64 5, .int .i64 0, .int .i64 (pk x2 6)] 38)).alloc (.cells #[.int .i64 5, .int .i64 0, .int .i64 (pk x2 6)] 38)).heap.size := by simp; omega
                    have bel1 : Below (fb + 1) wr ((wr.alloc (.cells #[.int .i64 5, .int .i64 0, .int .i64 (pk x2 6)] 38)).alloc (.cells #[.int .i64 5, .int .i64 0, .int .i64 (pk x2 6)] 38)) := ((Below.refl (fb + 1) wr).alloc (by omega) (.cells #[.int .i64 5, .int .i64 0, .int .i64 (pk x2 6)] 38)).alloc (by first | omega | (simp; omega)) (.cells #[.int .i64 5, .int .i64 0, .int .i64 (pk x2 6)] 38)
                    go_wp2_with fail
                    refine (unhide HPD _).mono ?_
                    rintro e WD ⟨rfl, hWD⟩
                    rw [hWD]
                    clear hWD WD HPD
                    go_wp2_with (first | (go_at_call 14; refine (picked_any _ _ _ (by omega) (by omega) (by omega) (by omega)).mono ?_; rintro e WD ⟨rfl, hWD⟩; rw [hWD]; clear hWD WD) | (at_builtin; refine wpList_append_lies _ rfl (.tmp 113) (.tmp 115) 39 rfl (fb + 1) 38 id _ 3 24 Try.underlying39 hid hD0 hD1 hD2 rfl (by decide) _ _ _ rfl (unhide own1) ⟨wr.heap.size + 1, 0, none⟩ 1 1 [Value.int .i64 5, .int .i64 0, .int .i64 (pk x2 6)] rfl rfl (unhide NEWS1) (one3 _ _ _) (by decide) hx1 hx2 base1 _ rfl ?_))
                    intro g cap w4 ho4 hg4 hat _
                    have hb4 := bel1.grown hg4 base1 (own_ge (unhide own1))
                    have HO4 := hide ho4
                    have HS4 := hide (sep_app HO1.out HSEP.out hat (by first | omega | (simp; done) | (simp; omega)))
                    have HM4 := hide (((HO1.out.alloc (.cells #[.int .i64 5, .int .i64 0, .int .i64 (pk x2 6)] 38)).alloc (.cells #[.int .i64 5, .int .i64 0, .int .i64 (pk x2 6)] 38)).kept hg4 HSEP.out)
                    replace f0 := (hb4.cell (p := ⟨fb, 0, none⟩) (Nat.lt_succ_self _)).trans f0
                    replace f1 := (hb4.cell (p := ⟨fb, 1, none⟩) (Nat.lt_succ_self _)).trans f1
                    replace f2 := (hb4.cell (p := ⟨fb, 2, none⟩) (Nat.lt_succ_self _)).trans f2
                    replace f3 := (hb4.cell (p := ⟨fb, 3, none⟩) (Nat.lt_succ_self _)).trans f3
                    replace zf2 := (hb4.frozen (p := ⟨fb, 2, none⟩) (Nat.lt_succ_self _)).trans zf2
                    replace zf3 := (hb4.frozen (p := ⟨fb, 3, none⟩) (Nat.lt_succ_self _)).trans zf3
                    have HB4 := hide (HW.out.trans (hb4.mono (Nat.le_succ _)))
                    clear own1 NEWS1 base1 bel1 ho4 hg4 hat hb4 HW HO2 HO1 HSEP hfw
                    go_wp2_with fail
                    go_roundw
                    case rel => exact ⟨i2 + 1, by omega, by go_num, L2.mk ⟨ds ++ [⟨5, 0, pk x2 6⟩], (.slice (some ⟨g, 0, none⟩) (i2 + 1) cap), by simp [HDL.out], mem_snoc HDB.out (doT5 pg0 (by omega)), (World.cell?_setCell_other _ _ _ _ (by simp <;> omega)).trans f0, (World.cell?_setCell_other _ _ _ _ (by simp <;> omega)).trans f1, (World.cell?_setCell_other _ _ _ _ (by simp <;> omega)).trans f2, World.cell?_setCell_same _ _ _ f3, (by rw [World.frozen?_setCell]; exact zf2), (by rw [World.frozen?_setCell]; exact zf3), (by rw [D_snoc]; exact ownsRow_setCell_below HO4.out (a := ⟨fb, 3, none⟩) (Nat.lt_succ_self _) _), ownsRow_setCell_below HM4.out (a := ⟨fb, 3, none⟩) (Nat.lt_succ_self _) _, HS4.out, HB4.out.setCell (p := ⟨fb, 3, none⟩) (Nat.le_refl _) _⟩⟩
                    case measure => simp [intOf]; omega
                  · have HW : Hid (Below fb W4 wr) := hide hbr2
                    have own1 := hide ((HO2.out.alloc (.cells #[.int .i64 6, .int .i64 0, .int .i64 (pk x2 6)] 38)).alloc (.cells #[.int .i64 6, .int .i64 0, .int .i64 (pk x2 6)] 38))
                    have NEWS1 : Hid (∀ q u, [Value.int .i64 6, .int .i64 0, .int .i64 (pk x2 6)][q]? = some u → ((wr.alloc (.cells #[.int .i64 6, .int .i64 0, .int .i64 (pk x2 6)] 38)).alloc (.cells #[.int .i64 6, .int .i64 0, .int .i64 (pk x2 6)] 38)).cell? ((⟨wr.heap.size + 1, 0, none⟩ : Addr).add q) = some u) := by
                      intro q u hq
                      have hz : (wr.alloc (.cells #[.int .i64 6, .int .i64 0, .int .i64 (pk x2 6)] 38)).heap.size = wr.heap.size + 1 := by simp
                      match q, hq with
                      | 0, hq => simp at hq; subst hq; rw [add_fl, ← hz]; exact new_cell _ _ rfl _ _ _ _ rfl
                      | 1, hq => simp at hq; subst hq; rw [add_fl, ← hz]; exact new_cell _ _ rfl _ _ _ _ rfl
                      | 2, hq => simp at hq; subst hq; rw [add_fl, ← hz]; exact new_cell _ _ rfl _ _ _ _ rfl
                    have base1 : fb + 1 ≤ ((wr.alloc (.cells #[.int .i64 6, .int .i64 0, .int .i64 (pk x2 6)] 38)).alloc (.cells #[.int .i64 6, .int .i64 0, .int .i64 (pk x2 6)] 38)).heap.size := by simp; omega
                    have bel1 : Below (fb + 1) wr ((wr.alloc (.cells #[.int .i64 6, .int .i64 0, .int .i64 (pk x2 6)] 38)).alloc (.cells #[.int .i64 6, .int .i64 0, .int .i64 (pk x2 6)] 38)) := ((Below.refl (fb + 1) wr).alloc (by omega) (.cells #[.int .i64 6, .int .i64 0, .int .i64 (pk x2 6)] 38)).alloc (by first | omega | (simp; omega)) (.cells #[.int .i64 6, .int .i64 0, .int .i64 (pk x2 6)] 38)
                    go_wp2_with fail
                    refine (unhide HPD _).mono ?_
                    rintro e WD ⟨rfl, hWD⟩
                    rw [hWD]
                    clear hWD WD HPD
                    go_wp2_with (first | (go_at_call 14; refine (picked_any _ _ _ (by omega) (by omega) (by omega) (by omega)).mono ?_; rintro e WD ⟨rfl, hWD⟩; rw [hWD]; clear hWD WD) | (at_builtin; refine wpList_append_lies _ rfl (.tmp 113) (.tmp 115) 39 rfl (fb + 1) 38 id _ 3 24 Try.underlying39 hid hD0 hD1 hD2 rfl (by decide) _ _ _ rfl (unhide own1) ⟨wr.heap.size + 1, 0, none⟩ 1 1 [Value.int .i64 6, .int .i64 0, .int .i64 (pk x2 6)] rfl rfl (unhide NEWS1) (one3 _ _ _) (by decide) hx1 hx2 base1 _ rfl ?_))
                    intro g cap w4 ho4 hg4 hat _
                    have hb4 := bel1.grown hg4 base1 (own_ge (unhide own1))
                    have HO4 := hide ho4
                    have HS4 := hide (sep_app HO1.out HSEP.out hat (by first | omega | (simp; done) | (simp; omega)))
                    have HM4 := hide (((HO1.out.alloc (.cells #[.int .i64 6, .int .i64 0, .int .i64 (pk x2 6)] 38)).alloc (.cells #[.int .i64 6, .int .i64 0, .int .i64 (pk x2 6)] 38)).kept hg4 HSEP.out)
                    replace f0 := (hb4.cell (p := ⟨fb, 0, none⟩) (Nat.lt_succ_self _)).trans f0
                    replace f1 := (hb4.cell (p := ⟨fb, 1, none⟩) (Nat.lt_succ_self _)).trans f1
                    replace f2 := (hb4.cell (p := ⟨fb, 2, none⟩) (Nat.lt_succ_self _)).trans f2
                    replace f3 := (hb4.cell (p := ⟨fb, 3, none⟩) (Nat.lt_succ_self _)).trans f3
                    replace zf2 := (hb4.frozen (p := ⟨fb, 2, none⟩) (Nat.lt_succ_self _)).trans zf2
                    replace zf3 := (hb4.frozen (p := ⟨fb, 3, none⟩) (Nat.lt_succ_self _)).trans zf3
                    have HB4 := hide (HW.out.trans (hb4.mono (Nat.le_succ _)))
                    clear own1 NEWS1 base1 bel1 ho4 hg4 hat hb4 HW HO2 HO1 HSEP hfw
                    go_wp2_with fail
                    go_roundw
                    case rel => exact ⟨i2 + 1, by omega, by go_num, L2.mk ⟨ds ++ [⟨6, 0, pk x2 6⟩], (.slice (some ⟨g, 0, none⟩) (i2 + 1) cap), by simp [HDL.out], mem_snoc HDB.out (doT6 pg0 (by omega)), (World.cell?_setCell_other _ _ _ _ (by simp <;> omega)).trans f0, (World.cell?_setCell_other _ _ _ _ (by simp <;> omega)).trans f1, (World.cell?_setCell_other _ _ _ _ (by simp <;> omega)).trans f2, World.cell?_setCell_same _ _ _ f3, (by rw [World.frozen?_setCell]; exact zf2), (by rw [World.frozen?_setCell]; exact zf3), (by rw [D_snoc]; exact ownsRow_setCell_below HO4.out (a := ⟨fb, 3, none⟩) (Nat.lt_succ_self _) _), ownsRow_setCell_below HM4.out (a := ⟨fb, 3, none⟩) (Nat.lt_succ_self _) _, HS4.out, HB4.out.setCell (p := ⟨fb, 3, none⟩) (Nat.le_refl _) _⟩⟩
                    case measure => simp [intOf]; omega
                · have hi3 : i2 ≤ 3 := by omega
                  have g0 : wr.cell? ⟨rb, 0, none⟩ = some (.int .i64 x0) := (hbr2.cell (p := ⟨rb, 0, none⟩) hrf).trans e0
                  have g1 : wr.cell? ⟨rb, 1, none⟩ = some (.int .i64 x1) := (hbr2.cell (p := ⟨rb, 1, none⟩) hrf).trans e1
                  have g2 : wr.cell? ⟨rb, 2, none⟩ = some (.int .i64 x2) := (hbr2.cell (p := ⟨rb, 2, none⟩) hrf).trans e2
                  have g3 : wr.cell? ⟨rb, 3, none⟩ = some (.int .i64 x3) := (hbr2.cell (p := ⟨rb, 3, none⟩) hrf).trans e3
                  obtain ⟨a40, a41⟩ := tdiv_half x0 4 (by omega) ha0 ha1
                  have va4 := wrap_i64_in (x0.tdiv 4) (by omega) (by omega)
                  obtain ⟨a80, a81⟩ := tdiv_half x0 8 (by omega) ha0 ha1
                  have va8 := wrap_i64_in (x0.tdiv 8) (by omega) (by omega)
                  obtain ⟨pt0, pt1⟩ := pk_in x0 4 (by omega)
                  obtain ⟨pp0, pp1⟩ := pk_in x1 4 (by omega)
                  obtain ⟨pq0, pq1⟩ := pk_in (x0.tdiv 4) 2 (by omega)
                  obtain ⟨pr0', pr1'⟩ := pk_in (x0.tdiv 8) 3 (by omega)
                  have hVf : VV.heap.size ≤ fb := by omega
                  have kV : Hid (Below VV.heap.size VV wr) := hide ((k1.trans (hbr.mono hVf)).trans (hbr2.mono hVf))
                  have hfw : fb < wr.heap.size := cell_in f0
                  have nfw : ¬ fb = wr.heap.size := by omega
                  obtain ⟨vo2, vn2, vc2, rfl⟩ := own_slice HO2.out
                  by_cases h3 : pk x0 4 < 3
                  · by_cases hp : pk (x0.tdiv 4) 2 = 0
                    · have u30 := wrap_i64_in (pk x0 4 + 1) (by omega) (by omega)
                      have u31 := wrap_i64_in (pk x0 4 + 1 + pk (x0.tdiv 8) 3) (by omega) (by omega)
                      go_wp2_with (first | (go_at_call 14; refine (picked_any _ _ _ (by omega) (by omega) (by omega) (by omega)).mono ?_; rintro e WD ⟨rfl, hWD⟩; rw [hWD]; clear hWD WD))
                      replace HO1 := hide HO1.out.drew
                      replace HO2 := hide HO2.out.drew
                      replace kV := hide kV.out.drew
                      clear zf2 hfw nfw hbr2
                      refine wp_region_held_drew (S := (fun w' => w'.cell? ⟨rb, 0, none⟩ = some (.int .i64 x0) ∧ w'.cell? ⟨rb, 1, none⟩ = some (.int .i64 x1) ∧ w'.cell? ⟨rb, 2, none⟩ = some (.int .i64 x2) ∧ w'.cell? ⟨rb, 3, none⟩ = some (.int .i64 x3) ∧ w'.cell? ⟨fb, 0, none⟩ = some (.int .i64 (pk x0 4)) ∧ w'.cell? ⟨fb, 1, none⟩ = some (.int .i64 (pk x1 4)) ∧ w'.cell? ⟨fb, 2, none⟩ = some (.slice vo vn vc))) (by kernel_rfl) ⟨g0, g1, g2, g3, f0, f1, f2⟩ (fun hHeld => ?_)
                      have HDW : Below wr.heap.size wr wr.drew := (Below.refl _ _).drew
                      replace zf3 := (HDW.frozen (p := ⟨fb, 3, none⟩) (cell_in f3)).trans zf3
                      replace g0 := cell_beh g0 HDW (Nat.le_refl _)
                      replace g1 := cell_beh g1 HDW (Nat.le_refl _)
                      replace g2 := cell_beh g2 HDW (Nat.le_refl _)
                      replace g3 := cell_beh g3 HDW (Nat.le_refl _)
                      replace f0 := cell_beh f0 HDW (Nat.le_refl _)
                      replace f1 := cell_beh f1 HDW (Nat.le_refl _)
                      replace f2 := cell_beh f2 HDW (Nat.le_refl _)
                      replace f3 := cell_beh f3 HDW (Nat.le_refl _)
                      clear HDW
                      generalize wr.drew = V0 at *
                      refine wpAnyH_take (i := 0) (oi := ⟨some 129, _, _, _, _, _⟩) (v := ?v65) rfl (by kernel_rfl) (by kernel_rfl) (by kernel_rfl) (fun _ _ _ h => h) (Or.inl ⟨by rfl, ?h65⟩) (by assumption) ?r65
                      case h65 => (intro w hSw; (try dsimp only at hSw); go_simp <;> with_reducible rfl)
                      (try simp only [Act.put, List.setIfInBounds_toArray, List.set_cons_zero, List.set_cons_succ])
                      refine wpAnyH_take (i := 2) (oi := ⟨some 131, _, _, _, _, _⟩) (v := ?v66) rfl (by kernel_rfl) (by kernel_rfl) (by kernel_rfl) (fun _ _ _ h => h) (Or.inl ⟨by rfl, ?h66⟩) (by assumption) ?r66
                      case h66 => (intro w hSw; (try dsimp only at hSw); go_simp <;> with_reducible rfl)
                      (try simp only [Act.put, List.setIfInBounds_toArray, List.set_cons_zero, List.set_cons_succ])
                      refine wpAnyH_take (i := 3) (oi := ⟨some 132, _, _, _, _, _⟩) (v := ?v67) rfl (by kernel_rfl) (by kernel_rfl) (by kernel_rfl) (fun _ _ _ h => h) (Or.inl ⟨by rfl, ?h67⟩) (by assumption) ?r67
                      case h67 => (intro w hSw; (try dsimp only at hSw); go_simp <;> with_reducible rfl)
                      (try simp only [Act.put, List.setIfInBounds_toArray, List.set_cons_zero, List.set_cons_succ])
                      refine wpAnyH_take (i := 4) (oi := ⟨some 133, _, _, _, _, _⟩) (v := ?v68) rfl (by kernel_rfl) (by kernel_rfl) (by kernel_rfl) (fun _ _ _ h => h) (Or.inl ⟨by rfl, ?h68⟩) (by assumption) ?r68
                      case h68 => (intro w hSw; (try dsimp only at hSw); go_simp <;> with_reducible rfl)
                      (try simp only [Act.put, List.setIfInBounds_toArray, List.set_cons_zero, List.set_cons_succ])
                      refine wpAnyH_take (i := 5) (oi := ⟨some 134, _, _, _, _, _⟩) (v := ?v69) rfl (by kernel_rfl) (by kernel_rfl) (by kernel_rfl) (fun _ _ _ h => h) (Or.inl ⟨by rfl, ?h69⟩) (by assumption) ?r69
                      case h69 => (intro w hSw; (try dsimp only at hSw); go_simp <;> with_reducible rfl)
                      (try simp only [Act.put, List.setIfInBounds_toArray, List.set_cons_zero, List.set_cons_succ])
                      refine wpAnyH_take (i := 6) (oi := ⟨some 135, _, _, _, _, _⟩) (v := ?v70) rfl (by kernel_rfl) (by kernel_rfl) (by kernel_rfl) (fun _ _ _ h => h) (Or.inl ⟨by rfl, ?h70⟩) (by assumption) ?r70
                      case h70 => (intro w hSw; (try dsimp only at hSw); go_simp <;> with_reducible rfl)
                      (try simp only [Act.put, List.setIfInBounds_toArray, List.set_cons_zero, List.set_cons_succ])
                      refine wpAnyH_take (i := 7) (oi := ⟨some 136, _, _, _, _, _⟩) (v := ?v71) rfl (by kernel_rfl) (by kernel_rfl) (by kernel_rfl) (fun _ _ _ h => h) (Or.inl ⟨by rfl, ?h71⟩) (by assumption) ?r71
                      case h71 => (intro w hSw; (try dsimp only at hSw); go_simp <;> with_reducible rfl)
                      (try simp only [Act.put, List.setIfInBounds_toArray, List.set_cons_zero, List.set_cons_succ])
                      refine wpAnyH_ready (rs := [1, 8]) (by kernel_rfl) (by simp) ?_
                      refine (AllReadyH.cons (o := ⟨some 130, _, _, _, _, _⟩) rfl (fun K hK => ?_) (AllReadyH.cons (o := ⟨some 137, _, _, _, _, _⟩) rfl (fun K hK => ?_) AllReadyH.nil))
                      · clear hHeld
                        go_simp
                        refine hK.out _ _ ⟨g0, g1, g2, g3, f0, f1, f2⟩ (fun hHeld => ?_)
                        clear hK K
                        (try simp only [Act.put, List.setIfInBounds_toArray, List.set_cons_zero, List.set_cons_succ])
                        refine wpAnyH_ready (rs := [8]) (by kernel_rfl) (by simp) ?_
                        refine (AllReadyH.cons (o := ⟨some 137, _, _, _, _, _⟩) rfl (fun K hK => ?_) AllReadyH.nil)
                        go_simp
                        clear hHeld
                        refine (picked_any _ _ _ (by omega) (by omega) (by omega) (by omega)).mono ?_
                        rintro e W92 ⟨rfl, rfl⟩
                        refine hK.out _ _ ⟨g0, g1, g2, g3, f0, f1, f2⟩ (fun hHeld => ?_)
                        clear hK K
                        (try simp only [Act.put, List.setIfInBounds_toArray, List.set_cons_zero, List.set_cons_succ])
                        refine wpAnyH_take (i := 9) (oi := ⟨some 138, _, _, _, _, _⟩) (v := ?v72) rfl (by kernel_rfl) (by kernel_rfl) (by kernel_rfl) (fun _ _ _ h => h) (Or.inl ⟨by rfl, ?h72⟩) (by assumption) ?r72
                        case h72 => (intro w hSw; (try dsimp only at hSw); go_simp <;> with_reducible rfl)
                        (try simp only [Act.put, List.setIfInBounds_toArray, List.set_cons_zero, List.set_cons_succ])
                        refine wpAnyH_take (i := 10) (oi := ⟨some 139, _, _, _, _, _⟩) (v := ?v73) rfl (by kernel_rfl) (by kernel_rfl) (by kernel_rfl) (fun _ _ _ h => h) (Or.inl ⟨by rfl, ?h73⟩) (by assumption) ?r73
                        case h73 => (intro w hSw; (try dsimp only at hSw); go_simp <;> with_reducible rfl)
                        (try simp only [Act.put, List.setIfInBounds_toArray, List.set_cons_zero, List.set_cons_succ])
                        refine wpAnyH_ready (rs := [11]) (by kernel_rfl) (by simp) ?_
                        refine (AllReadyH.cons (o := ⟨some 140, _, _, _, _, _⟩) rfl (fun K hK => ?_) AllReadyH.nil)
                        go_simp
                        clear hHeld
                        obtain ⟨V3, hV⟩ : ∃ V3, V3 = W92.alloc (.cells #[.int .i64 4, .int .i64 0, .int .i64 (pk x0 4 + 1 + pk (x0.tdiv 8) 3)] 38) := ⟨_, rfl⟩
                        obtain ⟨sb, hbx⟩ : ∃ sb, sb = W92.heap.size := ⟨_, rfl⟩
                        have hbN : Below W92.heap.size W92 V3 := by rw [hV]; exact (Below.refl _ _).alloc (Nat.le_refl _) _
                        have NEWS1 : Hid (∀ q u, [Value.int .i64 4, .int .i64 0, .int .i64 (pk x0 4 + 1 + pk (x0.tdiv 8) 3)][q]? = some u → V3.cell? ((⟨sb, 0, none⟩ : Addr).add q) = some u) := fun q u hq => by rw [hV, hbx, add_fl, Nat.zero_add]; exact new_cell W92 _ rfl _ _ q u (by simpa using hq)
                        replace HO2 := hide (own_below HO2.out hbN)
                        replace HO1 := hide (own_below HO1.out hbN)
                        replace kV := hide (kV.out.trans (hbN.mono kV.out.size))
                        replace zf3 := (hbN.frozen (p := ⟨fb, 3, none⟩) (cell_in f3)).trans zf3
                        replace g0 := cell_beh g0 hbN (Nat.le_refl _)
                        replace g1 := cell_beh g1 hbN (Nat.le_refl _)
                        replace g2 := cell_beh g2 hbN (Nat.le_refl _)
                        replace g3 := cell_beh g3 hbN (Nat.le_refl _)
                        replace f0 := cell_beh f0 hbN (Nat.le_refl _)
                        replace f1 := cell_beh f1 hbN (Nat.le_refl _)
                        replace f2 := cell_beh f2 hbN (Nat.le_refl _)
                        replace f3 := cell_beh f3 hbN (Nat.le_refl _)
                        rw [← hV, ← hbx]
                        clear hV hbx hbN
                        refine hK.out _ _ ⟨g0, g1, g2, g3, f0, f1, f2⟩ (fun hHeld => ?_)
                        clear hK K
                        (try simp only [Act.put, List.setIfInBounds_toArray, List.set_cons_zero, List.set_cons_succ])
                        refine wpAnyH_ready (rs := [12]) (by kernel_rfl) (by simp) ?_
                        refine (AllReadyH.cons (o := ⟨some 141, _, _, _, _, _⟩) rfl (fun K hK => ?_) AllReadyH.nil)
                        clear hHeld
                        have hbase : fb + 1 ≤ V3.heap.size := cell_in f0
                        have hx1 : i2 + 1 ≤ maxLen := by unfold maxLen; omega
                        have hx2 : (i2 + 1) * 24 ≤ 140737488355328 := by omega
                        refine step_append_lies _ rfl (.tmp 130) (.tmp 140) 39 rfl (fb + 1) 38 id _ 3 24 Try.underlying39 hid hD0 hD1 hD2 rfl (by decide) _ _ _ rfl (unhide HO2) ⟨sb, 0, none⟩ 1 1 [Value.int .i64 4, .int .i64 0, .int .i64 (pk x0 4 + 1 + pk (x0.tdiv 8) 3)] rfl rfl (unhide NEWS1) (one3 _ _ _) (by decide) hx1 hx2 hbase _ rfl ?_
                        intro g cap w4 ho4 hg4 hat _
                        have hb4 : Below (fb + 1) V3 w4 := (Below.refl _ _).grown hg4 hbase (own_ge HO2.out)
                        have HS4 := hide (sep_app HO1.out HSEP.out hat (Nat.le_refl _))
                        have HM4 := hide (HO1.out.kept hg4 HSEP.out)
                        replace kV := hide (kV.out.grown hg4 kV.out.size (fun q hq => Nat.le_trans hVf (Nat.le_of_succ_le (own_ge HO2.out q hq))))
                        have HO4 := hide ho4
                        replace g0 := (hb4.cell (p := ⟨rb, 0, none⟩) (show rb < fb + 1 by omega)).trans g0
                        replace g1 := (hb4.cell (p := ⟨rb, 1, none⟩) (show rb < fb + 1 by omega)).trans g1
                        replace g2 := (hb4.cell (p := ⟨rb, 2, none⟩) (show rb < fb + 1 by omega)).trans g2
                        replace g3 := (hb4.cell (p := ⟨rb, 3, none⟩) (show rb < fb + 1 by omega)).trans g3
                        replace f0 := (hb4.cell (p := ⟨fb, 0, none⟩) (Nat.lt_succ_self _)).trans f0
                        replace f1 := (hb4.cell (p := ⟨fb, 1, none⟩) (Nat.lt_succ_self _)).trans f1
                        replace f2 := (hb4.cell (p := ⟨fb, 2, none⟩) (Nat.lt_succ_self _)).trans f2
                        replace f3 := (hb4.cell (p := ⟨fb, 3, none⟩) (Nat.lt_succ_self _)).trans f3
                        replace zf3 := (hb4.frozen (p := ⟨fb, 3, none⟩) (Nat.lt_succ_self _)).trans zf3
                        clear ho4 hg4 hat hb4 HO1 HO2 NEWS1 hbase hx1 hx2 HSEP
                        refine hK.out _ _ ⟨g0, g1, g2, g3, f0, f1, f2⟩ (fun hHeld => ?_)
                        clear hK K
                        (try simp only [Act.put, List.setIfInBounds_toArray, List.set_cons_zero, List.set_cons_succ])
                        refine wpAnyH_take (i := 13) (oi := ⟨some 142, _, _, _, _, _⟩) (v := ?v74) rfl (by kernel_rfl) (by kernel_rfl) (by kernel_rfl) (fun _ _ _ h => h) (Or.inl ⟨by rfl, ?h74⟩) (by assumption) ?r74
                        case h74 => (intro w hSw; (try dsimp only at hSw); go_simp <;> with_reducible rfl)
                        (try simp only [Act.put, List.setIfInBounds_toArray, List.set_cons_zero, List.set_cons_succ])
                        refine wpAnyH_ready (rs := [14]) (by kernel_rfl) (by simp) ?_
                        refine (AllReadyH.cons (o := ⟨none, _, _, _, _, _⟩) rfl (fun K hK => ?_) AllReadyH.nil)
                        go_simp
                        clear hHeld
                        replace g0 : (w4.setCell ⟨fb, 3, none⟩ (.slice (some ⟨g, 0, none⟩) (i2 + 1) cap)).cell? ⟨rb, 0, none⟩ = some _ := (World.cell?_setCell_other _ _ _ _ (by simp <;> omega)).trans g0
                        replace g1 : (w4.setCell ⟨fb, 3, none⟩ (.slice (some ⟨g, 0, none⟩) (i2 + 1) cap)).cell? ⟨rb, 1, none⟩ = some _ := (World.cell?_setCell_other _ _ _ _ (by simp <;> omega)).trans g1
                        replace g2 : (w4.setCell ⟨fb, 3, none⟩ (.slice (some ⟨g, 0, none⟩) (i2 + 1) cap)).cell? ⟨rb, 2, none⟩ = some _ := (World.cell?_setCell_other _ _ _ _ (by simp <;> omega)).trans g2
                        replace g3 : (w4.setCell ⟨fb, 3, none⟩ (.slice (some ⟨g, 0, none⟩) (i2 + 1) cap)).cell? ⟨rb, 3, none⟩ = some _ := (World.cell?_setCell_other _ _ _ _ (by simp <;> omega)).trans g3
                        replace f0 : (w4.setCell ⟨fb, 3, none⟩ (.slice (some ⟨g, 0, none⟩) (i2 + 1) cap)).cell? ⟨fb, 0, none⟩ = some _ := (World.cell?_setCell_other _ _ _ _ (by simp <;> omega)).trans f0
                        replace f1 : (w4.setCell ⟨fb, 3, none⟩ (.slice (some ⟨g, 0, none⟩) (i2 + 1) cap)).cell? ⟨fb, 1, none⟩ = some _ := (World.cell?_setCell_other _ _ _ _ (by simp <;> omega)).trans f1
                        replace f2 : (w4.setCell ⟨fb, 3, none⟩ (.slice (some ⟨g, 0, none⟩) (i2 + 1) cap)).cell? ⟨fb, 2, none⟩ = some _ := (World.cell?_setCell_other _ _ _ _ (by simp <;> omega)).trans f2
                        replace f3 : (w4.setCell ⟨fb, 3, none⟩ (.slice (some ⟨g, 0, none⟩) (i2 + 1) cap)).cell? ⟨fb, 3, none⟩ = some (.slice (some ⟨g, 0, none⟩) (i2 + 1) cap) := World.cell?_setCell_same _ _ _ f3
                        have HO2 := hide (ownsRow_setCell_below HO4.out (a := ⟨fb, 3, none⟩) (Nat.lt_succ_self _) (.slice (some ⟨g, 0, none⟩) (i2 + 1) cap))
                        have HO1 := hide (ownsRow_setCell_below HM4.out (a := ⟨fb, 3, none⟩) (Nat.lt_succ_self _) (.slice (some ⟨g, 0, none⟩) (i2 + 1) cap))
                        replace kV := hide (kV.out.setCell (p := ⟨fb, 3, none⟩) hVf (.slice (some ⟨g, 0, none⟩) (i2 + 1) cap))
                        clear HO4 HM4 zf3
                        generalize (w4.setCell ⟨fb, 3, none⟩ (.slice (some ⟨g, 0, none⟩) (i2 + 1) cap)) = WG at *
                        refine hK.out _ _ ⟨g0, g1, g2, g3, f0, f1, f2⟩ (fun hHeld => ?_)
                        clear hK K
                        (try simp only [Act.put, List.setIfInBounds_toArray, List.set_cons_zero, List.set_cons_succ])
                        refine wpAnyH_done (by kernel_rfl) ?_ _
                        clear hHeld
                        have HDL2 : Hid ((ds ++ [(⟨4, 0, pk x0 4 + 1 + pk (x0.tdiv 8) 3⟩ : Do)]).length = i2 + 1) := hide (by rw [List.length_append, HDL.out]; rfl)
                        have HO2x : Hid (WG.ownsRow (fb + 1) 38 3 (.slice (some ⟨g, 0, none⟩) (i2 + 1) cap) (i2 + 1) (D (ds ++ [(⟨4, 0, pk x0 4 + 1 + pk (x0.tdiv 8) 3⟩ : Do)]))) := hide (by rw [D_snoc]; exact HO2.out)
                        clear HO2
                        have HO2 := HO2x
                        clear HO2x
                        have HDB2 := hide (do_goto (t := pk x0 4) (n := pk x0 4 + 1 + pk (x0.tdiv 8) 3) HDB.out (by omega) (by omega))
                        clear HDL
                        have HDL := HDL2
                        clear HDL2 g0 g1 g2 g3
                        have zf2 := True.intro
                        have zf3 := True.intro
                        have HRW := hide (HR.out.below kV.out)
                        have HOK : Hid (FvOk WG (⟨⟨pk x0 4, pk x1 4, ms, ds ++ [(⟨4, 0, pk x0 4 + 1 + pk (x0.tdiv 8) 3⟩ : Do)]⟩, .slice vo vn vc, .slice (some ⟨g, 0, none⟩) (i2 + 1) cap⟩ : Fv)) := hide ⟨MsAt.of_own (B := fb + 1) (by show World.ownsRow WG (fb + 1) 35 3 (.slice vo vn vc) ms.length (M ms); rw [HML.out]; exact HO1.out), DsAt.of_own (B := fb + 1) (by show World.ownsRow WG (fb + 1) 38 3 (.slice (some ⟨g, 0, none⟩) (i2 + 1) cap) (ds ++ [(⟨4, 0, pk x0 4 + 1 + pk (x0.tdiv 8) 3⟩ : Do)]).length (D (ds ++ [(⟨4, 0, pk x0 4 + 1 + pk (x0.tdiv 8) 3⟩ : Do)])); rw [HDL.out]; exact HO2.out), fun g e => own_lt HO1.out e, fun g e => own_lt HO2.out e⟩
                        have A3 : Hid (Apart (.slice vo vn vc) u5) := hide (apart_far (B := VV.heap.size) (fun g e => Nat.le_trans hVf (Nat.le_of_succ_le (own_ge HO1.out g e))) (fun g e => own_lt HR.out.next e))
                        have A4 : Hid (Apart (.slice (some ⟨g, 0, none⟩) (i2 + 1) cap) u5) := hide (apart_far (B := VV.heap.size) (fun g e => Nat.le_trans hVf (Nat.le_of_succ_le (own_ge HO2.out g e))) (fun g e => own_lt HR.out.next e))
                        have HTX : Hid (Tm ((⟨⟨pk x0 4, pk x1 4, ms, ds ++ [(⟨4, 0, pk x0 4 + 1 + pk (x0.tdiv 8) 3⟩ : Do)]⟩, .slice vo vn vc, .slice (some ⟨g, 0, none⟩) (i2 + 1) cap⟩ : Fv)).f) := hide (flow_ok pt0 (by omega) pp0 (by omega) (by rw [HML.out]; omega) HMB.out (by rw [HDL.out]; omega) HDB2.out)
                        have own4 := hide (HRW.out.next.alloc (.cells #[.int .i64 (pk x0 4), .int .i64 (pk x1 4), .slice vo vn vc, .slice (some ⟨g, 0, none⟩) (i2 + 1) cap] 41))
                        have NEWS4 : Hid (∀ q u, (C [(⟨⟨pk x0 4, pk x1 4, ms, ds ++ [(⟨4, 0, pk x0 4 + 1 + pk (x0.tdiv 8) 3⟩ : Do)]⟩, .slice vo vn vc, .slice (some ⟨g, 0, none⟩) (i2 + 1) cap⟩ : Fv)])[q]? = some u → (WG.alloc (.cells #[.int .i64 (pk x0 4), .int .i64 (pk x1 4), .slice vo vn vc, .slice (some ⟨g, 0, none⟩) (i2 + 1) cap] 41)).cell? ((⟨WG.heap.size, 0, none⟩ : Addr).add q) = some u) := fun q u hq => by rw [add_fl, Nat.zero_add]; exact new_cell WG _ rfl #[.int .i64 (pk x0 4), .int .i64 (pk x1 4), .slice vo vn vc, .slice (some ⟨g, 0, none⟩) (i2 + 1) cap] _ q u (by simpa [C] using hq)
                        have hlo : lo.length ≤ 20 := by rw [HLL.out]; omega
                        obtain ⟨uo, un, uc, rfl⟩ := own_slice HRW.out.next
                        go_wp2_with (at_builtin; refine wpList_append_lies _ rfl (.tmp 143) (.tmp 145) 22 rfl w.heap.size 41 ifw _ 4 64 Try.underlying22 hifw hF0 hF1 hF2 rfl (by decide) _ _ _ rfl (unhide own4) ⟨WG.heap.size, 0, none⟩ 1 1 (C [(⟨⟨pk x0 4, pk x1 4, ms, ds ++ [(⟨4, 0, pk x0 4 + 1 + pk (x0.tdiv 8) 3⟩ : Do)]⟩, .slice vo vn vc, .slice (some ⟨g, 0, none⟩) (i2 + 1) cap⟩ : Fv)]) rfl rfl (unhide NEWS4) (HOK.out).one (by decide) ?h63 ?hby ?hba _ rfl ?_)
                        case h63 => unfold maxLen; omega
                        case hby => omega
                        case hba => have := hbw.size; have := kV.out.size; simp; omega
                        intro g5 cap5 w5 ho5 hg5 hat5 _
                        have hbA : Below WG.heap.size WG (WG.alloc (.cells #[.int .i64 (pk x0 4), .int .i64 (pk x1 4), .slice vo vn vc, .slice (some ⟨g, 0, none⟩) (i2 + 1) cap] 41)) := (Below.refl _ _).alloc (Nat.le_refl _) _
                        have HQ5 := hide ((HRW.out.below hbA).app (HOK.out.below hbA) (apart_nil _) (apart_nil _) A3.out A4.out ho5 hg5 hat5 (by simp))
                        have kw := hbw.trans (kV.out.mono hbw.size)
                        have hq5 : Below w.heap.size w w5 := (kw.alloc kw.size _).grown hg5 (by have := kw.size; simp; omega) (own_ge (unhide own4))
                        clear own4 NEWS4 hbA ho5 hg5 hat5 kw HRW HOK A3 A4 f0 f1 f2 f3 zf2 zf3
                        go_wp2_with fail
                        go_roundw
                        case rel => exact ⟨k + 1, lo ++ [(⟨⟨pk x0 4, pk x1 4, ms, ds ++ [(⟨4, 0, pk x0 4 + 1 + pk (x0.tdiv 8) 3⟩ : Do)]⟩, .slice vo vn vc, .slice (some ⟨g, 0, none⟩) (i2 + 1) cap⟩ : Fv)], by omega, by omega, by go_num, hide (by rw [List.length_append, HLL.out]; rfl), hide (mem_snoc HTM.out HTX.out), HQ5, hq5⟩
                        case measure => simp [intOf]; omega
                      · go_simp
                        clear hHeld
                        refine (picked_any _ _ _ (by omega) (by omega) (by omega) (by omega)).mono ?_
                        rintro e W91 ⟨rfl, rfl⟩
                        refine hK.out _ _ ⟨g0, g1, g2, g3, f0, f1, f2⟩ (fun hHeld => ?_)
                        clear hK K
                        (try simp only [Act.put, List.setIfInBounds_toArray, List.set_cons_zero, List.set_cons_succ])
                        refine wpAnyH_take (i := 9) (oi := ⟨some 138, _, _, _, _, _⟩) (v := ?v75) rfl (by kernel_rfl) (by kernel_rfl) (by kernel_rfl) (fun _ _ _ h => h) (Or.inl ⟨by rfl, ?h75⟩) (by assumption) ?r75
                        case h75 => (intro w hSw; (try dsimp only at hSw); go_simp <;> with_reducible rfl)
                        (try simp only [Act.put, List.setIfInBounds_toArray, List.set_cons_zero, List.set_cons_succ])
                        refine wpAnyH_take (i := 10) (oi := ⟨some 139, _, _, _, _, _⟩) (v := ?v76) rfl (by kernel_rfl) (by kernel_rfl) (by kernel_rfl) (fun _ _ _ h => h) (Or.inl ⟨by rfl, ?h76⟩) (by assumption) ?r76
                        case h76 => (intro w hSw; (try dsimp only at hSw); go_simp <;> with_reducible rfl)
                        (try simp only [Act.put, List.setIfInBounds_toArray, List.set_cons_zero, List.set_cons_succ])
                        refine wpAnyH_ready (rs := [1, 11]) (by kernel_rfl) (by simp) ?_
                        refine (AllReadyH.cons (o := ⟨some 130, _, _, _, _, _⟩) rfl (fun K hK => ?_) (AllReadyH.cons (o := ⟨some 140, _, _, _, _, _⟩) rfl (fun K hK => ?_) AllReadyH.nil))
                        · clear hHeld
                          go_simp
                          refine hK.out _ _ ⟨g0, g1, g2, g3, f0, f1, f2⟩ (fun hHeld => ?_)
                          clear hK K
                          (try simp only [Act.put, List.setIfInBounds_toArray, List.set_cons_zero, List.set_cons_succ])
                          refine wpAnyH_ready (rs := [11]) (by kernel_rfl) (by simp) ?_
                          refine (AllReadyH.cons (o := ⟨some 140, _, _, _, _, _⟩) rfl (fun K hK => ?_) AllReadyH.nil)
                          go_simp
                          clear hHeld
                          obtain ⟨V3, hV⟩ : ∃ V3, V3 = W91.alloc (.cells #[.int .i64 4, .int .i64 0, .int .i64 (pk x0 4 + 1 + pk (x0.tdiv 8) 3)] 38) := ⟨_, rfl⟩
                          obtain ⟨sb, hbx⟩ : ∃ sb, sb = W91.heap.size := ⟨_, rfl⟩
                          have hbN : Below W91.heap.size W91 V3 := by rw [hV]; exact (Below.refl _ _).alloc (Nat.le_refl _) _
                          have NEWS1 : Hid (∀ q u, [Value.int .i64 4, .int .i64 0, .int .i64 (pk x0 4 + 1 + pk (x0.tdiv 8) 3)][q]? = some u → V3.cell? ((⟨sb, 0, none⟩ : Addr).add q) = some u) := fun q u hq => by rw [hV, hbx, add_fl, Nat.zero_add]; exact new_cell W91 _ rfl _ _ q u (by simpa using hq)
                          replace HO2 := hide (own_below HO2.out hbN)
                          replace HO1 := hide (own_below HO1.out hbN)
                          replace kV := hide (kV.out.trans (hbN.mono kV.out.size))
                          replace zf3 := (hbN.frozen (p := ⟨fb, 3, none⟩) (cell_in f3)).trans zf3
                          replace g0 := cell_beh g0 hbN (Nat.le_refl _)
                          replace g1 := cell_beh g1 hbN (Nat.le_refl _)
                          replace g2 := cell_beh g2 hbN (Nat.le_refl _)
                          replace g3 := cell_beh g3 hbN (Nat.le_refl _)
                          replace f0 := cell_beh f0 hbN (Nat.le_refl _)
                          replace f1 := cell_beh f1 hbN (Nat.le_refl _)
                          replace f2 := cell_beh f2 hbN (Nat.le_refl _)
                          replace f3 := cell_beh f3 hbN (Nat.le_refl _)
                          rw [← hV, ← hbx]
                          clear hV hbx hbN
                          refine hK.out _ _ ⟨g0, g1, g2, g3, f0, f1, f2⟩ (fun hHeld => ?_)
                          clear hK K
                          (try simp only [Act.put, List.setIfInBounds_toArray, List.set_cons_zero, List.set_cons_succ])
                          refine wpAnyH_ready (rs := [12]) (by kernel_rfl) (by simp) ?_
                          refine (AllReadyH.cons (o := ⟨some 141, _, _, _, _, _⟩) rfl (fun K hK => ?_) AllReadyH.nil)
                          clear hHeld
                          have hbase : fb + 1 ≤ V3.heap.size := cell_in f0
                          have hx1 : i2 + 1 ≤ maxLen := by unfold maxLen; omega
                          have hx2 : (i2 + 1) * 24 ≤ 140737488355328 := by omega
                          refine step_append_lies _ rfl (.tmp 130) (.tmp 140) 39 rfl (fb + 1) 38 id _ 3 24 Try.underlying39 hid hD0 hD1 hD2 rfl (by decide) _ _ _ rfl (unhide HO2) ⟨sb, 0, none⟩ 1 1 [Value.int .i64 4, .int .i64 0, .int .i64 (pk x0 4 + 1 + pk (x0.tdiv 8) 3)] rfl rfl (unhide NEWS1) (one3 _ _ _) (by decide) hx1 hx2 hbase _ rfl ?_
                          intro g cap w4 ho4 hg4 hat _
                          have hb4 : Below (fb + 1) V3 w4 := (Below.refl _ _).grown hg4 hbase (own_ge HO2.out)
                          have HS4 := hide (sep_app HO1.out HSEP.out hat (Nat.le_refl _))
                          have HM4 := hide (HO1.out.kept hg4 HSEP.out)
                          replace kV := hide (kV.out.grown hg4 kV.out.size (fun q hq => Nat.le_trans hVf (Nat.le_of_succ_le (own_ge HO2.out q hq))))
                          have HO4 := hide ho4
                          replace g0 := (hb4.cell (p := ⟨rb, 0, none⟩) (show rb < fb + 1 by omega)).trans g0
                          replace g1 := (hb4.cell (p := ⟨rb, 1, none⟩) (show rb < fb + 1 by omega)).trans g1
                          replace g2 := (hb4.cell (p := ⟨rb, 2, none⟩) (show rb < fb + 1 by omega)).trans g2
                          replace g3 := (hb4.cell (p := ⟨rb, 3, none⟩) (show rb < fb + 1 by omega)).trans g3
                          replace f0 := (hb4.cell (p := ⟨fb, 0, none⟩) (Nat.lt_succ_self _)).trans f0
                          replace f1 := (hb4.cell (p := ⟨fb, 1, none⟩) (Nat.lt_succ_self _)).trans f1
                          replace f2 := (hb4.cell (p := ⟨fb, 2, none⟩) (Nat.lt_succ_self _)).trans f2
                          replace f3 := (hb4.cell (p := ⟨fb, 3, none⟩) (Nat.lt_succ_self _)).trans f3
                          replace zf3 := (hb4.frozen (p := ⟨fb, 3, none⟩) (Nat.lt_succ_self _)).trans zf3
                          clear ho4 hg4 hat hb4 HO1 HO2 NEWS1 hbase hx1 hx2 HSEP
                          refine hK.out _ _ ⟨g0, g1, g2, g3, f0, f1, f2⟩ (fun hHeld => ?_)
                          clear hK K
                          (try simp only [Act.put, List.setIfInBounds_toArray, List.set_cons_zero, List.set_cons_succ])
                          refine wpAnyH_take (i := 13) (oi := ⟨some 142, _, _, _, _, _⟩) (v := ?v77) rfl (by kernel_rfl) (by kernel_rfl) (by kernel_rfl) (fun _ _ _ h => h) (Or.inl ⟨by rfl, ?h77⟩) (by assumption) ?r77
                          case h77 => (intro w hSw; (try dsimp only at hSw); go_simp <;> with_reducible rfl)
                          (try simp only [Act.put, List.setIfInBounds_toArray, List.set_cons_zero, List.set_cons_succ])
                          refine wpAnyH_ready (rs := [14]) (by kernel_rfl) (by simp) ?_
                          refine (AllReadyH.cons (o := ⟨none, _, _, _, _, _⟩) rfl (fun K hK => ?_) AllReadyH.nil)
                          go_simp
                          clear hHeld
                          replace g0 : (w4.setCell ⟨fb, 3, none⟩ (.slice (some ⟨g, 0, none⟩) (i2 + 1) cap)).cell? ⟨rb, 0, none⟩ = some _ := (World.cell?_setCell_other _ _ _ _ (by simp <;> omega)).trans g0
                          replace g1 : (w4.setCell ⟨fb, 3, none⟩ (.slice (some ⟨g, 0, none⟩) (i2 + 1) cap)).cell? ⟨rb, 1, none⟩ = some _ := (World.cell?_setCell_other _ _ _ _ (by simp <;> omega)).trans g1
                          replace g2 : (w4.setCell ⟨fb, 3, none⟩ (.slice (some ⟨g, 0, none⟩) (i2 + 1) cap)).cell? ⟨rb, 2, none⟩ = some _ := (World.cell?_setCell_other _ _ _ _ (by simp <;> omega)).trans g2
                          replace g3 : (w4.setCell ⟨fb, 3, none⟩ (.slice (some ⟨g, 0, none⟩) (i2 + 1) cap)).cell? ⟨rb, 3, none⟩ = some _ := (World.cell?_setCell_other _ _ _ _ (by simp <;> omega)).trans g3
                          replace f0 : (w4.setCell ⟨fb, 3, none⟩ (.slice (some ⟨g, 0, none⟩) (i2 + 1) cap)).cell? ⟨fb, 0, none⟩ = some _ := (World.cell?_setCell_other _ _ _ _ (by simp <;> omega)).trans f0
                          replace f1 : (w4.setCell ⟨fb, 3, none⟩ (.slice (some ⟨g, 0, none⟩) (i2 + 1) cap)).cell? ⟨fb, 1, none⟩ = some _ := (World.cell?_setCell_other _ _ _ _ (by simp <;> omega)).trans f1
                          replace f2 : (w4.setCell ⟨fb, 3, none⟩ (.slice (some ⟨g, 0, none⟩) (i2 + 1) cap)).cell? ⟨fb, 2, none⟩ = some _ := (World.cell?_setCell_other _ _ _ _ (by simp <;> omega)).trans f2
                          replace f3 : (w4.setCell ⟨fb, 3, none⟩ (.slice (some ⟨g, 0, none⟩) (i2 + 1) cap)).cell? ⟨fb, 3, none⟩ = some (.slice (some ⟨g, 0, none⟩) (i2 + 1) cap) := World.cell?_setCell_same _ _ _ f3
                          have HO2 := hide (ownsRow_setCell_below HO4.out (a := ⟨fb, 3, none⟩) (Nat.lt_succ_self _) (.slice (some ⟨g, 0, none⟩) (i2 + 1) cap))
                          have HO1 := hide (ownsRow_setCell_below HM4.out (a := ⟨fb, 3, none⟩) (Nat.lt_succ_self _) (.slice (some ⟨g, 0, none⟩) (i2 + 1) cap))
                          replace kV := hide (kV.out.setCell (p := ⟨fb, 3, none⟩) hVf (.slice (some ⟨g, 0, none⟩) (i2 + 1) cap))
                          clear HO4 HM4 zf3
                          generalize (w4.setCell ⟨fb, 3, none⟩ (.slice (some ⟨g, 0, none⟩) (i2 + 1) cap)) = WG at *
                          refine hK.out _ _ ⟨g0, g1, g2, g3, f0, f1, f2⟩ (fun hHeld => ?_)
                          clear hK K
                          (try simp only [Act.put, List.setIfInBounds_toArray, List.set_cons_zero, List.set_cons_succ])
                          refine wpAnyH_done (by kernel_rfl) ?_ _
                          clear hHeld
                          have HDL2 : Hid ((ds ++ [(⟨4, 0, pk x0 4 + 1 + pk (x0.tdiv 8) 3⟩ : Do)]).length = i2 + 1) := hide (by rw [List.length_append, HDL.out]; rfl)
                          have HO2x : Hid (WG.ownsRow (fb + 1) 38 3 (.slice (some ⟨g, 0, none⟩) (i2 + 1) cap) (i2 + 1) (D (ds ++ [(⟨4, 0, pk x0 4 + 1 + pk (x0.tdiv 8) 3⟩ : Do)]))) := hide (by rw [D_snoc]; exact HO2.out)
                          clear HO2
                          have HO2 := HO2x
                          clear HO2x
                          have HDB2 := hide (do_goto (t := pk x0 4) (n := pk x0 4 + 1 + pk (x0.tdiv 8) 3) HDB.out (by omega) (by omega))
                          clear HDL
                          have HDL := HDL2
                          clear HDL2 g0 g1 g2 g3
                          have zf2 := True.intro
                          have zf3 := True.intro
                          have HRW := hide (HR.out.below kV.out)
                          have HOK : Hid (FvOk WG (⟨⟨pk x0 4, pk x1 4, ms, ds ++ [(⟨4, 0, pk x0 4 + 1 + pk (x0.tdiv 8) 3⟩ : Do)]⟩, .slice vo vn vc, .slice (some ⟨g, 0, none⟩) (i2 + 1) cap⟩ : Fv)) := hide ⟨MsAt.of_own (B := fb + 1) (by show World.ownsRow WG (fb + 1) 35 3 (.slice vo vn vc) ms.length (M ms); rw [HML.out]; exact HO1.out), DsAt.of_own (B := fb + 1) (by show World.ownsRow WG (fb + 1) 38 3 (.slice (some ⟨g, 0, none⟩) (i2 + 1) cap) (ds ++ [(⟨4, 0, pk x0 4 + 1 + pk (x0.tdiv 8) 3⟩ : Do)]).length (D (ds ++ [(⟨4, 0, pk x0 4 + 1 + pk (x0.tdiv 8) 3⟩ : Do)])); rw [HDL.out]; exact HO2.out), fun g e => own_lt HO1.out e, fun g e => own_lt HO2.out e⟩
                          have A3 : Hid (Apart (.slice vo vn vc) u5) := hide (apart_far (B := VV.heap.size) (fun g e => Nat.le_trans hVf (Nat.le_of_succ_le (own_ge HO1.out g e))) (fun g e => own_lt HR.out.next e))
                          have A4 : Hid (Apart (.slice (some ⟨g, 0, none⟩) (i2 + 1) cap) u5) := hide (apart_far (B := VV.heap.size) (fun g e => Nat.le_trans hVf (Nat.le_of_succ_le (own_ge HO2.out g e))) (fun g e => own_lt HR.out.next e))
                          have HTX : Hid (Tm ((⟨⟨pk x0 4, pk x1 4, ms, ds ++ [(⟨4, 0, pk x0 4 + 1 + pk (x0.tdiv 8) 3⟩ : Do)]⟩, .slice vo vn vc, .slice (some ⟨g, 0, none⟩) (i2 + 1) cap⟩ : Fv)).f) := hide (flow_ok pt0 (by omega) pp0 (by omega) (by rw [HML.out]; omega) HMB.out (by rw [HDL.out]; omega) HDB2.out)
                          have own4 := hide (HRW.out.next.alloc (.cells #[.int .i64 (pk x0 4), .int .i64 (pk x1 4), .slice vo vn vc, .slice (some ⟨g, 0, none⟩) (i2 + 1) cap] 41))
                          have NEWS4 : Hid (∀ q u, (C [(⟨⟨pk x0 4, pk x1 4, ms, ds ++ [(⟨4, 0, pk x0 4 + 1 + pk (x0.tdiv 8) 3⟩ : Do)]⟩, .slice vo vn vc, .slice (some ⟨g, 0, none⟩) (i2 + 1) cap⟩ : Fv)])[q]? = some u → (WG.alloc (.cells #[.int .i64 (pk x0 4), .int .i64 (pk x1 4), .slice vo vn vc, .slice (some ⟨g, 0, none⟩) (i2 + 1) cap] 41)).cell? ((⟨WG.heap.size, 0, none⟩ : Addr).add q) = some u) := fun q u hq => by rw [add_fl, Nat.zero_add]; exact new_cell WG _ rfl #[.int .i64 (pk x0 4), .int .i64 (pk x1 4), .slice vo vn vc, .slice (some ⟨g, 0, none⟩) (i2 + 1) cap] _ q u (by simpa [C] using hq)
                          have hlo : lo.length ≤ 20 := by rw [HLL.out]; omega
                          obtain ⟨uo, un, uc, rfl⟩ := own_slice HRW.out.next
                          go_wp2_with (at_builtin; refine wpList_append_lies _ rfl (.tmp 143) (.tmp 145) 22 rfl w.heap.size 41 ifw _ 4 64 Try.underlying22 hifw hF0 hF1 hF2 rfl (by decide) _ _ _ rfl (unhide own4) ⟨WG.heap.size, 0, none⟩ 1 1 (C [(⟨⟨pk x0 4, pk x1 4, ms, ds ++ [(⟨4, 0, pk x0 4 + 1 + pk (x0.tdiv 8) 3⟩ : Do)]⟩, .slice vo vn vc, .slice (some ⟨g, 0, none⟩) (i2 + 1) cap⟩ : Fv)]) rfl rfl (unhide NEWS4) (HOK.out).one (by decide) ?h63 ?hby ?hba _ rfl ?_)
                          case h63 => unfold maxLen; omega
                          case hby => omega
                          case hba => have := hbw.size; have := kV.out.size; simp; omega
                          intro g5 cap5 w5 ho5 hg5 hat5 _
                          have hbA : Below WG.heap.size WG (WG.alloc (.cells #[.int .i64 (pk x0 4), .int .i64 (pk x1 4), .slice vo vn vc, .slice (some ⟨g, 0, none⟩) (i2 + 1) cap] 41)) := (Below.refl _ _).alloc (Nat.le_refl _) _
                          have HQ5 := hide ((HRW.out.below hbA).app (HOK.out.below hbA) (apart_nil _) (apart_nil _) A3.out A4.out ho5 hg5 hat5 (by simp))
                          have kw := hbw.trans (kV.out.mono hbw.size)
                          have hq5 : Below w.heap.size w w5 := (kw.alloc kw.size _).grown hg5 (by have := kw.size; simp; omega) (own_ge (unhide own4))
                          clear own4 NEWS4 hbA ho5 hg5 hat5 kw HRW HOK A3 A4 f0 f1 f2 f3 zf2 zf3
                          go_wp2_with fail
                          go_roundw
                          case rel => exact ⟨k + 1, lo ++ [(⟨⟨pk x0 4, pk x1 4, ms, ds ++ [(⟨4, 0, pk x0 4 + 1 + pk (x0.tdiv 8) 3⟩ : Do)]⟩, .slice vo vn vc, .slice (some ⟨g, 0, none⟩) (i2 + 1) cap⟩ : Fv)], by omega, by omega, by go_num, hide (by rw [List.length_append, HLL.out]; rfl), hide (mem_snoc HTM.out HTX.out), HQ5, hq5⟩
                          case measure => simp [intOf]; omega
                        · go_simp
                          clear hHeld
                          obtain ⟨V2, hV⟩ : ∃ V2, V2 = W91.alloc (.cells #[.int .i64 4, .int .i64 0, .int .i64 (pk x0 4 + 1 + pk (x0.tdiv 8) 3)] 38) := ⟨_, rfl⟩
                          obtain ⟨sb, hbx⟩ : ∃ sb, sb = W91.heap.size := ⟨_, rfl⟩
                          have hbN : Below W91.heap.size W91 V2 := by rw [hV]; exact (Below.refl _ _).alloc (Nat.le_refl _) _
                          have NEWS1 : Hid (∀ q u, [Value.int .i64 4, .int .i64 0, .int .i64 (pk x0 4 + 1 + pk (x0.tdiv 8) 3)][q]? = some u → V2.cell? ((⟨sb, 0, none⟩ : Addr).add q) = some u) := fun q u hq => by rw [hV, hbx, add_fl, Nat.zero_add]; exact new_cell W91 _ rfl _ _ q u (by simpa using hq)
                          replace HO2 := hide (own_below HO2.out hbN)
                          replace HO1 := hide (own_below HO1.out hbN)
                          replace kV := hide (kV.out.trans (hbN.mono kV.out.size))
                          replace zf3 := (hbN.frozen (p := ⟨fb, 3, none⟩) (cell_in f3)).trans zf3
                          replace g0 := cell_beh g0 hbN (Nat.le_refl _)
                          replace g1 := cell_beh g1 hbN (Nat.le_refl _)
                          replace g2 := cell_beh g2 hbN (Nat.le_refl _)
                          replace g3 := cell_beh g3 hbN (Nat.le_refl _)
                          replace f0 := cell_beh f0 hbN (Nat.le_refl _)
                          replace f1 := cell_beh f1 hbN (Nat.le_refl _)
                          replace f2 := cell_beh f2 hbN (Nat.le_refl _)
                          replace f3 := cell_beh f3 hbN (Nat.le_refl _)
                          rw [← hV, ← hbx]
                          clear hV hbx hbN
                          refine hK.out _ _ ⟨g0, g1, g2, g3, f0, f1, f2⟩ (fun hHeld => ?_)
                          clear hK K
                          (try simp only [Act.put, List.setIfInBounds_toArray, List.set_cons_zero, List.set_cons_succ])
                          refine wpAnyH_ready (rs := [1]) (by kernel_rfl) (by simp) ?_
                          refine (AllReadyH.cons (o := ⟨some 130, _, _, _, _, _⟩) rfl (fun K hK => ?_) AllReadyH.nil)
                          clear hHeld
                          go_simp
                          refine hK.out _ _ ⟨g0, g1, g2, g3, f0, f1, f2⟩ (fun hHeld => ?_)
                          clear hK K
                          (try simp only [Act.put, List.setIfInBounds_toArray, List.set_cons_zero, List.set_cons_succ])
                          refine wpAnyH_ready (rs := [12]) (by kernel_rfl) (by simp) ?_
                          refine (AllReadyH.cons (o := ⟨some 141, _, _, _, _, _⟩) rfl (fun K hK => ?_) AllReadyH.nil)
                          clear hHeld
                          have hbase : fb + 1 ≤ V2.heap.size := cell_in f0
                          have hx1 : i2 + 1 ≤ maxLen := by unfold maxLen; omega
                          have hx2 : (i2 + 1) * 24 ≤ 140737488355328 := by omega
                          refine step_append_lies _ rfl (.tmp 130) (.tmp 140) 39 rfl (fb + 1) 38 id _ 3 24 Try.underlying39 hid hD0 hD1 hD2 rfl (by decide) _ _ _ rfl (unhide HO2) ⟨sb, 0, none⟩ 1 1 [Value.int .i64 4, .int .i64 0, .int .i64 (pk x0 4 + 1 + pk (x0.tdiv 8) 3)] rfl rfl (unhide NEWS1) (one3 _ _ _) (by decide) hx1 hx2 hbase _ rfl ?_
                          intro g cap w4 ho4 hg4 hat _
                          have hb4 : Below (fb + 1) V2 w4 := (Below.refl _ _).grown hg4 hbase (own_ge HO2.out)
                          have HS4 := hide (sep_app HO1.out HSEP.out hat (Nat.le_refl _))
                          have HM4 := hide (HO1.out.kept hg4 HSEP.out)
                          replace kV := hide (kV.out.grown hg4 kV.out.size (fun q hq => Nat.le_trans hVf (Nat.le_of_succ_le (own_ge HO2.out q hq))))
                          have HO4 := hide ho4
                          replace g0 := (hb4.cell (p := ⟨rb, 0, none⟩) (show rb < fb + 1 by omega)).trans g0
                          replace g1 := (hb4.cell (p := ⟨rb, 1, none⟩) (show rb < fb + 1 by omega)).trans g1
                          replace g2 := (hb4.cell (p := ⟨rb, 2, none⟩) (show rb < fb + 1 by omega)).trans g2
                          replace g3 := (hb4.cell (p := ⟨rb, 3, none⟩) (show rb < fb + 1 by omega)).trans g3
                          replace f0 := (hb4.cell (p := ⟨fb, 0, none⟩) (Nat.lt_succ_self _)).trans f0
                          replace f1 := (hb4.cell (p := ⟨fb, 1, none⟩) (Nat.lt_succ_self _)).trans f1
                          replace f2 := (hb4.cell (p := ⟨fb, 2, none⟩) (Nat.lt_succ_self _)).trans f2
                          replace f3 := (hb4.cell (p := ⟨fb, 3, none⟩) (Nat.lt_succ_self _)).trans f3
                          replace zf3 := (hb4.frozen (p := ⟨fb, 3, none⟩) (Nat.lt_succ_self _)).trans zf3
                          clear ho4 hg4 hat hb4 HO1 HO2 NEWS1 hbase hx1 hx2 HSEP
                          refine hK.out _ _ ⟨g0, g1, g2, g3, f0, f1, f2⟩ (fun hHeld => ?_)
                          clear hK K
                          (try simp only [Act.put, List.setIfInBounds_toArray, List.set_cons_zero, List.set_cons_succ])
                          refine wpAnyH_take (i := 13) (oi := ⟨some 142, _, _, _, _, _⟩) (v := ?v78) rfl (by kernel_rfl) (by kernel_rfl) (by kernel_rfl) (fun _ _ _ h => h) (Or.inl ⟨by rfl, ?h78⟩) (by assumption) ?r78
                          case h78 => (intro w hSw; (try dsimp only at hSw); go_simp <;> with_reducible rfl)
                          (try simp only [Act.put, List.setIfInBounds_toArray, List.set_cons_zero, List.set_cons_succ])
                          refine wpAnyH_ready (rs := [14]) (by kernel_rfl) (by simp) ?_
                          refine (AllReadyH.cons (o := ⟨none, _, _, _, _, _⟩) rfl (fun K hK => ?_) AllReadyH.nil)
                          go_simp
                          clear hHeld
                          replace g0 : (w4.setCell ⟨fb, 3, none⟩ (.slice (some ⟨g, 0, none⟩) (i2 + 1) cap)).cell? ⟨rb, 0, none⟩ = some _ := (World.cell?_setCell_other _ _ _ _ (by simp <;> omega)).trans g0
                          replace g1 : (w4.setCell ⟨fb, 3, none⟩ (.slice (some ⟨g, 0, none⟩) (i2 + 1) cap)).cell? ⟨rb, 1, none⟩ = some _ := (World.cell?_setCell_other _ _ _ _ (by simp <;> omega)).trans g1
                          replace g2 : (w4.setCell ⟨fb, 3, none⟩ (.slice (some ⟨g, 0, none⟩) (i2 + 1) cap)).cell? ⟨rb, 2, none⟩ = some _ := (World.cell?_setCell_other _ _ _ _ (by simp <;> omega)).trans g2
                          replace g3 : (w4.setCell ⟨fb, 3, none⟩ (.slice (some ⟨g, 0, none⟩) (i2 + 1) cap)).cell? ⟨rb, 3, none⟩ = some _ := (World.cell?_setCell_other _ _ _ _ (by simp <;> omega)).trans g3
                          replace f0 : (w4.setCell ⟨fb, 3, none⟩ (.slice (some ⟨g, 0, none⟩) (i2 + 1) cap)).cell? ⟨fb, 0, none⟩ = some _ := (World.cell?_setCell_other _ _ _ _ (by simp <;> omega)).trans f0
                          replace f1 : (w4.setCell ⟨fb, 3, none⟩ (.slice (some ⟨g, 0, none⟩) (i2 + 1) cap)).cell? ⟨fb, 1, none⟩ = some _ := (World.cell?_setCell_other _ _ _ _ (by simp <;> omega)).trans f1
                          replace f2 : (w4.setCell ⟨fb, 3, none⟩ (.slice (some ⟨g, 0, none⟩) (i2 + 1) cap)).cell? ⟨fb, 2, none⟩ = some _ := (World.cell?_setCell_other _ _ _ _ (by simp <;> omega)).trans f2
                          replace f3 : (w4.setCell ⟨fb, 3, none⟩ (.slice (some ⟨g, 0, none⟩) (i2 + 1) cap)).cell? ⟨fb, 3, none⟩ = some (.slice (some ⟨g, 0, none⟩) (i2 + 1) cap) := World.cell?_setCell_same _ _ _ f3
                          have HO2 := hide (ownsRow_setCell_below HO4.out (a := ⟨fb, 3, none⟩) (Nat.lt_succ_self _) (.slice (some ⟨g, 0, none⟩) (i2 + 1) cap))
                          have HO1 := hide (ownsRow_setCell_below HM4.out (a := ⟨fb, 3, none⟩) (Nat.lt_succ_self _) (.slice (some ⟨g, 0, none⟩) (i2 + 1) cap))
                          replace kV := hide (kV.out.setCell (p := ⟨fb, 3, none⟩) hVf (.slice (some ⟨g, 0, none⟩) (i2 + 1) cap))
                          clear HO4 HM4 zf3
                          generalize (w4.setCell ⟨fb, 3, none⟩ (.slice (some ⟨g, 0, none⟩) (i2 + 1) cap)) = WG at *
                          refine hK.out _ _ ⟨g0, g1, g2, g3, f0, f1, f2⟩ (fun hHeld => ?_)
                          clear hK K
                          (try simp only [Act.put, List.setIfInBounds_toArray, List.set_cons_zero, List.set_cons_succ])
                          refine wpAnyH_done (by kernel_rfl) ?_ _
                          clear hHeld
                          have HDL2 : Hid ((ds ++ [(⟨4, 0, pk x0 4 + 1 + pk (x0.tdiv 8) 3⟩ : Do)]).length = i2 + 1) := hide (by rw [List.length_append, HDL.out]; rfl)
                          have HO2x : Hid (WG.ownsRow (fb + 1) 38 3 (.slice (some ⟨g, 0, none⟩) (i2 + 1) cap) (i2 + 1) (D (ds ++ [(⟨4, 0, pk x0 4 + 1 + pk (x0.tdiv 8) 3⟩ : Do)]))) := hide (by rw [D_snoc]; exact HO2.out)
                          clear HO2
                          have HO2 := HO2x
                          clear HO2x
                          have HDB2 := hide (do_goto (t := pk x0 4) (n := pk x0 4 + 1 + pk (x0.tdiv 8) 3) HDB.out (by omega) (by omega))
                          clear HDL
                          have HDL := HDL2
                          clear HDL2 g0 g1 g2 g3
                          have zf2 := True.intro
                          have zf3 := True.intro
                          have HRW := hide (HR.out.below kV.out)
                          have HOK : Hid (FvOk WG (⟨⟨pk x0 4, pk x1 4, ms, ds ++ [(⟨4, 0, pk x0 4 + 1 + pk (x0.tdiv 8) 3⟩ : Do)]⟩, .slice vo vn vc, .slice (some ⟨g, 0, none⟩) (i2 + 1) cap⟩ : Fv)) := hide ⟨MsAt.of_own (B := fb + 1) (by show World.ownsRow WG (fb + 1) 35 3 (.slice vo vn vc) ms.length (M ms); rw [HML.out]; exact HO1.out), DsAt.of_own (B := fb + 1) (by show World.ownsRow WG (fb + 1) 38 3 (.slice (some ⟨g, 0, none⟩) (i2 + 1) cap) (ds ++ [(⟨4, 0, pk x0 4 + 1 + pk (x0.tdiv 8) 3⟩ : Do)]).length (D (ds ++ [(⟨4, 0, pk x0 4 + 1 + pk (x0.tdiv 8) 3⟩ : Do)])); rw [HDL.out]; exact HO2.out), fun g e => own_lt HO1.out e, fun g e => own_lt HO2.out e⟩
                          have A3 : Hid (Apart (.slice vo vn vc) u5) := hide (apart_far (B := VV.heap.size) (fun g e => Nat.le_trans hVf (Nat.le_of_succ_le (own_ge HO1.out g e))) (fun g e => own_lt HR.out.next e))
                          have A4 : Hid (Apart (.slice (some ⟨g, 0, none⟩) (i2 + 1) cap) u5) := hide (apart_far (B := VV.heap.size) (fun g e => Nat.le_trans hVf (Nat.le_of_succ_le (own_ge HO2.out g e))) (fun g e => own_lt HR.out.next e))
                          have HTX : Hid (Tm ((⟨⟨pk x0 4, pk x1 4, ms, ds ++ [(⟨4, 0, pk x0 4 + 1 + pk (x0.tdiv 8) 3⟩ : Do)]⟩, .slice vo vn vc, .slice (some ⟨g, 0, none⟩) (i2 + 1) cap⟩ : Fv)).f) := hide (flow_ok pt0 (by omega) pp0 (by omega) (by rw [HML.out]; omega) HMB.out (by rw [HDL.out]; omega) HDB2.out)
                          have own4 := hide (HRW.out.next.alloc (.cells #[.int .i64 (pk x0 4), .int .i64 (pk x1 4), .slice vo vn vc, .slice (some ⟨g, 0, none⟩) (i2 + 1) cap] 41))
                          have NEWS4 : Hid (∀ q u, (C [(⟨⟨pk x0 4, pk x1 4, ms, ds ++ [(⟨4, 0, pk x0 4 + 1 + pk (x0.tdiv 8) 3⟩ : Do)]⟩, .slice vo vn vc, .slice (some ⟨g, 0, none⟩) (i2 + 1) cap⟩ : Fv)])[q]? = some u → (WG.alloc (.cells #[.int .i64 (pk x0 4), .int .i64 (pk x1 4), .slice vo vn vc, .slice (some ⟨g, 0, none⟩) (i2 + 1) cap] 41)).cell? ((⟨WG.heap.size, 0, none⟩ : Addr).add q) = some u) := fun q u hq => by rw [add_fl, Nat.zero_add]; exact new_cell WG _ rfl #[.int .i64 (pk x0 4), .int .i64 (pk x1 4), .slice vo vn vc, .slice (some ⟨g, 0, none⟩) (i2 + 1) cap] _ q u (by simpa [C] using hq)
                          have hlo : lo.length ≤ 20 := by rw [HLL.out]; omega
                          obtain ⟨uo, un, uc, rfl⟩ := own_slice HRW.out.next
                          go_wp2_with (at_builtin; refine wpList_append_lies _ rfl (.tmp 143) (.tmp 145) 22 rfl w.heap.size 41 ifw _ 4 64 Try.underlying22 hifw hF0 hF1 hF2 rfl (by decide) _ _ _ rfl (unhide own4) ⟨WG.heap.size, 0, none⟩ 1 1 (C [(⟨⟨pk x0 4, pk x1 4, ms, ds ++ [(⟨4, 0, pk x0 4 + 1 + pk (x0.tdiv 8) 3⟩ : Do)]⟩, .slice vo vn vc, .slice (some ⟨g, 0, none⟩) (i2 + 1) cap⟩ : Fv)]) rfl rfl (unhide NEWS4) (HOK.out).one (by decide) ?h63 ?hby ?hba _ rfl ?_)
                          case h63 => unfold maxLen; omega
                          case hby => omega
                          case hba => have := hbw.size; have := kV.out.size; simp; omega
                          intro g5 cap5 w5 ho5 hg5 hat5 _
                          have hbA : Below WG.heap.size WG (WG.alloc (.cells #[.int .i64 (pk x0 4), .int .i64 (pk x1 4), .slice vo vn vc, .slice (some ⟨g, 0, none⟩) (i2 + 1) cap] 41)) := (Below.refl _ _).alloc (Nat.le_refl _) _
                          have HQ5 := hide ((HRW.out.below hbA).app (HOK.out.below hbA) (apart_nil _) (apart_nil _) A3.out A4.out ho5 hg5 hat5 (by simp))
                          have kw := hbw.trans (kV.out.mono hbw.size)
                          have hq5 : Below w.heap.size w w5 := (kw.alloc kw.size _).grown hg5 (by have := kw.size; simp; omega) (own_ge (unhide own4))
                          clear own4 NEWS4 hbA ho5 hg5 hat5 kw HRW HOK A3 A4 f0 f1 f2 f3 zf2 zf3
                          go_wp2_with fail
                          go_roundw
                          case rel => exact ⟨k + 1, lo ++ [(⟨⟨pk x0 4, pk x1 4, ms, ds ++ [(⟨4, 0, pk x0 4 + 1 + pk (x0.tdiv 8) 3⟩ : Do)]⟩, .slice vo vn vc, .slice (some ⟨g, 0, none⟩) (i2 + 1) cap⟩ : Fv)], by omega, by omega, by go_num, hide (by rw [List.length_append, HLL.out]; rfl), hide (mem_snoc HTM.out HTX.out), HQ5, hq5⟩
                          case measure => simp [intOf]; omega
                    · have HRW := hide (HR.out.below kV.out)
                      have HOK : Hid (FvOk wr (⟨⟨pk x0 4, pk x1 4, ms, ds⟩, .slice vo vn vc, .slice vo2 vn2 vc2⟩ : Fv)) := hide ⟨MsAt.of_own (B := fb + 1) (by show World.ownsRow wr (fb + 1) 35 3 (.slice vo vn vc) ms.length (M ms); rw [HML.out]; exact HO1.out), DsAt.of_own (B := fb + 1) (by show World.ownsRow wr (fb + 1) 38 3 (.slice vo2 vn2 vc2) (ds).length (D (ds)); rw [HDL.out]; exact HO2.out), fun g e => own_lt HO1.out e, fun g e => own_lt HO2.out e⟩
                      have A3 : Hid (Apart (.slice vo vn vc) u5) := hide (apart_far (B := VV.heap.size) (fun g e => Nat.le_trans hVf (Nat.le_of_succ_le (own_ge HO1.out g e))) (fun g e => own_lt HR.out.next e))
                      have A4 : Hid (Apart (.slice vo2 vn2 vc2) u5) := hide (apart_far (B := VV.heap.size) (fun g e => Nat.le_trans hVf (Nat.le_of_succ_le (own_ge HO2.out g e))) (fun g e => own_lt HR.out.next e))
                      have HTX : Hid (Tm ((⟨⟨pk x0 4, pk x1 4, ms, ds⟩, .slice vo vn vc, .slice vo2 vn2 vc2⟩ : Fv)).f) := hide (flow_ok pt0 (by omega) pp0 (by omega) (by rw [HML.out]; omega) HMB.out (by rw [HDL.out]; omega) (fun j hj => do_all HDB.out hj))
                      have own4 := hide (HRW.out.next.alloc (.cells #[.int .i64 (pk x0 4), .int .i64 (pk x1 4), .slice vo vn vc, .slice vo2 vn2 vc2] 41))
                      have NEWS4 : Hid (∀ q u, (C [(⟨⟨pk x0 4, pk x1 4, ms, ds⟩, .slice vo vn vc, .slice vo2 vn2 vc2⟩ : Fv)])[q]? = some u → (wr.alloc (.cells #[.int .i64 (pk x0 4), .int .i64 (pk x1 4), .slice vo vn vc, .slice vo2 vn2 vc2] 41)).cell? ((⟨wr.heap.size, 0, none⟩ : Addr).add q) = some u) := fun q u hq => by rw [add_fl, Nat.zero_add]; exact new_cell wr _ rfl #[.int .i64 (pk x0 4), .int .i64 (pk x1 4), .slice vo vn vc, .slice vo2 vn2 vc2] _ q u (by simpa [C] using hq)
                      have hlo : lo.length ≤ 20 := by rw [HLL.out]; omega
                      obtain ⟨uo, un, uc, rfl⟩ := own_slice HRW.out.next
                      go_wp2_with (first | (go_at_call 14; refine (picked_any _ _ _ (by omega) (by omega) (by omega) (by omega)).mono ?_; rintro e WD ⟨rfl, hWD⟩; rw [hWD]; clear hWD WD) | (at_builtin; refine wpList_append_lies _ rfl (.tmp 143) (.tmp 145) 22 rfl w.heap.size 41 ifw _ 4 64 Try.underlying22 hifw hF0 hF1 hF2 rfl (by decide) _ _ _ rfl (unhide own4) ⟨wr.heap.size, 0, none⟩ 1 1 (C [(⟨⟨pk x0 4, pk x1 4, ms, ds⟩, .slice vo vn vc, .slice vo2 vn2 vc2⟩ : Fv)]) rfl rfl (unhide NEWS4) (HOK.out).one (by decide) ?h63 ?hby ?hba _ rfl ?_))
                      case h63 => unfold maxLen; omega
                      case hby => omega
                      case hba => have := hbw.size; have := kV.out.size; simp; omega
                      intro g5 cap5 w5 ho5 hg5 hat5 _
                      have hbA : Below wr.heap.size wr (wr.alloc (.cells #[.int .i64 (pk x0 4), .int .i64 (pk x1 4), .slice vo vn vc, .slice vo2 vn2 vc2] 41)) := (Below.refl _ _).alloc (Nat.le_refl _) _
                      have HQ5 := hide ((HRW.out.below hbA).app (HOK.out.below hbA) (apart_nil _) (apart_nil _) A3.out A4.out ho5 hg5 hat5 (by simp))
                      have kw := hbw.trans (kV.out.mono hbw.size)
                      have hq5 : Below w.heap.size w w5 := (kw.alloc kw.size _).grown hg5 (by have := kw.size; simp; omega) (own_ge (unhide own4))
                      clear own4 NEWS4 hbA ho5 hg5 hat5 kw HRW HOK A3 A4 f0 f1 f2 f3 zf2 zf3
                      go_wp2_with fail
                      go_roundw
                      case rel => exact ⟨k + 1, lo ++ [(⟨⟨pk x0 4, pk x1 4, ms, ds⟩, .slice vo vn vc, .slice vo2 vn2 vc2⟩ : Fv)], by omega, by omega, by go_num, hide (by rw [List.length_append, HLL.out]; rfl), hide (mem_snoc HTM.out HTX.out), HQ5, hq5⟩
                      case measure => simp [intOf]; omega
                  · have HRW := hide (HR.out.below kV.out)
                    have HOK : Hid (FvOk wr (⟨⟨pk x0 4, pk x1 4, ms, ds⟩, .slice vo vn vc, .slice vo2 vn2 vc2⟩ : Fv)) := hide ⟨MsAt.of_own (B := fb + 1) (by show World.ownsRow wr (fb + 1) 35 3 (.slice vo vn vc) ms.length (M ms); rw [HML.out]; exact HO1.out), DsAt.of_own (B := fb + 1) (by show World.ownsRow wr (fb + 1) 38 3 (.slice vo2 vn2 vc2) (ds).length (D (ds)); rw [HDL.out]; exact HO2.out), fun g e => own_lt HO1.out e, fun g e => own_lt HO2.out e⟩
                    have A3 : Hid (Apart (.slice vo vn vc) u5) := hide (apart_far (B := VV.heap.size) (fun g e => Nat.le_trans hVf (Nat.le_of_succ_le (own_ge HO1.out g e))) (fun g e => own_lt HR.out.next e))
                    have A4 : Hid (Apart (.slice vo2 vn2 vc2) u5) := hide (apart_far (B := VV.heap.size) (fun g e => Nat.le_trans hVf (Nat.le_of_succ_le (own_ge HO2.out g e))) (fun g e => own_lt HR.out.next e))
                    have HTX : Hid (Tm ((⟨⟨pk x0 4, pk x1 4, ms, ds⟩, .slice vo vn vc, .slice vo2 vn2 vc2⟩ : Fv)).f) := hide (flow_ok pt0 (by omega) pp0 (by omega) (by rw [HML.out]; omega) HMB.out (by rw [HDL.out]; omega) (fun j hj => do_all HDB.out hj))
                    have own4 := hide (HRW.out.next.alloc (.cells #[.int .i64 (pk x0 4), .int .i64 (pk x1 4), .slice vo vn vc, .slice vo2 vn2 vc2] 41))
                    have NEWS4 : Hid (∀ q u, (C [(⟨⟨pk x0 4, pk x1 4, ms, ds⟩, .slice vo vn vc, .slice vo2 vn2 vc2⟩ : Fv)])[q]? = some u → (wr.alloc (.cells #[.int .i64 (pk x0 4), .int .i64 (pk x1 4), .slice vo vn vc, .slice vo2 vn2 vc2] 41)).cell? ((⟨wr.heap.size, 0, none⟩ : Addr).add q) = some u) := fun q u hq => by rw [add_fl, Nat.zero_add]; exact new_cell wr _ rfl #[.int .i64 (pk x0 4), .int .i64 (pk x1 4), .slice vo vn vc, .slice vo2 vn2 vc2] _ q u (by simpa [C] using hq)
                    have hlo : lo.length ≤ 20 := by rw [HLL.out]; omega
                    obtain ⟨uo, un, uc, rfl⟩ := own_slice HRW.out.next
                    go_wp2_with (first | (go_at_call 14; refine (picked_any _ _ _ (by omega) (by omega) (by omega) (by omega)).mono ?_; rintro e WD ⟨rfl, hWD⟩; rw [hWD]; clear hWD WD) | (at_builtin; refine wpList_append_lies _ rfl (.tmp 143) (.tmp 145) 22 rfl w.heap.size 41 ifw _ 4 64 Try.underlying22 hifw hF0 hF1 hF2 rfl (by decide) _ _ _ rfl (unhide own4) ⟨wr.heap.size, 0, none⟩ 1 1 (C [(⟨⟨pk x0 4, pk x1 4, ms, ds⟩, .slice vo vn vc, .slice vo2 vn2 vc2⟩ : Fv)]) rfl rfl (unhide NEWS4) (HOK.out).one (by decide) ?h63 ?hby ?hba _ rfl ?_))
                    case h63 => unfold maxLen; omega
                    case hby => omega
                    case hba => have := hbw.size; have := kV.out.size; simp; omega
                    intro g5 cap5 w5 ho5 hg5 hat5 _
                    have hbA : Below wr.heap.size wr (wr.alloc (.cells #[.int .i64 (pk x0 4), .int .i64 (pk x1 4), .slice vo vn vc, .slice vo2 vn2 vc2] 41)) := (Below.refl _ _).alloc (Nat.le_refl _) _
                    have HQ5 := hide ((HRW.out.below hbA).app (HOK.out.below hbA) (apart_nil _) (apart_nil _) A3.out A4.out ho5 hg5 hat5 (by simp))
                    have kw := hbw.trans (kV.out.mono hbw.size)
                    have hq5 : Below w.heap.size w w5 := (kw.alloc kw.size _).grown hg5 (by have := kw.size; simp; omega) (own_ge (unhide own4))
                    clear own4 NEWS4 hbA ho5 hg5 hat5 kw HRW HOK A3 A4 f0 f1 f2 f3 zf2 zf3
                    go_wp2_with fail
                    go_roundw
                    case rel => exact ⟨k + 1, lo ++ [(⟨⟨pk x0 4, pk x1 4, ms, ds⟩, .slice vo vn vc, .slice vo2 vn2 vc2⟩ : Fv)], by omega, by omega, by go_num, hide (by rw [List.length_append, HLL.out]; rfl), hide (mem_snoc HTM.out HTX.out), HQ5, hq5⟩
                    case measure => simp [intOf]; omega
      · go_wp2_with fail
        go_ret
        exact ⟨_, rfl, lo, shift2 HR.out, by rw [HLL.out]; omega, HTM.out, hbw⟩
    · go_wp2_with fail
      go_ret
      exact ⟨_, rfl, lo, shift2 HR.out, by rw [HLL.out]; omega, HTM.out, hbw⟩

end Go.Proofs.Ytonhfgdnkkkikac
