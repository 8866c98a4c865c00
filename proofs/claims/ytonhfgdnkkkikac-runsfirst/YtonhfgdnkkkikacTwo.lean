/-
  Two rows of numbers of the call's own; plain mathematics of places (P2.3).
-/
import Derived.Test.YtonhfgdnkkkikacFl
import Derived.Test.YtonhfgdnkkkikacWe
import Derived.Deep.AppendLies
namespace Go.Proofs.Ytonhfgdnkkkikac
open Go.RowKit
set_option linter.unusedVariables false
set_option maxRecDepth 100000

def I (l : List Int) : List Value := l.map (Value.int .i64)
theorem I_length (l : List Int) : (I l).length = l.length := by simp [I]
theorem I_append (a b : List Int) : I (a ++ b) = I a ++ I b := by simp [I]
theorem I_one (l : List Int) : ∀ u ∈ I l, u.oneCell' = true := fun u hu => by
  simp only [I, List.mem_map] at hu
  obtain ⟨n, _, rfl⟩ := hu
  rfl
theorem infoInt : (Try.prog.info? 3).map (fun i => (i.zero, i.size, i.bytes)) = some (some (.int .i64 0), 1, 8) := by kernel_rfl

/-- Two rows of numbers, apart from one another. -/
def Two (w : World) (B gx cx : Nat) (lx : List Int) (gy cy : Nat) (ly : List Int) : Prop :=
  w.ownsRow B 3 1 (.slice (some ⟨gx, 0, none⟩) lx.length cx) lx.length (I lx) ∧ w.ownsRow B 3 1 (.slice (some ⟨gy, 0, none⟩) ly.length cy) ly.length (I ly) ∧ gx ≠ gy

theorem own_at {w : World} {B e size n cap g : Nat} {xs : List Value} (h : w.ownsRow B e size (.slice (some ⟨g, 0, none⟩) n cap) n xs) : B ≤ g ∧ g < w.heap.size := by
  obtain ⟨_, ⟨h, _⟩ | ⟨g', cap', cur, h, hB, hg, _⟩⟩ := h
  · simp at h
  · simp only [Value.slice.injEq, Option.some.injEq, Addr.mk.injEq, and_true] at h
    obtain ⟨rfl, _⟩ := h
    exact ⟨hB, lt_of_block hg⟩

theorem Two.swap {w : World} {B gx cx gy cy : Nat} {lx ly : List Int} (h : Two w B gx cx lx gy cy ly) : Two w B gy cy ly gx cx lx := ⟨h.2.1, h.1, h.2.2.symm⟩
theorem Two.alloc {w : World} {B gx cx gy cy : Nat} {lx ly : List Int} (h : Two w B gx cx lx gy cy ly) (o : Obj) : Two (w.alloc o) B gx cx lx gy cy ly := ⟨h.1.alloc o, h.2.1.alloc o, h.2.2⟩
theorem Two.drew {w : World} {B gx cx gy cy : Nat} {lx ly : List Int} (h : Two w B gx cx lx gy cy ly) : Two w.drew B gx cx lx gy cy ly := ⟨h.1.drew, h.2.1.drew, h.2.2⟩

/-- Behind an append to the first one. -/
theorem Two.app {w w' : World} {B gx cx gy cy g cap m : Nat} {lx ly news : List Int} (h : Two w B gx cx lx gy cy ly) (ho : w'.ownsRow B 3 1 (.slice (some ⟨g, 0, none⟩) (lx.length + m) cap) (lx.length + m) (I lx ++ I news)) (hm : news.length = m)
    (hg : w.grownBy w' (Value.slice (some ⟨gx, 0, none⟩) lx.length cx).ownBlock) (hl : (Value.slice (some ⟨gx, 0, none⟩) lx.length cx).ownBlock = some g ∨ g = w.heap.size) : Two w' B g cap (lx ++ news) gy cy ly := by
  obtain ⟨h1, h2, h3⟩ := h
  have hy := own_at h2
  refine ⟨?_, h2.kept hg ?_, ?_⟩
  · rw [I_append, List.length_append, hm]; exact ho
  · right
    simp [Value.ownBlock]
    exact fun e => h3 e.symm
  · rcases hl with hl | hl
    · simp [Value.ownBlock] at hl
      rw [← hl]; exact h3
    · omega

theorem Two.cellx {w : World} {B gx cx gy cy : Nat} {lx ly : List Int} (h : Two w B gx cx lx gy cy ly) (k : Nat) (hk : k < lx.length) : w.cell? ⟨gx, k, none⟩ = some (.int .i64 (lx.getD k 0)) := by
  rw [h.1.cellAt k (by omega)]
  simp [I, List.getD, List.getElem?_eq_getElem hk]
theorem Two.capx {w : World} {B gx cx gy cy : Nat} {lx ly : List Int} (h : Two w B gx cx lx gy cy ly) : lx.length ≤ cx := by
  obtain ⟨_, ⟨h, _⟩ | ⟨g', cap', cur, h, _, _, hc, _⟩⟩ := h.1
  · simp at h
  · simp only [Value.slice.injEq] at h
    omega

/-- The numbers of matches, and of what is done, one by one. -/
def fm (ms : List Mt) : List Int := ms.flatMap fun x => [x.f, x.m, x.v]
def fd (ds : List Do) : List Int := ds.flatMap fun x => [x.k, x.a, x.n]
theorem fm_take (ms : List Mt) (k : Nat) (h : k < ms.length) : fm (ms.take (k + 1)) = fm (ms.take k) ++ [(ms.getD k mt0).f, (ms.getD k mt0).m, (ms.getD k mt0).v] := by
  unfold fm
  rw [List.take_succ_eq_append_getElem h, List.flatMap_append]
  simp only [List.flatMap_cons, List.flatMap_nil, List.append_nil, List.getD, List.getElem?_eq_getElem h, Option.getD_some]
theorem fd_take (ds : List Do) (k : Nat) (h : k < ds.length) : fd (ds.take (k + 1)) = fd (ds.take k) ++ [(ds.getD k do0).k, (ds.getD k do0).a, (ds.getD k do0).n] := by
  unfold fd
  rw [List.take_succ_eq_append_getElem h, List.flatMap_append]
  simp only [List.flatMap_cons, List.flatMap_nil, List.append_nil, List.getD, List.getElem?_eq_getElem h, Option.getD_some]
theorem fm_length (ms : List Mt) : (fm ms).length = 3 * ms.length := by
  induction ms with
  | nil => rfl
  | cons x r ih => simp [fm] at ih ⊢; omega
theorem fd_length (ds : List Do) : (fd ds).length = 3 * ds.length := by
  induction ds with
  | nil => rfl
  | cons x r ih => simp [fd] at ih ⊢; omega

/-- Which of two rows of numbers stands ahead. -/
def cmpL : List Int → List Int → Int
  | a :: x, b :: y => if a < b then -1 else if b < a then 1 else cmpL x y
  | x, y => (x.length : Int) - (y.length : Int)
theorem cmpL_step : ∀ (k : Nat) (x y : List Int), k < x.length → k < y.length → (∀ j, j < k → x.getD j 0 = y.getD j 0) → x.getD k 0 ≠ y.getD k 0 → cmpL x y = if x.getD k 0 < y.getD k 0 then -1 else 1
  | 0, a :: x, b :: y, _, _, _, hn => by
    simp at hn
    simp only [cmpL, List.getD_cons_zero]
    by_cases h : a < b
    · rw [if_pos h, if_pos h]
    · rw [if_neg h, if_neg h, if_pos (by omega)]
  | k + 1, a :: x, b :: y, h1, h2, ha, hn => by
    have h0 := ha 0 (by omega)
    simp at h0
    subst h0
    simp only [cmpL, List.getD_cons_succ]
    rw [if_neg (by omega), if_neg (by omega)]
    exact cmpL_step k x y (by simpa using h1) (by simpa using h2) (fun j hj => by simpa using ha (j + 1) (by omega)) (by simpa using hn)
  | _, [], _, h1, _, _, _ => by simp at h1
  | _, _ :: _, [], _, h2, _, _ => by simp at h2
theorem cmpL_end : ∀ (k : Nat) (x y : List Int), k ≤ x.length → k ≤ y.length → (k = x.length ∨ k = y.length) → (∀ j, j < k → x.getD j 0 = y.getD j 0) → cmpL x y = (x.length : Int) - (y.length : Int)
  | 0, [], y, _, _, _, _ => by cases y <;> rfl
  | 0, a :: x, [], _, _, _, _ => rfl
  | 0, a :: x, b :: y, _, _, h, _ => by simp at h
  | k + 1, a :: x, b :: y, h1, h2, h, ha => by
    have h0 := ha 0 (by omega)
    simp at h0
    subst h0
    simp only [cmpL]
    rw [if_neg (by omega), if_neg (by omega), cmpL_end k x y (by simpa using h1) (by simpa using h2) (by simpa using h) (fun j hj => by simpa using ha (j + 1) (by omega))]
    simp; omega
  | k + 1, [], _, h1, _, _, _ => by simp at h1
  | k + 1, _ :: _, [], _, h2, _, _ => by simp at h2

/-- P2.3: of two flows, which one stands ahead. -/
def keyX (a b : Fl) : List Int := [a.t, b.p, (a.ms.length : Int), (a.ds.length : Int)] ++ fm a.ms ++ fd a.ds
def plc (a b : Fl) : Int := cmpL (keyX a b) ([b.t, a.p, (b.ms.length : Int), (b.ds.length : Int)] ++ fm b.ms ++ fd b.ds)

end Go.Proofs.Ytonhfgdnkkkikac
