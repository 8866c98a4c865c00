/- Texts joined: Two, Rf0, So, Sv, Rs0, Pa, Ci, Pb, Kp, Pi, Xe, Xm, Xk2, Xf, Cc, Ct. -/
import Derived.Deep.AppendLies
import Derived.Deep.RegionHeld3
import Derived.Deep.QuietTactic
import Derived.BigQuiet
import Derived.Deep.RegionLaw
import Derived.Laws.OwnMore
import Derived.Laws.AppendOwnNone
import Derived.Laws.EntriesVeiled
import Derived.Test.YtjcomoinggiedaaGreatJTopSilent2
namespace Go.Proofs.YtjcomoinggiedaaGreat
open Go.RowKit
set_option linter.unusedVariables false
set_option maxRecDepth 100000

def I (l : List Int) : List Value := l.map (Value.int .i64)
theorem I_length (l : List Int) : (I l).length = l.length := by simp [I]
theorem I_append (a b : List Int) : I (a ++ b) = I a ++ I b := by simp [I]
theorem I_one (l : List Int) : ∀ u ∈ I l, u.oneCell' = true := fun u hu => by
  simp only [I, List.mem_map] at hu
  obtain ⟨n, _, rfl⟩ := hu
  rfl
theorem infoInt : (Tryz.prog.info? 3).map (fun i => (i.zero, i.size, i.bytes)) = some (some (.int .i64 0), 1, 8) := by kernel_rfl

/-- Two rows of numbers, apart from one another. -/
def Two (w : World) (B gx cx : Nat) (lx : List Int) (gy cy : Nat) (ly : List Int) : Prop :=
  w.ownsRow B 3 1 (.slice (some ⟨gx, 0, none⟩) lx.length cx) lx.length (I lx) ∧ w.ownsRow B 3 1 (.slice (some ⟨gy, 0, none⟩) ly.length cy) ly.length (I ly) ∧ gx ≠ gy

theorem own_at {w : World} {B e size n cap g : Nat} {xs : List Value} (h : w.ownsRow B e size (.slice (some ⟨g, 0, none⟩) n cap) n xs) : B ≤ g ∧ g < w.heap.size := by
  obtain ⟨_, ⟨h, _⟩ | ⟨g', cap', cur, h, hB, hg, _⟩⟩ := h
  · simp at h
  · simp only [Value.slice.injEq, Option.some.injEq, Addr.mk.injEq, and_true] at h
    obtain ⟨rfl, _⟩ := h
    exact ⟨hB, lt_of_block hg⟩

theorem Two.swap {w : World} {B gx cx gy cy : Nat} {lx ly : List Int} (h : Two w B gx cx lx gy cy ly) : Two w B gy cy ly gx cx lx := ⟨h.2.1, h.1, h.2.2.symm⟩
theorem Two.alloc {w : World} {B gx cx gy cy : Nat} {lx ly : List Int} (h : Two w B gx cx lx gy cy ly) (o : Obj) : Two (w.alloc o) B gx cx lx gy cy ly := ⟨h.1.alloc o, h.2.1.alloc o, h.2.2⟩
theorem Two.drew {w : World} {B gx cx gy cy : Nat} {lx ly : List Int} (h : Two w B gx cx lx gy cy ly) : Two w.drew B gx cx lx gy cy ly := ⟨h.1.drew, h.2.1.drew, h.2.2⟩

/-- Behind an append to the first one. -/
theorem Two.app {w w' : World} {B gx cx gy cy g cap m : Nat} {lx ly news : List Int} (h : Two w B gx cx lx gy cy ly) (ho : w'.ownsRow B 3 1 (.slice (some ⟨g, 0, none⟩) (lx.length + m) cap) (lx.length + m) (I lx ++ I news)) (hm : news.length = m)
    (hg : w.grownBy w' (Value.slice (some ⟨gx, 0, none⟩) lx.length cx).ownBlock) (hl : (Value.slice (some ⟨gx, 0, none⟩) lx.length cx).ownBlock = some g ∨ g = w.heap.size) : Two w' B g cap (lx ++ news) gy cy ly := by
  obtain ⟨h1, h2, h3⟩ := h
  have hy := own_at h2
  refine ⟨?_, h2.kept hg ?_, ?_⟩
  · rw [I_append, List.length_append, hm]; exact ho
  · right
    simp [Value.ownBlock]
    exact fun e => h3 e.symm
  · rcases hl with hl | hl
    · simp [Value.ownBlock] at hl
      rw [← hl]; exact h3
    · omega

theorem Two.cellx {w : World} {B gx cx gy cy : Nat} {lx ly : List Int} (h : Two w B gx cx lx gy cy ly) (k : Nat) (hk : k < lx.length) : w.cell? ⟨gx, k, none⟩ = some (.int .i64 (lx.getD k 0)) := by
  rw [h.1.cellAt k (by omega)]
  simp [I, List.getD, List.getElem?_eq_getElem hk]
theorem Two.capx {w : World} {B gx cx gy cy : Nat} {lx ly : List Int} (h : Two w B gx cx lx gy cy ly) : lx.length ≤ cx := by
  obtain ⟨_, ⟨h, _⟩ | ⟨g', cap', cur, h, _, _, hc, _⟩⟩ := h.1
  · simp at h
  · simp only [Value.slice.injEq] at h
    omega

/-- The numbers of matches, and of what is done, one by one. -/
def fm (ms : List Mt) : List Int := ms.flatMap fun x => [x.f, x.m, x.v]
def fd (ds : List Do) : List Int := ds.flatMap fun x => [x.k, x.a, x.n]
theorem fm_take (ms : List Mt) (k : Nat) (h : k < ms.length) : fm (ms.take (k + 1)) = fm (ms.take k) ++ [(ms.getD k mt0).f, (ms.getD k mt0).m, (ms.getD k mt0).v] := by
  unfold fm
  rw [List.take_succ_eq_append_getElem h, List.flatMap_append]
  simp only [List.flatMap_cons, List.flatMap_nil, List.append_nil, List.getD, List.getElem?_eq_getElem h, Option.getD_some]
theorem fd_take (ds : List Do) (k : Nat) (h : k < ds.length) : fd (ds.take (k + 1)) = fd (ds.take k) ++ [(ds.getD k do0).k, (ds.getD k do0).a, (ds.getD k do0).n] := by
  unfold fd
  rw [List.take_succ_eq_append_getElem h, List.flatMap_append]
  simp only [List.flatMap_cons, List.flatMap_nil, List.append_nil, List.getD, List.getElem?_eq_getElem h, Option.getD_some]
theorem fm_length (ms : List Mt) : (fm ms).length = 3 * ms.length := by
  induction ms with
  | nil => rfl
  | cons x r ih => simp [fm] at ih ⊢; omega
theorem fd_length (ds : List Do) : (fd ds).length = 3 * ds.length := by
  induction ds with
  | nil => rfl
  | cons x r ih => simp [fd] at ih ⊢; omega

/-- Which of two rows of numbers stands ahead. -/
def cmpL : List Int → List Int → Int
  | a :: x, b :: y => if a < b then -1 else if b < a then 1 else cmpL x y
  | x, y => (x.length : Int) - (y.length : Int)
theorem cmpL_step : ∀ (k : Nat) (x y : List Int), k < x.length → k < y.length → (∀ j, j < k → x.getD j 0 = y.getD j 0) → x.getD k 0 ≠ y.getD k 0 → cmpL x y = if x.getD k 0 < y.getD k 0 then -1 else 1
  | 0, a :: x, b :: y, _, _, _, hn => by
    simp at hn
    simp only [cmpL, List.getD_cons_zero]
    by_cases h : a < b
    · rw [if_pos h, if_pos h]
    · rw [if_neg h, if_neg h, if_pos (by omega)]
  | k + 1, a :: x, b :: y, h1, h2, ha, hn => by
    have h0 := ha 0 (by omega)
    simp at h0
    subst h0
    simp only [cmpL, List.getD_cons_succ]
    rw [if_neg (by omega), if_neg (by omega)]
    exact cmpL_step k x y (by simpa using h1) (by simpa using h2) (fun j hj => by simpa using ha (j + 1) (by omega)) (by simpa using hn)
  | _, [], _, h1, _, _, _ => by simp at h1
  | _, _ :: _, [], _, h2, _, _ => by simp at h2
theorem cmpL_end : ∀ (k : Nat) (x y : List Int), k ≤ x.length → k ≤ y.length → (k = x.length ∨ k = y.length) → (∀ j, j < k → x.getD j 0 = y.getD j 0) → cmpL x y = (x.length : Int) - (y.length : Int)
  | 0, [], y, _, _, _, _ => by cases y <;> rfl
  | 0, a :: x, [], _, _, _, _ => rfl
  | 0, a :: x, b :: y, _, _, h, _ => by simp at h
  | k + 1, a :: x, b :: y, h1, h2, h, ha => by
    have h0 := ha 0 (by omega)
    simp at h0
    subst h0
    simp only [cmpL]
    rw [if_neg (by omega), if_neg (by omega), cmpL_end k x y (by simpa using h1) (by simpa using h2) (by simpa using h) (fun j hj => by simpa using ha (j + 1) (by omega))]
    simp; omega
  | k + 1, [], _, h1, _, _, _ => by simp at h1
  | k + 1, _ :: _, [], _, h2, _, _ => by simp at h2

/-- P2.3: of two flows, which one stands ahead. -/
def keyX (a b : Fl) : List Int := [a.t, b.p, (a.ms.length : Int), (a.ds.length : Int)] ++ fm a.ms ++ fd a.ds
def plc (a b : Fl) : Int := cmpL (keyX a b) ([b.t, a.p, (b.ms.length : Int), (b.ds.length : Int)] ++ fm b.ms ++ fd b.ds)

end Go.Proofs.YtjcomoinggiedaaGreat

namespace Go.Proofs.YtjcomoinggiedaaGreat
open Go.RowKit
set_option linter.unusedVariables false
set_option maxRecDepth 100000

def M (l : List Mt) : List Value := l.flatMap fun x => [.int .i64 x.f, .int .i64 x.m, .int .i64 x.v]
def D (l : List Do) : List Value := l.flatMap fun x => [.int .i64 x.k, .int .i64 x.a, .int .i64 x.n]
theorem infoMatch : (Tryz.prog.info? 160).map (fun i => (i.zero, i.size, i.bytes)) = some (some (.agg #[.int .i64 0, .int .i64 0, .int .i64 0]), 3, 24) := by kernel_rfl
theorem infoDoes : (Tryz.prog.info? 145).map (fun i => (i.zero, i.size, i.bytes)) = some (some (.agg #[.int .i64 0, .int .i64 0, .int .i64 0]), 3, 24) := by kernel_rfl

theorem M_take (ms : List Mt) (k : Nat) (h : k < ms.length) : M (ms.take (k + 1)) = M (ms.take k) ++ [.int .i64 (ms.getD k mt0).f, .int .i64 (ms.getD k mt0).m, .int .i64 (ms.getD k mt0).v] := by
  unfold M
  rw [List.take_succ_eq_append_getElem h, List.flatMap_append]
  simp only [List.flatMap_cons, List.flatMap_nil, List.append_nil, List.getD, List.getElem?_eq_getElem h, Option.getD_some]
theorem D_take (ds : List Do) (k : Nat) (h : k < ds.length) : D (ds.take (k + 1)) = D (ds.take k) ++ [.int .i64 (ds.getD k do0).k, .int .i64 (ds.getD k do0).a, .int .i64 (ds.getD k do0).n] := by
  unfold D
  rw [List.take_succ_eq_append_getElem h, List.flatMap_append]
  simp only [List.flatMap_cons, List.flatMap_nil, List.append_nil, List.getD, List.getElem?_eq_getElem h, Option.getD_some]
theorem cell_set_blk {w : World} {b o b' o' : Nat} {v : Value} (h : b' ≠ b) : (w.setCell ⟨b', o', none⟩ v).cell? ⟨b, o, none⟩ = w.cell? ⟨b, o, none⟩ := World.cell?_setCell_other _ _ _ _ (fun e => h (by simpa using congrArg Addr.block e))
theorem own_lt {w : World} {B e size n : Nat} {v : Value} {xs : List Value} (h : w.ownsRow B e size v n xs) {g : Nat} (hg : v.ownBlock = some g) : g < w.heap.size := by
  obtain ⟨_, ⟨rfl, _⟩ | ⟨g', cap', cur, rfl, hB, hb, _⟩⟩ := h
  · simp [Value.ownBlock] at hg
  · simp [Value.ownBlock] at hg
    subst hg
    exact lt_of_block hb
theorem own_slice {w : World} {B e size n : Nat} {v : Value} {xs : List Value} (h : w.ownsRow B e size v n xs) : ∃ o m c, v = .slice o m c := by
  obtain ⟨_, ⟨rfl, _⟩ | ⟨g', cap', cur, rfl, _⟩⟩ := h
  · exact ⟨_, _, _, rfl⟩
  · exact ⟨_, _, _, rfl⟩
theorem sep_app {w : World} {B e size n H g : Nat} {u v : Value} {xs : List Value} (h : w.ownsRow B e size u n xs) (hs : u.ownBlock = none ∨ u.ownBlock ≠ v.ownBlock) (ha : v.ownBlock = some g ∨ g = H) (hH : w.heap.size ≤ H) : u.ownBlock = none ∨ u.ownBlock ≠ some g := by
  rcases hs with hs | hs
  · exact .inl hs
  · refine .inr fun e => ?_
    rcases ha with ha | ha
    · exact hs (e.trans ha.symm)
    · have := own_lt h e
      omega
theorem one3 (x y z : Int) : ∀ u ∈ [Value.int .i64 x, .int .i64 y, .int .i64 z], u.oneCell' = true := by
  intro u hu
  simp at hu
  rcases hu with rfl | rfl | rfl <;> rfl


end Go.Proofs.YtjcomoinggiedaaGreat

namespace Go.Proofs.YtjcomoinggiedaaGreat
open Go.RowKit
set_option linter.unusedVariables false
set_option maxRecDepth 100000

theorem MsAt.kept {w w' : World} {v : Value} {ms : List Mt} {row : Option Nat} (h : MsAt w v ms) (hg : w.grownBy w' row) (hne : v.ownBlock = none ∨ v.ownBlock ≠ row) : MsAt w' v ms := by
  obtain ⟨a, cap, rfl, hn, h0 | ⟨b, off, rfl, hc, hL⟩⟩ := h
  · exact ⟨a, cap, rfl, hn, .inl h0⟩
  · have hne' : some b ≠ row := by
      rcases hne with h | h
      · simp [Value.ownBlock] at h
      · simpa [Value.ownBlock] using h
    refine ⟨_, cap, rfl, hn, .inr ⟨b, off, rfl, hc, fun i hi => ?_⟩⟩
    obtain ⟨e0, e1, e2⟩ := hL i hi
    exact ⟨(hg.cell_far _ (cell_lt e0) hne').trans e0, (hg.cell_far _ (cell_lt e1) hne').trans e1, (hg.cell_far _ (cell_lt e2) hne').trans e2⟩
theorem DsAt.kept {w w' : World} {v : Value} {ds : List Do} {row : Option Nat} (h : DsAt w v ds) (hg : w.grownBy w' row) (hne : v.ownBlock = none ∨ v.ownBlock ≠ row) : DsAt w' v ds := by
  obtain ⟨a, cap, rfl, hn, h0 | ⟨b, off, rfl, hc, hL⟩⟩ := h
  · exact ⟨a, cap, rfl, hn, .inl h0⟩
  · have hne' : some b ≠ row := by
      rcases hne with h | h
      · simp [Value.ownBlock] at h
      · simpa [Value.ownBlock] using h
    refine ⟨_, cap, rfl, hn, .inr ⟨b, off, rfl, hc, fun i hi => ?_⟩⟩
    obtain ⟨e0, e1, e2⟩ := hL i hi
    exact ⟨(hg.cell_far _ (cell_lt e0) hne').trans e0, (hg.cell_far _ (cell_lt e1) hne').trans e1, (hg.cell_far _ (cell_lt e2) hne').trans e2⟩

theorem M_length (l : List Mt) : (M l).length = 3 * l.length := by
  induction l with
  | nil => rfl
  | cons x r ih => simp [M] at ih ⊢; omega
theorem M_at : ∀ (l : List Mt) (i : Nat), i < l.length → (M l)[i * 3]? = some (.int .i64 (l.getD i mt0).f) ∧ (M l)[i * 3 + 1]? = some (.int .i64 (l.getD i mt0).m) ∧ (M l)[i * 3 + 2]? = some (.int .i64 (l.getD i mt0).v)
  | [], i, h => by simp at h
  | x :: r, 0, _ => ⟨rfl, rfl, rfl⟩
  | x :: r, i + 1, h => by
    have ih := M_at r i (by simpa using h)
    have e : ∀ j, (M (x :: r))[(i + 1) * 3 + j]? = (M r)[i * 3 + j]? := fun j => by
      have : (i + 1) * 3 + j = i * 3 + j + 3 := by omega
      rw [this]; rfl
    refine ⟨?_, ?_, ?_⟩
    · have := e 0; simp only [Nat.add_zero] at this; rw [this]; simpa using ih.1
    · rw [e 1]; simpa using ih.2.1
    · rw [e 2]; simpa using ih.2.2
theorem D_at : ∀ (l : List Do) (i : Nat), i < l.length → (D l)[i * 3]? = some (.int .i64 (l.getD i do0).k) ∧ (D l)[i * 3 + 1]? = some (.int .i64 (l.getD i do0).a) ∧ (D l)[i * 3 + 2]? = some (.int .i64 (l.getD i do0).n)
  | [], i, h => by simp at h
  | x :: r, 0, _ => ⟨rfl, rfl, rfl⟩
  | x :: r, i + 1, h => by
    have ih := D_at r i (by simpa using h)
    have e : ∀ j, (D (x :: r))[(i + 1) * 3 + j]? = (D r)[i * 3 + j]? := fun j => by
      have : (i + 1) * 3 + j = i * 3 + j + 3 := by omega
      rw [this]; rfl
    refine ⟨?_, ?_, ?_⟩
    · have := e 0; simp only [Nat.add_zero] at this; rw [this]; simpa using ih.1
    · rw [e 1]; simpa using ih.2.1
    · rw [e 2]; simpa using ih.2.2

/-- What a row of the call's own holds, as what came in is said. -/
theorem MsAt.of_own {w : World} {B : Nat} {v : Value} {ms : List Mt} (h : w.ownsRow B 160 3 v ms.length (M ms)) : MsAt w v ms := by
  by_cases h0 : ms.length = 0
  · obtain ⟨_, ⟨rfl, hn⟩ | ⟨g, cap, cur, rfl, _⟩⟩ := h
    · exact ⟨none, 0, by rw [h0], fun _ => rfl, .inl h0⟩
    · exact ⟨_, cap, rfl, by simp, .inl h0⟩
  · obtain ⟨g, cap, rfl, _, _⟩ := h.form (by omega)
    have hc : ms.length ≤ cap := by
      obtain ⟨_, ⟨h, _⟩ | ⟨g', cap', cur, h, _, _, hc, _⟩⟩ := h
      · simp at h
      · simp only [Value.slice.injEq] at h
        omega
    refine ⟨_, cap, rfl, by simp, .inr ⟨g, 0, rfl, hc, fun i hi => ?_⟩⟩
    obtain ⟨e0, e1, e2⟩ := M_at ms i hi
    simp only [Nat.zero_add]
    exact ⟨(h.cellAt _ (by omega)).trans e0, (h.cellAt _ (by omega)).trans e1, (h.cellAt _ (by omega)).trans e2⟩
theorem DsAt.of_own {w : World} {B : Nat} {v : Value} {ds : List Do} (h : w.ownsRow B 145 3 v ds.length (D ds)) : DsAt w v ds := by
  by_cases h0 : ds.length = 0
  · obtain ⟨_, ⟨rfl, hn⟩ | ⟨g, cap, cur, rfl, _⟩⟩ := h
    · exact ⟨none, 0, by rw [h0], fun _ => rfl, .inl h0⟩
    · exact ⟨_, cap, rfl, by simp, .inl h0⟩
  · obtain ⟨g, cap, rfl, _, _⟩ := h.form (by omega)
    have hc : ds.length ≤ cap := by
      obtain ⟨_, ⟨h, _⟩ | ⟨g', cap', cur, h, _, _, hc, _⟩⟩ := h
      · simp at h
      · simp only [Value.slice.injEq] at h
        omega
    refine ⟨_, cap, rfl, by simp, .inr ⟨g, 0, rfl, hc, fun i hi => ?_⟩⟩
    obtain ⟨e0, e1, e2⟩ := D_at ds i hi
    simp only [Nat.zero_add]
    exact ⟨(h.cellAt _ (by omega)).trans e0, (h.cellAt _ (by omega)).trans e1, (h.cellAt _ (by omega)).trans e2⟩

/-- P2.3: what stands behind k flows of a sorted row, one more being laid in: and whether it is in. -/
def nx (f : Fl) (out : List Fl) : Nat → List Fl × Bool
  | 0 => ([], false)
  | k + 1 =>
    let d1 := (nx f out k).2 || (plc f (out.getD k fl0) == 0)
    if plc f (out.getD k fl0) < 0 ∧ d1 = false then ((nx f out k).1 ++ [f, out.getD k fl0], true) else ((nx f out k).1 ++ [out.getD k fl0], d1)
def put1 (f : Fl) (out : List Fl) : List Fl := if (nx f out out.length).2 then (nx f out out.length).1 else (nx f out out.length).1 ++ [f]
def srt (l : List Fl) : Nat → List Fl
  | 0 => []
  | k + 1 => put1 (l.getD k fl0) (srt l k)
theorem nx_length (f : Fl) (out : List Fl) : ∀ k, (nx f out k).1.length ≤ k + 1 ∧ ((nx f out k).2 = false → (nx f out k).1.length = k)
  | 0 => ⟨by simp [nx], fun _ => by simp [nx]⟩
  | k + 1 => by
    obtain ⟨h1, h2⟩ := nx_length f out k
    unfold nx
    simp only
    split
    · rename_i h
      have h3 : (nx f out k).2 = false := by
        have := h.2
        simp at this
        exact this.1
      exact ⟨by simp [h2 h3], fun h => by simp at h⟩
    · refine ⟨by simp; omega, fun h => ?_⟩
      simp at h
      simp [h2 h.1]
theorem put1_length (f : Fl) (out : List Fl) : (put1 f out).length ≤ out.length + 1 := by
  obtain ⟨h1, h2⟩ := nx_length f out out.length
  unfold put1
  split
  · exact h1
  · rename_i h
    simp [h2 (by simpa using h)]
theorem srt_length (l : List Fl) : ∀ k, (srt l k).length ≤ k
  | 0 => by simp [srt]
  | k + 1 => by
    have := srt_length l k
    have := put1_length (l.getD k fl0) (srt l k)
    unfold srt
    omega

end Go.Proofs.YtjcomoinggiedaaGreat

namespace Go.Proofs.YtjcomoinggiedaaGreat
open Go.RowKit
set_option linter.unusedVariables false
set_option maxRecDepth 100000

/-- A flow, and the two slices that it holds. -/
structure Fv where
  f : Fl
  mv : Value
  dv : Value
def C (l : List Fv) : List Value := l.flatMap fun x => [.int .i64 x.f.t, .int .i64 x.f.p, x.mv, x.dv]
def fv0 : Fv := ⟨fl0, .slice none 0 0, .slice none 0 0⟩
theorem C_append (a b : List Fv) : C (a ++ b) = C a ++ C b := by simp [C]
theorem C_at : ∀ (l : List Fv) (i : Nat), i < l.length → (C l)[i * 4]? = some (.int .i64 (l.getD i fv0).f.t) ∧ (C l)[i * 4 + 1]? = some (.int .i64 (l.getD i fv0).f.p) ∧ (C l)[i * 4 + 2]? = some (l.getD i fv0).mv ∧ (C l)[i * 4 + 3]? = some (l.getD i fv0).dv
  | [], i, h => by simp at h
  | x :: r, 0, _ => ⟨rfl, rfl, rfl, rfl⟩
  | x :: r, i + 1, h => by
    have ih := C_at r i (by simpa using h)
    have e : ∀ j, (C (x :: r))[(i + 1) * 4 + j]? = (C r)[i * 4 + j]? := fun j => by
      have : (i + 1) * 4 + j = i * 4 + j + 4 := by omega
      rw [this]; rfl
    refine ⟨?_, ?_, ?_, ?_⟩
    · have := e 0; simp only [Nat.add_zero] at this; rw [this]; simpa using ih.1
    · rw [e 1]; simpa using ih.2.1
    · rw [e 2]; simpa using ih.2.2.1
    · rw [e 3]; simpa using ih.2.2.2

/-- One slice lies elsewhere than another. -/
def Apart (u v : Value) : Prop := u.ownBlock = none ∨ u.ownBlock ≠ v.ownBlock
/-- What a flow holds lies there; and it is nothing that came later. -/
def FvOk (w : World) (x : Fv) : Prop := MsAt w x.mv x.f.ms ∧ DsAt w x.dv x.f.ds ∧ (∀ g, x.mv.ownBlock = some g → g < w.heap.size) ∧ (∀ g, x.dv.ownBlock = some g → g < w.heap.size)
theorem FvOk.below {w w' : World} {x : Fv} (h : FvOk w x) (hb : Below w.heap.size w w') : FvOk w' x :=
  ⟨h.1.below hb (Nat.le_refl _), h.2.1.below hb (Nat.le_refl _), fun g e => Nat.lt_of_lt_of_le (h.2.2.1 g e) hb.size, fun g e => Nat.lt_of_lt_of_le (h.2.2.2 g e) hb.size⟩
theorem FvOk.kept {w w' : World} {x : Fv} {v : Value} (h : FvOk w x) (hg : w.grownBy w' v.ownBlock) (h1 : Apart x.mv v) (h2 : Apart x.dv v) : FvOk w' x :=
  ⟨h.1.kept hg h1, h.2.1.kept hg h2, fun g e => Nat.lt_of_lt_of_le (h.2.2.1 g e) hg.size, fun g e => Nat.lt_of_lt_of_le (h.2.2.2 g e) hg.size⟩
theorem FvOk.slices {w : World} {x : Fv} (h : FvOk w x) : (∃ o c, x.mv = .slice o x.f.ms.length c) ∧ (∃ o c, x.dv = .slice o x.f.ds.length c) := by
  obtain ⟨⟨a, c, h1, _⟩, ⟨a', c', h2, _⟩, _⟩ := h
  exact ⟨⟨a, c, h1⟩, ⟨a', c', h2⟩⟩
theorem FvOk.one {w : World} {x : Fv} (h : FvOk w x) : ∀ u ∈ C [x], u.oneCell' = true := by
  obtain ⟨⟨o, c, h1⟩, ⟨o', c', h2⟩⟩ := h.slices
  intro u hu
  simp [C] at hu
  rcases hu with rfl | rfl | rfl | rfl
  · rfl
  · rfl
  · rw [h1]; rfl
  · rw [h2]; rfl

/-- Two rows of flows, apart from one another and from what their flows hold. -/
structure Rows2 (w : World) (B : Nat) (vo : Value) (lo : List Fv) (vn : Value) (ln : List Fv) : Prop where
  out : w.ownsRow B 96 4 vo lo.length (C lo)
  next : w.ownsRow B 96 4 vn ln.length (C ln)
  two : Apart vo vn
  oks : ∀ x ∈ lo ++ ln, FvOk w x ∧ Apart x.mv vo ∧ Apart x.dv vo ∧ Apart x.mv vn ∧ Apart x.dv vn
theorem Rows2.below {w w' : World} {B : Nat} {vo vn : Value} {lo ln : List Fv} (h : Rows2 w B vo lo vn ln) (hb : Below w.heap.size w w') : Rows2 w' B vo lo vn ln :=
  ⟨own_below h.out hb, own_below h.next hb, h.two, fun x hx => ⟨(h.oks x hx).1.below hb, (h.oks x hx).2⟩⟩
theorem Apart.app {w : World} {u v : Value} {g H n c : Nat} (h : Apart u v) (hu : ∀ g, u.ownBlock = some g → g < H) (ha : v.ownBlock = some g ∨ g = H) : Apart u (.slice (some ⟨g, 0, none⟩) n c) := by
  rcases h with h | h
  · exact .inl h
  · cases e : u.ownBlock with
    | none => exact .inl e
    | some b =>
      refine .inr ?_
      rw [e]
      simp only [Value.ownBlock]
      rcases ha with ha | ha
      · rw [ha, e] at h; exact h
      · have := hu b e
        simp; omega
/-- Behind an append of one flow to the second row. -/
theorem Rows2.app {w w' : World} {B g cap H : Nat} {vo vn : Value} {lo ln : List Fv} {x : Fv} (h : Rows2 w B vo lo vn ln) (hx : FvOk w x) (x1 : Apart x.mv vo) (x2 : Apart x.dv vo) (x3 : Apart x.mv vn) (x4 : Apart x.dv vn)
    (ho : w'.ownsRow B 96 4 (.slice (some ⟨g, 0, none⟩) (ln.length + 1) cap) (ln.length + 1) (C ln ++ C [x])) (hg : w.grownBy w' vn.ownBlock) (ha : vn.ownBlock = some g ∨ g = H) (hH : w.heap.size = H) :
    Rows2 w' B vo lo (.slice (some ⟨g, 0, none⟩) (ln.length + 1) cap) (ln ++ [x]) := by
  refine ⟨h.out.kept hg h.two, ?_, ?_, ?_⟩
  · rw [C_append, List.length_append]; exact ho
  · exact Apart.app (w := w) h.two (fun g e => hH ▸ own_lt h.out e) ha
  · intro y hy
    have hy' : (FvOk w y ∧ Apart y.mv vo ∧ Apart y.dv vo ∧ Apart y.mv vn ∧ Apart y.dv vn) := by
      simp only [List.mem_append, List.mem_singleton] at hy
      rcases hy with hy | hy | rfl
      · exact h.oks y (by simp [hy])
      · exact h.oks y (by simp [hy])
      · exact ⟨hx, x1, x2, x3, x4⟩
    obtain ⟨k0, k1, k2, k3, k4⟩ := hy'
    exact ⟨k0.kept hg k3 k4, k1, k2, Apart.app (w := w) k3 (fun g e => hH ▸ k0.2.2.1 g e) ha, Apart.app (w := w) k4 (fun g e => hH ▸ k0.2.2.2 g e) ha⟩

end Go.Proofs.YtjcomoinggiedaaGreat

namespace Go.Proofs.YtjcomoinggiedaaGreat
open Go.RowKit
set_option linter.unusedVariables false
set_option maxRecDepth 100000

theorem infoFlow : (Tryz.prog.info? 96).map (fun i => (i.zero, i.size, i.bytes)) = some (some (.agg #[.int .i64 0, .int .i64 0, .slice none 0 0, .slice none 0 0]), 4, 64) := by kernel_rfl
theorem own_form {w : World} {B e size n : Nat} {v : Value} {xs : List Value} (h : w.ownsRow B e size v n xs) : ∃ o c, v = .slice o n c ∧ n ≤ c ∧ (0 < n → ∃ g, o = some ⟨g, 0, none⟩) := by
  obtain ⟨_, ⟨rfl, rfl⟩ | ⟨g, cap, cur, rfl, _, _, hc, _⟩⟩ := h
  · exact ⟨none, 0, rfl, Nat.le_refl _, fun h => absurd h (by omega)⟩
  · exact ⟨_, cap, rfl, hc, fun _ => ⟨g, rfl⟩⟩
theorem apart_nil (u : Value) : Apart u (.slice none 0 0) := by
  unfold Apart
  cases u.ownBlock with
  | none => exact .inl rfl
  | some g => exact .inr (by simp [Value.ownBlock])
theorem rows2_nil (w : World) (B : Nat) : Rows2 w B (.slice none 0 0) [] (.slice none 0 0) [] :=
  ⟨⟨rfl, .inl ⟨rfl, rfl⟩⟩, ⟨rfl, .inl ⟨rfl, rfl⟩⟩, apart_nil _, fun x hx => by simp at hx⟩
theorem Rows2.shift {w : World} {B : Nat} {vo vn : Value} {lo ln : List Fv} (h : Rows2 w B vo lo vn ln) : Rows2 w B vn ln (.slice none 0 0) [] :=
  ⟨h.next, ⟨rfl, .inl ⟨rfl, rfl⟩⟩, apart_nil _, fun x hx => by
    have := h.oks x (by simp at hx; simp [hx])
    exact ⟨this.1, this.2.2.2.1, this.2.2.2.2, apart_nil _, apart_nil _⟩⟩

theorem apart_new {w : World} {B e size n : Nat} {u v : Value} {xs : List Value} (h : w.ownsRow B e size u n xs) (hv : ∀ g, v.ownBlock = some g → g < B) : Apart u v := by
  obtain ⟨_, ⟨rfl, _⟩ | ⟨g, cap, cur, rfl, hB, _⟩⟩ := h
  · exact .inl rfl
  · refine .inr fun e => ?_
    have := hv g (by rw [← e]; rfl)
    omega
theorem fv_copy {w : World} {B : Nat} {f : Fl} {mv dv : Value} (h1 : w.ownsRow B 160 3 mv f.ms.length (M f.ms)) (h2 : w.ownsRow B 145 3 dv f.ds.length (D f.ds)) : FvOk w ⟨f, mv, dv⟩ :=
  ⟨.of_own h1, .of_own h2, fun g e => own_lt h1 e, fun g e => own_lt h2 e⟩
theorem news4 (w : World) (x : Fv) : ∀ j u, (C [x])[j]? = some u → (w.alloc (.cells #[.int .i64 x.f.t, .int .i64 x.f.p, x.mv, x.dv] 96)).cell? ((⟨w.heap.size, 0, none⟩ : Addr).add j) = some u := by
  intro j u hj
  match j, hj with
  | 0, hj => simp [C] at hj; subst hj; simp [Addr.add]
  | 1, hj => simp [C] at hj; subst hj; simp [Addr.add]
  | 2, hj => simp [C] at hj; subst hj; simp [Addr.add]
  | 3, hj => simp [C] at hj; subst hj; simp [Addr.add]
theorem nx_mem (f : Fl) (out : List Fl) : ∀ k, k ≤ out.length → ∀ x ∈ (nx f out k).1, x = f ∨ x ∈ out
  | 0, _, x, hx => by simp [nx] at hx
  | k + 1, hk, x, hx => by
    have ho : out.getD k fl0 ∈ out := by
      rw [List.getD_eq_getElem?_getD, List.getElem?_eq_getElem (by omega : k < out.length)]
      exact List.getElem_mem _
    have ih := nx_mem f out k (by omega) x
    unfold nx at hx
    simp only at hx
    split at hx
    · simp only [List.mem_append, List.mem_cons, List.not_mem_nil, or_false] at hx
      rcases hx with hx | rfl | rfl
      · exact ih hx
      · exact .inl rfl
      · exact .inr ho
    · simp only [List.mem_append, List.mem_cons, List.not_mem_nil, or_false] at hx
      rcases hx with hx | rfl
      · exact ih hx
      · exact .inr ho
theorem srt_mem (l : List Fl) : ∀ k, k ≤ l.length → ∀ x ∈ srt l k, x ∈ l
  | 0, _, x, hx => by simp [srt] at hx
  | k + 1, hk, x, hx => by
    have hf : l.getD k fl0 ∈ l := by
      rw [List.getD_eq_getElem?_getD, List.getElem?_eq_getElem (by omega : k < l.length)]
      exact List.getElem_mem _
    have ih := srt_mem l k (by omega) x
    have hm := nx_mem (l.getD k fl0) (srt l k) (srt l k).length (Nat.le_refl _) x
    unfold srt put1 at hx
    split at hx
    · rcases hm hx with rfl | h
      · exact hf
      · exact ih h
    · simp only [List.mem_append, List.mem_singleton] at hx
      rcases hx with hx | rfl
      · rcases hm hx with rfl | h
        · exact hf
        · exact ih h
      · exact hf

end Go.Proofs.YtjcomoinggiedaaGreat

namespace Go.Proofs.YtjcomoinggiedaaGreat
open Go.RowKit
set_option linter.unusedVariables false
set_option maxRecDepth 100000

theorem alloc_below (w : World) (o : Obj) : Below w.heap.size w (w.alloc o) := (Below.refl _ _).alloc (Nat.le_refl _) _

set_option maxHeartbeats 400000 in
theorem is_any (f v : Int) (w : World) : Calls Tryz.prog 113 #[.int .i64 f, .int .i64 v] w fun e w' => e = .returned (.agg #[.int .i64 f, .int .i64 65535, .int .i64 v]) ∧ Below w.heap.size w w' := by
  go_enter Tryz.func113, Tryz.ntmps113
  go_wp2
  refine bodyPost_ret (v := .agg #[.int .i64 f, .int .i64 65535, .int .i64 v]) ?_ rfl ⟨rfl, alloc_below _ _⟩
  simp [results, Tryz.results113, go_sem]
set_option maxHeartbeats 400000 in
theorem does_any (k a n : Int) (w : World) : Calls Tryz.prog 116 #[.int .i64 k, .int .i64 a, .int .i64 n] w fun e w' => e = .returned (.agg #[.int .i64 k, .int .i64 a, .int .i64 n]) ∧ Below w.heap.size w w' := by
  go_enter Tryz.func116, Tryz.ntmps116
  go_wp2
  refine bodyPost_ret (v := .agg #[.int .i64 k, .int .i64 a, .int .i64 n]) ?_ rfl ⟨rfl, alloc_below _ _⟩
  simp [results, Tryz.results116, go_sem]
set_option maxHeartbeats 400000 in
theorem flowOf_any (t p : Int) (ma da : Option Addr) (ml mc dl dc : Nat) (w : World) : Calls Tryz.prog 114 #[.int .i64 t, .int .i64 p, .slice ma ml mc, .slice da dl dc] w fun e w' => e = .returned (.agg #[.int .i64 t, .int .i64 p, .slice ma ml mc, .slice da dl dc]) ∧ Below w.heap.size w w' := by
  go_enter Tryz.func114, Tryz.ntmps114
  go_wp2
  refine bodyPost_ret (v := .agg #[.int .i64 t, .int .i64 p, .slice ma ml mc, .slice da dl dc]) ?_ rfl ⟨rfl, alloc_below _ _⟩
  simp [results, Tryz.results114, go_sem]
set_option maxHeartbeats 400000 in
theorem routerAt_any (n : Int) (w : World) (h0 : 0 ≤ n) (h1 : n ≤ 100000) : Calls Tryz.prog 171 #[.int .i64 n] w fun e w' => e = .returned (.int .i64 (60000 + n)) ∧ w' = w := by
  go_enter Tryz.func171, Tryz.ntmps171
  go_wp2
  go_ret
  exact ⟨by go_num, rfl⟩
theorem hi_small (b : Int) (h0 : 0 ≤ b) (h1 : b ≤ 16) : 1 ≤ (2 : Int) ^ (16 - b).toNat ∧ (2 : Int) ^ (16 - b).toNat ≤ 65536 := by
  obtain ⟨n, rfl⟩ := Int.eq_ofNat_of_zero_le h0
  have : n = 0 ∨ n = 1 ∨ n = 2 ∨ n = 3 ∨ n = 4 ∨ n = 5 ∨ n = 6 ∨ n = 7 ∨ n = 8 ∨ n = 9 ∨ n = 10 ∨ n = 11 ∨ n = 12 ∨ n = 13 ∨ n = 14 ∨ n = 15 ∨ n = 16 := by omega
  rcases this with rfl | rfl | rfl | rfl | rfl | rfl | rfl | rfl | rfl | rfl | rfl | rfl | rfl | rfl | rfl | rfl | rfl <;> decide
theorem hi_bits (b : Int) (h0 : 0 ≤ b) (h1 : b ≤ 16) : bits .andNot .i64 65535 (2 ^ (16 - b).toNat - 1) = 65536 - 2 ^ (16 - b).toNat := by
  obtain ⟨n, rfl⟩ := Int.eq_ofNat_of_zero_le h0
  have : n = 0 ∨ n = 1 ∨ n = 2 ∨ n = 3 ∨ n = 4 ∨ n = 5 ∨ n = 6 ∨ n = 7 ∨ n = 8 ∨ n = 9 ∨ n = 10 ∨ n = 11 ∨ n = 12 ∨ n = 13 ∨ n = 14 ∨ n = 15 ∨ n = 16 := by omega
  rcases this with rfl | rfl | rfl | rfl | rfl | rfl | rfl | rfl | rfl | rfl | rfl | rfl | rfl | rfl | rfl | rfl | rfl <;> decide
set_option maxHeartbeats 1000000 in
theorem highest_any (f v b : Int) (w : World) (h0 : 0 ≤ b) (h1 : b ≤ 16) : Calls Tryz.prog 196 #[.int .i64 f, .int .i64 v, .int .i64 b] w fun e w' => e = .returned (.agg #[.int .i64 f, .int .i64 (65536 - 2 ^ (16 - b).toNat), .int .i64 v]) ∧ Below w.heap.size w w' := by
  go_enter Tryz.func196, Tryz.ntmps196
  go_wp2
  have e1 : wrap64 (2 ^ (16 - b).toNat) = 2 ^ (16 - b).toNat := by
    have hx := hi_small b h0 h1
    generalize (2 : Int) ^ (16 - b).toNat = x at hx ⊢
    unfold wrap64; omega
  have e2 : wrap64 (2 ^ (16 - b).toNat - 1) = 2 ^ (16 - b).toNat - 1 := by
    have hx := hi_small b h0 h1
    generalize (2 : Int) ^ (16 - b).toNat = x at hx ⊢
    unfold wrap64; omega
  rw [e1, e2, hi_bits b h0 h1]
  refine bodyPost_ret (v := .agg #[.int .i64 f, .int .i64 (65536 - 2 ^ (16 - b).toNat), .int .i64 v]) ?_ rfl ⟨rfl, alloc_below _ _⟩
  simp [results, Tryz.results196, go_sem]
set_option maxHeartbeats 1000000 in
theorem dataMatches_any (w : World) : Calls Tryz.prog 115 #[] w fun e w' => ∃ u, e = .returned u ∧ w'.ownsRow w.heap.size 160 3 u 2 (M dataMs) ∧ Below w.heap.size w w' := by
  go_enter Tryz.func115, Tryz.ntmps115
  go_wp2_with fail
  refine (is_any _ _ _).mono ?_
  rintro e w1 ⟨rfl, hb1⟩
  go_wp2_with fail
  go_ret
  exact ⟨_, rfl, World.ownsRow_lit _ _ _ hb1.size (by decide) rfl, hb1.alloc hb1.size _⟩

end Go.Proofs.YtjcomoinggiedaaGreat

namespace Go.Proofs.YtjcomoinggiedaaGreat
open Go.RowKit
set_option linter.unusedVariables false
set_option maxRecDepth 100000

/-- The first place of what is looked for; -1: there is none. -/
def idx {α : Type} (p : α → Bool) (l : List α) : Int := match l.findIdx? p with
  | some k => (k : Int)
  | none => -1
theorem idx_at {α : Type} {p : α → Bool} (d : α) {l : List α} {k : Nat} (hk : k < l.length) (h1 : ∀ j, j < k → p (l.getD j d) = false) (h2 : p (l.getD k d) = true) : idx p l = k := by
  have e : l.findIdx? p = some k := by
    rw [List.findIdx?_eq_some_iff_getElem]
    refine ⟨hk, by simpa [List.getD, List.getElem?_eq_getElem hk] using h2, fun j hj => ?_⟩
    have := h1 j hj
    simpa [List.getD, List.getElem?_eq_getElem (show j < l.length by omega)] using this
  unfold idx
  rw [e]
theorem idx_no {α : Type} {p : α → Bool} (d : α) {l : List α} (h1 : ∀ j, j < l.length → p (l.getD j d) = false) : idx p l = -1 := by
  have e : l.findIdx? p = none := by
    rw [List.findIdx?_eq_none_iff]
    intro x hx
    obtain ⟨j, hj, rfl⟩ := List.getElem_of_mem hx
    have := h1 j hj
    simpa [List.getD, List.getElem?_eq_getElem hj] using this
  unfold idx
  rw [e]
theorem idx_any {α : Type} (p : α → Bool) (l : List α) : decide (0 ≤ idx p l) = l.any p := by
  unfold idx
  cases h : l.findIdx? p with
  | none =>
    rw [List.findIdx?_eq_none_iff] at h
    simp only [Int.reduceNeg, Int.reduceLE, decide_false]
    symm
    rw [List.any_eq_false]
    intro x hx
    simp [h x hx]
  | some k =>
    rw [List.findIdx?_eq_some_iff_getElem] at h
    obtain ⟨hk, h1, _⟩ := h
    have h2 : l.any p = true := by
      rw [List.any_eq_true]
      exact ⟨_, List.getElem_mem hk, h1⟩
    rw [h2]
    simp
theorem idx_bd {α : Type} (p : α → Bool) (l : List α) : -1 ≤ idx p l ∧ idx p l < l.length := by
  unfold idx
  cases h : l.findIdx? p with
  | none => exact ⟨by simp, by simp <;> omega⟩
  | some k =>
    rw [List.findIdx?_eq_some_iff_getElem] at h
    obtain ⟨hk, _⟩ := h
    exact ⟨by simp <;> omega, by simpa using hk⟩

/-- What is asked of the closure. -/
def AsksId (w : World) (b0 : Nat) (p : Sw → Bool) : Prop := ∀ (W : World) (x : Sw), Below w.heap.size w W → Calls Tryz.prog 159 #[.agg #[.int .i64 x.i, .int .i64 x.t, .int .i64 x.g], .pointer (some ⟨b0, 0, none⟩)] W fun e w' => e = .returned (.bool (p x)) ∧ Below W.heap.size W w'
set_option maxHeartbeats 2000000 in
theorem idxId_any (l : List Sw) (p : Sw → Bool) (v : Value) (b0 : Nat) (w : World) (hF : SwsAt w v l) (hT : AsksId w b0 p) (hl : l.length * 24 ≤ 140737488355328) :
    Calls Tryz.prog 106 #[v, .func (.func 159) #[] #[.pointer (some ⟨b0, 0, none⟩)]] w fun e w' => e = .returned (.int .i64 (idx p l)) ∧ Below w.heap.size w w' := by
  have HF := hide hF
  have HT := hide hT
  obtain ⟨a, cap, rfl⟩ := hF.slice
  clear hF hT
  go_enter Tryz.func106, Tryz.ntmps106
  go_wp2_with fail
  go_loopw [8] (fun i wr => ∃ k : Nat, k ≤ l.length ∧ i = .int .i64 k ∧ Hid (∀ j, j < k → p (l.getD j sw0) = false) ∧ Below w.heap.size w wr) (fun i _ => l.length - (intOf i).toNat)
  case atStart => exact ⟨0, by omega, rfl, hide (fun j h => absurd h (by omega)), Below.refl _ _⟩
  case round =>
    obtain ⟨k, hk, rfl, HALL, hbr⟩ := hrel
    by_cases hlt : k < l.length
    · obtain ⟨b, off, cap', e1, hcap, -, g0, g1, g2⟩ := sw_at (RowAt.below HF.out hbr (Nat.le_refl _)) hlt
      simp only [Value.slice.injEq, true_and] at e1
      obtain ⟨rfl, rfl⟩ := e1
      have HST : Hid (∀ W : World, Below w.heap.size w W → Calls Tryz.prog 159 #[.agg #[.int .i64 (l.getD k sw0).i, .int .i64 (l.getD k sw0).t, .int .i64 (l.getD k sw0).g], .pointer (some ⟨b0, 0, none⟩)] W fun e w' => e = .returned (.bool (p (l.getD k sw0))) ∧ Below W.heap.size W w') := fun W hW => HT.out W _ hW
      have HNX : Hid (p (l.getD k sw0) = false → ∀ j, j < k + 1 → p (l.getD j sw0) = false) := fun h j hj => by
        by_cases e : j = k
        · subst e; exact h
        · exact HALL.out j (by omega)
      have HFD : Hid (p (l.getD k sw0) = true → idx p l = k) := fun h => idx_at sw0 hlt HALL.out h
      generalize p (l.getD k sw0) = R at *
      generalize (l.getD k sw0).i = y0 at *
      generalize (l.getD k sw0).t = y1 at *
      generalize (l.getD k sw0).g = y2 at *
      have q1 : (0 : Int) ≤ (k : Int) := by omega
      have q2 : (k : Int) < (l.length : Int) := by omega
      clear HALL
      go_wp2_with fail
      refine (unhide HST _ ?_).mono ?_
      · first | exact hbr | exact hbr.drew | exact ⟨hbr.os, hbr.tape, hbr.output, hbr.size, hbr.block⟩
      rintro e w1 ⟨rfl, hb1⟩
      have HB1 : Hid (Below w.heap.size w w1) := hbr.trans (hb1.mono hbr.size)
      clear hb1 hbr HST g0 g1 g2
      cases R
      · have HN := hide (HNX.out rfl)
        clear HNX HFD
        go_wp2_with fail
        go_roundw
        case rel => exact ⟨k + 1, by omega, by go_num, HN, HB1.out⟩
        case measure => simp [intOf]; omega
      · have HN := hide (HFD.out rfl)
        clear HNX HFD
        go_wp2_with fail
        go_ret
        exact ⟨int_ret HN.out.symm, HB1.out⟩
    · have HN : Hid (idx p l = -1) := idx_no sw0 fun i hi => HALL.out i (by omega)
      have HB1 := hide hbr
      clear HALL hbr
      go_wp2_with fail
      go_ret
      exact ⟨int_ret HN.out.symm, HB1.out⟩
set_option maxHeartbeats 1000000 in
theorem hasId_any (l : List Sw) (p : Sw → Bool) (v : Value) (b0 : Nat) (w : World) (hF : SwsAt w v l) (hT : AsksId w b0 p) (hl : l.length * 24 ≤ 140737488355328) :
    Calls Tryz.prog 158 #[v, .func (.func 159) #[] #[.pointer (some ⟨b0, 0, none⟩)]] w fun e w' => e = .returned (.bool (l.any p)) ∧ Below w.heap.size w w' := by
  have HI := hide (idxId_any l p v b0 w hF hT hl)
  have HA := hide (idx_any p l)
  obtain ⟨a, cap, rfl⟩ := hF.slice
  clear hF hT
  generalize idx p l = I at *
  go_enter Tryz.func158, Tryz.ntmps158
  go_wp2_with fail
  refine (unhide HI).mono ?_
  rintro e w1 ⟨rfl, hb1⟩
  go_wp2_with fail
  go_ret
  exact ⟨bool_ret HA.out, hb1⟩

/-- What is asked of the closure. -/
def AsksGate (w : World) (b0 b1 : Nat) (p : Sw → Bool) : Prop := ∀ (W : World) (x : Sw), Below w.heap.size w W → Calls Tryz.prog 160 #[.agg #[.int .i64 x.i, .int .i64 x.t, .int .i64 x.g], .pointer (some ⟨b0, 0, none⟩), .pointer (some ⟨b1, 0, none⟩)] W fun e w' => e = .returned (.bool (p x)) ∧ Below W.heap.size W w'
set_option maxHeartbeats 2000000 in
theorem idxGate_any (l : List Sw) (p : Sw → Bool) (v : Value) (b0 b1 : Nat) (w : World) (hF : SwsAt w v l) (hT : AsksGate w b0 b1 p) (hl : l.length * 24 ≤ 140737488355328) :
    Calls Tryz.prog 106 #[v, .func (.func 160) #[] #[.pointer (some ⟨b0, 0, none⟩), .pointer (some ⟨b1, 0, none⟩)]] w fun e w' => e = .returned (.int .i64 (idx p l)) ∧ Below w.heap.size w w' := by
  have HF := hide hF
  have HT := hide hT
  obtain ⟨a, cap, rfl⟩ := hF.slice
  clear hF hT
  go_enter Tryz.func106, Tryz.ntmps106
  go_wp2_with fail
  go_loopw [8] (fun i wr => ∃ k : Nat, k ≤ l.length ∧ i = .int .i64 k ∧ Hid (∀ j, j < k → p (l.getD j sw0) = false) ∧ Below w.heap.size w wr) (fun i _ => l.length - (intOf i).toNat)
  case atStart => exact ⟨0, by omega, rfl, hide (fun j h => absurd h (by omega)), Below.refl _ _⟩
  case round =>
    obtain ⟨k, hk, rfl, HALL, hbr⟩ := hrel
    by_cases hlt : k < l.length
    · obtain ⟨b, off, cap', e1, hcap, -, g0, g1, g2⟩ := sw_at (RowAt.below HF.out hbr (Nat.le_refl _)) hlt
      simp only [Value.slice.injEq, true_and] at e1
      obtain ⟨rfl, rfl⟩ := e1
      have HST : Hid (∀ W : World, Below w.heap.size w W → Calls Tryz.prog 160 #[.agg #[.int .i64 (l.getD k sw0).i, .int .i64 (l.getD k sw0).t, .int .i64 (l.getD k sw0).g], .pointer (some ⟨b0, 0, none⟩), .pointer (some ⟨b1, 0, none⟩)] W fun e w' => e = .returned (.bool (p (l.getD k sw0))) ∧ Below W.heap.size W w') := fun W hW => HT.out W _ hW
      have HNX : Hid (p (l.getD k sw0) = false → ∀ j, j < k + 1 → p (l.getD j sw0) = false) := fun h j hj => by
        by_cases e : j = k
        · subst e; exact h
        · exact HALL.out j (by omega)
      have HFD : Hid (p (l.getD k sw0) = true → idx p l = k) := fun h => idx_at sw0 hlt HALL.out h
      generalize p (l.getD k sw0) = R at *
      generalize (l.getD k sw0).i = y0 at *
      generalize (l.getD k sw0).t = y1 at *
      generalize (l.getD k sw0).g = y2 at *
      have q1 : (0 : Int) ≤ (k : Int) := by omega
      have q2 : (k : Int) < (l.length : Int) := by omega
      clear HALL
      go_wp2_with fail
      refine (unhide HST _ ?_).mono ?_
      · first | exact hbr | exact hbr.drew | exact ⟨hbr.os, hbr.tape, hbr.output, hbr.size, hbr.block⟩
      rintro e w1 ⟨rfl, hb1⟩
      have HB1 : Hid (Below w.heap.size w w1) := hbr.trans (hb1.mono hbr.size)
      clear hb1 hbr HST g0 g1 g2
      cases R
      · have HN := hide (HNX.out rfl)
        clear HNX HFD
        go_wp2_with fail
        go_roundw
        case rel => exact ⟨k + 1, by omega, by go_num, HN, HB1.out⟩
        case measure => simp [intOf]; omega
      · have HN := hide (HFD.out rfl)
        clear HNX HFD
        go_wp2_with fail
        go_ret
        exact ⟨int_ret HN.out.symm, HB1.out⟩
    · have HN : Hid (idx p l = -1) := idx_no sw0 fun i hi => HALL.out i (by omega)
      have HB1 := hide hbr
      clear HALL hbr
      go_wp2_with fail
      go_ret
      exact ⟨int_ret HN.out.symm, HB1.out⟩
set_option maxHeartbeats 1000000 in
theorem hasGate_any (l : List Sw) (p : Sw → Bool) (v : Value) (b0 b1 : Nat) (w : World) (hF : SwsAt w v l) (hT : AsksGate w b0 b1 p) (hl : l.length * 24 ≤ 140737488355328) :
    Calls Tryz.prog 158 #[v, .func (.func 160) #[] #[.pointer (some ⟨b0, 0, none⟩), .pointer (some ⟨b1, 0, none⟩)]] w fun e w' => e = .returned (.bool (l.any p)) ∧ Below w.heap.size w w' := by
  have HI := hide (idxGate_any l p v b0 b1 w hF hT hl)
  have HA := hide (idx_any p l)
  obtain ⟨a, cap, rfl⟩ := hF.slice
  clear hF hT
  generalize idx p l = I at *
  go_enter Tryz.func158, Tryz.ntmps158
  go_wp2_with fail
  refine (unhide HI).mono ?_
  rintro e w1 ⟨rfl, hb1⟩
  go_wp2_with fail
  go_ret
  exact ⟨bool_ret HA.out, hb1⟩

/-- What is asked of the closure. -/
def AsksOf (w : World) (b0 b1 : Nat) (p : Sw → Bool) : Prop := ∀ (W : World) (x : Sw), Below w.heap.size w W → Calls Tryz.prog 162 #[.agg #[.int .i64 x.i, .int .i64 x.t, .int .i64 x.g], .pointer (some ⟨b0, 0, none⟩), .pointer (some ⟨b1, 0, none⟩)] W fun e w' => e = .returned (.bool (p x)) ∧ Below W.heap.size W w'
set_option maxHeartbeats 2000000 in
theorem idxOf_any (l : List Sw) (p : Sw → Bool) (v : Value) (b0 b1 : Nat) (w : World) (hF : SwsAt w v l) (hT : AsksOf w b0 b1 p) (hl : l.length * 24 ≤ 140737488355328) :
    Calls Tryz.prog 106 #[v, .func (.func 162) #[] #[.pointer (some ⟨b0, 0, none⟩), .pointer (some ⟨b1, 0, none⟩)]] w fun e w' => e = .returned (.int .i64 (idx p l)) ∧ Below w.heap.size w w' := by
  have HF := hide hF
  have HT := hide hT
  obtain ⟨a, cap, rfl⟩ := hF.slice
  clear hF hT
  go_enter Tryz.func106, Tryz.ntmps106
  go_wp2_with fail
  go_loopw [8] (fun i wr => ∃ k : Nat, k ≤ l.length ∧ i = .int .i64 k ∧ Hid (∀ j, j < k → p (l.getD j sw0) = false) ∧ Below w.heap.size w wr) (fun i _ => l.length - (intOf i).toNat)
  case atStart => exact ⟨0, by omega, rfl, hide (fun j h => absurd h (by omega)), Below.refl _ _⟩
  case round =>
    obtain ⟨k, hk, rfl, HALL, hbr⟩ := hrel
    by_cases hlt : k < l.length
    · obtain ⟨b, off, cap', e1, hcap, -, g0, g1, g2⟩ := sw_at (RowAt.below HF.out hbr (Nat.le_refl _)) hlt
      simp only [Value.slice.injEq, true_and] at e1
      obtain ⟨rfl, rfl⟩ := e1
      have HST : Hid (∀ W : World, Below w.heap.size w W → Calls Tryz.prog 162 #[.agg #[.int .i64 (l.getD k sw0).i, .int .i64 (l.getD k sw0).t, .int .i64 (l.getD k sw0).g], .pointer (some ⟨b0, 0, none⟩), .pointer (some ⟨b1, 0, none⟩)] W fun e w' => e = .returned (.bool (p (l.getD k sw0))) ∧ Below W.heap.size W w') := fun W hW => HT.out W _ hW
      have HNX : Hid (p (l.getD k sw0) = false → ∀ j, j < k + 1 → p (l.getD j sw0) = false) := fun h j hj => by
        by_cases e : j = k
        · subst e; exact h
        · exact HALL.out j (by omega)
      have HFD : Hid (p (l.getD k sw0) = true → idx p l = k) := fun h => idx_at sw0 hlt HALL.out h
      generalize p (l.getD k sw0) = R at *
      generalize (l.getD k sw0).i = y0 at *
      generalize (l.getD k sw0).t = y1 at *
      generalize (l.getD k sw0).g = y2 at *
      have q1 : (0 : Int) ≤ (k : Int) := by omega
      have q2 : (k : Int) < (l.length : Int) := by omega
      clear HALL
      go_wp2_with fail
      refine (unhide HST _ ?_).mono ?_
      · first | exact hbr | exact hbr.drew | exact ⟨hbr.os, hbr.tape, hbr.output, hbr.size, hbr.block⟩
      rintro e w1 ⟨rfl, hb1⟩
      have HB1 : Hid (Below w.heap.size w w1) := hbr.trans (hb1.mono hbr.size)
      clear hb1 hbr HST g0 g1 g2
      cases R
      · have HN := hide (HNX.out rfl)
        clear HNX HFD
        go_wp2_with fail
        go_roundw
        case rel => exact ⟨k + 1, by omega, by go_num, HN, HB1.out⟩
        case measure => simp [intOf]; omega
      · have HN := hide (HFD.out rfl)
        clear HNX HFD
        go_wp2_with fail
        go_ret
        exact ⟨int_ret HN.out.symm, HB1.out⟩
    · have HN : Hid (idx p l = -1) := idx_no sw0 fun i hi => HALL.out i (by omega)
      have HB1 := hide hbr
      clear HALL hbr
      go_wp2_with fail
      go_ret
      exact ⟨int_ret HN.out.symm, HB1.out⟩
set_option maxHeartbeats 1000000 in
theorem hasOf_any (l : List Sw) (p : Sw → Bool) (v : Value) (b0 b1 : Nat) (w : World) (hF : SwsAt w v l) (hT : AsksOf w b0 b1 p) (hl : l.length * 24 ≤ 140737488355328) :
    Calls Tryz.prog 158 #[v, .func (.func 162) #[] #[.pointer (some ⟨b0, 0, none⟩), .pointer (some ⟨b1, 0, none⟩)]] w fun e w' => e = .returned (.bool (l.any p)) ∧ Below w.heap.size w w' := by
  have HI := hide (idxOf_any l p v b0 b1 w hF hT hl)
  have HA := hide (idx_any p l)
  obtain ⟨a, cap, rfl⟩ := hF.slice
  clear hF hT
  generalize idx p l = I at *
  go_enter Tryz.func158, Tryz.ntmps158
  go_wp2_with fail
  refine (unhide HI).mono ?_
  rintro e w1 ⟨rfl, hb1⟩
  go_wp2_with fail
  go_ret
  exact ⟨bool_ret HA.out, hb1⟩

/-- What is asked of the closure. -/
def AsksSame (w : World) (b0 : Nat) (p : Pr → Bool) : Prop := ∀ (W : World) (x : Pr), Below w.heap.size w W → Calls Tryz.prog 108 #[.agg #[.int .i64 x.i, .int .i64 x.s, .int .i64 x.m, .int .i64 x.p, .int .i64 x.c], .pointer (some ⟨b0, 0, none⟩)] W fun e w' => e = .returned (.bool (p x)) ∧ Below W.heap.size W w'
set_option maxHeartbeats 2000000 in
theorem idxSame_any (l : List Pr) (p : Pr → Bool) (v : Value) (b0 : Nat) (w : World) (hF : PrsAt w v l) (hT : AsksSame w b0 p) (hl : l.length * 40 ≤ 140737488355328) :
    Calls Tryz.prog 44 #[v, .func (.func 108) #[] #[.pointer (some ⟨b0, 0, none⟩)]] w fun e w' => e = .returned (.int .i64 (idx p l)) ∧ Below w.heap.size w w' := by
  have HF := hide hF
  have HT := hide hT
  obtain ⟨a, cap, rfl⟩ := hF.slice
  clear hF hT
  go_enter Tryz.func44, Tryz.ntmps44
  go_wp2_with fail
  go_loopw [8] (fun i wr => ∃ k : Nat, k ≤ l.length ∧ i = .int .i64 k ∧ Hid (∀ j, j < k → p (l.getD j pr0) = false) ∧ Below w.heap.size w wr) (fun i _ => l.length - (intOf i).toNat)
  case atStart => exact ⟨0, by omega, rfl, hide (fun j h => absurd h (by omega)), Below.refl _ _⟩
  case round =>
    obtain ⟨k, hk, rfl, HALL, hbr⟩ := hrel
    by_cases hlt : k < l.length
    · obtain ⟨b, off, cap', e1, hcap, -, g0, g1, g2, g3, g4⟩ := pr_at (RowAt.below HF.out hbr (Nat.le_refl _)) hlt
      simp only [Value.slice.injEq, true_and] at e1
      obtain ⟨rfl, rfl⟩ := e1
      have HST : Hid (∀ W : World, Below w.heap.size w W → Calls Tryz.prog 108 #[.agg #[.int .i64 (l.getD k pr0).i, .int .i64 (l.getD k pr0).s, .int .i64 (l.getD k pr0).m, .int .i64 (l.getD k pr0).p, .int .i64 (l.getD k pr0).c], .pointer (some ⟨b0, 0, none⟩)] W fun e w' => e = .returned (.bool (p (l.getD k pr0))) ∧ Below W.heap.size W w') := fun W hW => HT.out W _ hW
      have HNX : Hid (p (l.getD k pr0) = false → ∀ j, j < k + 1 → p (l.getD j pr0) = false) := fun h j hj => by
        by_cases e : j = k
        · subst e; exact h
        · exact HALL.out j (by omega)
      have HFD : Hid (p (l.getD k pr0) = true → idx p l = k) := fun h => idx_at pr0 hlt HALL.out h
      generalize p (l.getD k pr0) = R at *
      generalize (l.getD k pr0).i = y0 at *
      generalize (l.getD k pr0).s = y1 at *
      generalize (l.getD k pr0).m = y2 at *
      generalize (l.getD k pr0).p = y3 at *
      generalize (l.getD k pr0).c = y4 at *
      have q1 : (0 : Int) ≤ (k : Int) := by omega
      have q2 : (k : Int) < (l.length : Int) := by omega
      clear HALL
      go_wp2_with fail
      refine (unhide HST _ ?_).mono ?_
      · first | exact hbr | exact hbr.drew | exact ⟨hbr.os, hbr.tape, hbr.output, hbr.size, hbr.block⟩
      rintro e w1 ⟨rfl, hb1⟩
      have HB1 : Hid (Below w.heap.size w w1) := hbr.trans (hb1.mono hbr.size)
      clear hb1 hbr HST g0 g1 g2 g3 g4
      cases R
      · have HN := hide (HNX.out rfl)
        clear HNX HFD
        go_wp2_with fail
        go_roundw
        case rel => exact ⟨k + 1, by omega, by go_num, HN, HB1.out⟩
        case measure => simp [intOf]; omega
      · have HN := hide (HFD.out rfl)
        clear HNX HFD
        go_wp2_with fail
        go_ret
        exact ⟨int_ret HN.out.symm, HB1.out⟩
    · have HN : Hid (idx p l = -1) := idx_no pr0 fun i hi => HALL.out i (by omega)
      have HB1 := hide hbr
      clear HALL hbr
      go_wp2_with fail
      go_ret
      exact ⟨int_ret HN.out.symm, HB1.out⟩
set_option maxHeartbeats 1000000 in
theorem hasSame_any (l : List Pr) (p : Pr → Bool) (v : Value) (b0 : Nat) (w : World) (hF : PrsAt w v l) (hT : AsksSame w b0 p) (hl : l.length * 40 ≤ 140737488355328) :
    Calls Tryz.prog 75 #[v, .func (.func 108) #[] #[.pointer (some ⟨b0, 0, none⟩)]] w fun e w' => e = .returned (.bool (l.any p)) ∧ Below w.heap.size w w' := by
  have HI := hide (idxSame_any l p v b0 w hF hT hl)
  have HA := hide (idx_any p l)
  obtain ⟨a, cap, rfl⟩ := hF.slice
  clear hF hT
  generalize idx p l = I at *
  go_enter Tryz.func75, Tryz.ntmps75
  go_wp2_with fail
  refine (unhide HI).mono ?_
  rintro e w1 ⟨rfl, hb1⟩
  go_wp2_with fail
  go_ret
  exact ⟨bool_ret HA.out, hb1⟩

/-- What is asked of the closure. -/
def AsksIp (w : World) (b0 b1 b2 : Nat) (p : Pr → Bool) : Prop := ∀ (W : World) (x : Pr), Below w.heap.size w W → Calls Tryz.prog 161 #[.agg #[.int .i64 x.i, .int .i64 x.s, .int .i64 x.m, .int .i64 x.p, .int .i64 x.c], .pointer (some ⟨b0, 0, none⟩), .pointer (some ⟨b1, 0, none⟩), .pointer (some ⟨b2, 0, none⟩)] W fun e w' => e = .returned (.bool (p x)) ∧ Below W.heap.size W w'
set_option maxHeartbeats 2000000 in
theorem idxIp_any (l : List Pr) (p : Pr → Bool) (v : Value) (b0 b1 b2 : Nat) (w : World) (hF : PrsAt w v l) (hT : AsksIp w b0 b1 b2 p) (hl : l.length * 40 ≤ 140737488355328) :
    Calls Tryz.prog 44 #[v, .func (.func 161) #[] #[.pointer (some ⟨b0, 0, none⟩), .pointer (some ⟨b1, 0, none⟩), .pointer (some ⟨b2, 0, none⟩)]] w fun e w' => e = .returned (.int .i64 (idx p l)) ∧ Below w.heap.size w w' := by
  have HF := hide hF
  have HT := hide hT
  obtain ⟨a, cap, rfl⟩ := hF.slice
  clear hF hT
  go_enter Tryz.func44, Tryz.ntmps44
  go_wp2_with fail
  go_loopw [8] (fun i wr => ∃ k : Nat, k ≤ l.length ∧ i = .int .i64 k ∧ Hid (∀ j, j < k → p (l.getD j pr0) = false) ∧ Below w.heap.size w wr) (fun i _ => l.length - (intOf i).toNat)
  case atStart => exact ⟨0, by omega, rfl, hide (fun j h => absurd h (by omega)), Below.refl _ _⟩
  case round =>
    obtain ⟨k, hk, rfl, HALL, hbr⟩ := hrel
    by_cases hlt : k < l.length
    · obtain ⟨b, off, cap', e1, hcap, -, g0, g1, g2, g3, g4⟩ := pr_at (RowAt.below HF.out hbr (Nat.le_refl _)) hlt
      simp only [Value.slice.injEq, true_and] at e1
      obtain ⟨rfl, rfl⟩ := e1
      have HST : Hid (∀ W : World, Below w.heap.size w W → Calls Tryz.prog 161 #[.agg #[.int .i64 (l.getD k pr0).i, .int .i64 (l.getD k pr0).s, .int .i64 (l.getD k pr0).m, .int .i64 (l.getD k pr0).p, .int .i64 (l.getD k pr0).c], .pointer (some ⟨b0, 0, none⟩), .pointer (some ⟨b1, 0, none⟩), .pointer (some ⟨b2, 0, none⟩)] W fun e w' => e = .returned (.bool (p (l.getD k pr0))) ∧ Below W.heap.size W w') := fun W hW => HT.out W _ hW
      have HNX : Hid (p (l.getD k pr0) = false → ∀ j, j < k + 1 → p (l.getD j pr0) = false) := fun h j hj => by
        by_cases e : j = k
        · subst e; exact h
        · exact HALL.out j (by omega)
      have HFD : Hid (p (l.getD k pr0) = true → idx p l = k) := fun h => idx_at pr0 hlt HALL.out h
      generalize p (l.getD k pr0) = R at *
      generalize (l.getD k pr0).i = y0 at *
      generalize (l.getD k pr0).s = y1 at *
      generalize (l.getD k pr0).m = y2 at *
      generalize (l.getD k pr0).p = y3 at *
      generalize (l.getD k pr0).c = y4 at *
      have q1 : (0 : Int) ≤ (k : Int) := by omega
      have q2 : (k : Int) < (l.length : Int) := by omega
      clear HALL
      go_wp2_with fail
      refine (unhide HST _ ?_).mono ?_
      · first | exact hbr | exact hbr.drew | exact ⟨hbr.os, hbr.tape, hbr.output, hbr.size, hbr.block⟩
      rintro e w1 ⟨rfl, hb1⟩
      have HB1 : Hid (Below w.heap.size w w1) := hbr.trans (hb1.mono hbr.size)
      clear hb1 hbr HST g0 g1 g2 g3 g4
      cases R
      · have HN := hide (HNX.out rfl)
        clear HNX HFD
        go_wp2_with fail
        go_roundw
        case rel => exact ⟨k + 1, by omega, by go_num, HN, HB1.out⟩
        case measure => simp [intOf]; omega
      · have HN := hide (HFD.out rfl)
        clear HNX HFD
        go_wp2_with fail
        go_ret
        exact ⟨int_ret HN.out.symm, HB1.out⟩
    · have HN : Hid (idx p l = -1) := idx_no pr0 fun i hi => HALL.out i (by omega)
      have HB1 := hide hbr
      clear HALL hbr
      go_wp2_with fail
      go_ret
      exact ⟨int_ret HN.out.symm, HB1.out⟩
set_option maxHeartbeats 1000000 in
theorem hasIp_any (l : List Pr) (p : Pr → Bool) (v : Value) (b0 b1 b2 : Nat) (w : World) (hF : PrsAt w v l) (hT : AsksIp w b0 b1 b2 p) (hl : l.length * 40 ≤ 140737488355328) :
    Calls Tryz.prog 75 #[v, .func (.func 161) #[] #[.pointer (some ⟨b0, 0, none⟩), .pointer (some ⟨b1, 0, none⟩), .pointer (some ⟨b2, 0, none⟩)]] w fun e w' => e = .returned (.bool (l.any p)) ∧ Below w.heap.size w w' := by
  have HI := hide (idxIp_any l p v b0 b1 b2 w hF hT hl)
  have HA := hide (idx_any p l)
  obtain ⟨a, cap, rfl⟩ := hF.slice
  clear hF hT
  generalize idx p l = I at *
  go_enter Tryz.func75, Tryz.ntmps75
  go_wp2_with fail
  refine (unhide HI).mono ?_
  rintro e w1 ⟨rfl, hb1⟩
  go_wp2_with fail
  go_ret
  exact ⟨bool_ret HA.out, hb1⟩

end Go.Proofs.YtjcomoinggiedaaGreat

namespace Go.Proofs.YtjcomoinggiedaaGreat
open Go.RowKit
set_option linter.unusedVariables false
set_option maxRecDepth 100000

theorem filter_next {α : Type} (p : α → Bool) (d : α) {l : List α} {k : Nat} (h : k < l.length) : (l.take (k + 1)).filter p = (l.take k).filter p ++ (if p (l.getD k d) then [l.getD k d] else []) := by
  rw [List.take_succ_eq_append_getElem h, List.filter_append]
  have e : l.getD k d = l[k] := by simp [List.getD, List.getElem?_eq_getElem h]
  rw [e]
  by_cases hp : p l[k] = true
  · simp [hp]
  · simp [hp]
/-- Cells of a new block, as append asks for them. -/
theorem news_lit (W : World) (cs : List Value) (t : TypeId) : ∀ j u, cs[j]? = some u → (W.alloc (.cells cs.toArray t)).cell? ((⟨W.heap.size, 0, none⟩ : Addr).add j) = some u := fun j u h => by
  rw [add_fl, Nat.zero_add]
  exact new_cell W _ rfl _ _ _ _ (by simpa using h)
/-- A call of the function enters its body. -/
def Entered (f : Nat) : Prop := ∀ args W, Sem.run Tryz.prog (callFunc f args) W = .ok (.enter f args) W

/-- What is asked of a function that picks. -/
def PicksPr (w : World) (f : Nat) (cs : Array Value) (p : Pr → Bool) : Prop := ∀ (W : World) (x : Pr), Below w.heap.size w W → Calls Tryz.prog f (#[.agg #[.int .i64 x.i, .int .i64 x.s, .int .i64 x.m, .int .i64 x.p, .int .i64 x.c]] ++ cs) W fun e w' => e = .returned (.bool (p x)) ∧ Below W.heap.size W w'
set_option maxHeartbeats 4000000 in
theorem pickedPr_any (l : List Pr) (p : Pr → Bool) (v : Value) (f : Nat) (cs : Array Value) (w : World) (hF : PrsAt w v l) (hT : PicksPr w f cs p) (hE : Entered f) (hl : l.length ≤ 1000) :
    Calls Tryz.prog 69 #[v, .func (.func f) #[] cs] w fun e w' => ∃ u, e = .returned u ∧ w'.ownsRow w.heap.size 45 5 u (l.filter p).length ((l.filter p).flatMap prC) ∧ Below w.heap.size w w' := by
  obtain ⟨i0, hi, hz0, hz1, hz2⟩ := info_parts infoPr
  have HF := hide hF
  have HT := hide hT
  have HEN := hide hE
  obtain ⟨a, cap, rfl⟩ := hF.slice
  clear hF hT hE
  go_enter Tryz.func69, Tryz.ntmps69
  go_wp2_with fail
  go_loopw [5, 10] (fun u i wr => ∃ k : Nat, k ≤ l.length ∧ i = .int .i64 k ∧ Hid (wr.ownsRow w.heap.size 45 5 u ((l.take k).filter p).length (((l.take k).filter p).flatMap prC)) ∧ Below w.heap.size w wr) (fun _ i _ => l.length - (intOf i).toNat)
  case atStart => exact ⟨0, by omega, rfl, hide (by simpa using World.ownsRow_nil w w.heap.size 45 5), Below.refl _ _⟩
  case round =>
    obtain ⟨k, hk, rfl, HO, hbr⟩ := hrel
    by_cases hlt : k < l.length
    · obtain ⟨b, off, cap', e1, hcap, -, g0, g1, g2, g3, g4⟩ := pr_at (RowAt.below HF.out hbr (Nat.le_refl _)) hlt
      simp only [Value.slice.injEq, true_and] at e1
      obtain ⟨rfl, rfl⟩ := e1
      have HST : Hid (∀ W : World, Below w.heap.size w W → Calls Tryz.prog f (#[.agg #[.int .i64 (l.getD k pr0).i, .int .i64 (l.getD k pr0).s, .int .i64 (l.getD k pr0).m, .int .i64 (l.getD k pr0).p, .int .i64 (l.getD k pr0).c]] ++ cs) W fun e w' => e = .returned (.bool (p (l.getD k pr0))) ∧ Below W.heap.size W w') := fun W hW => HT.out W _ hW
      have HN := hide (filter_next p pr0 hlt)
      have HC : Hid (prC (l.getD k pr0) = [.int .i64 (l.getD k pr0).i, .int .i64 (l.getD k pr0).s, .int .i64 (l.getD k pr0).m, .int .i64 (l.getD k pr0).p, .int .i64 (l.getD k pr0).c]) := rfl
      have hlen : ((l.take k).filter p).length ≤ k := Nat.le_trans (List.length_filter_le _ _) (by rw [List.length_take]; omega)
      obtain ⟨o, c, rfl⟩ := own_slc HO.out
      obtain ⟨N, hN⟩ : ∃ N, N = ((l.take k).filter p).length := ⟨_, rfl⟩
      rw [← hN] at HO hlen ⊢
      have HNN := hide hN
      clear hN
      generalize hR : p (l.getD k pr0) = R at *
      have HR := hide hR
      clear hR
      generalize (l.getD k pr0).i = y0 at *
      generalize (l.getD k pr0).s = y1 at *
      generalize (l.getD k pr0).m = y2 at *
      generalize (l.getD k pr0).p = y3 at *
      generalize (l.getD k pr0).c = y4 at *
      have q1 : (0 : Int) ≤ (k : Int) := by omega
      have q2 : (k : Int) < (l.length : Int) := by omega
      obtain ⟨W1, hW1⟩ : ∃ W1, W1 = wr.alloc (.cells #[.int .i64 y0, .int .i64 y1, .int .i64 y2, .int .i64 y3, .int .i64 y4] 45) := ⟨_, rfl⟩
      have hbW : Below wr.heap.size wr W1 := by rw [hW1]; exact alloc_below _ _
      have d0 : W1.cell? ⟨wr.heap.size, 0, none⟩ = some (.int .i64 y0) := by rw [hW1]; exact new_cell wr _ rfl _ _ _ _ rfl
      have d1 : W1.cell? ⟨wr.heap.size, 1, none⟩ = some (.int .i64 y1) := by rw [hW1]; exact new_cell wr _ rfl _ _ _ _ rfl
      have d2 : W1.cell? ⟨wr.heap.size, 2, none⟩ = some (.int .i64 y2) := by rw [hW1]; exact new_cell wr _ rfl _ _ _ _ rfl
      have d3 : W1.cell? ⟨wr.heap.size, 3, none⟩ = some (.int .i64 y3) := by rw [hW1]; exact new_cell wr _ rfl _ _ _ _ rfl
      have d4 : W1.cell? ⟨wr.heap.size, 4, none⟩ = some (.int .i64 y4) := by rw [hW1]; exact new_cell wr _ rfl _ _ _ _ rfl
      go_wp2_with fail
      rw [← hW1]
      clear hW1
      rw [unhide HEN]
      refine (unhide HST _ (hbr.trans (hbW.mono hbr.size))).mono ?_
      rintro e w1 ⟨rfl, hb1⟩
      have hb01 : Below wr.heap.size wr w1 := hbW.trans (hb1.mono hbW.size)
      have HO1 := hide (own_below HO.out hb01)
      have HB1 : Hid (Below w.heap.size w w1) := hbr.trans (hb01.mono hbr.size)
      have q3 := cell_beh d0 hb1 (Nat.le_refl _)
      have q4 := cell_beh d1 hb1 (Nat.le_refl _)
      have q5 := cell_beh d2 hb1 (Nat.le_refl _)
      have q6 := cell_beh d3 hb1 (Nat.le_refl _)
      have q7 := cell_beh d4 hb1 (Nat.le_refl _)
      have hs1 : w.heap.size ≤ w1.heap.size := HB1.out.size
      clear g0 g1 g2 g3 g4 d0 d1 d2 d3 d4 hb1 hbr HST HO hb01 hbW
      cases R
      · have HE : Hid (w1.ownsRow w.heap.size 45 5 (.slice o N c) ((l.take (k + 1)).filter p).length (((l.take (k + 1)).filter p).flatMap prC)) := by
          refine hide ?_
          rw [HN.out, if_neg (by simp), List.append_nil]
          rw [← HNN.out]
          exact HO1.out
        go_wp2_with fail
        go_roundw
        case rel => exact ⟨k + 1, by omega, by go_num, HE, HB1.out⟩
        case measure => simp [intOf]; omega
      · obtain ⟨W2, hW2⟩ : ∃ W2, W2 = w1.alloc (.cells #[.int .i64 y0, .int .i64 y1, .int .i64 y2, .int .i64 y3, .int .i64 y4] 45) := ⟨_, rfl⟩
        have hbW2 : Below w1.heap.size w1 W2 := by rw [hW2]; exact alloc_below _ _
        have NEWS : Hid (∀ j u, [.int .i64 y0, .int .i64 y1, .int .i64 y2, .int .i64 y3, .int .i64 y4][j]? = some u → W2.cell? ((⟨w1.heap.size, 0, none⟩ : Addr).add j) = some u) := by rw [hW2]; exact hide (news_lit w1 _ _)
        have HO2 := hide (own_below HO1.out hbW2)
        have hs2 : w.heap.size ≤ W2.heap.size := Nat.le_trans hs1 hbW2.size
        have HW2 : Hid (w1.alloc (.cells #[.int .i64 y0, .int .i64 y1, .int .i64 y2, .int .i64 y3, .int .i64 y4] 45) = W2) := hW2.symm
        clear hW2
        go_wp2_with (at_builtin; rw [unhide HW2]; refine wpList_append_own _ rfl _ _ 26 rfl w.heap.size 45 i0 _ 5 40 Tryz.underlying26 hi hz0 hz1 hz2 rfl (by decide) _ _ _ rfl (unhide HO2) ⟨w1.heap.size, 0, none⟩ 1 1 [.int .i64 y0, .int .i64 y1, .int .i64 y2, .int .i64 y3, .int .i64 y4] rfl rfl (unhide NEWS) (all_one rfl) ?a1 ?a2 ?a3 ?_)
        case a1 => unfold maxLen; omega
        case a2 => omega
        case a3 => exact hs2
        intro v3 w3 ho3 hg3 _
        have hb3 : Below w.heap.size w w3 := (HB1.out.trans (hbW2.mono hs1)).grown hg3 hs2 (own_ge HO2.out)
        have HE : Hid (w3.ownsRow w.heap.size 45 5 v3 ((l.take (k + 1)).filter p).length (((l.take (k + 1)).filter p).flatMap prC)) := by
          refine hide ?_
          rw [HN.out, if_pos trivial, List.length_append, List.flatMap_append, ← HNN.out]
          simp only [List.flatMap_cons, List.flatMap_nil, List.append_nil, HC.out, List.length_singleton]
          exact ho3
        clear ho3 hg3 HO2 NEWS HO1 HW2 hbW2 q3 q4 q5 q6 q7 HN HC
        go_wp2_with fail
        go_roundw
        case rel => exact ⟨k + 1, by omega, by go_num, HE, hb3⟩
        case measure => simp [intOf]; omega
    · have hke : k = l.length := by omega
      have HE : Hid (wr.ownsRow w.heap.size 45 5 u5 (l.filter p).length ((l.filter p).flatMap prC)) := by
        have := HO.out
        rw [hke, List.take_length] at this
        exact hide this
      obtain ⟨o, c, rfl⟩ := own_slc HE.out
      clear HO
      have hkk : ¬ ((k : Int) < (l.length : Int)) := by omega
      go_wp2_with fail
      go_ret
      exact ⟨_, rfl, HE.out, hbr⟩

/-- What is asked of a function that picks. -/
def PicksSw (w : World) (f : Nat) (cs : Array Value) (p : Sw → Bool) : Prop := ∀ (W : World) (x : Sw), Below w.heap.size w W → Calls Tryz.prog f (#[.agg #[.int .i64 x.i, .int .i64 x.t, .int .i64 x.g]] ++ cs) W fun e w' => e = .returned (.bool (p x)) ∧ Below W.heap.size W w'
set_option maxHeartbeats 4000000 in
theorem pickedSw_any (l : List Sw) (p : Sw → Bool) (v : Value) (f : Nat) (cs : Array Value) (w : World) (hF : SwsAt w v l) (hT : PicksSw w f cs p) (hE : Entered f) (hl : l.length ≤ 1000) :
    Calls Tryz.prog 73 #[v, .func (.func f) #[] cs] w fun e w' => ∃ u, e = .returned u ∧ w'.ownsRow w.heap.size 42 3 u (l.filter p).length ((l.filter p).flatMap swC) ∧ Below w.heap.size w w' := by
  obtain ⟨i0, hi, hz0, hz1, hz2⟩ := info_parts infoSw
  have HF := hide hF
  have HT := hide hT
  have HEN := hide hE
  obtain ⟨a, cap, rfl⟩ := hF.slice
  clear hF hT hE
  go_enter Tryz.func73, Tryz.ntmps73
  go_wp2_with fail
  go_loopw [5, 10] (fun u i wr => ∃ k : Nat, k ≤ l.length ∧ i = .int .i64 k ∧ Hid (wr.ownsRow w.heap.size 42 3 u ((l.take k).filter p).length (((l.take k).filter p).flatMap swC)) ∧ Below w.heap.size w wr) (fun _ i _ => l.length - (intOf i).toNat)
  case atStart => exact ⟨0, by omega, rfl, hide (by simpa using World.ownsRow_nil w w.heap.size 42 3), Below.refl _ _⟩
  case round =>
    obtain ⟨k, hk, rfl, HO, hbr⟩ := hrel
    by_cases hlt : k < l.length
    · obtain ⟨b, off, cap', e1, hcap, -, g0, g1, g2⟩ := sw_at (RowAt.below HF.out hbr (Nat.le_refl _)) hlt
      simp only [Value.slice.injEq, true_and] at e1
      obtain ⟨rfl, rfl⟩ := e1
      have HST : Hid (∀ W : World, Below w.heap.size w W → Calls Tryz.prog f (#[.agg #[.int .i64 (l.getD k sw0).i, .int .i64 (l.getD k sw0).t, .int .i64 (l.getD k sw0).g]] ++ cs) W fun e w' => e = .returned (.bool (p (l.getD k sw0))) ∧ Below W.heap.size W w') := fun W hW => HT.out W _ hW
      have HN := hide (filter_next p sw0 hlt)
      have HC : Hid (swC (l.getD k sw0) = [.int .i64 (l.getD k sw0).i, .int .i64 (l.getD k sw0).t, .int .i64 (l.getD k sw0).g]) := rfl
      have hlen : ((l.take k).filter p).length ≤ k := Nat.le_trans (List.length_filter_le _ _) (by rw [List.length_take]; omega)
      obtain ⟨o, c, rfl⟩ := own_slc HO.out
      obtain ⟨N, hN⟩ : ∃ N, N = ((l.take k).filter p).length := ⟨_, rfl⟩
      rw [← hN] at HO hlen ⊢
      have HNN := hide hN
      clear hN
      generalize hR : p (l.getD k sw0) = R at *
      have HR := hide hR
      clear hR
      generalize (l.getD k sw0).i = y0 at *
      generalize (l.getD k sw0).t = y1 at *
      generalize (l.getD k sw0).g = y2 at *
      have q1 : (0 : Int) ≤ (k : Int) := by omega
      have q2 : (k : Int) < (l.length : Int) := by omega
      obtain ⟨W1, hW1⟩ : ∃ W1, W1 = wr.alloc (.cells #[.int .i64 y0, .int .i64 y1, .int .i64 y2] 42) := ⟨_, rfl⟩
      have hbW : Below wr.heap.size wr W1 := by rw [hW1]; exact alloc_below _ _
      have d0 : W1.cell? ⟨wr.heap.size, 0, none⟩ = some (.int .i64 y0) := by rw [hW1]; exact new_cell wr _ rfl _ _ _ _ rfl
      have d1 : W1.cell? ⟨wr.heap.size, 1, none⟩ = some (.int .i64 y1) := by rw [hW1]; exact new_cell wr _ rfl _ _ _ _ rfl
      have d2 : W1.cell? ⟨wr.heap.size, 2, none⟩ = some (.int .i64 y2) := by rw [hW1]; exact new_cell wr _ rfl _ _ _ _ rfl
      go_wp2_with fail
      rw [← hW1]
      clear hW1
      rw [unhide HEN]
      refine (unhide HST _ (hbr.trans (hbW.mono hbr.size))).mono ?_
      rintro e w1 ⟨rfl, hb1⟩
      have hb01 : Below wr.heap.size wr w1 := hbW.trans (hb1.mono hbW.size)
      have HO1 := hide (own_below HO.out hb01)
      have HB1 : Hid (Below w.heap.size w w1) := hbr.trans (hb01.mono hbr.size)
      have q3 := cell_beh d0 hb1 (Nat.le_refl _)
      have q4 := cell_beh d1 hb1 (Nat.le_refl _)
      have q5 := cell_beh d2 hb1 (Nat.le_refl _)
      have hs1 : w.heap.size ≤ w1.heap.size := HB1.out.size
      clear g0 g1 g2 d0 d1 d2 hb1 hbr HST HO hb01 hbW
      cases R
      · have HE : Hid (w1.ownsRow w.heap.size 42 3 (.slice o N c) ((l.take (k + 1)).filter p).length (((l.take (k + 1)).filter p).flatMap swC)) := by
          refine hide ?_
          rw [HN.out, if_neg (by simp), List.append_nil]
          rw [← HNN.out]
          exact HO1.out
        go_wp2_with fail
        go_roundw
        case rel => exact ⟨k + 1, by omega, by go_num, HE, HB1.out⟩
        case measure => simp [intOf]; omega
      · obtain ⟨W2, hW2⟩ : ∃ W2, W2 = w1.alloc (.cells #[.int .i64 y0, .int .i64 y1, .int .i64 y2] 42) := ⟨_, rfl⟩
        have hbW2 : Below w1.heap.size w1 W2 := by rw [hW2]; exact alloc_below _ _
        have NEWS : Hid (∀ j u, [.int .i64 y0, .int .i64 y1, .int .i64 y2][j]? = some u → W2.cell? ((⟨w1.heap.size, 0, none⟩ : Addr).add j) = some u) := by rw [hW2]; exact hide (news_lit w1 _ _)
        have HO2 := hide (own_below HO1.out hbW2)
        have hs2 : w.heap.size ≤ W2.heap.size := Nat.le_trans hs1 hbW2.size
        have HW2 : Hid (w1.alloc (.cells #[.int .i64 y0, .int .i64 y1, .int .i64 y2] 42) = W2) := hW2.symm
        clear hW2
        go_wp2_with (at_builtin; rw [unhide HW2]; refine wpList_append_own _ rfl _ _ 25 rfl w.heap.size 42 i0 _ 3 24 Tryz.underlying25 hi hz0 hz1 hz2 rfl (by decide) _ _ _ rfl (unhide HO2) ⟨w1.heap.size, 0, none⟩ 1 1 [.int .i64 y0, .int .i64 y1, .int .i64 y2] rfl rfl (unhide NEWS) (all_one rfl) ?a1 ?a2 ?a3 ?_)
        case a1 => unfold maxLen; omega
        case a2 => omega
        case a3 => exact hs2
        intro v3 w3 ho3 hg3 _
        have hb3 : Below w.heap.size w w3 := (HB1.out.trans (hbW2.mono hs1)).grown hg3 hs2 (own_ge HO2.out)
        have HE : Hid (w3.ownsRow w.heap.size 42 3 v3 ((l.take (k + 1)).filter p).length (((l.take (k + 1)).filter p).flatMap swC)) := by
          refine hide ?_
          rw [HN.out, if_pos trivial, List.length_append, List.flatMap_append, ← HNN.out]
          simp only [List.flatMap_cons, List.flatMap_nil, List.append_nil, HC.out, List.length_singleton]
          exact ho3
        clear ho3 hg3 HO2 NEWS HO1 HW2 hbW2 q3 q4 q5 HN HC
        go_wp2_with fail
        go_roundw
        case rel => exact ⟨k + 1, by omega, by go_num, HE, hb3⟩
        case measure => simp [intOf]; omega
    · have hke : k = l.length := by omega
      have HE : Hid (wr.ownsRow w.heap.size 42 3 u5 (l.filter p).length ((l.filter p).flatMap swC)) := by
        have := HO.out
        rw [hke, List.take_length] at this
        exact hide this
      obtain ⟨o, c, rfl⟩ := own_slc HE.out
      clear HO
      have hkk : ¬ ((k : Int) < (l.length : Int)) := by omega
      go_wp2_with fail
      go_ret
      exact ⟨_, rfl, HE.out, hbr⟩

/-- What is asked of a function that picks. -/
def PicksAc (w : World) (f : Nat) (cs : Array Value) (p : Ac → Bool) : Prop := ∀ (W : World) (x : Ac), Below w.heap.size w W → Calls Tryz.prog f (#[.agg #[.int .i64 x.s, .int .i64 x.p, .bool x.n, .int .i64 x.src, .int .i64 x.sb, .int .i64 x.dst, .int .i64 x.db, .int .i64 x.o, .bool x.d]] ++ cs) W fun e w' => e = .returned (.bool (p x)) ∧ Below W.heap.size W w'
set_option maxHeartbeats 4000000 in
theorem pickedAc_any (l : List Ac) (p : Ac → Bool) (v : Value) (f : Nat) (cs : Array Value) (w : World) (hF : AcsAt w v l) (hT : PicksAc w f cs p) (hE : Entered f) (hl : l.length ≤ 1000) :
    Calls Tryz.prog 175 #[v, .func (.func f) #[] cs] w fun e w' => ∃ u, e = .returned u ∧ w'.ownsRow w.heap.size 52 9 u (l.filter p).length ((l.filter p).flatMap acC) ∧ Below w.heap.size w w' := by
  obtain ⟨i0, hi, hz0, hz1, hz2⟩ := info_parts infoAc
  have HF := hide hF
  have HT := hide hT
  have HEN := hide hE
  obtain ⟨a, cap, rfl⟩ := hF.slice
  clear hF hT hE
  go_enter Tryz.func175, Tryz.ntmps175
  go_wp2_with fail
  go_loopw [5, 10] (fun u i wr => ∃ k : Nat, k ≤ l.length ∧ i = .int .i64 k ∧ Hid (wr.ownsRow w.heap.size 52 9 u ((l.take k).filter p).length (((l.take k).filter p).flatMap acC)) ∧ Below w.heap.size w wr) (fun _ i _ => l.length - (intOf i).toNat)
  case atStart => exact ⟨0, by omega, rfl, hide (by simpa using World.ownsRow_nil w w.heap.size 52 9), Below.refl _ _⟩
  case round =>
    obtain ⟨k, hk, rfl, HO, hbr⟩ := hrel
    by_cases hlt : k < l.length
    · obtain ⟨b, off, cap', e1, hcap, -, g0, g1, g2, g3, g4, g5, g6, g7, g8⟩ := ac_at (RowAt.below HF.out hbr (Nat.le_refl _)) hlt
      simp only [Value.slice.injEq, true_and] at e1
      obtain ⟨rfl, rfl⟩ := e1
      have HST : Hid (∀ W : World, Below w.heap.size w W → Calls Tryz.prog f (#[.agg #[.int .i64 (l.getD k ac0).s, .int .i64 (l.getD k ac0).p, .bool (l.getD k ac0).n, .int .i64 (l.getD k ac0).src, .int .i64 (l.getD k ac0).sb, .int .i64 (l.getD k ac0).dst, .int .i64 (l.getD k ac0).db, .int .i64 (l.getD k ac0).o, .bool (l.getD k ac0).d]] ++ cs) W fun e w' => e = .returned (.bool (p (l.getD k ac0))) ∧ Below W.heap.size W w') := fun W hW => HT.out W _ hW
      have HN := hide (filter_next p ac0 hlt)
      have HC : Hid (acC (l.getD k ac0) = [.int .i64 (l.getD k ac0).s, .int .i64 (l.getD k ac0).p, .bool (l.getD k ac0).n, .int .i64 (l.getD k ac0).src, .int .i64 (l.getD k ac0).sb, .int .i64 (l.getD k ac0).dst, .int .i64 (l.getD k ac0).db, .int .i64 (l.getD k ac0).o, .bool (l.getD k ac0).d]) := rfl
      have hlen : ((l.take k).filter p).length ≤ k := Nat.le_trans (List.length_filter_le _ _) (by rw [List.length_take]; omega)
      obtain ⟨o, c, rfl⟩ := own_slc HO.out
      obtain ⟨N, hN⟩ : ∃ N, N = ((l.take k).filter p).length := ⟨_, rfl⟩
      rw [← hN] at HO hlen ⊢
      have HNN := hide hN
      clear hN
      generalize hR : p (l.getD k ac0) = R at *
      have HR := hide hR
      clear hR
      generalize (l.getD k ac0).s = y0 at *
      generalize (l.getD k ac0).p = y1 at *
      generalize (l.getD k ac0).n = y2 at *
      generalize (l.getD k ac0).src = y3 at *
      generalize (l.getD k ac0).sb = y4 at *
      generalize (l.getD k ac0).dst = y5 at *
      generalize (l.getD k ac0).db = y6 at *
      generalize (l.getD k ac0).o = y7 at *
      generalize (l.getD k ac0).d = y8 at *
      have q1 : (0 : Int) ≤ (k : Int) := by omega
      have q2 : (k : Int) < (l.length : Int) := by omega
      obtain ⟨W1, hW1⟩ : ∃ W1, W1 = wr.alloc (.cells #[.int .i64 y0, .int .i64 y1, .bool y2, .int .i64 y3, .int .i64 y4, .int .i64 y5, .int .i64 y6, .int .i64 y7, .bool y8] 52) := ⟨_, rfl⟩
      have hbW : Below wr.heap.size wr W1 := by rw [hW1]; exact alloc_below _ _
      have d0 : W1.cell? ⟨wr.heap.size, 0, none⟩ = some (.int .i64 y0) := by rw [hW1]; exact new_cell wr _ rfl _ _ _ _ rfl
      have d1 : W1.cell? ⟨wr.heap.size, 1, none⟩ = some (.int .i64 y1) := by rw [hW1]; exact new_cell wr _ rfl _ _ _ _ rfl
      have d2 : W1.cell? ⟨wr.heap.size, 2, none⟩ = some (.bool y2) := by rw [hW1]; exact new_cell wr _ rfl _ _ _ _ rfl
      have d3 : W1.cell? ⟨wr.heap.size, 3, none⟩ = some (.int .i64 y3) := by rw [hW1]; exact new_cell wr _ rfl _ _ _ _ rfl
      have d4 : W1.cell? ⟨wr.heap.size, 4, none⟩ = some (.int .i64 y4) := by rw [hW1]; exact new_cell wr _ rfl _ _ _ _ rfl
      have d5 : W1.cell? ⟨wr.heap.size, 5, none⟩ = some (.int .i64 y5) := by rw [hW1]; exact new_cell wr _ rfl _ _ _ _ rfl
      have d6 : W1.cell? ⟨wr.heap.size, 6, none⟩ = some (.int .i64 y6) := by rw [hW1]; exact new_cell wr _ rfl _ _ _ _ rfl
      have d7 : W1.cell? ⟨wr.heap.size, 7, none⟩ = some (.int .i64 y7) := by rw [hW1]; exact new_cell wr _ rfl _ _ _ _ rfl
      have d8 : W1.cell? ⟨wr.heap.size, 8, none⟩ = some (.bool y8) := by rw [hW1]; exact new_cell wr _ rfl _ _ _ _ rfl
      go_wp2_with fail
      rw [← hW1]
      clear hW1
      rw [unhide HEN]
      refine (unhide HST _ (hbr.trans (hbW.mono hbr.size))).mono ?_
      rintro e w1 ⟨rfl, hb1⟩
      have hb01 : Below wr.heap.size wr w1 := hbW.trans (hb1.mono hbW.size)
      have HO1 := hide (own_below HO.out hb01)
      have HB1 : Hid (Below w.heap.size w w1) := hbr.trans (hb01.mono hbr.size)
      have q3 := cell_beh d0 hb1 (Nat.le_refl _)
      have q4 := cell_beh d1 hb1 (Nat.le_refl _)
      have q5 := cell_beh d2 hb1 (Nat.le_refl _)
      have q6 := cell_beh d3 hb1 (Nat.le_refl _)
      have q7 := cell_beh d4 hb1 (Nat.le_refl _)
      have q8 := cell_beh d5 hb1 (Nat.le_refl _)
      have q9 := cell_beh d6 hb1 (Nat.le_refl _)
      have q10 := cell_beh d7 hb1 (Nat.le_refl _)
      have q11 := cell_beh d8 hb1 (Nat.le_refl _)
      have hs1 : w.heap.size ≤ w1.heap.size := HB1.out.size
      clear g0 g1 g2 g3 g4 g5 g6 g7 g8 d0 d1 d2 d3 d4 d5 d6 d7 d8 hb1 hbr HST HO hb01 hbW
      cases R
      · have HE : Hid (w1.ownsRow w.heap.size 52 9 (.slice o N c) ((l.take (k + 1)).filter p).length (((l.take (k + 1)).filter p).flatMap acC)) := by
          refine hide ?_
          rw [HN.out, if_neg (by simp), List.append_nil]
          rw [← HNN.out]
          exact HO1.out
        go_wp2_with fail
        go_roundw
        case rel => exact ⟨k + 1, by omega, by go_num, HE, HB1.out⟩
        case measure => simp [intOf]; omega
      · obtain ⟨W2, hW2⟩ : ∃ W2, W2 = w1.alloc (.cells #[.int .i64 y0, .int .i64 y1, .bool y2, .int .i64 y3, .int .i64 y4, .int .i64 y5, .int .i64 y6, .int .i64 y7, .bool y8] 52) := ⟨_, rfl⟩
        have hbW2 : Below w1.heap.size w1 W2 := by rw [hW2]; exact alloc_below _ _
        have NEWS : Hid (∀ j u, [.int .i64 y0, .int .i64 y1, .bool y2, .int .i64 y3, .int .i64 y4, .int .i64 y5, .int .i64 y6, .int .i64 y7, .bool y8][j]? = some u → W2.cell? ((⟨w1.heap.size, 0, none⟩ : Addr).add j) = some u) := by rw [hW2]; exact hide (news_lit w1 _ _)
        have HO2 := hide (own_below HO1.out hbW2)
        have hs2 : w.heap.size ≤ W2.heap.size := Nat.le_trans hs1 hbW2.size
        have HW2 : Hid (w1.alloc (.cells #[.int .i64 y0, .int .i64 y1, .bool y2, .int .i64 y3, .int .i64 y4, .int .i64 y5, .int .i64 y6, .int .i64 y7, .bool y8] 52) = W2) := hW2.symm
        clear hW2
        go_wp2_with (at_builtin; rw [unhide HW2]; refine wpList_append_own _ rfl _ _ 27 rfl w.heap.size 52 i0 _ 9 72 Tryz.underlying27 hi hz0 hz1 hz2 rfl (by decide) _ _ _ rfl (unhide HO2) ⟨w1.heap.size, 0, none⟩ 1 1 [.int .i64 y0, .int .i64 y1, .bool y2, .int .i64 y3, .int .i64 y4, .int .i64 y5, .int .i64 y6, .int .i64 y7, .bool y8] rfl rfl (unhide NEWS) (all_one rfl) ?a1 ?a2 ?a3 ?_)
        case a1 => unfold maxLen; omega
        case a2 => omega
        case a3 => exact hs2
        intro v3 w3 ho3 hg3 _
        have hb3 : Below w.heap.size w w3 := (HB1.out.trans (hbW2.mono hs1)).grown hg3 hs2 (own_ge HO2.out)
        have HE : Hid (w3.ownsRow w.heap.size 52 9 v3 ((l.take (k + 1)).filter p).length (((l.take (k + 1)).filter p).flatMap acC)) := by
          refine hide ?_
          rw [HN.out, if_pos trivial, List.length_append, List.flatMap_append, ← HNN.out]
          simp only [List.flatMap_cons, List.flatMap_nil, List.append_nil, HC.out, List.length_singleton]
          exact ho3
        clear ho3 hg3 HO2 NEWS HO1 HW2 hbW2 q3 q4 q5 q6 q7 q8 q9 q10 q11 HN HC
        go_wp2_with fail
        go_roundw
        case rel => exact ⟨k + 1, by omega, by go_num, HE, hb3⟩
        case measure => simp [intOf]; omega
    · have hke : k = l.length := by omega
      have HE : Hid (wr.ownsRow w.heap.size 52 9 u5 (l.filter p).length ((l.filter p).flatMap acC)) := by
        have := HO.out
        rw [hke, List.take_length] at this
        exact hide this
      obtain ⟨o, c, rfl⟩ := own_slc HE.out
      clear HO
      have hkk : ¬ ((k : Int) < (l.length : Int)) := by omega
      go_wp2_with fail
      go_ret
      exact ⟨_, rfl, HE.out, hbr⟩

end Go.Proofs.YtjcomoinggiedaaGreat

namespace Go.Proofs.YtjcomoinggiedaaGreat
open Go.RowKit
set_option linter.unusedVariables false
set_option maxRecDepth 100000

/-- A number from 0 to below many. -/
def pk (n many : Int) : Int := (if n < 0 then -(n + 1) else n) % many
theorem pk_in (n many : Int) (hm : 0 < many) : 0 ≤ pk n many ∧ pk n many < many := by
  unfold pk
  exact ⟨Int.emod_nonneg _ (by omega), Int.emod_lt_of_pos _ hm⟩

set_option maxHeartbeats 1000000 in
theorem picked_any (n many : Int) (w : World) (h0 : -9223372036854775808 ≤ n) (h1 : n ≤ 9223372036854775807) (hm : 0 < many) (hm1 : many ≤ 9223372036854775807) :
    Calls Tryz.prog 25 #[.int .i64 n, .int .i64 many] w fun e w' => e = .returned (.int .i64 (pk n many)) ∧ w' = w := by
  have HP : Hid (pk n many = (if n < 0 then -(n + 1) else n) % many) := rfl
  have hne : (many == 0) = false := by simp; omega
  by_cases hn : n < 0
  · have hz : (0 : Int) ≤ -(n + 1) := by omega
    go_enter Tryz.func25, Tryz.ntmps25
    go_wp2
    go_ret
    exact ⟨int_ret (by rw [HP.out, if_pos (by omega)]; first | rw [Int.tmod_eq_emod_of_nonneg hz] | rw [← Int.neg_tmod, Int.tmod_eq_emod_of_nonneg hz]), rfl⟩
  · have hz : (0 : Int) ≤ n := by omega
    go_enter Tryz.func25, Tryz.ntmps25
    go_wp2
    go_ret
    exact ⟨int_ret (by rw [HP.out, if_neg (by omega)]), rfl⟩

end Go.Proofs.YtjcomoinggiedaaGreat

namespace Go.Proofs.YtjcomoinggiedaaGreat
open Go.RowKit
set_option linter.unusedVariables false
set_option maxRecDepth 100000

set_option maxHeartbeats 2000000 in
theorem idxGPr_any (l : List Pr) (p : Pr → Bool) (v : Value) (f : Nat) (cs : Array Value) (w : World) (hF : PrsAt w v l) (hT : PicksPr w f cs p) (hE : Entered f) (hl : l.length * 40 ≤ 140737488355328) :
    Calls Tryz.prog 44 #[v, .func (.func f) #[] cs] w fun e w' => e = .returned (.int .i64 (idx p l)) ∧ Below w.heap.size w w' := by
  have HF := hide hF
  have HT := hide hT
  have HEN := hide hE
  obtain ⟨a, cap, rfl⟩ := hF.slice
  clear hF hT hE
  go_enter Tryz.func44, Tryz.ntmps44
  go_wp2_with fail
  go_loopw [8] (fun i wr => ∃ k : Nat, k ≤ l.length ∧ i = .int .i64 k ∧ Hid (∀ j, j < k → p (l.getD j pr0) = false) ∧ Below w.heap.size w wr) (fun i _ => l.length - (intOf i).toNat)
  case atStart => exact ⟨0, by omega, rfl, hide (fun j h => absurd h (by omega)), Below.refl _ _⟩
  case round =>
    obtain ⟨k, hk, rfl, HALL, hbr⟩ := hrel
    by_cases hlt : k < l.length
    · obtain ⟨b, off, cap', e1, hcap, -, g0, g1, g2, g3, g4⟩ := pr_at (RowAt.below HF.out hbr (Nat.le_refl _)) hlt
      simp only [Value.slice.injEq, true_and] at e1
      obtain ⟨rfl, rfl⟩ := e1
      have HST : Hid (∀ W : World, Below w.heap.size w W → Calls Tryz.prog f (#[.agg #[.int .i64 (l.getD k pr0).i, .int .i64 (l.getD k pr0).s, .int .i64 (l.getD k pr0).m, .int .i64 (l.getD k pr0).p, .int .i64 (l.getD k pr0).c]] ++ cs) W fun e w' => e = .returned (.bool (p (l.getD k pr0))) ∧ Below W.heap.size W w') := fun W hW => HT.out W _ hW
      have HNX : Hid (p (l.getD k pr0) = false → ∀ j, j < k + 1 → p (l.getD j pr0) = false) := fun h j hj => by
        by_cases e : j = k
        · subst e; exact h
        · exact HALL.out j (by omega)
      have HFD : Hid (p (l.getD k pr0) = true → idx p l = k) := fun h => idx_at pr0 hlt HALL.out h
      generalize p (l.getD k pr0) = R at *
      generalize (l.getD k pr0).i = y0 at *
      generalize (l.getD k pr0).s = y1 at *
      generalize (l.getD k pr0).m = y2 at *
      generalize (l.getD k pr0).p = y3 at *
      generalize (l.getD k pr0).c = y4 at *
      have q1 : (0 : Int) ≤ (k : Int) := by omega
      have q2 : (k : Int) < (l.length : Int) := by omega
      clear HALL
      go_wp2_with fail
      rw [unhide HEN]
      refine (unhide HST _ ?_).mono ?_
      · first | exact hbr | exact hbr.drew | exact ⟨hbr.os, hbr.tape, hbr.output, hbr.size, hbr.block⟩
      rintro e w1 ⟨rfl, hb1⟩
      have HB1 : Hid (Below w.heap.size w w1) := hbr.trans (hb1.mono hbr.size)
      clear hb1 hbr HST g0 g1 g2 g3 g4
      cases R
      · have HN := hide (HNX.out rfl)
        clear HNX HFD
        go_wp2_with fail
        go_roundw
        case rel => exact ⟨k + 1, by omega, by go_num, HN, HB1.out⟩
        case measure => simp [intOf]; omega
      · have HN := hide (HFD.out rfl)
        clear HNX HFD
        go_wp2_with fail
        go_ret
        exact ⟨int_ret HN.out.symm, HB1.out⟩
    · have HN : Hid (idx p l = -1) := idx_no pr0 fun i hi => HALL.out i (by omega)
      have HB1 := hide hbr
      clear HALL hbr
      go_wp2_with fail
      go_ret
      exact ⟨int_ret HN.out.symm, HB1.out⟩
set_option maxHeartbeats 1000000 in
theorem hasGPr_any (l : List Pr) (p : Pr → Bool) (v : Value) (f : Nat) (cs : Array Value) (w : World) (hF : PrsAt w v l) (hT : PicksPr w f cs p) (hE : Entered f) (hl : l.length * 40 ≤ 140737488355328) :
    Calls Tryz.prog 75 #[v, .func (.func f) #[] cs] w fun e w' => e = .returned (.bool (l.any p)) ∧ Below w.heap.size w w' := by
  have HI := hide (idxGPr_any l p v f cs w hF hT hE hl)
  have HA := hide (idx_any p l)
  obtain ⟨a, cap, rfl⟩ := hF.slice
  clear hF hT hE
  generalize idx p l = I at *
  go_enter Tryz.func75, Tryz.ntmps75
  go_wp2_with fail
  refine (unhide HI).mono ?_
  rintro e w1 ⟨rfl, hb1⟩
  go_wp2_with fail
  go_ret
  exact ⟨bool_ret HA.out, hb1⟩

set_option maxHeartbeats 2000000 in
theorem idxGSw_any (l : List Sw) (p : Sw → Bool) (v : Value) (f : Nat) (cs : Array Value) (w : World) (hF : SwsAt w v l) (hT : PicksSw w f cs p) (hE : Entered f) (hl : l.length * 24 ≤ 140737488355328) :
    Calls Tryz.prog 106 #[v, .func (.func f) #[] cs] w fun e w' => e = .returned (.int .i64 (idx p l)) ∧ Below w.heap.size w w' := by
  have HF := hide hF
  have HT := hide hT
  have HEN := hide hE
  obtain ⟨a, cap, rfl⟩ := hF.slice
  clear hF hT hE
  go_enter Tryz.func106, Tryz.ntmps106
  go_wp2_with fail
  go_loopw [8] (fun i wr => ∃ k : Nat, k ≤ l.length ∧ i = .int .i64 k ∧ Hid (∀ j, j < k → p (l.getD j sw0) = false) ∧ Below w.heap.size w wr) (fun i _ => l.length - (intOf i).toNat)
  case atStart => exact ⟨0, by omega, rfl, hide (fun j h => absurd h (by omega)), Below.refl _ _⟩
  case round =>
    obtain ⟨k, hk, rfl, HALL, hbr⟩ := hrel
    by_cases hlt : k < l.length
    · obtain ⟨b, off, cap', e1, hcap, -, g0, g1, g2⟩ := sw_at (RowAt.below HF.out hbr (Nat.le_refl _)) hlt
      simp only [Value.slice.injEq, true_and] at e1
      obtain ⟨rfl, rfl⟩ := e1
      have HST : Hid (∀ W : World, Below w.heap.size w W → Calls Tryz.prog f (#[.agg #[.int .i64 (l.getD k sw0).i, .int .i64 (l.getD k sw0).t, .int .i64 (l.getD k sw0).g]] ++ cs) W fun e w' => e = .returned (.bool (p (l.getD k sw0))) ∧ Below W.heap.size W w') := fun W hW => HT.out W _ hW
      have HNX : Hid (p (l.getD k sw0) = false → ∀ j, j < k + 1 → p (l.getD j sw0) = false) := fun h j hj => by
        by_cases e : j = k
        · subst e; exact h
        · exact HALL.out j (by omega)
      have HFD : Hid (p (l.getD k sw0) = true → idx p l = k) := fun h => idx_at sw0 hlt HALL.out h
      generalize p (l.getD k sw0) = R at *
      generalize (l.getD k sw0).i = y0 at *
      generalize (l.getD k sw0).t = y1 at *
      generalize (l.getD k sw0).g = y2 at *
      have q1 : (0 : Int) ≤ (k : Int) := by omega
      have q2 : (k : Int) < (l.length : Int) := by omega
      clear HALL
      go_wp2_with fail
      rw [unhide HEN]
      refine (unhide HST _ ?_).mono ?_
      · first | exact hbr | exact hbr.drew | exact ⟨hbr.os, hbr.tape, hbr.output, hbr.size, hbr.block⟩
      rintro e w1 ⟨rfl, hb1⟩
      have HB1 : Hid (Below w.heap.size w w1) := hbr.trans (hb1.mono hbr.size)
      clear hb1 hbr HST g0 g1 g2
      cases R
      · have HN := hide (HNX.out rfl)
        clear HNX HFD
        go_wp2_with fail
        go_roundw
        case rel => exact ⟨k + 1, by omega, by go_num, HN, HB1.out⟩
        case measure => simp [intOf]; omega
      · have HN := hide (HFD.out rfl)
        clear HNX HFD
        go_wp2_with fail
        go_ret
        exact ⟨int_ret HN.out.symm, HB1.out⟩
    · have HN : Hid (idx p l = -1) := idx_no sw0 fun i hi => HALL.out i (by omega)
      have HB1 := hide hbr
      clear HALL hbr
      go_wp2_with fail
      go_ret
      exact ⟨int_ret HN.out.symm, HB1.out⟩
set_option maxHeartbeats 1000000 in
theorem hasGSw_any (l : List Sw) (p : Sw → Bool) (v : Value) (f : Nat) (cs : Array Value) (w : World) (hF : SwsAt w v l) (hT : PicksSw w f cs p) (hE : Entered f) (hl : l.length * 24 ≤ 140737488355328) :
    Calls Tryz.prog 158 #[v, .func (.func f) #[] cs] w fun e w' => e = .returned (.bool (l.any p)) ∧ Below w.heap.size w w' := by
  have HI := hide (idxGSw_any l p v f cs w hF hT hE hl)
  have HA := hide (idx_any p l)
  obtain ⟨a, cap, rfl⟩ := hF.slice
  clear hF hT hE
  generalize idx p l = I at *
  go_enter Tryz.func158, Tryz.ntmps158
  go_wp2_with fail
  refine (unhide HI).mono ?_
  rintro e w1 ⟨rfl, hb1⟩
  go_wp2_with fail
  go_ret
  exact ⟨bool_ret HA.out, hb1⟩

theorem ent_here : Entered 70 := fun args W => by
  unfold callFunc
  simp [Tryz.func70, Tryz.f70]

theorem ent_any : Entered 74 := fun args W => by
  unfold callFunc
  simp [Tryz.func74, Tryz.f74]

theorem ent_isOf : Entered 121 := fun args W => by
  unfold callFunc
  simp [Tryz.func121, Tryz.f121]

theorem ent_some : Entered 166 := fun args W => by
  unfold callFunc
  simp [Tryz.func166, Tryz.f166]

theorem ent_both : Entered 194 := fun args W => by
  unfold callFunc
  simp [Tryz.func194, Tryz.f194]

theorem ent_others : Entered 164 := fun args W => by
  unfold callFunc
  simp [Tryz.func164, Tryz.f164]

theorem ent_routed : Entered 197 := fun args W => by
  unfold callFunc
  simp [Tryz.func197, Tryz.f197]

theorem ent_routed1 : Entered 198 := fun args W => by
  unfold callFunc
  simp [Tryz.func198, Tryz.f198]

theorem ent_rules : Entered 176 := fun args W => by
  unfold callFunc
  simp [Tryz.func176, Tryz.f176]

set_option maxHeartbeats 1000000 in
theorem here1_any (x : Pr) (ch : Int) (b : Nat) (w : World) (h : w.cell? ⟨b, 0, none⟩ = some (.int .i64 ch)) :
    Calls Tryz.prog 70 #[.agg #[.int .i64 x.i, .int .i64 x.s, .int .i64 x.m, .int .i64 x.p, .int .i64 x.c], .pointer (some ⟨b, 0, none⟩)] w fun e w' => e = .returned (.bool (hereB ch x)) ∧ Below w.heap.size w w' := by
  have lh := cell_in h
  have nh : b ≠ w.heap.size := by omega
  go_enter Tryz.func70, Tryz.ntmps70
  go_wp2
  all_goals go_ret
  all_goals exact ⟨bool_ret (by unfold hereB; rw [Bool.eq_iff_iff] <;> simp_all), (Below.refl _ _).alloc (Nat.le_refl _) _⟩
theorem picks_here {ch : Int} {b : Nat} {w : World} (h : w.cell? ⟨b, 0, none⟩ = some (.int .i64 ch)) : PicksPr w 70 #[.pointer (some ⟨b, 0, none⟩)] (hereB ch) :=
  fun W x hW => here1_any x ch b W (cell_beh h hW (Nat.le_refl _))

set_option maxHeartbeats 1000000 in
theorem isOf1_any (x : Pr) (s : Int) (b : Nat) (w : World) (h : w.cell? ⟨b, 0, none⟩ = some (.int .i64 s)) :
    Calls Tryz.prog 121 #[.agg #[.int .i64 x.i, .int .i64 x.s, .int .i64 x.m, .int .i64 x.p, .int .i64 x.c], .pointer (some ⟨b, 0, none⟩)] w fun e w' => e = .returned (.bool (isOfB s x)) ∧ Below w.heap.size w w' := by
  have lh := cell_in h
  have nh : b ≠ w.heap.size := by omega
  go_enter Tryz.func121, Tryz.ntmps121
  go_wp2
  all_goals go_ret
  all_goals exact ⟨bool_ret (by unfold isOfB; rw [Bool.eq_iff_iff] <;> simp_all), (Below.refl _ _).alloc (Nat.le_refl _) _⟩
theorem picks_isOf {s : Int} {b : Nat} {w : World} (h : w.cell? ⟨b, 0, none⟩ = some (.int .i64 s)) : PicksPr w 121 #[.pointer (some ⟨b, 0, none⟩)] (isOfB s) :=
  fun W x hW => isOf1_any x s b W (cell_beh h hW (Nat.le_refl _))

set_option maxHeartbeats 1000000 in
theorem others1_any (x : Pr) (i s : Int) (b : Nat) (w : World) (h : w.cell? ⟨b, 0, none⟩ = some (.int .i64 i)) (h1 : w.cell? ⟨b, 1, none⟩ = some (.int .i64 s)) :
    Calls Tryz.prog 164 #[.agg #[.int .i64 x.i, .int .i64 x.s, .int .i64 x.m, .int .i64 x.p, .int .i64 x.c], .pointer (some ⟨b, 0, none⟩)] w fun e w' => e = .returned (.bool (x.s == s && !(x.i == i))) ∧ Below w.heap.size w w' := by
  have lh := cell_in h
  have nh : b ≠ w.heap.size := by omega
  go_enter Tryz.func164, Tryz.ntmps164
  go_wp2
  all_goals go_ret
  all_goals exact ⟨bool_ret (by rw [Bool.eq_iff_iff] <;> simp_all), (Below.refl _ _).alloc (Nat.le_refl _) _⟩
theorem picks_others {i s : Int} {b : Nat} {w : World} (h : w.cell? ⟨b, 0, none⟩ = some (.int .i64 i)) (h1 : w.cell? ⟨b, 1, none⟩ = some (.int .i64 s)) : PicksPr w 164 #[.pointer (some ⟨b, 0, none⟩)] (fun x => x.s == s && !(x.i == i)) :=
  fun W x hW => others1_any x i s b W (cell_beh h hW (Nat.le_refl _)) (cell_beh h1 hW (Nat.le_refl _))

set_option maxHeartbeats 1000000 in
theorem routed2_any (x : Sw) (s t : Int) (b c : Nat) (w : World) (h : w.cell? ⟨b, 1, none⟩ = some (.int .i64 s)) (h1 : w.cell? ⟨c, 0, none⟩ = some (.int .i64 t)) :
    Calls Tryz.prog 198 #[.agg #[.int .i64 x.i, .int .i64 x.t, .int .i64 x.g], .pointer (some ⟨b, 0, none⟩), .pointer (some ⟨c, 0, none⟩)] w fun e w' => e = .returned (.bool (x.i == s && x.t == t && !(x.g == 0))) ∧ Below w.heap.size w w' := by
  have lh := cell_in h
  have nh : b ≠ w.heap.size := by omega
  have lh1 := cell_in h1
  have nh1 : c ≠ w.heap.size := by omega
  go_enter Tryz.func198, Tryz.ntmps198
  go_wp2
  all_goals go_ret
  all_goals exact ⟨bool_ret (by rw [Bool.eq_iff_iff] <;> simp_all), (Below.refl _ _).alloc (Nat.le_refl _) _⟩
theorem picks_routed2 {s t : Int} {b c : Nat} {w : World} (h : w.cell? ⟨b, 1, none⟩ = some (.int .i64 s)) (h1 : w.cell? ⟨c, 0, none⟩ = some (.int .i64 t)) : PicksSw w 198 #[.pointer (some ⟨b, 0, none⟩), .pointer (some ⟨c, 0, none⟩)] (fun x => x.i == s && x.t == t && !(x.g == 0)) :=
  fun W x hW => routed2_any x s t b c W (cell_beh h hW (Nat.le_refl _)) (cell_beh h1 hW (Nat.le_refl _))

set_option maxHeartbeats 1000000 in
theorem rules1_any (x : Ac) (s : Int) (inn : Bool) (b c : Nat) (w : World) (h : w.cell? ⟨b, 0, none⟩ = some (.int .i64 s)) (h1 : w.cell? ⟨c, 0, none⟩ = some (.bool inn)) :
    Calls Tryz.prog 176 #[.agg #[.int .i64 x.s, .int .i64 x.p, .bool x.n, .int .i64 x.src, .int .i64 x.sb, .int .i64 x.dst, .int .i64 x.db, .int .i64 x.o, .bool x.d], .pointer (some ⟨b, 0, none⟩), .pointer (some ⟨c, 0, none⟩)] w fun e w' => e = .returned (.bool (x.s == s && x.n == inn)) ∧ Below w.heap.size w w' := by
  have lh := cell_in h
  have nh : b ≠ w.heap.size := by omega
  have lh1 := cell_in h1
  have nh1 : c ≠ w.heap.size := by omega
  go_enter Tryz.func176, Tryz.ntmps176
  go_wp2
  all_goals go_ret
  all_goals exact ⟨bool_ret (by rw [Bool.eq_iff_iff] <;> simp_all), (Below.refl _ _).alloc (Nat.le_refl _) _⟩
theorem picks_rules {s : Int} {inn : Bool} {b c : Nat} {w : World} (h : w.cell? ⟨b, 0, none⟩ = some (.int .i64 s)) (h1 : w.cell? ⟨c, 0, none⟩ = some (.bool inn)) : PicksAc w 176 #[.pointer (some ⟨b, 0, none⟩), .pointer (some ⟨c, 0, none⟩)] (fun x => x.s == s && x.n == inn) :=
  fun W x hW => rules1_any x s inn b c W (cell_beh h hW (Nat.le_refl _)) (cell_beh h1 hW (Nat.le_refl _))

set_option maxHeartbeats 1000000 in
theorem somewhere_any (x : Pr) (w : World) : Calls Tryz.prog 166 #[.agg #[.int .i64 x.i, .int .i64 x.s, .int .i64 x.m, .int .i64 x.p, .int .i64 x.c]] w fun e w' => e = .returned (.bool (somewhereB x)) ∧ Below w.heap.size w w' := by
  go_enter Tryz.func166, Tryz.ntmps166
  go_wp2
  all_goals go_ret
  all_goals exact ⟨bool_ret (by unfold somewhereB; rw [Bool.eq_iff_iff] <;> simp_all), (Below.refl _ _).alloc (Nat.le_refl _) _⟩
theorem picks_some (w : World) : PicksPr w 166 #[] somewhereB := fun W x _ => somewhere_any x W

set_option maxHeartbeats 1000000 in
theorem isOfP_any (x : Sw) (w : World) : Calls Tryz.prog 76 #[.agg #[.int .i64 x.i, .int .i64 x.t, .int .i64 x.g]] w fun e w' => ∃ b, e = .returned (.func (.func 121) #[] #[.pointer (some ⟨b, 0, none⟩)]) ∧ w'.cell? ⟨b, 0, none⟩ = some (.int .i64 x.i) ∧ Below w.heap.size w w' := by
  go_enter Tryz.func76, Tryz.ntmps76
  go_wp2
  go_ret
  exact ⟨_, rfl, new_cell w _ rfl _ _ _ _ rfl, alloc_below _ _⟩
set_option maxHeartbeats 1000000 in
theorem both_any (f g : Nat) (cf cg : Array Value) (w : World) : Calls Tryz.prog 165 #[.func (.func f) #[] cf, .func (.func g) #[] cg] w fun e w' => ∃ b c, e = .returned (.func (.func 194) #[] #[.pointer (some ⟨b, 0, none⟩), .pointer (some ⟨c, 0, none⟩)]) ∧ w'.cell? ⟨b, 0, none⟩ = some (.func (.func f) #[] cf) ∧ w'.cell? ⟨c, 0, none⟩ = some (.func (.func g) #[] cg) ∧ Below w.heap.size w w' := by
  go_enter Tryz.func165, Tryz.ntmps165
  go_wp2
  go_ret
  exact ⟨_, _, rfl, old_cell (new_cell w _ rfl _ _ _ _ rfl) _, new_cell _ _ (by simp) _ _ _ _ rfl, ((Below.refl _ _).alloc (Nat.le_refl _) _).alloc (by simp) _⟩
set_option maxHeartbeats 2000000 in
theorem both1_any (x : Pr) (p q : Pr → Bool) (f g : Nat) (cf cg : Array Value) (b c : Nat) (w : World) (h : w.cell? ⟨b, 0, none⟩ = some (.func (.func f) #[] cf)) (h1 : w.cell? ⟨c, 0, none⟩ = some (.func (.func g) #[] cg))
    (hf : PicksPr w f cf p) (hg : PicksPr w g cg q) (ef : Entered f) (eg : Entered g) :
    Calls Tryz.prog 194 #[.agg #[.int .i64 x.i, .int .i64 x.s, .int .i64 x.m, .int .i64 x.p, .int .i64 x.c], .pointer (some ⟨b, 0, none⟩), .pointer (some ⟨c, 0, none⟩)] w fun e w' => e = .returned (.bool (p x && q x)) ∧ Below w.heap.size w w' := by
  have HF : Hid (∀ W : World, Below w.heap.size w W → Calls Tryz.prog f (#[.agg #[.int .i64 x.i, .int .i64 x.s, .int .i64 x.m, .int .i64 x.p, .int .i64 x.c]] ++ cf) W fun e w' => e = .returned (.bool (p x)) ∧ Below W.heap.size W w') := fun W hW => hf W x hW
  have HG : Hid (∀ W : World, Below w.heap.size w W → Calls Tryz.prog g (#[.agg #[.int .i64 x.i, .int .i64 x.s, .int .i64 x.m, .int .i64 x.p, .int .i64 x.c]] ++ cg) W fun e w' => e = .returned (.bool (q x)) ∧ Below W.heap.size W w') := fun W hW => hg W x hW
  have EF := hide ef
  have EG := hide eg
  clear hf hg ef eg
  have lh := cell_in h
  have nh : b ≠ w.heap.size := by omega
  have lh1 := cell_in h1
  have nh1 : c ≠ w.heap.size := by omega
  generalize p x = R at *
  generalize q x = R2 at *
  generalize x.i = y0 at *
  generalize x.s = y1 at *
  generalize x.m = y2 at *
  generalize x.p = y3 at *
  generalize x.c = y4 at *
  go_enter Tryz.func194, Tryz.ntmps194
  go_wp2_with fail
  obtain ⟨W1, hW1⟩ : ∃ W1, W1 = w.alloc (.cells #[.int .i64 y0, .int .i64 y1, .int .i64 y2, .int .i64 y3, .int .i64 y4] 45) := ⟨_, rfl⟩
  have hbW : Below w.heap.size w W1 := by rw [hW1]; exact alloc_below _ _
  have d0 : W1.cell? ⟨w.heap.size, 0, none⟩ = some (.int .i64 y0) := by rw [hW1]; exact new_cell w _ rfl _ _ _ _ rfl
  have d1 : W1.cell? ⟨w.heap.size, 1, none⟩ = some (.int .i64 y1) := by rw [hW1]; exact new_cell w _ rfl _ _ _ _ rfl
  have d2 : W1.cell? ⟨w.heap.size, 2, none⟩ = some (.int .i64 y2) := by rw [hW1]; exact new_cell w _ rfl _ _ _ _ rfl
  have d3 : W1.cell? ⟨w.heap.size, 3, none⟩ = some (.int .i64 y3) := by rw [hW1]; exact new_cell w _ rfl _ _ _ _ rfl
  have d4 : W1.cell? ⟨w.heap.size, 4, none⟩ = some (.int .i64 y4) := by rw [hW1]; exact new_cell w _ rfl _ _ _ _ rfl
  have k1 : W1.cell? ⟨c, 0, none⟩ = some (.func (.func g) #[] cg) := by rw [hW1]; exact old_cell h1 _
  rw [← hW1]
  clear hW1
  rw [unhide EF]
  refine (unhide HF _ hbW).mono ?_
  rintro e w1 ⟨rfl, hb1⟩
  have hb01 := hbW.trans (hb1.mono hbW.size)
  replace d0 := cell_beh d0 hb1 (Nat.le_refl _)
  replace d1 := cell_beh d1 hb1 (Nat.le_refl _)
  replace d2 := cell_beh d2 hb1 (Nat.le_refl _)
  replace d3 := cell_beh d3 hb1 (Nat.le_refl _)
  replace d4 := cell_beh d4 hb1 (Nat.le_refl _)
  replace k1 := cell_beh k1 hb1 (Nat.le_refl _)
  clear HF EF hb1 h h1 hbW
  cases R
  · go_wp2_with fail
    go_ret
    exact ⟨rfl, hb01⟩
  · go_wp2_with fail
    rw [unhide EG]
    refine (unhide HG _ hb01).mono ?_
    rintro e w2 ⟨rfl, hb2⟩
    have hb02 := hb01.trans (hb2.mono hb01.size)
    go_wp2_with fail
    go_ret
    exact ⟨by simp, hb02⟩
theorem picks_both {w : World} {p q : Pr → Bool} {f g : Nat} {cf cg : Array Value} {b c : Nat} (h : w.cell? ⟨b, 0, none⟩ = some (.func (.func f) #[] cf)) (h1 : w.cell? ⟨c, 0, none⟩ = some (.func (.func g) #[] cg))
    (hf : PicksPr w f cf p) (hg : PicksPr w g cg q) (ef : Entered f) (eg : Entered g) : PicksPr w 194 #[.pointer (some ⟨b, 0, none⟩), .pointer (some ⟨c, 0, none⟩)] (fun x => p x && q x) :=
  fun W x hW => both1_any x p q f g cf cg b c W (cell_beh h hW (Nat.le_refl _)) (cell_beh h1 hW (Nat.le_refl _)) (fun W' y hW' => hf W' y (hW.trans (hW'.mono hW.size))) (fun W' y hW' => hg W' y (hW.trans (hW'.mono hW.size))) ef eg
theorem PicksPr.below {w w' : World} {f : Nat} {cs : Array Value} {p : Pr → Bool} (h : PicksPr w f cs p) (hb : Below w.heap.size w w') : PicksPr w' f cs p := fun W x hW => h W x (hb.trans (hW.mono hb.size))

set_option maxHeartbeats 2000000 in
theorem routed1_any (x : Pr) (S : List Sw) (o : Option Addr) (cap : Nat) (t : Int) (b c : Nat) (w : World) (h : w.cell? ⟨b, 0, none⟩ = some (.slice o S.length cap)) (h1 : w.cell? ⟨c, 0, none⟩ = some (.int .i64 t)) (hS : SwsAt w (.slice o S.length cap) S) (hl : S.length * 24 ≤ 140737488355328) :
    Calls Tryz.prog 197 #[.agg #[.int .i64 x.i, .int .i64 x.s, .int .i64 x.m, .int .i64 x.p, .int .i64 x.c], .pointer (some ⟨b, 0, none⟩), .pointer (some ⟨c, 0, none⟩)] w fun e w' => e = .returned (.bool (routedB S t x)) ∧ Below w.heap.size w w' := by
  have HS : Hid (∀ W : World, Below w.heap.size w W → ∀ pb, W.cell? ⟨pb, 1, none⟩ = some (.int .i64 x.s) → Calls Tryz.prog 158 #[.slice o S.length cap, .func (.func 198) #[] #[.pointer (some ⟨pb, 0, none⟩), .pointer (some ⟨c, 0, none⟩)]] W fun e w' => e = .returned (.bool (routedB S t x)) ∧ Below W.heap.size W w') :=
    fun W hW pb hp => hasGSw_any S _ _ _ _ W (RowAt.below hS hW (Nat.le_refl _)) (picks_routed2 hp (cell_beh h1 hW (Nat.le_refl _))) ent_routed1 hl
  have lh := cell_in h
  have nh : b ≠ w.heap.size := by omega
  clear hS
  generalize routedB S t x = R at *
  generalize x.i = y0 at *
  generalize x.s = y1 at *
  generalize x.m = y2 at *
  generalize x.p = y3 at *
  generalize x.c = y4 at *
  go_enter Tryz.func197, Tryz.ntmps197
  go_wp2_with fail
  refine (unhide HS _ (alloc_below _ _) _ (new_cell w _ rfl _ _ _ _ rfl)).mono ?_
  rintro e w1 ⟨rfl, hb1⟩
  have hb01 := (alloc_below w (.cells #[.int .i64 y0, .int .i64 y1, .int .i64 y2, .int .i64 y3, .int .i64 y4] 45)).trans (hb1.mono (alloc_below w _).size)
  clear hb1 HS
  go_wp2_with fail
  go_ret
  exact ⟨rfl, hb01⟩
theorem picks_routed {w : World} {S : List Sw} {o : Option Addr} {cap : Nat} {t : Int} {b c : Nat} (h : w.cell? ⟨b, 0, none⟩ = some (.slice o S.length cap)) (h1 : w.cell? ⟨c, 0, none⟩ = some (.int .i64 t)) (hS : SwsAt w (.slice o S.length cap) S) (hl : S.length * 24 ≤ 140737488355328) :
    PicksPr w 197 #[.pointer (some ⟨b, 0, none⟩), .pointer (some ⟨c, 0, none⟩)] (routedB S t) :=
  fun W x hW => routed1_any x S o cap t b c W (cell_beh h hW (Nat.le_refl _)) (cell_beh h1 hW (Nat.le_refl _)) (RowAt.below hS hW (Nat.le_refl _)) hl
set_option maxHeartbeats 1000000 in
theorem isRouted_any (so po ao : Option Addr) (sl sc pl pc al ac : Nat) (t : Int) (w : World) : Calls Tryz.prog 177 #[.agg #[.slice so sl sc, .slice po pl pc, .slice ao al ac], .int .i64 t] w fun e w' => ∃ b c, e = .returned (.func (.func 197) #[] #[.pointer (some ⟨b, 0, none⟩), .pointer (some ⟨c, 0, none⟩)]) ∧ w'.cell? ⟨b, 0, none⟩ = some (.slice so sl sc) ∧ w'.cell? ⟨c, 0, none⟩ = some (.int .i64 t) ∧ Below w.heap.size w w' := by
  go_enter Tryz.func177, Tryz.ntmps177
  go_wp2
  go_ret
  exact ⟨_, _, rfl, old_cell (new_cell w _ rfl _ _ _ _ rfl) _, new_cell _ _ (by simp) _ _ _ _ rfl, ((Below.refl _ _).alloc (Nat.le_refl _) _).alloc (by simp) _⟩

set_option maxHeartbeats 2000000 in
theorem any2_any (x : Sw) (P : List Pr) (o : Option Addr) (cap : Nat) (b : Nat) (w : World) (h : w.cell? ⟨b, 0, none⟩ = some (.slice o P.length cap)) (hP : PrsAt w (.slice o P.length cap) P) (hl : P.length * 40 ≤ 140737488355328) :
    Calls Tryz.prog 74 #[.agg #[.int .i64 x.i, .int .i64 x.t, .int .i64 x.g], .pointer (some ⟨b, 0, none⟩)] w fun e w' => e = .returned (.bool (P.any (isOfB x.i))) ∧ Below w.heap.size w w' := by
  have HS : Hid (∀ W : World, Below w.heap.size w W → ∀ pb, W.cell? ⟨pb, 0, none⟩ = some (.int .i64 x.i) → Calls Tryz.prog 75 #[.slice o P.length cap, .func (.func 121) #[] #[.pointer (some ⟨pb, 0, none⟩)]] W fun e w' => e = .returned (.bool (P.any (isOfB x.i))) ∧ Below W.heap.size W w') :=
    fun W hW pb hp => hasGPr_any P _ _ _ _ W (RowAt.below hP hW (Nat.le_refl _)) (picks_isOf hp) ent_isOf hl
  have HI := hide (isOfP_any x)
  have lh := cell_in h
  have nh : b ≠ w.heap.size := by omega
  clear hP
  generalize P.any (isOfB x.i) = R at *
  generalize x.i = y0 at *
  generalize x.t = y1 at *
  generalize x.g = y2 at *
  go_enter Tryz.func74, Tryz.ntmps74
  go_wp2_with fail
  obtain ⟨W1, hW1⟩ : ∃ W1, W1 = w.alloc (.cells #[.int .i64 y0, .int .i64 y1, .int .i64 y2] 42) := ⟨_, rfl⟩
  have hbW : Below w.heap.size w W1 := by rw [hW1]; exact alloc_below _ _
  have d0 : W1.cell? ⟨w.heap.size, 0, none⟩ = some (.int .i64 y0) := by rw [hW1]; exact new_cell w _ rfl _ _ _ _ rfl
  have d1 : W1.cell? ⟨w.heap.size, 1, none⟩ = some (.int .i64 y1) := by rw [hW1]; exact new_cell w _ rfl _ _ _ _ rfl
  have d2 : W1.cell? ⟨w.heap.size, 2, none⟩ = some (.int .i64 y2) := by rw [hW1]; exact new_cell w _ rfl _ _ _ _ rfl
  replace h : W1.cell? ⟨b, 0, none⟩ = some (.slice o P.length cap) := by rw [hW1]; exact old_cell h _
  rw [← hW1]
  clear hW1
  have HB := hbW
  clear hbW
  have hs0_1 : w.heap.size ≤ W1.heap.size := HB.size
  refine wp_region_held_drew (S := (fun w' => w'.cell? ⟨w.heap.size, 0, none⟩ = some (.int .i64 y0) ∧ w'.cell? ⟨w.heap.size, 1, none⟩ = some (.int .i64 y1) ∧ w'.cell? ⟨w.heap.size, 2, none⟩ = some (.int .i64 y2) ∧ w'.cell? ⟨b, 0, none⟩ = some (.slice o P.length cap))) (by kernel_rfl) ⟨d0, d1, d2, h⟩ (fun hHeld => ?_)
  have HDW : Below W1.heap.size W1 W1.drew := (Below.refl _ _).drew
  have hs1 : W1.heap.size ≤ W1.drew.heap.size := HDW.size
  replace d0 := cell_beh d0 HDW (Nat.le_refl _)
  replace d1 := cell_beh d1 HDW (Nat.le_refl _)
  replace d2 := cell_beh d2 HDW (Nat.le_refl _)
  replace h := cell_beh h HDW (Nat.le_refl _)
  replace HB := HB.trans (HDW.mono HB.size)
  clear HDW
  generalize W1.drew = V2 at *
  refine wpAnyH_take (i := 0) (oi := ⟨some 4, _, _, _, _, _⟩) (v := ?v1) rfl (by kernel_rfl) (by kernel_rfl) (by kernel_rfl) (fun _ _ _ h => h) (Or.inl ⟨by rfl, ?h1⟩) (by assumption) ?r1
  case h1 => (intro w hSw; (try dsimp only at hSw); go_simp <;> with_reducible rfl)
  (try simp only [Act.put, List.setIfInBounds_toArray, List.set_cons_zero, List.set_cons_succ])
  refine wpAnyH_take (i := 1) (oi := ⟨some 5, _, _, _, _, _⟩) (v := ?v2) rfl (by kernel_rfl) (by kernel_rfl) (by kernel_rfl) (fun _ _ _ h => h) (Or.inl ⟨by rfl, ?h2⟩) (by assumption) ?r2
  case h2 => (intro w hSw; (try dsimp only at hSw); go_simp <;> with_reducible rfl)
  (try simp only [Act.put, List.setIfInBounds_toArray, List.set_cons_zero, List.set_cons_succ])
  refine wpAnyH_ready (rs := [2]) (by kernel_rfl) (by simp) ?_
  refine (AllReadyH.cons (o := ⟨some 6, _, _, _, _, _⟩) rfl (fun K hK => ?_) AllReadyH.nil)
  go_simp
  clear hHeld
  refine (unhide HI _).mono ?_
  rintro e V3 ⟨b1, rfl, hc1, hb3⟩
  have hs4 : V2.heap.size ≤ V3.heap.size := hb3.size
  replace d0 := cell_beh d0 hb3 (Nat.le_refl _)
  replace d1 := cell_beh d1 hb3 (Nat.le_refl _)
  replace d2 := cell_beh d2 hb3 (Nat.le_refl _)
  replace h := cell_beh h hb3 (Nat.le_refl _)
  replace HB := HB.trans (hb3.mono HB.size)
  have hc := hc1
  clear hc1
  clear hb3
  refine hK.out _ _ ⟨d0, d1, d2, h⟩ (fun hHeld => ?_)
  clear hK K
  (try simp only [Act.put, List.setIfInBounds_toArray, List.set_cons_zero, List.set_cons_succ])
  refine wpAnyH_ready (rs := [3]) (by kernel_rfl) (by simp) ?_
  refine (AllReadyH.cons (o := ⟨some 7, _, _, _, _, _⟩) rfl (fun K hK => ?_) AllReadyH.nil)
  go_simp
  clear hHeld
  refine (unhide HS _ HB _ hc).mono ?_
  rintro e V5 ⟨rfl, hb5⟩
  have hs6 : V3.heap.size ≤ V5.heap.size := hb5.size
  replace d0 := cell_beh d0 hb5 (Nat.le_refl _)
  replace d1 := cell_beh d1 hb5 (Nat.le_refl _)
  replace d2 := cell_beh d2 hb5 (Nat.le_refl _)
  replace h := cell_beh h hb5 (Nat.le_refl _)
  replace hc := cell_beh hc hb5 (Nat.le_refl _)
  replace HB := HB.trans (hb5.mono HB.size)
  clear hb5
  refine hK.out _ _ ⟨d0, d1, d2, h⟩ (fun hHeld => ?_)
  clear hK K
  (try simp only [Act.put, List.setIfInBounds_toArray, List.set_cons_zero, List.set_cons_succ])
  refine wpAnyH_take (i := 4) (oi := ⟨some 3, _, _, _, _, _⟩) (v := ?v3) rfl (by kernel_rfl) (by kernel_rfl) (by kernel_rfl) (fun _ _ _ h => h) (Or.inl ⟨by rfl, ?h3⟩) (by assumption) ?r3
  case h3 => (intro w hSw; (try dsimp only at hSw); go_simp <;> with_reducible rfl)
  (try simp only [Act.put, List.setIfInBounds_toArray, List.set_cons_zero, List.set_cons_succ])
  refine wpAnyH_done (by kernel_rfl) ?_ _
  clear hHeld
  go_wp2_with fail
  go_ret
  exact ⟨rfl, HB⟩
theorem picks_any2 {w : World} {P : List Pr} {o : Option Addr} {cap : Nat} {b : Nat} (h : w.cell? ⟨b, 0, none⟩ = some (.slice o P.length cap)) (hP : PrsAt w (.slice o P.length cap) P) (hl : P.length * 40 ≤ 140737488355328) :
    PicksSw w 74 #[.pointer (some ⟨b, 0, none⟩)] (fun s => P.any (isOfB s.i)) :=
  fun W x hW => any2_any x P o cap b W (cell_beh h hW (Nat.le_refl _)) (RowAt.below hP hW (Nat.le_refl _)) hl

end Go.Proofs.YtjcomoinggiedaaGreat

namespace Go.Proofs.YtjcomoinggiedaaGreat
open Go.RowKit
set_option linter.unusedVariables false
set_option maxRecDepth 100000

theorem wpList_append_rows {ops : Array Oper} {rest : List Oper} {o : Oper} {a : Act} {Q : Exit → Act → World → Prop} {P : Program} {w : World} (hgd : o.guard = none) (s x : Operand) (t : TypeId)
    (ho : o.op = .call { callee := .builtin .append, args := #[s, x], argTypes := #[t, t] })
    (base : Nat) (e : TypeId) (i : TypeInfo) (z : Value) (size bytes : Nat) (ht : P.underlying t = some (.slice e)) (hi : P.info? e = some i) (hz : i.zero = some z)
    (hsize : i.size = size) (hby : i.bytes = bytes) (hzs : z.cells.size = size) (hsz : 0 < size)
    (v : Value) (n : Nat) (xs : List Value) (hs : a.eval s = v) (hown : w.ownsRow base e size v n xs)
    (u : Value) (m B2 : Nat) (news : List Value) (hx : a.eval x = u) (hsrc : w.ownsRow B2 e size u m news) (h1 : ∀ u ∈ news, u.oneCell' = true)
    (h63 : n + m ≤ maxLen) (hbytes : (n + m) * bytes ≤ 140737488355328) (hbase : base ≤ w.heap.size)
    (h : ∀ v' w', w'.ownsRow base e size v' (n + m) (xs ++ news) → w.grownBy w' v.ownBlock → wpList P ops Q rest (a.put o.dst v') w') : wpList P ops Q (o :: rest) a w := by
  have hsrc' := hsrc
  obtain ⟨hl, ⟨rfl, rfl⟩ | ⟨g, cap, cur, rfl, hB, hg, hc, hm, hcs, htk⟩⟩ := hsrc
  · obtain rfl : news = [] := List.eq_nil_of_length_eq_zero (by rw [hl]; simp)
    refine wpList_append_own_none hgd s x t ho base e i size ht hi v n xs hs hown hx ?_
    exact h v w (by simpa using hown) ⟨rfl, rfl, rfl, Nat.le_refl _, fun _ _ _ => rfl⟩
  · refine wpList_append_own w hgd s x t ho base e i z size bytes ht hi hz hsize hby hzs hsz v n xs hs hown ⟨g, 0, none⟩ m cap news hx hl (fun j u hj => ?_) h1 h63 hbytes hbase fun v' w' h2 h3 _ => h v' w' h2 h3
    have hj' : j < m * size := by have := (List.getElem?_eq_some_iff.1 hj).1; omega
    rw [addf, hsrc'.cellAt _ hj']
    exact hj
theorem AR_one (body : ByteArray) (l : List Ar) : ∀ u ∈ AR body l, u.oneCell' = true := by
  intro u hu
  unfold AR at hu
  rw [List.mem_flatMap] at hu
  obtain ⟨x, _, hu⟩ := hu
  exact all_one (l := arC body x) rfl u hu
theorem AR_app (body : ByteArray) (a b : List Ar) : AR body (a ++ b) = AR body a ++ AR body b := by simp [AR]
/-- A port that sends: it is at some chassis. -/
def sendsB (id : Int) (p : Pr) : Bool := p.i == id && !(p.c == -1)
theorem ent_sends : Entered 45 := fun args W => by
  unfold callFunc
  simp [Tryz.func45, Tryz.f45]
set_option maxHeartbeats 2000000 in
theorem sends_any (id : Int) (b : Nat) (w : World) (hc : w.cell? ⟨b, 0, none⟩ = some (.int .i64 id)) : PicksPr w 45 #[.pointer (some ⟨b, 0, none⟩)] (sendsB id) := fun W x hW => by
  have c0 := cell_beh hc hW (Nat.le_refl _)
  have hlt := cell_in c0
  have hne : ¬ b = W.heap.size := by omega
  have HB : Hid (sendsB id x = (x.i == id && !(x.c == -1))) := rfl
  generalize x.i = x0 at *
  generalize x.s = x1 at *
  generalize x.m = x2 at *
  generalize x.p = x3 at *
  generalize x.c = x4 at *
  by_cases h0 : x0 = id
  · subst h0
    by_cases h1 : x4 = -1
    · subst h1
      go_enter Tryz.func45, Tryz.ntmps45
      go_wp2_with fail
      go_ret
      rw [HB.out]
      exact ⟨by simp, (Below.refl _ _).alloc (Nat.le_refl _) _⟩
    · have h1b : (x4 != -1) = true := by simpa using h1
      go_enter Tryz.func45, Tryz.ntmps45
      go_wp2_with fail
      go_ret
      rw [HB.out]
      exact ⟨by simp [h1], (Below.refl _ _).alloc (Nat.le_refl _) _⟩
  · have h0b : (x0 == id) = false := by simpa using h0
    go_enter Tryz.func45, Tryz.ntmps45
    go_wp2_with fail
    go_ret
    rw [HB.out]
    exact ⟨by simp [h0], (Below.refl _ _).alloc (Nat.le_refl _) _⟩
/-- Where what is sent arrives. -/
def comeB (K : Nat → List Fl) (n : Nat) (s : Sn) : Bool := !(carE K n s == 0)
def comeE (K : Nat → List Fl) (n : Nat) (l : List Sn) : Int := match l.find? (comeB K n) with
  | none => 0
  | some s => carE K n s
def comeL (K : Nat → List Fl) (n : Nat) (l : List Sn) : List Ar := l.flatMap (carL K n)
/-- The port that sends. -/
def fromP (P : List Pr) (id : Int) : Pr := P.getD (idx (sendsB id) P).toNat pr0
def arrE (K : Nat → List Fl) (P : List Pr) (id dst src kind ips ipd ttl port : Int) (n : Nat) : Int :=
  if idx (sendsB id) P < 0 then 6 else if pkE dst src kind ips ipd ttl port n id 0 0 = 0 then
    (if runE (K (fromP P id).c.toNat) [id, dst, src, kind, ips, ipd, ttl, port, 0, 0] n = 0 then comeE K n (ran (K (fromP P id).c.toNat) [id, dst, src, kind, ips, ipd, ttl, port, 0, 0]) else runE (K (fromP P id).c.toNat) [id, dst, src, kind, ips, ipd, ttl, port, 0, 0] n)
  else pkE dst src kind ips ipd ttl port n id 0 0
def arrL (K : Nat → List Fl) (P : List Pr) (id dst src kind ips ipd ttl port : Int) (n : Nat) : List Ar :=
  if arrE K P id dst src kind ips ipd ttl port n = 0 then comeL K n (ran (K (fromP P id).c.toNat) [id, dst, src, kind, ips, ipd, ttl, port, 0, 0]) else []
/-- In the order of ports. -/
def ByPort (l : List Ar) : Prop := l.Pairwise fun a b => ¬ b.n < a.n
/-- What slices.SortFunc must answer. -/
def SortsAr (l : List Ar) : Prop := ∀ (body : ByteArray) (u : Value) (B : Nat) (w : World), w.ownsRow B 61 9 u l.length (AR body l) → B ≤ w.heap.size → Calls Tryz.prog 49 #[u, .func (.func 50) #[] #[]] w fun e w' => e = .returned (.tuple #[]) ∧ ∃ l', l'.Perm l ∧ ByPort l' ∧ w'.ownsRow B 61 9 u l.length (AR body l') ∧ w.grownBy w' u.ownBlock
theorem come_next {K : Nat → List Fl} {n : Nat} {l : List Sn} {k : Nat} (h : k < l.length) : comeL K n (l.take (k + 1)) = comeL K n (l.take k) ++ carL K n (l.getD k snz) := by
  unfold comeL
  rw [take_next snz h, List.flatMap_append]; simp
theorem comeB_next {K : Nat → List Fl} {n : Nat} {l : List Sn} {k : Nat} (h : k < l.length) (h0 : (l.take k).find? (comeB K n) = none) (h1 : carE K n (l.getD k snz) = 0) : (l.take (k + 1)).find? (comeB K n) = none := by
  rw [take_next snz h, List.find?_append, h0]
  generalize l.getD k snz = x at *
  simp [comeB, h1]
theorem comeB_at {K : Nat → List Fl} {n : Nat} {l : List Sn} {k : Nat} (h : k < l.length) (h0 : (l.take k).find? (comeB K n) = none) (h1 : carE K n (l.getD k snz) ≠ 0) : comeE K n l = carE K n (l.getD k snz) := by
  have e0 : l = l.take k ++ l.getD k snz :: l.drop (k + 1) := by
    rw [← List.singleton_append, ← List.append_assoc, ← take_next snz h, List.take_append_drop]
  have e : (l.take k ++ l.getD k snz :: l.drop (k + 1)).find? (comeB K n) = some (l.getD k snz) := by
    rw [List.find?_append, h0, List.find?_cons_of_pos (by unfold comeB; simpa using h1)]; rfl
  rw [← e0] at e
  unfold comeE
  rw [e]
theorem atL_len (n : Nat) (l : List Sn) : (atL n l).length ≤ l.length := by
  unfold atL; split
  · exact atL0_le l
  · simp
theorem car_len {K : Nat → List Fl} {n : Nat} (s : Sn) : (carL K n s).length ≤ 1000000 := by
  unfold carL
  split
  · split
    · split
      · rename_i h
        exact Nat.le_trans (atL_len _ _) (ran_out (by simp [thrF]) h).2
      · simp
    · simp
  · exact Nat.le_trans (atL_len _ _) (by simp)
theorem come_len {K : Nat → List Fl} {n : Nat} : ∀ l : List Sn, (comeL K n l).length ≤ 1000000 * l.length
  | [] => by simp [comeL]
  | s :: r => by
    have h1 := come_len (K := K) (n := n) r
    have h2 := car_len (K := K) (n := n) s
    unfold comeL at h1 ⊢
    rw [List.flatMap_cons, List.length_append, List.length_cons]
    omega

end Go.Proofs.YtjcomoinggiedaaGreat

namespace Go.Proofs.YtjcomoinggiedaaGreat
open Go.RowKit
set_option linter.unusedVariables false
set_option maxRecDepth 100000

set_option maxHeartbeats 1000000 in
theorem insertionA_tiny (p : Option Addr) (n cap : Nat) (fv : Value) (w : World) (hn : n ≤ 1) :
    Calls Tryz.prog 134 #[.slice p n cap, .int .i64 0, .int .i64 n, fv] w fun e w' => e = .returned (.tuple #[]) ∧ w' = w := by
  go_enter Tryz.func134, Tryz.ntmps134
  go_wp2_with fail
  refine wp_loop_rounds 1 ?_
  rw [rounds_succ]
  go_wp2_with fail
  go_end0
  exact ⟨rfl, rfl⟩

set_option maxHeartbeats 1000000 in
theorem bitsLenA_tiny (n : Nat) (w : World) (hn : n ≤ 1) :
    Calls Tryz.prog 85 #[.int .u64 n] w fun e w' => (∃ r : Int, e = .returned (.int .i64 r)) ∧ w' = w := by
  have hn' : n = 0 ∨ n = 1 := by omega
  have h64 : Hid (∀ W : World, Calls Tryz.prog 143 #[.int .u64 n] W fun e w' => (∃ r : Int, e = .returned (.int .i64 r)) ∧ w' = W) := by
    intro W
    rcases hn' with rfl | rfl
    · go_enter Tryz.func143, Tryz.ntmps143
      go_wp2
      go_ret
      exact ⟨⟨_, rfl⟩, rfl⟩
    · go_enter Tryz.func143, Tryz.ntmps143
      go_wp2
      go_ret
      exact ⟨⟨_, rfl⟩, rfl⟩
  rcases hn' with rfl | rfl
  all_goals
    go_enter Tryz.func85, Tryz.ntmps85
    go_wp2_with fail
    refine (unhide h64 _).mono ?_
    rintro e w1 ⟨⟨r, rfl⟩, rfl⟩
    go_wp2_with fail
    go_ret
    exact ⟨⟨_, rfl⟩, rfl⟩

set_option maxHeartbeats 1000000 in
theorem pdqA_tiny (p : Option Addr) (n cap : Nat) (lim : Int) (fv : Value) (w : World) (hn : n ≤ 1) :
    Calls Tryz.prog 84 #[.slice p n cap, .int .i64 0, .int .i64 n, .int .i64 lim, fv] w fun e w' => e = .returned (.tuple #[]) ∧ w' = w := by
  go_enter Tryz.func84, Tryz.ntmps84
  go_wp2_with fail
  refine wp_loop_rounds 1 ?_
  rw [rounds_succ]
  go_wp2_with fail
  refine (insertionA_tiny _ _ _ _ _ hn).mono ?_
  rintro e w1 ⟨rfl, rfl⟩
  go_wp2_with fail
  (try simp only [Exit.inBlock, Exit.then]); refine bodyPost_ret (results_none rfl _ _ _) rfl ?_
  exact ⟨rfl, rfl⟩

set_option maxHeartbeats 1000000 in
theorem sortFuncA_tiny (p : Option Addr) (n cap : Nat) (fv : Value) (w : World) (hn : n ≤ 1) :
    Calls Tryz.prog 49 #[.slice p n cap, fv] w fun e w' => e = .returned (.tuple #[]) ∧ w' = w := by
  go_enter Tryz.func49, Tryz.ntmps49
  go_wp2_with fail
  refine (bitsLenA_tiny n _ hn).mono ?_
  rintro e w1 ⟨⟨r, rfl⟩, rfl⟩
  go_wp2_with fail
  refine (pdqA_tiny _ _ _ _ _ _ hn).mono ?_
  rintro e w1 ⟨rfl, rfl⟩
  go_wp2_with fail
  go_end0
  exact ⟨rfl, rfl⟩

theorem sortsAr_tiny {l : List Ar} (hl : l.length ≤ 1) : SortsAr l := fun body u B w ho hB => by
  obtain ⟨o, c, rfl⟩ := own_slc ho
  refine (sortFuncA_tiny o l.length c _ w hl).mono ?_
  rintro e w1 ⟨rfl, rfl⟩
  refine ⟨rfl, l, List.Perm.refl _, ?_, ho, ⟨rfl, rfl, rfl, Nat.le_refl _, fun _ _ _ => rfl⟩⟩
  match l, hl with
  | [], _ => exact List.Pairwise.nil
  | [x], _ => exact List.pairwise_singleton _ _

end Go.Proofs.YtjcomoinggiedaaGreat

namespace Go.Proofs.YtjcomoinggiedaaGreat
open Go.RowKit
set_option linter.unusedVariables false
set_option maxRecDepth 100000

theorem Box.set1 {w : World} {b : Nat} {cs : List Value} (h : Box w b cs) (j : Nat) (v : Value) (hj : j < cs.length) : Box (w.setCell ⟨b, j, none⟩ v) b (cs.set j v) := by
  have e : w.setCell ⟨b, j, none⟩ v = w.setCells b j [v] := rfl
  rw [e]
  refine ⟨⟨by rw [setCells_size]; exact h.1.1, fun i u hi => ?_⟩, fun i hi => by rw [setCells_frozen]; exact h.2 i (by simpa using hi)⟩
  rw [Nat.zero_add]
  by_cases hij : i = j
  · subst hij
    have := World.rangeAt_setCells_same w b i [v] (fun k hk => by
      obtain rfl : k = 0 := by simp at hk; exact hk
      exact ⟨by rw [Nat.add_zero, h.cell i _ (List.getElem?_eq_getElem hj)]; rfl, by rw [Nat.add_zero]; exact h.2 i hj⟩) 0 v rfl
    rw [List.getElem?_set_self hj] at hi
    cases hi
    simpa using this
  · rw [World.cell?_setCells_out b [v] j w ⟨b, i, none⟩ (fun _ _ => by simp only [List.length_singleton]; omega)]
    rw [List.getElem?_set_ne (Ne.symm hij)] at hi
    exact h.cell i u hi
theorem Box.set1_far {w : World} {b b' : Nat} {cs : List Value} (h : Box w b cs) (hne : b ≠ b') (j : Nat) (v : Value) : Box (w.setCell ⟨b', j, none⟩ v) b cs := h.set_far hne j [v]
theorem ones6 {w : World} {ks : List Value} {K : Nat → List Fl} (h : KAt w ks K) : ks.toArray.all (·.oneCell') = true := ones (by
  rw [List.all_eq_true]
  intro v hv
  obtain ⟨i, hi, e⟩ := List.getElem_of_mem hv
  obtain ⟨a, c, rfl, _⟩ := (h.2 i (by have := h.1; omega) v (by rw [List.getElem?_eq_getElem hi, e])).1
  rfl)
end Go.Proofs.YtjcomoinggiedaaGreat

namespace Go.Proofs.YtjcomoinggiedaaGreat
open Go.RowKit
set_option linter.unusedVariables false
set_option maxRecDepth 100000

theorem idx_some {α : Type} {p : α → Bool} (d : α) {l : List α} (h : 0 ≤ idx p l) : ∃ k : Nat, k < l.length ∧ idx p l = k ∧ p (l.getD k d) = true := by
  unfold idx at h ⊢
  cases hf : l.findIdx? p with
  | none => rw [hf] at h; simp at h
  | some k =>
    obtain ⟨hk, hp, _⟩ := List.findIdx?_eq_some_iff_getElem.1 hf
    exact ⟨k, hk, rfl, by rw [List.getD_eq_getElem?_getD, List.getElem?_eq_getElem hk]; exact hp⟩

set_option maxHeartbeats 8000000 in
theorem arrivals_any (ks : List Value) (K : Nat → List Fl) (s1 p1 a1 : Option Addr) (s0 s2 p2 a0 a2 : Nat) (P : List Pr) (id dst src kind ips ipd ttl port : Int) (body : ByteArray) (w : World) (hK : KAt w ks K) (hP : PrsAt w (.slice p1 P.length p2) P) (hl : P.length ≤ 100000) (hc : ∀ p ∈ P, p.c = -1 ∨ 0 ≤ p.c ∧ p.c ≤ 5) (hb : body.size ≤ maxLen)
    (hS : arrE K P id dst src kind ips ipd ttl port body.size = 0 → SortsAr (arrL K P id dst src kind ips ipd ttl port body.size)) :
    Calls Tryz.prog 27 #[.agg ks.toArray, .agg #[.slice s1 s0 s2, .slice p1 P.length p2, .slice a1 a0 a2], .int .i64 id, fr dst src kind ips ipd ttl port body] w fun e w' => ∃ u, e = .returned (.tuple #[u, .int .i64 (arrE K P id dst src kind ips ipd ttl port body.size)]) ∧ ∃ l', (l'.Perm (arrL K P id dst src kind ips ipd ttl port body.size) ∧ ByPort l' ∧ w'.ownsRow w.heap.size 61 9 u l'.length (AR body l')) ∧ Below w.heap.size w w' := by
  obtain ⟨i0, hi, hz0, hz1, hz2⟩ := info_parts infoAr
  have HK := hide hK
  obtain ⟨k0, k1, k2, k3, k4, k5, rfl⟩ := six hK.1
  have HP := hide hP
  have HC := hide hc
  have HS := hide hS
  clear hK hP hc hS
  have HAE : Hid (arrE K P id dst src kind ips ipd ttl port body.size = if idx (sendsB id) P < 0 then 6 else if pkE dst src kind ips ipd ttl port body.size id 0 0 = 0 then (if runE (K (fromP P id).c.toNat) [id, dst, src, kind, ips, ipd, ttl, port, 0, 0] body.size = 0 then comeE K body.size (ran (K (fromP P id).c.toNat) [id, dst, src, kind, ips, ipd, ttl, port, 0, 0]) else runE (K (fromP P id).c.toNat) [id, dst, src, kind, ips, ipd, ttl, port, 0, 0] body.size) else pkE dst src kind ips ipd ttl port body.size id 0 0) := rfl
  have HAL : Hid (arrL K P id dst src kind ips ipd ttl port body.size = if arrE K P id dst src kind ips ipd ttl port body.size = 0 then comeL K body.size (ran (K (fromP P id).c.toNat) [id, dst, src, kind, ips, ipd, ttl, port, 0, 0]) else []) := rfl
  obtain ⟨W0, hW0⟩ : ∃ W0, W0 = ((((w.alloc (.cells #[k0, k1, k2, k3, k4, k5] 76)).alloc (.cells #[.slice s1 s0 s2, .slice p1 P.length p2, .slice a1 a0 a2] 29)).alloc (.cells #[.int .i64 id] 3)).alloc (.cells #[.int .i64 dst, .int .i64 src, .int .i64 kind, .int .i64 ips, .int .i64 ipd, .int .i64 ttl, .int .i64 port, .string body] 32)) := ⟨_, rfl⟩
  have kb : Below w.heap.size w W0 := by rw [hW0]; exact ((((Below.refl _ w).alloc (Nat.le_refl _) _).alloc (by simp) _).alloc (by simp; omega) _).alloc (by simp; omega) _
  have HKB : Hid (Box W0 w.heap.size [k0, k1, k2, k3, k4, k5]) := by rw [hW0]; have h := (((Box.new w [k0, k1, k2, k3, k4, k5] 76).alloc (.cells #[.slice s1 s0 s2, .slice p1 P.length p2, .slice a1 a0 a2] 29)).alloc (.cells #[.int .i64 id] 3)).alloc (.cells #[.int .i64 dst, .int .i64 src, .int .i64 kind, .int .i64 ips, .int .i64 ipd, .int .i64 ttl, .int .i64 port, .string body] 32); simpa using hide h
  have HCB : Hid (Box W0 (w.heap.size + 1) [.slice s1 s0 s2, .slice p1 P.length p2, .slice a1 a0 a2]) := by rw [hW0]; have h := ((Box.new (w.alloc (.cells #[k0, k1, k2, k3, k4, k5] 76)) [.slice s1 s0 s2, .slice p1 P.length p2, .slice a1 a0 a2] 29).alloc (.cells #[.int .i64 id] 3)).alloc (.cells #[.int .i64 dst, .int .i64 src, .int .i64 kind, .int .i64 ips, .int .i64 ipd, .int .i64 ttl, .int .i64 port, .string body] 32); simpa using hide h
  have HIB : Hid (Box W0 (w.heap.size + 1 + 1) [.int .i64 id]) := by rw [hW0]; have h := (Box.new ((w.alloc (.cells #[k0, k1, k2, k3, k4, k5] 76)).alloc (.cells #[.slice s1 s0 s2, .slice p1 P.length p2, .slice a1 a0 a2] 29)) [.int .i64 id] 3).alloc (.cells #[.int .i64 dst, .int .i64 src, .int .i64 kind, .int .i64 ips, .int .i64 ipd, .int .i64 ttl, .int .i64 port, .string body] 32); simpa using hide h
  have HFB : Hid (Box W0 (w.heap.size + 1 + 1 + 1) [.int .i64 dst, .int .i64 src, .int .i64 kind, .int .i64 ips, .int .i64 ipd, .int .i64 ttl, .int .i64 port, .string body]) := by rw [hW0]; have h := Box.new (((w.alloc (.cells #[k0, k1, k2, k3, k4, k5] 76)).alloc (.cells #[.slice s1 s0 s2, .slice p1 P.length p2, .slice a1 a0 a2] 29)).alloc (.cells #[.int .i64 id] 3)) [.int .i64 dst, .int .i64 src, .int .i64 kind, .int .i64 ips, .int .i64 ipd, .int .i64 ttl, .int .i64 port, .string body] 32; simpa using hide h
  have HW0 : Hid (((((w.alloc (.cells #[k0, k1, k2, k3, k4, k5] 76)).alloc (.cells #[.slice s1 s0 s2, .slice p1 P.length p2, .slice a1 a0 a2] 29)).alloc (.cells #[.int .i64 id] 3)).alloc (.cells #[.int .i64 dst, .int .i64 src, .int .i64 kind, .int .i64 ips, .int .i64 ipd, .int .i64 ttl, .int .i64 port, .string body] 32)) = W0) := hW0.symm
  clear hW0
  replace HK := hide (HK.out.below kb)
  replace HP := hide (RowAt.below HP.out kb (Nat.le_refl _))
  have c1 := HCB.out.cell 1 _ rfl
  have ci := HIB.out.cell 0 _ rfl
  go_enter Tryz.func27, Tryz.ntmps27
  go_wp2_with (rw [HW0.out])
  refine (idxGPr_any P (sendsB id) _ _ _ _ HP.out (sends_any id _ _ ci) ent_sends (by omega)).mono ?_
  rintro e w1 ⟨rfl, hb1⟩
  clear HW0 c1 ci
  replace HKB := hide (HKB.out.below hb1)
  replace HCB := hide (HCB.out.below hb1)
  replace HIB := hide (HIB.out.below hb1)
  replace HFB := hide (HFB.out.below hb1)
  replace HK := hide (HK.out.below hb1)
  replace HP := hide (RowAt.below HP.out hb1 (Nat.le_refl _))
  replace kb := kb.trans (hb1.mono kb.size)
  clear hb1
  by_cases hix : idx (sendsB id) P < 0
  · rw [if_pos hix] at HAE
    go_wp2_with fail
    rw [HAE.out]
    go_ret2
    exact ⟨_, rfl, [], ⟨by rw [HAL.out, HAE.out]; exact List.Perm.refl _, List.Pairwise.nil, World.ownsRow_nil _ _ _ _⟩, kb⟩
  · rw [if_neg hix] at HAE
    obtain ⟨k, hk, hke, hks⟩ := idx_some pr0 (Int.not_lt.1 hix)
    have HFP : Hid (fromP P id = P.getD k pr0) := by unfold fromP; rw [hke]; exact hide rfl
    rw [HFP.out] at HAE HAL
    have hcc : 0 ≤ (P.getD k pr0).c ∧ (P.getD k pr0).c ≤ 5 := by
      rcases HC.out _ (show P.getD k pr0 ∈ P by rw [List.getD_eq_getElem?_getD, List.getElem?_eq_getElem hk]; exact List.getElem_mem hk) with h | h
      · unfold sendsB at hks; rw [h] at hks; simp at hks
      · exact h
    clear hks HC HFP
    rw [hke] at hix ⊢
    clear hke
    have q0 : (0 : Int) ≤ (k : Int) := by omega
    have q1 : (k : Int) < (P.length : Int) := by omega
    have HPK := hide (fun W => pPacket_any dst src kind ips ipd ttl port body id 0 0 W hb)
    generalize hE : pkE dst src kind ips ipd ttl port body.size id 0 0 = E at *
    have ci := HIB.out.cell 0 _ rfl
    go_wp2_with (refine wpList_load_mid rfl 32 (.tmp 7) rfl (w.heap.size + 1 + 1 + 1) 0 rfl _ _ HFB.out.range Tryz.underlying32 rfl sizeFr ?_)
    refine (unhide HPK _).mono ?_
    rintro e w2 ⟨rfl, hb2⟩
    clear ci HPK
    replace HKB := hide (HKB.out.below hb2)
    replace HCB := hide (HCB.out.below hb2)
    replace HIB := hide (HIB.out.below hb2)
    replace HFB := hide (HFB.out.below hb2)
    replace HK := hide (HK.out.below hb2)
    replace HP := hide (RowAt.below HP.out hb2 (Nat.le_refl _))
    replace kb := kb.trans (hb2.mono kb.size)
    clear hb2
    by_cases hE0 : E = 0
    · subst hE0
      rw [if_pos rfl] at HAE ⊢
      clear hE
      obtain ⟨W3, hW3⟩ : ∃ W3, W3 = w2.alloc (.cells #[.int .i64 id, .int .i64 dst, .int .i64 src, .int .i64 kind, .int .i64 ips, .int .i64 ipd, .int .i64 ttl, .int .i64 port, .int .i64 0, .int .i64 0, .string body] 108) := ⟨_, rfl⟩
      have hbN : Below w2.heap.size w2 W3 := by rw [hW3]; exact (Below.refl _ _).alloc (Nat.le_refl _) _
      have HPB : Hid (Box W3 w2.heap.size [.int .i64 id, .int .i64 dst, .int .i64 src, .int .i64 kind, .int .i64 ips, .int .i64 ipd, .int .i64 ttl, .int .i64 port, .int .i64 0, .int .i64 0, .string body]) := by rw [hW3]; exact hide (Box.new w2 [.int .i64 id, .int .i64 dst, .int .i64 src, .int .i64 kind, .int .i64 ips, .int .i64 ipd, .int .i64 ttl, .int .i64 port, .int .i64 0, .int .i64 0, .string body] 108)
      replace HKB := hide (HKB.out.below hbN)
      replace HCB := hide (HCB.out.below hbN)
      replace HIB := hide (HIB.out.below hbN)
      replace HFB := hide (HFB.out.below hbN)
      replace HK := hide (HK.out.below hbN)
      replace HP := hide (RowAt.below HP.out hbN (Nat.le_refl _))
      replace kb := kb.trans (hbN.mono kb.size)
      have HW3 := hide hW3.symm
      clear hbN hW3
      obtain ⟨pb, off, cap, e1, hcap, -, g0, g1, g2, g3, g4⟩ := pr_at HP.out hk
      simp only [Value.slice.injEq, true_and] at e1
      obtain ⟨rfl, rfl⟩ := e1
      clear g0 g1 g2 g3
      generalize (P.getD k pr0).c = cc at *
      obtain ⟨m, rfl⟩ := Int.eq_ofNat_of_zero_le hcc.1
      have hm6 : m < 6 := by omega
      simp only [Int.toNat_natCast] at HAE HAL
      obtain ⟨kv, hkv⟩ := six_at HK.out.1 hm6
      have HF := hide (HK.out.2 m hm6 kv hkv).1
      have HLN := hide (HK.out.2 m hm6 kv hkv).2
      have ck := HKB.out.cell m kv hkv
      have c1 := HCB.out.cell 1 _ rfl
      obtain ⟨fa, fc, rfl, _⟩ := HF.out
      clear hkv
      have q2 : (0 : Int) ≤ (m : Int) := by omega
      have q3 : (m : Int) < 6 := by omega
      go_wp2_with (rw [HW3.out])
      clear HW3
      refine wp_region_held_drew (S := (fun w' => w'.cell? ⟨w.heap.size + 1, 1, none⟩ = some (.slice (some ⟨pb, off, none⟩) P.length p2) ∧ w'.cell? ⟨pb, off + k * 5 + 4, none⟩ = some (.int .i64 (m : Int)) ∧ w'.cell? ⟨w.heap.size, m, none⟩ = some (.slice fa (K m).length fc) ∧ w'.rangeAt w2.heap.size 0 [.int .i64 id, .int .i64 dst, .int .i64 src, .int .i64 kind, .int .i64 ips, .int .i64 ipd, .int .i64 ttl, .int .i64 port, .int .i64 0, .int .i64 0, .string body])) (by kernel_rfl) ⟨c1, g4, ck, HPB.out.range⟩ (fun hHeld => ?_)
      refine wpAnyH_take (i := 0) (oi := ⟨some 35, _, _, _, _, _⟩) (v := ?v1) rfl (by kernel_rfl) (by kernel_rfl) (by kernel_rfl) (fun _ _ _ h => h) (Or.inl ⟨by rfl, ?h1⟩) (by assumption) ?r1
      case h1 => (intro w hSw; (try dsimp only at hSw); go_simp <;> with_reducible rfl)
      (try simp only [Act.put, List.setIfInBounds_toArray, List.set_cons_zero, List.set_cons_succ])
      refine wpAnyH_take (i := 1) (oi := ⟨some 36, _, _, _, _, _⟩) (v := ?v2) rfl (by kernel_rfl) (by kernel_rfl) (by kernel_rfl) (fun _ _ _ h => h) (Or.inl ⟨by rfl, ?h2⟩) (by assumption) ?r2
      case h2 => (intro w hSw; (try dsimp only at hSw); go_simp <;> with_reducible rfl)
      (try simp only [Act.put, List.setIfInBounds_toArray, List.set_cons_zero, List.set_cons_succ])
      refine wpAnyH_take (i := 2) (oi := ⟨some 37, _, _, _, _, _⟩) (v := ?v3) rfl (by kernel_rfl) (by kernel_rfl) (by kernel_rfl) (fun _ _ _ h => h) (Or.inl ⟨by rfl, ?h3⟩) (by assumption) ?r3
      case h3 => (intro w hSw; (try dsimp only at hSw); go_simp <;> with_reducible rfl)
      (try simp only [Act.put, List.setIfInBounds_toArray, List.set_cons_zero, List.set_cons_succ])
      refine wpAnyH_take (i := 3) (oi := ⟨some 38, _, _, _, _, _⟩) (v := ?v4) rfl (by kernel_rfl) (by kernel_rfl) (by kernel_rfl) (fun _ _ _ h => h) (Or.inl ⟨by rfl, ?h4⟩) (by assumption) ?r4
      case h4 => (intro w hSw; (try dsimp only at hSw); go_simp <;> with_reducible rfl)
      (try simp only [Act.put, List.setIfInBounds_toArray, List.set_cons_zero, List.set_cons_succ])
      refine wpAnyH_take (i := 4) (oi := ⟨some 39, _, _, _, _, _⟩) (v := ?v5) rfl (by kernel_rfl) (by kernel_rfl) (by kernel_rfl) (fun _ _ _ h => h) (Or.inl ⟨by rfl, ?h5⟩) (by assumption) ?r5
      case h5 => (intro w hSw; (try dsimp only at hSw); go_simp <;> with_reducible rfl)
      (try simp only [Act.put, List.setIfInBounds_toArray, List.set_cons_zero, List.set_cons_succ])
      refine wpAnyH_take (i := 5) (oi := ⟨some 40, _, _, _, _, _⟩) (v := ?v6) rfl (by kernel_rfl) (by kernel_rfl) (by kernel_rfl) (fun _ _ _ h => h) (Or.inl ⟨by rfl, ?h6⟩) (by assumption) ?r6
      case h6 => (intro w hSw; (try dsimp only at hSw); go_simp <;> with_reducible rfl)
      (try simp only [Act.put, List.setIfInBounds_toArray, List.set_cons_zero, List.set_cons_succ])
      refine wpAnyH_take (i := 6) (oi := ⟨some 41, _, _, _, _, _⟩) (v := ?v7) rfl (by kernel_rfl) (by kernel_rfl) (by kernel_rfl) (fun _ _ _ h => h) (Or.inl ⟨by rfl, ?h7⟩) (by assumption) ?r7
      case h7 => (intro w hSw; (try dsimp only at hSw); go_simp <;> with_reducible rfl)
      (try simp only [Act.put, List.setIfInBounds_toArray, List.set_cons_zero, List.set_cons_succ])
      refine wpAnyH_take (i := 7) (oi := ⟨some 42, _, _, _, _, _⟩) (v := ?v8) rfl (by kernel_rfl) (by kernel_rfl) (by kernel_rfl) (fun _ _ _ h => h) (Or.inl ⟨by rfl, ?h8⟩) (by assumption) ?r8
      case h8 => (intro w hSw; (try dsimp only at hSw); go_simp <;> with_reducible rfl)
      (try simp only [Act.put, List.setIfInBounds_toArray, List.set_cons_zero, List.set_cons_succ])
      refine wpAnyH_take (i := 8) (oi := ⟨some 43, _, _, _, _, _⟩) (v := .agg #[.int .i64 id, .int .i64 dst, .int .i64 src, .int .i64 kind, .int .i64 ips, .int .i64 ipd, .int .i64 ttl, .int .i64 port, .int .i64 0, .int .i64 0, .string body]) rfl (by kernel_rfl) (by kernel_rfl) (by kernel_rfl) (fun _ _ _ h => h) (yieldsIf_load_mid (by rfl) 108 (.tmp 11) rfl w2.heap.size 0 rfl [.int .i64 id, .int .i64 dst, .int .i64 src, .int .i64 kind, .int .i64 ips, .int .i64 ipd, .int .i64 ttl, .int .i64 port, .int .i64 0, .int .i64 0, .string body] _ (fun w h => h.2.2.2) Tryz.underlying108 rfl sizePkt) (by assumption) ?_
      (try simp only [Act.put, List.setIfInBounds_toArray, List.set_cons_zero, List.set_cons_succ])
      refine wpAnyH_ready (rs := [9]) (by kernel_rfl) (by simp) ?_
      refine AllReadyH.cons (o := ⟨some 44, _, _, _, _, _⟩) rfl (fun Kk hKk => ?_) AllReadyH.nil
      go_simp
      have hbD : Below W3.heap.size W3 W3.drew := (Below.refl _ _).drew
      refine (fRun_any id dst src kind ips ipd ttl port 0 0 body _ (K m) W3.drew (HF.out.below hbD (Nat.le_refl _)) hb HLN.out).mono ?_
      rintro e w4 ⟨v4, rfl, ho4, hb4⟩
      have hb34 : Below W3.heap.size W3 w4 := hbD.trans hb4
      have HO := hide ho4
      have sN : w.heap.size ≤ W3.drew.heap.size := kb.size
      go_wp2_with fail
      refine hKk.out _ _ ⟨cell_beh c1 hb34 (Nat.le_refl _), cell_beh g4 hb34 (Nat.le_refl _), cell_beh ck hb34 (Nat.le_refl _), range_below HPB.out.range hb34 HPB.out.lt⟩ (fun hHeld => ?_)
      clear hKk Kk
      (try simp only [Act.put, List.setIfInBounds_toArray, List.set_cons_zero, List.set_cons_succ])
      refine wpAnyH_take (i := 10) (oi := ⟨some 34, _, _, _, _, _⟩) (v := ?v9) rfl (by kernel_rfl) (by kernel_rfl) (by kernel_rfl) (fun _ _ _ h => h) (Or.inl ⟨by rfl, ?h9⟩) (by assumption) ?r9
      case h9 => (intro w hSw; (try dsimp only at hSw); go_simp <;> with_reducible rfl)
      (try simp only [Act.put, List.setIfInBounds_toArray, List.set_cons_zero, List.set_cons_succ])
      refine wpAnyH_take (i := 11) (oi := ⟨some 45, _, _, _, _, _⟩) (v := ?v10) rfl (by kernel_rfl) (by kernel_rfl) (by kernel_rfl) (fun _ _ _ h => h) (Or.inl ⟨by rfl, ?h10⟩) (by assumption) ?r10
      case h10 => (intro w hSw; (try dsimp only at hSw); go_simp <;> with_reducible rfl)
      (try simp only [Act.put, List.setIfInBounds_toArray, List.set_cons_zero, List.set_cons_succ])
      refine wpAnyH_take (i := 12) (oi := ⟨some 46, _, _, _, _, _⟩) (v := ?v11) rfl (by kernel_rfl) (by kernel_rfl) (by kernel_rfl) (fun _ _ _ h => h) (Or.inl ⟨by rfl, ?h11⟩) (by assumption) ?r11
      case h11 => (intro w hSw; (try dsimp only at hSw); go_simp <;> with_reducible rfl)
      (try simp only [Act.put, List.setIfInBounds_toArray, List.set_cons_zero, List.set_cons_succ])
      refine wpAnyH_take (i := 13) (oi := ⟨some 13, _, _, _, _, _⟩) (v := ?v12) rfl (by kernel_rfl) (by kernel_rfl) (by kernel_rfl) (fun _ _ _ h => h) (Or.inl ⟨by rfl, ?h12⟩) (by assumption) ?r12
      case h12 => (intro w hSw; (try dsimp only at hSw); go_simp <;> with_reducible rfl)
      (try simp only [Act.put, List.setIfInBounds_toArray, List.set_cons_zero, List.set_cons_succ])
      refine wpAnyH_take (i := 14) (oi := ⟨some 12, _, _, _, _, _⟩) (v := ?v13) rfl (by kernel_rfl) (by kernel_rfl) (by kernel_rfl) (fun _ _ _ h => h) (Or.inl ⟨by rfl, ?h13⟩) (by assumption) ?r13
      case h13 => (intro w hSw; (try dsimp only at hSw); go_simp <;> with_reducible rfl)
      (try simp only [Act.put, List.setIfInBounds_toArray, List.set_cons_zero, List.set_cons_succ])
      refine wpAnyH_done (by kernel_rfl) ?_ _
      replace HKB := hide (HKB.out.below hb34)
      replace HCB := hide (HCB.out.below hb34)
      replace HIB := hide (HIB.out.below hb34)
      replace HFB := hide (HFB.out.below hb34)
      replace HK := hide (HK.out.below hb34)
      replace HP := hide (RowAt.below HP.out hb34 (Nat.le_refl _))
      replace kb := kb.trans (hb34.mono kb.size)
      clear hHeld ho4 hb4 hbD hb34 ck c1 g4 HPB HF HLN
      have HRL : Hid (runE (K m) [id, dst, src, kind, ips, ipd, ttl, port, 0, 0] body.size = 0 → runL (K m) [id, dst, src, kind, ips, ipd, ttl, port, 0, 0] body.size = ran (K m) [id, dst, src, kind, ips, ipd, ttl, port, 0, 0]) := fun h => by unfold runL; rw [if_pos h]
      have HRO : Hid (runE (K m) [id, dst, src, kind, ips, ipd, ttl, port, 0, 0] body.size = 0 → OutOk (ran (K m) [id, dst, src, kind, ips, ipd, ttl, port, 0, 0]) ∧ (ran (K m) [id, dst, src, kind, ips, ipd, ttl, port, 0, 0]).length ≤ 1000000) := fun h => ran_out rfl h
      generalize hR : runE (K m) [id, dst, src, kind, ips, ipd, ttl, port, 0, 0] body.size = R at *
      by_cases hR0 : R = 0
      · subst hR0
        rw [HRL.out rfl] at HO
        rw [if_pos rfl] at HAE
        obtain ⟨HOK, hll⟩ := HRO.out rfl
        replace HOK := hide HOK
        clear hR HRL HRO
        generalize ran (K m) [id, dst, src, kind, ips, ipd, ttl, port, 0, 0] = l at *
        have hs4 : w.heap.size ≤ w4.heap.size := kb.size
        replace HO := hide (own_less HO.out sN)
        have HL := HO
        obtain ⟨oo, oc, rfl, hoc, hg⟩ := own_formA HO.out
        clear HO
        have hle : comeE K body.size l = 0 → (comeL K body.size l).length ≤ 1000000 * l.length := fun _ => come_len l
        clear hle
        go_wp2_with fail
        go_loopw [14, 52] (fun u i wr => ∃ j : Nat, j ≤ l.length ∧ i = .int .i64 j ∧ Hid (wr.ownsRow w4.heap.size 61 9 u (comeL K body.size (l.take j)).length (AR body (comeL K body.size (l.take j)))) ∧ Hid ((l.take j).find? (comeB K body.size) = none) ∧ Below w4.heap.size w4 wr) (fun _ i _ => l.length - (intOf i).toNat)
        case atStart => exact ⟨0, by omega, rfl, hide (by simpa [comeL, AR] using World.ownsRow_nil w4 w4.heap.size 61 9), hide rfl, Below.refl _ _⟩
        case round =>
          obtain ⟨j, hj, rfl, HO, HBAD, hbr⟩ := hrel
          have sr : w4.heap.size ≤ wr.heap.size := hbr.size
          by_cases hlt : j < l.length
          · obtain ⟨g, rfl, hgB, hgw⟩ := hg (by omega)
            have R0 := hide (range_below (own_range (C := snC body) (fun _ => rfl) snz HL.out hlt) hbr hgw)
            have HN := hide (come_next (K := K) (n := body.size) hlt)
            have HB1 := hide (comeB_next (K := K) (n := body.size) hlt HBAD.out)
            have HB2 := hide (comeB_at (K := K) (n := body.size) hlt HBAD.out)
            have hlen := come_len (K := K) (n := body.size) (l.take j)
            have hlt2 : (l.take j).length ≤ 1000000 := by rw [List.length_take]; omega
            have hcl := car_len (K := K) (n := body.size) (l.getD j snz)
            have HOX : Hid (SnOk (l.getD j snz)) := HOK.out _ (by rw [List.getD_eq_getElem?_getD, List.getElem?_eq_getElem hlt]; exact List.getElem_mem hlt)
            obtain ⟨o1, o2, rfl⟩ := own_slc HO.out
            obtain ⟨N, hN⟩ : ∃ N, N = (comeL K body.size (l.take j)).length := ⟨_, rfl⟩
            rw [← hN] at HO hlen ⊢
            have HNN := hide hN
            clear hN HBAD
            generalize l.getD j snz = x at *
            have q4 : (0 : Int) ≤ (j : Int) := by omega
            have q5 : (j : Int) < (l.length : Int) := by omega
            have HCR := hide (fun W (h : KAt W [k0, k1, k2, k3, k4, k5] K) => carried_any [k0, k1, k2, k3, k4, k5] K x body W h HOX.out hb)
            have HXC : Hid (snC body x = [.int .i64 x.k, .int .i64 x.n, .int .i64 (x.F.getD 0 0), .int .i64 (x.F.getD 1 0), .int .i64 (x.F.getD 2 0), .int .i64 (x.F.getD 3 0), .int .i64 (x.F.getD 4 0), .int .i64 (x.F.getD 5 0), .int .i64 (x.F.getD 6 0), .int .i64 (x.F.getD 7 0), .int .i64 (x.F.getD 8 0), .int .i64 (x.F.getD 9 0), .string body]) := rfl
            rw [HXC.out] at R0 HCR
            clear HXC HOX
            generalize x.F.getD 0 0 = y0 at *
            generalize x.F.getD 1 0 = y1 at *
            generalize x.F.getD 2 0 = y2 at *
            generalize x.F.getD 3 0 = y3 at *
            generalize x.F.getD 4 0 = y4 at *
            generalize x.F.getD 5 0 = y5 at *
            generalize x.F.getD 6 0 = y6 at *
            generalize x.F.getD 7 0 = y7 at *
            generalize x.F.getD 8 0 = y8 at *
            generalize x.F.getD 9 0 = y9 at *
            generalize x.n = xn at *
            generalize x.k = xk at *
            obtain ⟨W5, hW5⟩ : ∃ W5, W5 = wr.alloc (.cells #[.int .i64 xk, .int .i64 xn, .int .i64 y0, .int .i64 y1, .int .i64 y2, .int .i64 y3, .int .i64 y4, .int .i64 y5, .int .i64 y6, .int .i64 y7, .int .i64 y8, .int .i64 y9, .string body] 115) := ⟨_, rfl⟩
            have hb5 : Below wr.heap.size wr W5 := by rw [hW5]; exact (Below.refl _ _).alloc (Nat.le_refl _) _
            have HSB : Hid (Box W5 wr.heap.size [.int .i64 xk, .int .i64 xn, .int .i64 y0, .int .i64 y1, .int .i64 y2, .int .i64 y3, .int .i64 y4, .int .i64 y5, .int .i64 y6, .int .i64 y7, .int .i64 y8, .int .i64 y9, .string body]) := by rw [hW5]; exact hide (Box.new wr [.int .i64 xk, .int .i64 xn, .int .i64 y0, .int .i64 y1, .int .i64 y2, .int .i64 y3, .int .i64 y4, .int .i64 y5, .int .i64 y6, .int .i64 y7, .int .i64 y8, .int .i64 y9, .string body] 115)
            have hb45 : Below w4.heap.size w4 W5 := hbr.trans (hb5.mono sr)
            have HKB5 := hide (HKB.out.below hb45)
            have HK5 := hide (HK.out.below hb45)
            replace HO := hide (own_below HO.out hb5)
            have HW5 := hide hW5.symm
            clear hW5 hb5
            go_wp2_with (first | rw [HW5.out] | (refine wpList_load_mid rfl 115 (.tmp 54) rfl g (j * 13) rfl _ _ R0.out Tryz.underlying115 rfl sizeSent ?_) | (refine wpList_load_mid rfl 115 (.tmp 16) rfl wr.heap.size 0 rfl _ _ HSB.out.range Tryz.underlying115 rfl sizeSent ?_) | (refine wpList_load_mid rfl 76 (.tmp 4) rfl w.heap.size 0 rfl _ _ HKB5.out.range Tryz.underlying76 rfl sizeKn ?_))
            refine (unhide HCR _ HK5.out).mono ?_
            rintro e w6 ⟨u6, rfl, ho6, hb6⟩
            have HO6 := hide ho6
            replace HO := hide (own_below HO.out hb6)
            have hb46 : Below w4.heap.size w4 w6 := hb45.trans (hb6.mono hb45.size)
            have s46 : w4.heap.size ≤ w6.heap.size := hb46.size
            clear ho6 hb6 hb45 HCR R0 HSB HKB5 HK5 HW5 hbr
            obtain ⟨o3, o4, rfl, _⟩ := own_formA HO6.out
            generalize hCE : carE K body.size x = CE at *
            by_cases hC0 : CE = 0
            · subst hC0
              have HBD := HB1
              clear HB1 HB2 hCE
              go_wp2_with (at_builtin; refine wpList_append_rows rfl _ _ 35 rfl w4.heap.size 61 i0 _ 9 80 Tryz.underlying35 hi hz0 hz1 hz2 rfl (by decide) _ _ _ rfl HO.out _ _ _ _ rfl HO6.out (AR_one _ _) ?a1 ?a2 s46 ?_)
              case a1 => unfold maxLen; omega
              case a2 => omega
              intro v7 w7 ho7 hg7
              have hb7 : Below w4.heap.size w4 w7 := hb46.grown hg7 s46 (own_ge HO.out)
              have HE7 : Hid (w7.ownsRow w4.heap.size 61 9 v7 (comeL K body.size (l.take (j + 1))).length (AR body (comeL K body.size (l.take (j + 1))))) := by
                refine hide ?_
                rw [HN.out, List.length_append, ← HNN.out, AR_app]
                exact ho7
              clear ho7 hg7 HO HO6
              go_wp2_with fail
              go_roundw
              case rel => exact ⟨j + 1, by omega, by go_num, HE7, HBD.out trivial, hb7⟩
              case measure => simp [intOf]; omega
            · have hCb : (CE != 0) = true := by simpa using hC0
              have HCE := hide (HB2.out hC0)
              clear HB1 HB2
              rw [HCE.out] at HAE
              have hAL : arrL K P id dst src kind ips ipd ttl port body.size = [] := by rw [HAL.out, HAE.out, if_neg hC0]
              have HAL2 := hide hAL
              clear hAL
              go_wp2_with fail
              rw [HAE.out]
              go_ret2
              exact ⟨_, rfl, [], ⟨by rw [HAL2.out], List.Pairwise.nil, World.ownsRow_nil _ _ _ _⟩, kb.trans (hb46.mono hs4)⟩
          · have hje : j = l.length := by omega
            subst hje
            rw [List.take_length] at HO HBAD
            have hE0 : comeE K body.size l = 0 := by unfold comeE; rw [HBAD.out]
            rw [hE0] at HAE
            have HAL2 : Hid (arrL K P id dst src kind ips ipd ttl port body.size = comeL K body.size l) := by rw [HAL.out, if_pos HAE.out]; exact hide rfl
            have HSS := hide (HS.out HAE.out)
            rw [HAL2.out] at HSS
            clear HS HBAD hE0
            obtain ⟨o1, o2, rfl⟩ := own_slc HO.out
            have hkk : ¬ ((l.length : Int) < (l.length : Int)) := by omega
            go_wp2_with fail
            refine (HSS.out body _ _ _ HO.out sr).mono ?_
            rintro e w8 ⟨rfl, l8, hp8, hs8, ho8, hg8⟩
            have HP8 := hide hp8
            have HS8 := hide hs8
            have HO8 := hide ho8
            have kb8 : Below w.heap.size w w8 := (kb.trans (hbr.mono hs4)).grown hg8 (by omega) (fun k hk => Nat.le_trans hs4 (own_ge HO.out k hk))
            clear hp8 hs8 ho8 hg8
            go_wp2_with fail
            rw [HAE.out, HAL2.out]
            go_ret2
            exact ⟨_, rfl, l8, ⟨HP8.out, HS8.out, by rw [HP8.out.length_eq]; exact own_less HO8.out hs4⟩, kb8⟩
      · rw [if_neg hR0] at HAE
        have hRb : (R != 0) = true := by simpa using hR0
        obtain ⟨oo, oc, rfl, _⟩ := own_formA HO.out
        go_wp2_with fail
        rw [HAE.out]
        go_ret2
        exact ⟨_, rfl, [], ⟨by rw [HAL.out, HAE.out, if_neg hR0], List.Pairwise.nil, World.ownsRow_nil _ _ _ _⟩, kb⟩
    · rw [if_neg hE0] at HAE ⊢
      have hEb : (E != 0) = true := by simpa using hE0
      go_wp2_with fail
      rw [HAE.out]
      go_ret2
      exact ⟨_, rfl, [], ⟨by rw [HAL.out, HAE.out, if_neg hE0], List.Pairwise.nil, World.ownsRow_nil _ _ _ _⟩, kb.alloc kb.size _⟩

end Go.Proofs.YtjcomoinggiedaaGreat

namespace Go.Proofs.YtjcomoinggiedaaGreat
open Go.RowKit
set_option linter.unusedVariables false
set_option maxRecDepth 100000

def inB (n a b : Int) : Bool := decide (a ≤ n ∧ n ≤ b)

set_option maxHeartbeats 400000 in
theorem within_any (n a b : Int) (w : World) :
    Calls Tryz.prog 100 #[.int .i64 n, .int .i64 a, .int .i64 b] w fun e w' => e = .returned (.bool (inB n a b)) ∧ w' = w := by
  go_enter Tryz.func100, Tryz.ntmps100
  go_wp2
  all_goals go_ret
  all_goals refine ⟨bool_ret ?_, rfl⟩
  all_goals (unfold inB; rw [Bool.eq_iff_iff]; simp_all; try omega)

set_option maxHeartbeats 400000 in
theorem cIsWord_any (n : Int) (w : World) :
    Calls Tryz.prog 101 #[.int .i64 n] w fun e w' => e = .returned (.bool (inB n 0 65535)) ∧ w' = w := by
  go_enter Tryz.func101, Tryz.ntmps101
  go_wp2_with (go_at_call 100; refine (within_any _ _ _ _).mono ?_; rintro e w' ⟨rfl, rfl⟩)
  go_ret
  exact ⟨rfl, rfl⟩
set_option maxHeartbeats 400000 in
theorem isChassis_any (n : Int) (w : World) :
    Calls Tryz.prog 112 #[.int .i64 n] w fun e w' => e = .returned (.bool (inB n (-1) 5)) ∧ w' = w := by
  go_enter Tryz.func112, Tryz.ntmps112
  go_wp2_with (go_at_call 100; refine (within_any _ _ _ _).mono ?_; rintro e w' ⟨rfl, rfl⟩)
  go_ret
  exact ⟨rfl, rfl⟩

/-- Are a port's numbers within their bounds? -/
def prInB (x : Pr) : Bool := inB x.i 1 999 && inB x.m 1 59999 && inB x.p 1 65535 && inB x.c (-1) 5
set_option maxHeartbeats 1000000 in
theorem portInBounds_any (i s m p c : Int) (w : World) :
    Calls Tryz.prog 105 #[.agg #[.int .i64 i, .int .i64 s, .int .i64 m, .int .i64 p, .int .i64 c]] w fun e w' => e = .returned (.bool (prInB ⟨i, s, m, p, c⟩)) ∧ Below w.heap.size w w' := by
  go_enter Tryz.func105, Tryz.ntmps105
  go_wp2_with (first | (go_at_call 100; refine (within_any _ _ _ _).mono ?_; rintro e w' ⟨rfl, rfl⟩) | (go_at_call 112; refine (isChassis_any _ _).mono ?_; rintro e w' ⟨rfl, rfl⟩))
  all_goals go_ret
  all_goals refine ⟨bool_ret ?_, (Below.refl _ _).alloc (Nat.le_refl _) _⟩
  all_goals (unfold prInB; simp_all)

/-- Are a rule's numbers within their bounds? -/
def acInB (x : Ac) : Bool := inB x.p 0 1000 && inB x.src 0 65535 && inB x.dst 0 65535 && inB x.sb 0 16 && inB x.db 0 16 && inB x.o (-1) 65535
set_option maxHeartbeats 2000000 in
theorem aclInBounds_any (s p : Int) (n : Bool) (src sb dst db o : Int) (d : Bool) (w : World) :
    Calls Tryz.prog 109 #[.agg #[.int .i64 s, .int .i64 p, .bool n, .int .i64 src, .int .i64 sb, .int .i64 dst, .int .i64 db, .int .i64 o, .bool d]] w fun e w' => e = .returned (.bool (acInB ⟨s, p, n, src, sb, dst, db, o, d⟩)) ∧ Below w.heap.size w w' := by
  go_enter Tryz.func109, Tryz.ntmps109
  go_wp2_with (first | (go_at_call 100; refine (within_any _ _ _ _).mono ?_; rintro e w' ⟨rfl, rfl⟩) | (go_at_call 101; refine (cIsWord_any _ _).mono ?_; rintro e w' ⟨rfl, rfl⟩))
  all_goals go_ret
  all_goals refine ⟨bool_ret ?_, (Below.refl _ _).alloc (Nat.le_refl _) _⟩
  all_goals (unfold acInB; simp_all)

/- the closures -/
set_option maxHeartbeats 400000 in
theorem withId1_any (x : Sw) (id : Int) (b : Nat) (w : World) (h : w.cell? ⟨b, 0, none⟩ = some (.int .i64 id)) :
    Calls Tryz.prog 159 #[.agg #[.int .i64 x.i, .int .i64 x.t, .int .i64 x.g], .pointer (some ⟨b, 0, none⟩)] w fun e w' => e = .returned (.bool (x.i == id)) ∧ Below w.heap.size w w' := by
  have hlt := cell_in h
  have hne : b ≠ w.heap.size := by omega
  go_enter Tryz.func159, Tryz.ntmps159
  go_wp2
  all_goals go_ret
  all_goals exact ⟨bool_ret (by rw [Bool.eq_iff_iff] <;> simp), (Below.refl _ _).alloc (Nat.le_refl _) _⟩

theorem asksId {w : World} {b : Nat} {id : Int} (h : w.cell? ⟨b, 0, none⟩ = some (.int .i64 id)) : AsksId w b (fun x => x.i == id) := fun W x hW => withId1_any x id b W (cell_beh h hW (Nat.le_refl _))

set_option maxHeartbeats 400000 in
theorem isGate_any (x : Sw) (tenant ip : Int) (b c : Nat) (w : World) (h : w.cell? ⟨b, 0, none⟩ = some (.int .i64 tenant)) (h2 : w.cell? ⟨c, 0, none⟩ = some (.int .i64 ip)) :
    Calls Tryz.prog 160 #[.agg #[.int .i64 x.i, .int .i64 x.t, .int .i64 x.g], .pointer (some ⟨b, 0, none⟩), .pointer (some ⟨c, 0, none⟩)] w fun e w' => e = .returned (.bool (x.t == tenant && x.g == ip)) ∧ Below w.heap.size w w' := by
  have hlt := cell_in h
  have hne : b ≠ w.heap.size := by omega
  have hlt2 := cell_in h2
  have hne2 : c ≠ w.heap.size := by omega
  go_enter Tryz.func160, Tryz.ntmps160
  go_wp2
  all_goals go_ret
  all_goals exact ⟨bool_ret (by rw [Bool.eq_iff_iff]; simp_all), (Below.refl _ _).alloc (Nat.le_refl _) _⟩
theorem asksGate {w : World} {b c : Nat} {tenant ip : Int} (h : w.cell? ⟨b, 0, none⟩ = some (.int .i64 tenant)) (h2 : w.cell? ⟨c, 0, none⟩ = some (.int .i64 ip)) : AsksGate w b c (fun x => x.t == tenant && x.g == ip) := fun W x hW => isGate_any x tenant ip b c W (cell_beh h hW (Nat.le_refl _)) (cell_beh h2 hW (Nat.le_refl _))

set_option maxHeartbeats 400000 in
theorem isOf_any (x : Sw) (s tenant : Int) (b c : Nat) (w : World) (h : w.cell? ⟨b, 1, none⟩ = some (.int .i64 s)) (h2 : w.cell? ⟨c, 0, none⟩ = some (.int .i64 tenant)) :
    Calls Tryz.prog 162 #[.agg #[.int .i64 x.i, .int .i64 x.t, .int .i64 x.g], .pointer (some ⟨b, 0, none⟩), .pointer (some ⟨c, 0, none⟩)] w fun e w' => e = .returned (.bool (x.i == s && x.t == tenant)) ∧ Below w.heap.size w w' := by
  have hlt := cell_in h
  have hne : b ≠ w.heap.size := by omega
  have hlt2 := cell_in h2
  have hne2 : c ≠ w.heap.size := by omega
  go_enter Tryz.func162, Tryz.ntmps162
  go_wp2
  all_goals go_ret
  all_goals exact ⟨bool_ret (by rw [Bool.eq_iff_iff]; simp_all), (Below.refl _ _).alloc (Nat.le_refl _) _⟩
theorem asksOf {w : World} {b c : Nat} {s tenant : Int} (h : w.cell? ⟨b, 1, none⟩ = some (.int .i64 s)) (h2 : w.cell? ⟨c, 0, none⟩ = some (.int .i64 tenant)) : AsksOf w b c (fun x => x.i == s && x.t == tenant) := fun W x hW => isOf_any x s tenant b c W (cell_beh h hW (Nat.le_refl _)) (cell_beh h2 hW (Nat.le_refl _))

set_option maxHeartbeats 1000000 in
theorem isSame_any (x : Pr) (i s m : Int) (b : Nat) (w : World) (h : w.cell? ⟨b, 0, none⟩ = some (.int .i64 i)) (h1 : w.cell? ⟨b, 1, none⟩ = some (.int .i64 s)) (h2 : w.cell? ⟨b, 2, none⟩ = some (.int .i64 m)) :
    Calls Tryz.prog 108 #[.agg #[.int .i64 x.i, .int .i64 x.s, .int .i64 x.m, .int .i64 x.p, .int .i64 x.c], .pointer (some ⟨b, 0, none⟩)] w fun e w' => e = .returned (.bool (x.i == i || x.s == s && x.m == m)) ∧ Below w.heap.size w w' := by
  have hlt := cell_in h
  have hne : b ≠ w.heap.size := by omega
  go_enter Tryz.func108, Tryz.ntmps108
  go_wp2
  all_goals go_ret
  all_goals exact ⟨bool_ret (by rw [Bool.eq_iff_iff]; simp_all), (Below.refl _ _).alloc (Nat.le_refl _) _⟩
theorem asksSame {w : World} {b : Nat} {i s m : Int} (h : w.cell? ⟨b, 0, none⟩ = some (.int .i64 i)) (h1 : w.cell? ⟨b, 1, none⟩ = some (.int .i64 s)) (h2 : w.cell? ⟨b, 2, none⟩ = some (.int .i64 m)) : AsksSame w b (fun x => x.i == i || x.s == s && x.m == m) :=
  fun W x hW => isSame_any x i s m b W (cell_beh h hW (Nat.le_refl _)) (cell_beh h1 hW (Nat.le_refl _)) (cell_beh h2 hW (Nat.le_refl _))

/- hasSwitch, hasPort -/
set_option maxHeartbeats 1000000 in
theorem hasSwitchId_any (sv pv av : Value) (S : List Sw) (p : Sw → Bool) (b0 : Nat) (w : World) (hF : SwsAt w sv S) (hpv : ∃ o n c, pv = .slice o n c) (hav : ∃ o n c, av = .slice o n c) (hT : AsksId w b0 p) (hl : S.length * 24 ≤ 140737488355328) :
    Calls Tryz.prog 102 #[.agg #[sv, pv, av], .func (.func 159) #[] #[.pointer (some ⟨b0, 0, none⟩)]] w fun e w' => e = .returned (.bool (S.any p)) ∧ Below w.heap.size w w' := by
  have HI := hide (fun W (hW : Below w.heap.size w W) => hasId_any S p sv b0 W (RowAt.below hF hW (Nat.le_refl _)) (fun W' x hW' => hT W' x (hW.trans (hW'.mono hW.size))) hl)
  obtain ⟨o1, c1, rfl⟩ := hF.slice
  obtain ⟨o2, n2, c2, rfl⟩ := hpv
  obtain ⟨o3, n3, c3, rfl⟩ := hav
  clear hF hT
  generalize S.any p = R at *
  go_enter Tryz.func102, Tryz.ntmps102
  go_wp2_with fail
  have hb0 : Below w.heap.size w (w.alloc (.cells #[.slice o1 S.length c1, .slice o2 n2 c2, .slice o3 n3 c3] 29)) := (Below.refl _ _).alloc (Nat.le_refl _) _
  refine (unhide HI _ hb0).mono ?_
  rintro e w1 ⟨rfl, hb1⟩
  have hb := hb0.trans (hb1.mono hb0.size)
  clear hb1 hb0 HI
  go_wp2_with fail
  go_ret
  exact ⟨rfl, hb⟩
set_option maxHeartbeats 1000000 in
theorem hasSwitchGate_any (sv pv av : Value) (S : List Sw) (p : Sw → Bool) (b0 b1 : Nat) (w : World) (hF : SwsAt w sv S) (hpv : ∃ o n c, pv = .slice o n c) (hav : ∃ o n c, av = .slice o n c) (hT : AsksGate w b0 b1 p) (hl : S.length * 24 ≤ 140737488355328) :
    Calls Tryz.prog 102 #[.agg #[sv, pv, av], .func (.func 160) #[] #[.pointer (some ⟨b0, 0, none⟩), .pointer (some ⟨b1, 0, none⟩)]] w fun e w' => e = .returned (.bool (S.any p)) ∧ Below w.heap.size w w' := by
  have HI := hide (fun W (hW : Below w.heap.size w W) => hasGate_any S p sv b0 b1 W (RowAt.below hF hW (Nat.le_refl _)) (fun W' x hW' => hT W' x (hW.trans (hW'.mono hW.size))) hl)
  obtain ⟨o1, c1, rfl⟩ := hF.slice
  obtain ⟨o2, n2, c2, rfl⟩ := hpv
  obtain ⟨o3, n3, c3, rfl⟩ := hav
  clear hF hT
  generalize S.any p = R at *
  go_enter Tryz.func102, Tryz.ntmps102
  go_wp2_with fail
  have hb0 : Below w.heap.size w (w.alloc (.cells #[.slice o1 S.length c1, .slice o2 n2 c2, .slice o3 n3 c3] 29)) := (Below.refl _ _).alloc (Nat.le_refl _) _
  refine (unhide HI _ hb0).mono ?_
  rintro e w1 ⟨rfl, hb1⟩
  have hb := hb0.trans (hb1.mono hb0.size)
  clear hb1 hb0 HI
  go_wp2_with fail
  go_ret
  exact ⟨rfl, hb⟩
set_option maxHeartbeats 1000000 in
theorem hasSwitchOf_any (sv pv av : Value) (S : List Sw) (p : Sw → Bool) (b0 b1 : Nat) (w : World) (hF : SwsAt w sv S) (hpv : ∃ o n c, pv = .slice o n c) (hav : ∃ o n c, av = .slice o n c) (hT : AsksOf w b0 b1 p) (hl : S.length * 24 ≤ 140737488355328) :
    Calls Tryz.prog 102 #[.agg #[sv, pv, av], .func (.func 162) #[] #[.pointer (some ⟨b0, 0, none⟩), .pointer (some ⟨b1, 0, none⟩)]] w fun e w' => e = .returned (.bool (S.any p)) ∧ Below w.heap.size w w' := by
  have HI := hide (fun W (hW : Below w.heap.size w W) => hasOf_any S p sv b0 b1 W (RowAt.below hF hW (Nat.le_refl _)) (fun W' x hW' => hT W' x (hW.trans (hW'.mono hW.size))) hl)
  obtain ⟨o1, c1, rfl⟩ := hF.slice
  obtain ⟨o2, n2, c2, rfl⟩ := hpv
  obtain ⟨o3, n3, c3, rfl⟩ := hav
  clear hF hT
  generalize S.any p = R at *
  go_enter Tryz.func102, Tryz.ntmps102
  go_wp2_with fail
  have hb0 : Below w.heap.size w (w.alloc (.cells #[.slice o1 S.length c1, .slice o2 n2 c2, .slice o3 n3 c3] 29)) := (Below.refl _ _).alloc (Nat.le_refl _) _
  refine (unhide HI _ hb0).mono ?_
  rintro e w1 ⟨rfl, hb1⟩
  have hb := hb0.trans (hb1.mono hb0.size)
  clear hb1 hb0 HI
  go_wp2_with fail
  go_ret
  exact ⟨rfl, hb⟩
set_option maxHeartbeats 1000000 in
theorem hasPortSame_any (sv pv av : Value) (P : List Pr) (p : Pr → Bool) (b0 : Nat) (w : World) (hsv : ∃ o n c, sv = .slice o n c) (hF : PrsAt w pv P) (hav : ∃ o n c, av = .slice o n c) (hT : AsksSame w b0 p) (hl : P.length * 40 ≤ 140737488355328) :
    Calls Tryz.prog 107 #[.agg #[sv, pv, av], .func (.func 108) #[] #[.pointer (some ⟨b0, 0, none⟩)]] w fun e w' => e = .returned (.bool (P.any p)) ∧ Below w.heap.size w w' := by
  have HI := hide (fun W (hW : Below w.heap.size w W) => hasSame_any P p pv b0 W (RowAt.below hF hW (Nat.le_refl _)) (fun W' x hW' => hT W' x (hW.trans (hW'.mono hW.size))) hl)
  obtain ⟨o1, c1, rfl⟩ := hF.slice
  obtain ⟨o2, n2, c2, rfl⟩ := hsv
  obtain ⟨o3, n3, c3, rfl⟩ := hav
  clear hF hT
  generalize P.any p = R at *
  go_enter Tryz.func107, Tryz.ntmps107
  go_wp2_with fail
  have hb0 : Below w.heap.size w (w.alloc (.cells #[.slice o2 n2 c2, .slice o1 P.length c1, .slice o3 n3 c3] 29)) := (Below.refl _ _).alloc (Nat.le_refl _) _
  refine (unhide HI _ hb0).mono ?_
  rintro e w1 ⟨rfl, hb1⟩
  have hb := hb0.trans (hb1.mono hb0.size)
  clear hb1 hb0 HI
  go_wp2_with fail
  go_ret
  exact ⟨rfl, hb⟩
set_option maxHeartbeats 1000000 in
theorem hasPortIp_any (sv pv av : Value) (P : List Pr) (p : Pr → Bool) (b0 b1 b2 : Nat) (w : World) (hsv : ∃ o n c, sv = .slice o n c) (hF : PrsAt w pv P) (hav : ∃ o n c, av = .slice o n c) (hT : AsksIp w b0 b1 b2 p) (hl : P.length * 40 ≤ 140737488355328) :
    Calls Tryz.prog 107 #[.agg #[sv, pv, av], .func (.func 161) #[] #[.pointer (some ⟨b0, 0, none⟩), .pointer (some ⟨b1, 0, none⟩), .pointer (some ⟨b2, 0, none⟩)]] w fun e w' => e = .returned (.bool (P.any p)) ∧ Below w.heap.size w w' := by
  have HI := hide (fun W (hW : Below w.heap.size w W) => hasIp_any P p pv b0 b1 b2 W (RowAt.below hF hW (Nat.le_refl _)) (fun W' x hW' => hT W' x (hW.trans (hW'.mono hW.size))) hl)
  obtain ⟨o1, c1, rfl⟩ := hF.slice
  obtain ⟨o2, n2, c2, rfl⟩ := hsv
  obtain ⟨o3, n3, c3, rfl⟩ := hav
  clear hF hT
  generalize P.any p = R at *
  go_enter Tryz.func107, Tryz.ntmps107
  go_wp2_with fail
  have hb0 : Below w.heap.size w (w.alloc (.cells #[.slice o2 n2 c2, .slice o1 P.length c1, .slice o3 n3 c3] 29)) := (Below.refl _ _).alloc (Nat.le_refl _) _
  refine (unhide HI _ hb0).mono ?_
  rintro e w1 ⟨rfl, hb1⟩
  have hb := hb0.trans (hb1.mono hb0.size)
  clear hb1 hb0 HI
  go_wp2_with fail
  go_ret
  exact ⟨rfl, hb⟩

end Go.Proofs.YtjcomoinggiedaaGreat

namespace Go.Proofs.YtjcomoinggiedaaGreat
open Go.RowKit
set_option linter.unusedVariables false
set_option maxRecDepth 100000

/-- Has something of a tenant that number? -/
def takenB (S : List Sw) (P : List Pr) (t ip : Int) : Bool := S.any (fun x => x.t == t && x.g == ip) || P.any (fun x => x.p == ip && S.any (fun s => s.i == x.s && s.t == t))

theorem anySlice {α : Type} {C : α → List Value} {sz : Nat} {w : World} {v : Value} {l : List α} (h : RowAt C sz w v l) : ∃ o n c, v = .slice o n c := by
  obtain ⟨o, c, h⟩ := h.slice
  exact ⟨o, _, c, h⟩

set_option maxHeartbeats 2000000 in
theorem isIp_any (x : Pr) (S : List Sw) (sv pv av : Value) (ip t : Int) (bi bc bt : Nat) (w : World) (hS : SwsAt w sv S) (hpv : ∃ o n c, pv = .slice o n c) (hav : ∃ o n c, av = .slice o n c) (h1 : w.cell? ⟨bi, 0, none⟩ = some (.int .i64 ip)) (h2 : w.cell? ⟨bc, 0, none⟩ = some sv) (h3 : w.cell? ⟨bc, 1, none⟩ = some pv) (h4 : w.cell? ⟨bc, 2, none⟩ = some av)
    (h5 : w.cell? ⟨bt, 0, none⟩ = some (.int .i64 t)) (hl : S.length * 24 ≤ 140737488355328) :
    Calls Tryz.prog 161 #[.agg #[.int .i64 x.i, .int .i64 x.s, .int .i64 x.m, .int .i64 x.p, .int .i64 x.c], .pointer (some ⟨bi, 0, none⟩), .pointer (some ⟨bc, 0, none⟩), .pointer (some ⟨bt, 0, none⟩)] w fun e w' => e = .returned (.bool (x.p == ip && S.any (fun s => s.i == x.s && s.t == t))) ∧ Below w.heap.size w w' := by
  have q1 := cell_in h1
  have q2 := cell_in h2
  have q5 := cell_in h5
  have n1 : bi ≠ w.heap.size := by omega
  have n2 : bc ≠ w.heap.size := by omega
  have n5 : bt ≠ w.heap.size := by omega
  obtain ⟨xi, xs, xm, xp, xc⟩ := x
  have HS := hide hS
  have HH : Hid (∀ W : World, Below w.heap.size w W → W.cell? ⟨w.heap.size, 1, none⟩ = some (.int .i64 xs) → Calls Tryz.prog 102 #[.agg #[sv, pv, av], .func (.func 162) #[] #[.pointer (some ⟨w.heap.size, 0, none⟩), .pointer (some ⟨bt, 0, none⟩)]] W fun e w' => e = .returned (.bool (S.any (fun s => s.i == xs && s.t == t))) ∧ Below W.heap.size W w') :=
    fun W hW hx => hasSwitchOf_any sv pv av S _ w.heap.size bt W (RowAt.below hS hW (Nat.le_refl _)) hpv hav (asksOf hx (cell_beh h5 hW (Nat.le_refl _))) hl
  obtain ⟨s1, s2, rfl⟩ := hS.slice
  obtain ⟨p1, pn, p2, rfl⟩ := hpv
  obtain ⟨a1, an, a2, rfl⟩ := hav
  clear hS
  generalize S.any (fun s => s.i == xs && s.t == t) = R at *
  have hb0 : Below w.heap.size w (w.alloc (.cells #[.int .i64 xi, .int .i64 xs, .int .i64 xm, .int .i64 xp, .int .i64 xc] 45)) := (Below.refl _ _).alloc (Nat.le_refl _) _
  go_enter Tryz.func161, Tryz.ntmps161
  by_cases hx : xp = ip
  · subst hx
    go_wp2_with fail
    refine (unhide HH _ hb0 (by simp)).mono ?_
    rintro e w1 ⟨rfl, hb1⟩
    have hb := hb0.trans (hb1.mono hb0.size)
    clear hb1 hb0 HH
    go_wp2_with fail
    go_ret
    exact ⟨bool_ret (by simp), hb⟩
  · clear HH
    go_wp2
    go_ret
    exact ⟨bool_ret (by simp [hx]), hb0⟩

set_option maxHeartbeats 4000000 in
theorem isTaken_any (sv pv av : Value) (S : List Sw) (P : List Pr) (A : List Ac) (t ip : Int) (w : World) (hC : CfAt w sv pv av S P A) (h1 : S.length * 24 ≤ 140737488355328) (h2 : P.length * 40 ≤ 140737488355328) :
    Calls Tryz.prog 104 #[.agg #[sv, pv, av], .int .i64 t, .int .i64 ip] w fun e w' => e = .returned (.bool (takenB S P t ip)) ∧ Below w.heap.size w w' := by
  have HC := hide hC
  have HG : Hid (∀ W : World, Below w.heap.size w W → W.cell? ⟨w.heap.size + 1, 0, none⟩ = some (.int .i64 t) → W.cell? ⟨w.heap.size + 1 + 1, 0, none⟩ = some (.int .i64 ip) → Calls Tryz.prog 102 #[.agg #[sv, pv, av], .func (.func 160) #[] #[.pointer (some ⟨w.heap.size + 1, 0, none⟩), .pointer (some ⟨w.heap.size + 1 + 1, 0, none⟩)]] W fun e w' => e = .returned (.bool (S.any (fun x => x.t == t && x.g == ip))) ∧ Below W.heap.size W w') :=
    fun W hW a b => hasSwitchGate_any sv pv av S _ _ _ W (RowAt.below hC.1 hW (Nat.le_refl _)) (anySlice hC.2.1) (anySlice hC.2.2) (asksGate a b) h1
  have HP : Hid (∀ W : World, Below w.heap.size w W → W.cell? ⟨w.heap.size, 0, none⟩ = some sv → W.cell? ⟨w.heap.size, 1, none⟩ = some pv → W.cell? ⟨w.heap.size, 2, none⟩ = some av → W.cell? ⟨w.heap.size + 1, 0, none⟩ = some (.int .i64 t) → W.cell? ⟨w.heap.size + 1 + 1, 0, none⟩ = some (.int .i64 ip) →
      Calls Tryz.prog 107 #[.agg #[sv, pv, av], .func (.func 161) #[] #[.pointer (some ⟨w.heap.size + 1 + 1, 0, none⟩), .pointer (some ⟨w.heap.size, 0, none⟩), .pointer (some ⟨w.heap.size + 1, 0, none⟩)]] W fun e w' => e = .returned (.bool (P.any (fun x => x.p == ip && S.any (fun s => s.i == x.s && s.t == t)))) ∧ Below W.heap.size W w') :=
    fun W hW c0 c1 c2 a b => hasPortIp_any sv pv av P _ _ _ _ W (anySlice hC.1) (RowAt.below hC.2.1 hW (Nat.le_refl _)) (anySlice hC.2.2)
      (fun W' x hW' => isIp_any x S sv pv av ip t _ _ _ W' (RowAt.below hC.1 (hW.trans (hW'.mono hW.size)) (Nat.le_refl _)) (anySlice hC.2.1) (anySlice hC.2.2) (cell_beh b hW' (Nat.le_refl _)) (cell_beh c0 hW' (Nat.le_refl _)) (cell_beh c1 hW' (Nat.le_refl _)) (cell_beh c2 hW' (Nat.le_refl _)) (cell_beh a hW' (Nat.le_refl _)) h1) h2
  have HR : Hid (takenB S P t ip = (S.any (fun x => x.t == t && x.g == ip) || P.any (fun x => x.p == ip && S.any (fun s => s.i == x.s && s.t == t)))) := rfl
  generalize takenB S P t ip = R at *
  generalize S.any (fun x => x.t == t && x.g == ip) = R1 at *
  generalize P.any (fun x => x.p == ip && S.any (fun s => s.i == x.s && s.t == t)) = R2 at *
  obtain ⟨s1, s2, rfl⟩ := hC.1.slice
  obtain ⟨p1, p2, rfl⟩ := hC.2.1.slice
  obtain ⟨a1, a2, rfl⟩ := hC.2.2.slice
  clear hC HC
  go_enter Tryz.func104, Tryz.ntmps104
  go_wp2_with fail
  obtain ⟨W0, hW0⟩ : ∃ W0, W0 = ((w.alloc (.cells #[.slice s1 S.length s2, .slice p1 P.length p2, .slice a1 A.length a2] 29)).alloc (.cells #[.int .i64 t] 3)).alloc (.cells #[.int .i64 ip] 3) := ⟨_, rfl⟩
  have hb0 : Below w.heap.size w W0 := by rw [hW0]; exact (((Below.refl _ _).alloc (Nat.le_refl _) _).alloc (by simp) _).alloc (by simp; omega) _
  have c0 : W0.cell? ⟨w.heap.size, 0, none⟩ = some (.slice s1 S.length s2) := by rw [hW0]; exact old_cell (old_cell (new_cell w _ rfl _ _ _ _ rfl) _) _
  have c1 : W0.cell? ⟨w.heap.size, 1, none⟩ = some (.slice p1 P.length p2) := by rw [hW0]; exact old_cell (old_cell (new_cell w _ rfl _ _ _ _ rfl) _) _
  have c2 : W0.cell? ⟨w.heap.size, 2, none⟩ = some (.slice a1 A.length a2) := by rw [hW0]; exact old_cell (old_cell (new_cell w _ rfl _ _ _ _ rfl) _) _
  have ct : W0.cell? ⟨w.heap.size + 1, 0, none⟩ = some (.int .i64 t) := by rw [hW0]; exact old_cell (new_cell _ _ (by simp) _ _ _ _ rfl) _
  have ci : W0.cell? ⟨w.heap.size + 1 + 1, 0, none⟩ = some (.int .i64 ip) := by rw [hW0]; exact new_cell _ _ (by simp) _ _ _ _ rfl
  rw [← hW0]
  clear hW0
  refine (unhide HG _ hb0 ct ci).mono ?_
  rintro e w1 ⟨rfl, hb1⟩
  have z0 := cell_beh c0 hb1 (Nat.le_refl _)
  have z1 := cell_beh c1 hb1 (Nat.le_refl _)
  have z2 := cell_beh c2 hb1 (Nat.le_refl _)
  have zt := cell_beh ct hb1 (Nat.le_refl _)
  have zi := cell_beh ci hb1 (Nat.le_refl _)
  have hb01 := hb0.trans (hb1.mono hb0.size)
  clear c0 c1 c2 ct ci hb0 hb1 HG
  cases R1
  · go_wp2_with fail
    refine (unhide HP _ hb01 z0 z1 z2 zt zi).mono ?_
    rintro e w2 ⟨rfl, hb2⟩
    have hb := hb01.trans (hb2.mono hb01.size)
    clear z0 z1 z2 zt zi hb01 hb2 HP
    go_wp2_with fail
    go_ret
    exact ⟨bool_ret (by rw [HR.out]; simp), hb⟩
  · clear z0 z1 z2 zt zi HP
    go_wp2
    go_ret
    exact ⟨bool_ret (by rw [HR.out]; simp), hb01⟩

end Go.Proofs.YtjcomoinggiedaaGreat
