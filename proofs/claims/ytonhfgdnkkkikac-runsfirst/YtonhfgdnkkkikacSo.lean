/-
  Flows of the call's own, as they lie in a row; what P2.3's sorting answers, plain mathematics.
-/
import Derived.Test.YtonhfgdnkkkikacRfc
namespace Go.Proofs.Ytonhfgdnkkkikac
open Go.RowKit
set_option linter.unusedVariables false
set_option maxRecDepth 100000

theorem MsAt.kept {w w' : World} {v : Value} {ms : List Mt} {row : Option Nat} (h : MsAt w v ms) (hg : w.grownBy w' row) (hne : v.ownBlock = none ∨ v.ownBlock ≠ row) : MsAt w' v ms := by
  obtain ⟨a, cap, rfl, hn, h0 | ⟨b, off, rfl, hc, hL⟩⟩ := h
  · exact ⟨a, cap, rfl, hn, .inl h0⟩
  · have hne' : some b ≠ row := by
      rcases hne with h | h
      · simp [Value.ownBlock] at h
      · simpa [Value.ownBlock] using h
    refine ⟨_, cap, rfl, hn, .inr ⟨b, off, rfl, hc, fun i hi => ?_⟩⟩
    obtain ⟨e0, e1, e2⟩ := hL i hi
    exact ⟨(hg.cell_far _ (cell_lt e0) hne').trans e0, (hg.cell_far _ (cell_lt e1) hne').trans e1, (hg.cell_far _ (cell_lt e2) hne').trans e2⟩
theorem DsAt.kept {w w' : World} {v : Value} {ds : List Do} {row : Option Nat} (h : DsAt w v ds) (hg : w.grownBy w' row) (hne : v.ownBlock = none ∨ v.ownBlock ≠ row) : DsAt w' v ds := by
  obtain ⟨a, cap, rfl, hn, h0 | ⟨b, off, rfl, hc, hL⟩⟩ := h
  · exact ⟨a, cap, rfl, hn, .inl h0⟩
  · have hne' : some b ≠ row := by
      rcases hne with h | h
      · simp [Value.ownBlock] at h
      · simpa [Value.ownBlock] using h
    refine ⟨_, cap, rfl, hn, .inr ⟨b, off, rfl, hc, fun i hi => ?_⟩⟩
    obtain ⟨e0, e1, e2⟩ := hL i hi
    exact ⟨(hg.cell_far _ (cell_lt e0) hne').trans e0, (hg.cell_far _ (cell_lt e1) hne').trans e1, (hg.cell_far _ (cell_lt e2) hne').trans e2⟩

theorem M_length (l : List Mt) : (M l).length = 3 * l.length := by
  induction l with
  | nil => rfl
  | cons x r ih => simp [M] at ih ⊢; omega
theorem M_at : ∀ (l : List Mt) (i : Nat), i < l.length → (M l)[i * 3]? = some (.int .i64 (l.getD i mt0).f) ∧ (M l)[i * 3 + 1]? = some (.int .i64 (l.getD i mt0).m) ∧ (M l)[i * 3 + 2]? = some (.int .i64 (l.getD i mt0).v)
  | [], i, h => by simp at h
  | x :: r, 0, _ => ⟨rfl, rfl, rfl⟩
  | x :: r, i + 1, h => by
    have ih := M_at r i (by simpa using h)
    have e : ∀ j, (M (x :: r))[(i + 1) * 3 + j]? = (M r)[i * 3 + j]? := fun j => by
      have : (i + 1) * 3 + j = i * 3 + j + 3 := by omega
      rw [this]; rfl
    refine ⟨?_, ?_, ?_⟩
    · have := e 0; simp only [Nat.add_zero] at this; rw [this]; simpa using ih.1
    · rw [e 1]; simpa using ih.2.1
    · rw [e 2]; simpa using ih.2.2
theorem D_at : ∀ (l : List Do) (i : Nat), i < l.length → (D l)[i * 3]? = some (.int .i64 (l.getD i do0).k) ∧ (D l)[i * 3 + 1]? = some (.int .i64 (l.getD i do0).a) ∧ (D l)[i * 3 + 2]? = some (.int .i64 (l.getD i do0).n)
  | [], i, h => by simp at h
  | x :: r, 0, _ => ⟨rfl, rfl, rfl⟩
  | x :: r, i + 1, h => by
    have ih := D_at r i (by simpa using h)
    have e : ∀ j, (D (x :: r))[(i + 1) * 3 + j]? = (D r)[i * 3 + j]? := fun j => by
      have : (i + 1) * 3 + j = i * 3 + j + 3 := by omega
      rw [this]; rfl
    refine ⟨?_, ?_, ?_⟩
    · have := e 0; simp only [Nat.add_zero] at this; rw [this]; simpa using ih.1
    · rw [e 1]; simpa using ih.2.1
    · rw [e 2]; simpa using ih.2.2

/-- What a row of the call's own holds, as what came in is said. -/
theorem MsAt.of_own {w : World} {B : Nat} {v : Value} {ms : List Mt} (h : w.ownsRow B 35 3 v ms.length (M ms)) : MsAt w v ms := by
  by_cases h0 : ms.length = 0
  · obtain ⟨_, ⟨rfl, hn⟩ | ⟨g, cap, cur, rfl, _⟩⟩ := h
    · exact ⟨none, 0, by rw [h0], fun _ => rfl, .inl h0⟩
    · exact ⟨_, cap, rfl, by simp, .inl h0⟩
  · obtain ⟨g, cap, rfl, _, _⟩ := h.form (by omega)
    have hc : ms.length ≤ cap := by
      obtain ⟨_, ⟨h, _⟩ | ⟨g', cap', cur, h, _, _, hc, _⟩⟩ := h
      · simp at h
      · simp only [Value.slice.injEq] at h
        omega
    refine ⟨_, cap, rfl, by simp, .inr ⟨g, 0, rfl, hc, fun i hi => ?_⟩⟩
    obtain ⟨e0, e1, e2⟩ := M_at ms i hi
    simp only [Nat.zero_add]
    exact ⟨(h.cellAt _ (by omega)).trans e0, (h.cellAt _ (by omega)).trans e1, (h.cellAt _ (by omega)).trans e2⟩
theorem DsAt.of_own {w : World} {B : Nat} {v : Value} {ds : List Do} (h : w.ownsRow B 38 3 v ds.length (D ds)) : DsAt w v ds := by
  by_cases h0 : ds.length = 0
  · obtain ⟨_, ⟨rfl, hn⟩ | ⟨g, cap, cur, rfl, _⟩⟩ := h
    · exact ⟨none, 0, by rw [h0], fun _ => rfl, .inl h0⟩
    · exact ⟨_, cap, rfl, by simp, .inl h0⟩
  · obtain ⟨g, cap, rfl, _, _⟩ := h.form (by omega)
    have hc : ds.length ≤ cap := by
      obtain ⟨_, ⟨h, _⟩ | ⟨g', cap', cur, h, _, _, hc, _⟩⟩ := h
      · simp at h
      · simp only [Value.slice.injEq] at h
        omega
    refine ⟨_, cap, rfl, by simp, .inr ⟨g, 0, rfl, hc, fun i hi => ?_⟩⟩
    obtain ⟨e0, e1, e2⟩ := D_at ds i hi
    simp only [Nat.zero_add]
    exact ⟨(h.cellAt _ (by omega)).trans e0, (h.cellAt _ (by omega)).trans e1, (h.cellAt _ (by omega)).trans e2⟩

/-- P2.3: what stands behind k flows of a sorted row, one more being laid in: and whether it is in. -/
def nx (f : Fl) (out : List Fl) : Nat → List Fl × Bool
  | 0 => ([], false)
  | k + 1 =>
    let d1 := (nx f out k).2 || (plc f (out.getD k fl0) == 0)
    if plc f (out.getD k fl0) < 0 ∧ d1 = false then ((nx f out k).1 ++ [f, out.getD k fl0], true) else ((nx f out k).1 ++ [out.getD k fl0], d1)
def put1 (f : Fl) (out : List Fl) : List Fl := if (nx f out out.length).2 then (nx f out out.length).1 else (nx f out out.length).1 ++ [f]
def srt (l : List Fl) : Nat → List Fl
  | 0 => []
  | k + 1 => put1 (l.getD k fl0) (srt l k)
theorem nx_length (f : Fl) (out : List Fl) : ∀ k, (nx f out k).1.length ≤ k + 1 ∧ ((nx f out k).2 = false → (nx f out k).1.length = k)
  | 0 => ⟨by simp [nx], fun _ => by simp [nx]⟩
  | k + 1 => by
    obtain ⟨h1, h2⟩ := nx_length f out k
    unfold nx
    simp only
    split
    · rename_i h
      have h3 : (nx f out k).2 = false := by
        have := h.2
        simp at this
        exact this.1
      exact ⟨by simp [h2 h3], fun h => by simp at h⟩
    · refine ⟨by simp; omega, fun h => ?_⟩
      simp at h
      simp [h2 h.1]
theorem put1_length (f : Fl) (out : List Fl) : (put1 f out).length ≤ out.length + 1 := by
  obtain ⟨h1, h2⟩ := nx_length f out out.length
  unfold put1
  split
  · exact h1
  · rename_i h
    simp [h2 (by simpa using h)]
theorem srt_length (l : List Fl) : ∀ k, (srt l k).length ≤ k
  | 0 => by simp [srt]
  | k + 1 => by
    have := srt_length l k
    have := put1_length (l.getD k fl0) (srt l k)
    unfold srt
    omega

end Go.Proofs.Ytonhfgdnkkkikac
