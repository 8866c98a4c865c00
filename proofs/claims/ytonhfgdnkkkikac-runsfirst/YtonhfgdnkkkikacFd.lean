/-
  P2.1, plain mathematics: what is wrong with flows.
-/
import Derived.Test.YtonhfgdnkkkikacFl
namespace Go.Proofs.Ytonhfgdnkkkikac
open Go.RowKit
set_option linter.unusedVariables false
set_option maxRecDepth 100000

/-- May a flow of a table do this? P2.1. -/
def doesB (kind a n table : Int) (last : Bool) : Bool :=
  if kind = 1 then decide (0 ≤ a ∧ a ≤ 9) && decide (0 ≤ n ∧ n ≤ 65535)
  else if kind = 2 then decide (0 ≤ a ∧ a ≤ 9) && decide (0 ≤ n ∧ n ≤ 9)
  else if kind = 3 then decide (0 ≤ a ∧ a ≤ 9) && (n == 0)
  else if kind = 4 then (a == 0) && decide (table + 1 ≤ n ∧ n ≤ 7) && last
  else if kind = 5 then (a == 0) && decide (0 ≤ n ∧ n ≤ 65535)
  else if kind = 6 then (a == 0) && decide (0 ≤ n ∧ n ≤ 5)
  else false

def fieldB (n : Int) : Bool := decide (0 ≤ n ∧ n ≤ 9)
def tableB (n : Int) : Bool := decide (0 ≤ n ∧ n ≤ 7)
def prioB (n : Int) : Bool := decide (0 ≤ n ∧ n ≤ 2000)
def matchB (m : Mt) : Bool := fieldB m.f && wordB m.m && wordB m.v && (mk m.v m.m == m.v)
def doB (t : Int) (ds : List Do) (j : Nat) : Bool := doesB (ds.getD j do0).k (ds.getD j do0).a (ds.getD j do0).n t ((j : Int) + 1 == (ds.length : Int))
/-- P2.1: what is wrong with a flow. -/
def flFault (f : Fl) : Int :=
  if 12 < f.ms.length ∨ 100 < f.ds.length then 1 else if (tableB f.t && prioB f.p) = false then 2 else if f.ms.all matchB = false then 4 else
    if (List.range f.ds.length).all (doB f.t f.ds) = false then 4 else 0
def fsFault1 : List Fl → Int
  | [] => 0
  | f :: r => if flFault f = 0 then fsFault1 r else flFault f
def fsFault (fs : List Fl) : Int := if 5000 < fs.length then 1 else fsFault1 fs

theorem fs_at : ∀ (fs : List Fl) (k : Nat), k < fs.length → (∀ j, j < k → flFault (fs.getD j fl0) = 0) → flFault (fs.getD k fl0) ≠ 0 → fsFault1 fs = flFault (fs.getD k fl0)
  | [], k, h, _, _ => by simp at h
  | f :: r, 0, _, _, hn => by
    simp only [fsFault1]
    rw [if_neg (by simpa using hn)]
    rfl
  | f :: r, k + 1, h, ha, hn => by
    have h0 := ha 0 (by omega)
    simp only [fsFault1]
    rw [if_pos (by simpa using h0)]
    have := fs_at r k (by simpa using h) (fun j hj => by simpa using ha (j + 1) (by omega)) (by simpa using hn)
    simpa using this
theorem fs_all : ∀ (fs : List Fl), (∀ j, j < fs.length → flFault (fs.getD j fl0) = 0) → fsFault1 fs = 0
  | [], _ => rfl
  | f :: r, h => by
    simp only [fsFault1]
    rw [if_pos (by simpa using h 0 (by simp))]
    exact fs_all r (fun j hj => by simpa using h (j + 1) (by simpa using hj))

theorem flFault_size {f : Fl} (h : 12 < f.ms.length ∨ 100 < f.ds.length) : flFault f = 1 := by unfold flFault; rw [if_pos h]
theorem flFault_range {f : Fl} (h : ¬ (12 < f.ms.length ∨ 100 < f.ds.length)) (h2 : (tableB f.t && prioB f.p) = false) : flFault f = 2 := by unfold flFault; rw [if_neg h, if_pos h2]
theorem flFault_match {f : Fl} (h : ¬ (12 < f.ms.length ∨ 100 < f.ds.length)) (h2 : (tableB f.t && prioB f.p) = true) (j : Nat) (hj : j < f.ms.length) (h3 : matchB (f.ms.getD j mt0) = false) : flFault f = 4 := by
  have : f.ms.all matchB = false := by
    rw [List.all_eq_false]
    exact ⟨f.ms[j], List.getElem_mem hj, by simpa [List.getD, List.getElem?_eq_getElem hj] using h3⟩
  unfold flFault; rw [if_neg h, if_neg (by simp [h2]), if_pos this]
theorem all_match {f : Fl} (h : ∀ j, j < f.ms.length → matchB (f.ms.getD j mt0) = true) : f.ms.all matchB = true := by
  rw [List.all_eq_true]
  intro x hx
  obtain ⟨i, hi, rfl⟩ := List.getElem_of_mem hx
  have := h i hi
  simpa [List.getD, List.getElem?_eq_getElem hi] using this
theorem flFault_does {f : Fl} (h : ¬ (12 < f.ms.length ∨ 100 < f.ds.length)) (h2 : (tableB f.t && prioB f.p) = true) (h3 : f.ms.all matchB = true) (j : Nat) (hj : j < f.ds.length) (h4 : doB f.t f.ds j = false) : flFault f = 4 := by
  have : (List.range f.ds.length).all (doB f.t f.ds) = false := by
    rw [List.all_eq_false]
    exact ⟨j, List.mem_range.2 hj, by simpa using h4⟩
  unfold flFault; rw [if_neg h, if_neg (by simp [h2]), if_neg (by simp [h3]), if_pos this]
theorem flFault_ok {f : Fl} (h : ¬ (12 < f.ms.length ∨ 100 < f.ds.length)) (h2 : (tableB f.t && prioB f.p) = true) (h3 : f.ms.all matchB = true) (h4 : ∀ j, j < f.ds.length → doB f.t f.ds j = true) : flFault f = 0 := by
  have : (List.range f.ds.length).all (doB f.t f.ds) = true := by
    rw [List.all_eq_true]
    intro j hj
    exact h4 j (List.mem_range.1 hj)
  unfold flFault; rw [if_neg h, if_neg (by simp [h2]), if_neg (by simp [h3]), if_neg (by simp [this])]

end Go.Proofs.Ytonhfgdnkkkikac
