/-
  Mathematics of RunsFirst: a flow that is stronger than all others, and fits, tells alone.
-/
import Derived.Test.YtonhfgdnkkkikacRn
namespace Go.Proofs.Ytonhfgdnkkkikac
open Go.RowKit
set_option linter.unusedVariables false
set_option maxRecDepth 100000

theorem fs1_all : ∀ {fs : List Fl}, (∀ f ∈ fs, flFault f = 0) → fsFault1 fs = 0
  | [], _ => rfl
  | f :: r, h => by
    unfold fsFault1
    rw [if_pos (h f (by simp))]
    exact fs1_all fun g hg => h g (by simp [hg])
theorem fs_may {fs : List Fl} (hl : fs.length ≤ 5000) (h : ∀ f ∈ fs, flFault f = 0) : fsFault fs = 0 := by
  unfold fsFault
  rw [if_neg (by omega)]
  exact fs1_all h
theorem mk_all {n : Int} (h0 : 0 ≤ n) (h1 : n ≤ 65535) : mk n 65535 = n := by
  unfold mk
  have e : (65535 : Int).toNat = 2 ^ 16 - 1 := rfl
  rw [e, Nat.and_two_pow_sub_one_eq_mod, Nat.mod_eq_of_lt (by omega)]
  omega
/-- The strong flow of RunsFirst. -/
def strong (n : Int) : Fl := ⟨0, 9, [⟨0, 65535, n⟩], [⟨1, 9, 7⟩, ⟨5, 0, 3⟩]⟩
theorem strong_may {n : Int} (h0 : 0 ≤ n) (h1 : n ≤ 65535) : flFault (strong n) = 0 := by
  unfold flFault strong
  have hm : matchB ⟨0, 65535, n⟩ = true := by
    unfold matchB
    rw [mk_all h0 h1]
    simp [fieldB, wordB]
    omega
  simp [hm, tableB, prioB]
  intro x hx
  have : x = 0 ∨ x = 1 := by omega
  rcases this with rfl | rfl <;> rfl
def pkt0 (n : Int) : List Int := [n, 0, 0, 0, 0, 0, 0, 0, 0, 0]
theorem first_tells {fs : List Fl} {n : Int} (h0 : 0 ≤ n) (h1 : n ≤ 65535) (hp : ∀ f ∈ fs, f.p ≤ 3) : ran (fs ++ [strong n]) (pkt0 n) = [⟨5, 3, [n, 0, 0, 0, 0, 0, 0, 0, 0, 7]⟩] := by
  have hlast : (fs ++ [strong n]).getD fs.length fl0 = strong n := by simp [List.getD]
  have hfit : fitB (pkt0 n) 0 (strong n) = true := by
    simp [fitB, fitsB, strong, pkt0, mk_all h0 h1]
  have hb : bestTo (fs ++ [strong n]) (pkt0 n) 0 (fs ++ [strong n]).length = (fs.length : Int) := by
    refine (bestTo_best _ _ _ _).unique (.inr ⟨fs.length, rfl, by omega, by simp, by rw [hlast]; exact hfit, fun i _ hi hf => ?_⟩)
    rw [hlast]
    by_cases e : i = fs.length
    · subst e; rw [hlast]; exact ⟨Int.le_refl _, fun h => absurd h (by omega)⟩
    · have hi' : i < fs.length := by simp at hi; omega
      have : (fs ++ [strong n]).getD i fl0 = fs[i] := by simp [List.getD, List.getElem?_append_left hi', List.getElem?_eq_getElem hi']
      rw [this]
      have := hp fs[i] (List.getElem_mem hi')
      have e9 : (strong n).p = 9 := rfl
      exact ⟨by omega, fun _ => by omega⟩
  have hd : dsOf (fs ++ [strong n]) (fs.length : Int) = (strong n).ds := by
    unfold dsOf
    rw [if_neg (by omega), Int.toNat_natCast, hlast]
  unfold ran runN
  rw [if_neg (by simp)]
  have ht : table (fs ++ [strong n]) ⟨pkt0 n, 0, []⟩ = ⟨[n, 0, 0, 0, 0, 0, 0, 0, 0, 7], 8, [⟨5, 3, [n, 0, 0, 0, 0, 0, 0, 0, 0, 7]⟩]⟩ := by
    unfold table
    simp only
    rw [hb, hd]
    rfl
  rw [ht, runN_end _ _ (by simp)]

end Go.Proofs.Ytonhfgdnkkkikac
