/-
  What wire.Check answers, for every frame: the number 'fault'.
-/
import Derived.Test.YtonhfgdnkkkikacBa
namespace Go.Proofs.Ytonhfgdnkkkikac
set_option linter.unusedVariables false
set_option maxRecDepth 100000
open Go.RowKit

def kindB (n : Int) : Bool := decide (1 ≤ n ∧ n ≤ 3)
def lifeB (n : Int) : Bool := decide (0 ≤ n ∧ n ≤ 255)

set_option maxHeartbeats 400000 in
theorem isKind_any (n : Int) (w : World) :
    Calls Try.prog 86 #[.int .i64 n] w fun e w' => e = .returned (.bool (kindB n)) ∧ w' = w := by
  go_enter Try.func86, Try.ntmps86
  go_wp2
  all_goals go_ret
  all_goals refine ⟨bool_ret ?_, rfl⟩
  all_goals (unfold kindB; rw [Bool.eq_iff_iff]; simp_all; try omega)

set_option maxHeartbeats 400000 in
theorem isWord_any (n : Int) (w : World) :
    Calls Try.prog 109 #[.int .i64 n] w fun e w' => e = .returned (.bool (wordB n)) ∧ w' = w := by
  go_enter Try.func109, Try.ntmps109
  go_wp2
  all_goals go_ret
  all_goals refine ⟨bool_ret ?_, rfl⟩
  all_goals (unfold wordB; rw [Bool.eq_iff_iff]; simp_all; try omega)

theorem toList_none (b : ByteArray) : b.toList = [] ↔ b = ByteArray.empty := by
  rw [ByteArray.toList_eq, ← ByteArray.size_eq_zero_iff]
  show b.data.toList = [] ↔ b.data.size = 0
  rw [← Array.length_toList, List.length_eq_zero_iff]

/-- A frame as a value. -/
abbrev fr (dst src kind ips ipd ttl port : Int) (body : ByteArray) : Value :=
  .agg #[.int .i64 dst, .int .i64 src, .int .i64 kind, .int .i64 ips, .int .i64 ipd, .int .i64 ttl, .int .i64 port, .string body]

def loadB (ttl port : Int) (n : Nat) : Bool := decide (ttl ≠ 0 ∨ port ≠ 0 ∨ n ≠ 0)
def boundsB (dst src ips ipd ttl port : Int) : Bool := wordB dst && wordB src && wordB ips && wordB ipd && wordB port && lifeB ttl

set_option maxHeartbeats 1000000 in
theorem inBounds_any (dst src kind ips ipd ttl port : Int) (body : ByteArray) (w : World) :
    Calls Try.prog 87 #[fr dst src kind ips ipd ttl port body] w fun e w' => e = .returned (.bool (boundsB dst src ips ipd ttl port)) ∧ Below w.heap.size w w' := by
  go_enter Try.func87, Try.ntmps87
  go_wp2_with (go_at_call 109; refine (isWord_any _ _).mono ?_; rintro e w' ⟨rfl, rfl⟩)
  all_goals go_ret
  all_goals refine ⟨bool_ret ?_, (Below.refl _ _).alloc (Nat.le_refl _) _⟩
  all_goals (unfold boundsB lifeB; rw [Bool.eq_iff_iff]; simp_all; try omega)

set_option maxHeartbeats 1000000 in
theorem hasLoad_any (dst src kind ips ipd ttl port : Int) (body : ByteArray) (w : World) :
    Calls Try.prog 88 #[fr dst src kind ips ipd ttl port body] w fun e w' => e = .returned (.bool (loadB ttl port body.size)) ∧ Below w.heap.size w w' := by
  go_enter Try.func88, Try.ntmps88
  go_wp2
  all_goals go_ret
  all_goals refine ⟨bool_ret ?_, (Below.refl _ _).alloc (Nat.le_refl _) _⟩
  all_goals (unfold loadB; rw [Bool.eq_iff_iff]; simp_all [toList_none])

/-- What is wrong with a frame: P1.1's number. -/
def fault (dst src kind ips ipd ttl port : Int) (n : Nat) : Int :=
  if kindB kind then (if boundsB dst src ips ipd ttl port then (if 40 < n then 1 else if kind ≠ 3 ∧ loadB ttl port n = true then 4 else 0) else 2) else 3

set_option maxHeartbeats 1000000 in
theorem check_any (dst src kind ips ipd ttl port : Int) (body : ByteArray) (w : World) (hb : body.size ≤ maxLen) :
    Calls Try.prog 58 #[fr dst src kind ips ipd ttl port body] w fun e w' => e = .returned (.int .i64 (fault dst src kind ips ipd ttl port body.size)) ∧ Below w.heap.size w w' := by
  unfold maxLen at hb
  go_enter Try.func58, Try.ntmps58
  go_wp2_with (first | (go_at_call 86; refine (isKind_any _ _).mono ?_; rintro e w' ⟨rfl, rfl⟩) | (go_at_call 87; refine (inBounds_any _ _ _ _ _ _ _ _ _).mono ?_; rintro e w1 ⟨rfl, hb1⟩; obtain ⟨hc1, hf1⟩ := bcell hb1) | (go_at_call 88; refine (hasLoad_any _ _ _ _ _ _ _ _ _).mono ?_; rintro e w2 ⟨rfl, hb2⟩))
  all_goals go_ret
  all_goals refine ⟨int_ret ?_, ?_⟩
  all_goals first | exact (Below.refl _ _).alloc (Nat.le_refl _) _ | exact ((Below.refl _ _).alloc (Nat.le_refl _) _).trans (hb1.mono (by simp)) | exact (((Below.refl _ _).alloc (Nat.le_refl _) _).trans (hb1.mono (by simp))).trans (hb2.mono (by have := hb1.size; simp at this; omega)) | (unfold fault; simp_all; try omega)

end Go.Proofs.Ytonhfgdnkkkikac
