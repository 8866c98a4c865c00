/-
  What flow.isField, flow.isMatch, flow.isDoes answer.
-/
import Derived.Test.YtonhfgdnkkkikacFp
import Derived.Test.YtonhfgdnkkkikacFd
namespace Go.Proofs.Ytonhfgdnkkkikac
open Go.RowKit
set_option linter.unusedVariables false
set_option maxRecDepth 100000

set_option maxHeartbeats 400000 in
theorem fIsField_any (n : Int) (w : World) :
    Calls Try.prog 107 #[.int .i64 n] w fun e w' => e = .returned (.bool (fieldB n)) ∧ w' = w := by
  go_enter Try.func107, Try.ntmps107
  go_wp2
  all_goals go_ret
  all_goals refine ⟨bool_ret ?_, rfl⟩
  all_goals (unfold fieldB; rw [Bool.eq_iff_iff]; simp_all; try omega)

set_option maxHeartbeats 2000000 in
theorem isDoes_any (kind a n table : Int) (w : World) :
    Calls Try.prog 108 #[.agg #[.int .i64 kind, .int .i64 a, .int .i64 n], .int .i64 table] w fun e w' => e = .returned (.bool (doesB kind a n table true)) ∧ Below w.heap.size w w' := by
  have HI := hide fIsField_any
  have HJ := hide fIsWord_any
  have hcase : kind = 1 ∨ kind = 2 ∨ kind = 3 ∨ kind = 4 ∨ kind = 5 ∨ kind = 6 ∨ (¬ kind = 1 ∧ ¬ kind = 2 ∧ ¬ kind = 3 ∧ ¬ kind = 4 ∧ ¬ kind = 5 ∧ ¬ kind = 6) := by omega
  rcases hcase with rfl | rfl | rfl | rfl | rfl | rfl | ⟨h1, h2, h3, h4, h5, h6⟩
  all_goals
    go_enter Try.func108, Try.ntmps108
    go_wp2_with (first | (go_at_call 107; refine (unhide HI _ _).mono ?_; rintro e w' ⟨rfl, rfl⟩) | (go_at_call 56; refine (unhide HJ _ _).mono ?_; rintro e w' ⟨rfl, rfl⟩))
    all_goals go_ret
    all_goals refine ⟨bool_ret ?_, (Below.refl _ _).alloc (Nat.le_refl _) _⟩
    all_goals (unfold doesB; simp_all [fieldB, wordB]; try (first | (intros; omega) | (rw [Bool.eq_iff_iff]; simp; omega)))

theorem and_not_iff (x y : BitVec 64) : x &&& ~~~y = 0#64 ↔ x &&& y = x := by
  constructor
  · intro h
    apply BitVec.eq_of_getLsbD_eq
    intro i hi
    have := congrArg (fun z => BitVec.getLsbD z i) h
    simp [hi] at this
    simp [hi]
    exact this
  · intro h
    apply BitVec.eq_of_getLsbD_eq
    intro i hi
    have := congrArg (fun z => BitVec.getLsbD z i) h
    simp [hi] at this
    simp [hi]
    exact this

theorem ofInt_word (a : Nat) (h : a ≤ 65535) : (BitVec.ofInt 64 (a : Int)).toNat = a := by
  simp
  omega

theorem andNot_word (v m : Int) (hv : wordB v = true) (hm : wordB m = true) : (bits .andNot .i64 v m == 0) = (mk v m == v) := by
  unfold wordB at hv hm
  simp at hv hm
  obtain ⟨a, rfl⟩ := Int.eq_ofNat_of_zero_le hv.1
  obtain ⟨b, rfl⟩ := Int.eq_ofNat_of_zero_le hm.1
  have ha := ofInt_word a (by omega)
  have hb := ofInt_word b (by omega)
  show (IntKind.i64.wrap ((BitVec.ofInt 64 (a : Int) &&& ~~~BitVec.ofInt 64 (b : Int)).toNat : Int) == 0) = _
  generalize BitVec.ofInt 64 (a : Int) = X at ha ⊢
  generalize BitVec.ofInt 64 (b : Int) = Y at hb ⊢
  have hle : (X &&& ~~~Y).toNat ≤ a := by rw [BitVec.toNat_and, ha]; exact Nat.and_le_left
  rw [wrapI _ (by omega) (by omega)]
  have e1 : (X &&& ~~~Y).toNat = 0 ↔ (X &&& Y).toNat = X.toNat := by
    have h := and_not_iff X Y
    rw [← BitVec.toNat_inj, ← BitVec.toNat_inj] at h
    simpa using h
  rw [BitVec.toNat_and (x := X) (y := Y), ha, hb] at e1
  unfold mk
  rw [Bool.eq_iff_iff, beq_iff_eq, beq_iff_eq, Int.toNat_natCast, Int.toNat_natCast]
  constructor
  · intro h
    rw [e1.1 (by exact_mod_cast h)]
  · intro h
    rw [e1.2 (by exact_mod_cast h)]
    rfl

set_option maxHeartbeats 2000000 in
theorem isMatch_any (f m v : Int) (w : World) :
    Calls Try.prog 84 #[.agg #[.int .i64 f, .int .i64 m, .int .i64 v]] w fun e w' => e = .returned (.bool (matchB ⟨f, m, v⟩)) ∧ Below w.heap.size w w' := by
  have HI := hide fIsField_any
  have HJ := hide fIsWord_any
  have HR : Hid (matchB ⟨f, m, v⟩ = (fieldB f && wordB m && wordB v && (mk v m == v))) := rfl
  generalize matchB ⟨f, m, v⟩ = R at HR ⊢
  go_enter Try.func84, Try.ntmps84
  go_wp2_with (first | (go_at_call 107; refine (unhide HI _ _).mono ?_; rintro e w' ⟨rfl, rfl⟩) | (go_at_call 56; refine (unhide HJ _ _).mono ?_; rintro e w' ⟨rfl, rfl⟩))
  all_goals go_ret
  all_goals refine ⟨bool_ret ?_, (Below.refl _ _).alloc (Nat.le_refl _) _⟩
  all_goals (rw [HR.out]; try simp_all)
  all_goals (apply andNot_word <;> assumption)

end Go.Proofs.Ytonhfgdnkkkikac
