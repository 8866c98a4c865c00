/-
  Plain mathematics: the bits of a word that a mask has.
-/
import GoSem.Claim
namespace Go.Proofs.Ytonhfgdnkkkikac
set_option linter.unusedVariables false
set_option maxRecDepth 100000

/-- The bits of a number that a mask has. -/
def mk (n m : Int) : Int := ((n.toNat &&& m.toNat : Nat) : Int)

/-- .. of the lowest j bits. -/
def mkTo (n m : Int) : Nat → Int
  | 0 => 0
  | j + 1 => mkTo n m j + (if n / 2 ^ j % 2 = 1 ∧ m / 2 ^ j % 2 = 1 then 2 ^ j else 0)

theorem nat_bit (x j : Nat) : x % 2 ^ (j + 1) = x % 2 ^ j + (if x / 2 ^ j % 2 = 1 then 2 ^ j else 0) := by
  rw [Nat.pow_succ, Nat.mod_mul]
  split
  · rename_i h; rw [h, Nat.mul_one]
  · rename_i h
    have : x / 2 ^ j % 2 = 0 := by omega
    rw [this, Nat.mul_zero]

theorem mkTo_nat (a b : Nat) : ∀ j, mkTo a b j = (((a &&& b) % 2 ^ j : Nat) : Int)
  | 0 => by simp [mkTo, Nat.mod_one]
  | j + 1 => by
    simp only [mkTo]
    rw [mkTo_nat a b j, nat_bit (a &&& b) j]
    have e1 : ((a : Int) / 2 ^ j % 2 = 1 ∧ (b : Int) / 2 ^ j % 2 = 1) ↔ ((a &&& b) / 2 ^ j % 2 = 1) := by
      have ha : ((a : Int) / 2 ^ j % 2 = 1) ↔ (a / 2 ^ j % 2 = 1) := by
        rw [show ((a : Int) / 2 ^ j % 2) = ((a / 2 ^ j % 2 : Nat) : Int) by simp]
        omega
      have hb : ((b : Int) / 2 ^ j % 2 = 1) ↔ (b / 2 ^ j % 2 = 1) := by
        rw [show ((b : Int) / 2 ^ j % 2) = ((b / 2 ^ j % 2 : Nat) : Int) by simp]
        omega
      rw [ha, hb]
      have t := Nat.testBit_and a b j
      rw [Nat.testBit_eq_decide_div_mod_eq, Nat.testBit_eq_decide_div_mod_eq, Nat.testBit_eq_decide_div_mod_eq] at t
      have t' : ((a &&& b) / 2 ^ j % 2 = 1) ↔ (a / 2 ^ j % 2 = 1 ∧ b / 2 ^ j % 2 = 1) := by
        rw [← decide_eq_true_iff (p := (a &&& b) / 2 ^ j % 2 = 1), t, Bool.and_eq_true, decide_eq_true_iff, decide_eq_true_iff]
      exact t'.symm
    by_cases h : (a &&& b) / 2 ^ j % 2 = 1
    · rw [if_pos (e1.2 h), if_pos h]; simp
    · rw [if_neg (fun x => h (e1.1 x)), if_neg h]; simp

theorem mkTo_16 (n m : Int) (hn0 : 0 ≤ n) (hn1 : n ≤ 65535) (hm0 : 0 ≤ m) (hm1 : m ≤ 65535) : mkTo n m 16 = mk n m := by
  obtain ⟨a, rfl⟩ := Int.eq_ofNat_of_zero_le hn0
  obtain ⟨b, rfl⟩ := Int.eq_ofNat_of_zero_le hm0
  rw [mkTo_nat]
  unfold mk
  rw [Int.toNat_natCast, Int.toNat_natCast, Nat.mod_eq_of_lt]
  have := Nat.and_le_left (n := a) (m := b)
  omega

theorem mkTo_bd (n m : Int) (hn0 : 0 ≤ n) (hm0 : 0 ≤ m) : ∀ j, 0 ≤ mkTo n m j ∧ mkTo n m j < 2 ^ j
  | j => by
    obtain ⟨a, rfl⟩ := Int.eq_ofNat_of_zero_le hn0
    obtain ⟨b, rfl⟩ := Int.eq_ofNat_of_zero_le hm0
    rw [mkTo_nat]
    have h := Nat.mod_lt (a &&& b) (Nat.two_pow_pos j)
    exact ⟨by omega, by exact_mod_cast h⟩

end Go.Proofs.Ytonhfgdnkkkikac
