/-
  Plain mathematics of P1.2's sum and of bytes: no program.
-/
import GoSem.Claim
import Derived.Laws.BytesArg
namespace Go.Proofs.Ytonhfgdnkkkikac
set_option linter.unusedVariables false
set_option maxRecDepth 100000

/-- What goes above 65535 carried round: the number from 1 to 65535 that leaves what T leaves by 65535 (0: 0). -/
def norm (T : Int) : Int := if T = 0 then 0 else (T - 1) % 65535 + 1

theorem norm_small (T : Int) (h0 : 0 ≤ T) (h : T ≤ 65535) : norm T = T := by unfold norm; split <;> omega
theorem norm_bd (T : Int) (h0 : 0 ≤ T) : 0 ≤ norm T ∧ norm T ≤ 65535 := by unfold norm; split <;> omega
theorem norm_carry (T : Int) (h : 65535 < T) : norm (T % 65536 + T / 65536) = norm T := by
  unfold norm
  rw [if_neg (by omega), if_neg (by omega)]
  omega
theorem norm_add (T c : Int) (h0 : 0 ≤ T) (hc : 0 ≤ c) (hc2 : c ≤ 65280) :
    norm (T + c) = if norm T + c > 65535 then norm T + c - 65535 else norm T + c := by
  unfold norm
  by_cases h1 : T = 0
  · subst h1; simp only [if_true]; split <;> split <;> omega
  · rw [if_neg h1]
    rw [if_neg (by omega)]
    split <;> omega

/-- The weight of a byte at a place. -/
def wt (i : Nat) (c : Int) : Int := if i % 2 = 0 then 256 * c else c
/-- The words of the first k bytes, added. -/
def tot (l : List Int) : Nat → Int
  | 0 => 0
  | k + 1 => tot l k + wt k (l.getD k 0)

/-- Each is a byte. -/
def Bs (l : List Int) : Prop := ∀ n ∈ l, 0 ≤ n ∧ n ≤ 255
theorem Bs.at {l : List Int} (h : Bs l) (k : Nat) : 0 ≤ l.getD k 0 ∧ l.getD k 0 ≤ 255 := by
  by_cases hk : k < l.length
  · have := h l[k] (List.getElem_mem hk)
    simpa [List.getD, List.getElem?_eq_getElem hk] using this
  · simp [List.getD, List.getElem?_eq_none (by omega : l.length ≤ k)]
theorem Bs.nil : Bs [] := fun n h => by cases h
theorem Bs.append {a b : List Int} (ha : Bs a) (hb : Bs b) : Bs (a ++ b) := fun n h => by
  rcases List.mem_append.1 h with h | h
  · exact ha n h
  · exact hb n h
theorem Bs.take {a : List Int} (ha : Bs a) (k : Nat) : Bs (a.take k) := fun n h => ha n (List.mem_of_mem_take h)
theorem Bs.drop {a : List Int} (ha : Bs a) (k : Nat) : Bs (a.drop k) := fun n h => ha n (List.mem_of_mem_drop h)

theorem wt_bd (i : Nat) (c : Int) (h0 : 0 ≤ c) (h : c ≤ 255) : 0 ≤ wt i c ∧ wt i c ≤ 65280 := by unfold wt; split <;> omega
theorem tot_bd {l : List Int} (h : Bs l) : ∀ k : Nat, 0 ≤ tot l k ∧ tot l k ≤ 65280 * k
  | 0 => by simp [tot]
  | k + 1 => by
    have h1 := tot_bd h k
    have h2 := h.at k
    have h3 := wt_bd k _ h2.1 h2.2
    simp only [tot]
    omega

/-- P1.2's sum. -/
def sm (l : List Int) : Int := 65535 - norm (tot l l.length)
theorem sm_bd {l : List Int} (h : Bs l) : 0 ≤ sm l ∧ sm l ≤ 65535 := by
  have h1 := tot_bd h l.length
  have h2 := norm_bd (tot l l.length) h1.1
  unfold sm; omega

/-- Two bytes of a word, the higher one first. -/
def word (n : Int) : List Int := [n / 256, n % 256]
theorem word_bs (n : Int) (h0 : 0 ≤ n) (h : n ≤ 65535) : Bs (word n) := fun x hx => by
  simp [word] at hx
  rcases hx with rfl | rfl <;> omega

/-- A text's bytes. -/
def nums (s : ByteArray) : List Int := s.data.toList.map fun b => (b.toNat : Int)
theorem nums_length (s : ByteArray) : (nums s).length = s.size := by simp [nums]
theorem nums_bs (s : ByteArray) : Bs (nums s) := fun x hx => by
  simp only [nums, List.mem_map] at hx
  obtain ⟨b, _, rfl⟩ := hx
  have := b.toNat_lt
  omega

/-- Numbers as bytes of memory. -/
def U (l : List Int) : List Value := l.map (Value.int .u8)
theorem U_length (l : List Int) : (U l).length = l.length := by simp [U]
theorem U_append (a b : List Int) : U (a ++ b) = U a ++ U b := by simp [U]
theorem U_one (l : List Int) : ∀ u ∈ U l, u.oneCell' = true := fun u hu => by
  simp only [U, List.mem_map] at hu
  obtain ⟨n, _, rfl⟩ := hu
  rfl

/-- P1.3: a frame's bytes without the sum, and with it. -/
def enc0 (dst src kind ips ipd ttl port : Int) (body : ByteArray) : List Int :=
  word dst ++ word src ++ [kind, ttl] ++ word ips ++ word ipd ++ word port ++ word body.size ++ nums body
def enc (dst src kind ips ipd ttl port : Int) (body : ByteArray) : List Int :=
  enc0 dst src kind ips ipd ttl port body ++ word (sm (enc0 dst src kind ips ipd ttl port body))

theorem enc0_length (dst src kind ips ipd ttl port : Int) (body : ByteArray) : (enc0 dst src kind ips ipd ttl port body).length = 14 + body.size := by
  simp [enc0, word, nums_length]; omega

end Go.Proofs.Ytonhfgdnkkkikac
