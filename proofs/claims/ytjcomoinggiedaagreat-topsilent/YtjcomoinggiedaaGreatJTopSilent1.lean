/- Texts joined: Ba, Wa, Pm, Pk, Bb, Pf0, Mk, Fl, Fd, Rn, Fp, Fk, Fk2, Fr, Fc, Fc2, Fc3, Fn, Cn. -/
import Derived.Test.YtjcomoinggiedaaGreatRows
import Derived.WalkKit
import Derived.WalkSpells
import Derived.WalkLawsBesides
import Derived.Below
import Derived.Deep.Light
import Derived.OwnWalk
import GoSem.Claim
import Derived.Laws.BytesArg
import Derived.Laws.IdiomCopy
import Derived.Deep.RegionHeld3
import Derived.Deep.QuietTactic
import Derived.BigQuiet
import Derived.Laws.BitsLemmas
import Derived.Deep.RegionLaw
import Derived.Deep.AppendLies
namespace Go.Proofs.YtjcomoinggiedaaGreat
set_option linter.unusedVariables false
set_option maxRecDepth 100000
open Go.RowKit

theorem hide {p : Prop} (h : p) : Hid p := h
theorem unhide {p : Prop} (h : Hid p) : p := h

def wordB (n : Int) : Bool := decide (0 ≤ n ∧ n ≤ 65535)

theorem bool_ret {a b : Bool} (h : a = b) : Ending.returned (.bool a) = .returned (.bool b) := by rw [h]
theorem int_ret {k : IntKind} {a b : Int} (h : a = b) : Ending.returned (.int k a) = .returned (.int k b) := by rw [h]

theorem bcell {W w1 : World} (hb : Below W.heap.size W w1) : (∀ b o, b < W.heap.size → w1.cell? ⟨b, o, none⟩ = W.cell? ⟨b, o, none⟩) ∧ (∀ b o, b < W.heap.size → w1.frozen? ⟨b, o, none⟩ = W.frozen? ⟨b, o, none⟩) :=
  ⟨fun b o h => hb.cell (p := ⟨b, o, none⟩) h, fun b o h => hb.frozen (p := ⟨b, o, none⟩) h⟩

/-- What a slice owns lies from the base on. -/
theorem own_ge {w : World} {B : Nat} {e : TypeId} {size : Nat} {v : Value} {n : Nat} {xs : List Value} (h : w.ownsRow B e size v n xs) : ∀ k, v.ownBlock = some k → B ≤ k := by
  intro k hk
  obtain ⟨_, ⟨rfl, _⟩ | ⟨g, cap, cur, rfl, hg, _⟩⟩ := h
  · simp [Value.ownBlock] at hk
  · simp [Value.ownBlock] at hk; omega

theorem bcell2 {B : Nat} {W w1 : World} (hb : Below B W w1) : (∀ b o, b < B → w1.cell? ⟨b, o, none⟩ = W.cell? ⟨b, o, none⟩) ∧ (∀ b o, b < B → w1.frozen? ⟨b, o, none⟩ = W.frozen? ⟨b, o, none⟩) :=
  ⟨fun b o h => hb.cell (p := ⟨b, o, none⟩) h, fun b o h => hb.frozen (p := ⟨b, o, none⟩) h⟩

theorem own_less {w : World} {B B' : Nat} {e : TypeId} {size : Nat} {v : Value} {n : Nat} {xs : List Value} (h : w.ownsRow B e size v n xs) (hB : B' ≤ B) : w.ownsRow B' e size v n xs := by
  obtain ⟨h1, h2 | ⟨g, cap, cur, hv, hg, h3⟩⟩ := h
  · exact ⟨h1, .inl h2⟩
  · exact ⟨h1, .inr ⟨g, cap, cur, hv, by omega, h3⟩⟩

theorem Below.grown0 {w w' : World} (h : Below w.heap.size w w') : w.grownBy w' none := ⟨h.os, h.tape, h.output, h.size, fun k hk _ => h.block k hk⟩
theorem own_below {w w' : World} {B e size n : Nat} {v : Value} {xs : List Value} (h : w.ownsRow B e size v n xs) (hb : Below w.heap.size w w') : w'.ownsRow B e size v n xs := by
  refine h.kept (Below.grown0 hb) ?_
  cases v.ownBlock
  · exact .inl rfl
  · exact .inr (by simp)

end Go.Proofs.YtjcomoinggiedaaGreat

namespace Go.Proofs.YtjcomoinggiedaaGreat
set_option linter.unusedVariables false
set_option maxRecDepth 100000
open Go.RowKit

def kindB (n : Int) : Bool := decide (1 ≤ n ∧ n ≤ 3)
def lifeB (n : Int) : Bool := decide (0 ≤ n ∧ n ≤ 255)

set_option maxHeartbeats 400000 in
theorem isKind_any (n : Int) (w : World) :
    Calls Tryz.prog 87 #[.int .i64 n] w fun e w' => e = .returned (.bool (kindB n)) ∧ w' = w := by
  go_enter Tryz.func87, Tryz.ntmps87
  go_wp2
  all_goals go_ret
  all_goals refine ⟨bool_ret ?_, rfl⟩
  all_goals (unfold kindB; rw [Bool.eq_iff_iff]; simp_all; try omega)

set_option maxHeartbeats 400000 in
theorem isWord_any (n : Int) (w : World) :
    Calls Tryz.prog 144 #[.int .i64 n] w fun e w' => e = .returned (.bool (wordB n)) ∧ w' = w := by
  go_enter Tryz.func144, Tryz.ntmps144
  go_wp2
  all_goals go_ret
  all_goals refine ⟨bool_ret ?_, rfl⟩
  all_goals (unfold wordB; rw [Bool.eq_iff_iff]; simp_all; try omega)

theorem toList_none (b : ByteArray) : b.toList = [] ↔ b = ByteArray.empty := by
  rw [ByteArray.toList_eq, ← ByteArray.size_eq_zero_iff]
  show b.data.toList = [] ↔ b.data.size = 0
  rw [← Array.length_toList, List.length_eq_zero_iff]

/-- A frame as a value. -/
abbrev fr (dst src kind ips ipd ttl port : Int) (body : ByteArray) : Value :=
  .agg #[.int .i64 dst, .int .i64 src, .int .i64 kind, .int .i64 ips, .int .i64 ipd, .int .i64 ttl, .int .i64 port, .string body]

def loadB (ttl port : Int) (n : Nat) : Bool := decide (ttl ≠ 0 ∨ port ≠ 0 ∨ n ≠ 0)
def boundsB (dst src ips ipd ttl port : Int) : Bool := wordB dst && wordB src && wordB ips && wordB ipd && wordB port && lifeB ttl

set_option maxHeartbeats 1000000 in
theorem inBounds_any (dst src kind ips ipd ttl port : Int) (body : ByteArray) (w : World) :
    Calls Tryz.prog 88 #[fr dst src kind ips ipd ttl port body] w fun e w' => e = .returned (.bool (boundsB dst src ips ipd ttl port)) ∧ Below w.heap.size w w' := by
  go_enter Tryz.func88, Tryz.ntmps88
  go_wp2_with (go_at_call 144; refine (isWord_any _ _).mono ?_; rintro e w' ⟨rfl, rfl⟩)
  all_goals go_ret
  all_goals refine ⟨bool_ret ?_, (Below.refl _ _).alloc (Nat.le_refl _) _⟩
  all_goals (unfold boundsB lifeB; rw [Bool.eq_iff_iff]; simp_all; try omega)

set_option maxHeartbeats 1000000 in
theorem hasLoad_any (dst src kind ips ipd ttl port : Int) (body : ByteArray) (w : World) :
    Calls Tryz.prog 89 #[fr dst src kind ips ipd ttl port body] w fun e w' => e = .returned (.bool (loadB ttl port body.size)) ∧ Below w.heap.size w w' := by
  go_enter Tryz.func89, Tryz.ntmps89
  go_wp2
  all_goals go_ret
  all_goals refine ⟨bool_ret ?_, (Below.refl _ _).alloc (Nat.le_refl _) _⟩
  all_goals (unfold loadB; rw [Bool.eq_iff_iff]; simp_all [toList_none])

/-- What is wrong with a frame: P1.1's number. -/
def fault (dst src kind ips ipd ttl port : Int) (n : Nat) : Int :=
  if kindB kind then (if boundsB dst src ips ipd ttl port then (if 40 < n then 1 else if kind ≠ 3 ∧ loadB ttl port n = true then 4 else 0) else 2) else 3

set_option maxHeartbeats 1000000 in
theorem check_any (dst src kind ips ipd ttl port : Int) (body : ByteArray) (w : World) (hb : body.size ≤ maxLen) :
    Calls Tryz.prog 53 #[fr dst src kind ips ipd ttl port body] w fun e w' => e = .returned (.int .i64 (fault dst src kind ips ipd ttl port body.size)) ∧ Below w.heap.size w w' := by
  unfold maxLen at hb
  go_enter Tryz.func53, Tryz.ntmps53
  go_wp2_with (first | (go_at_call 87; refine (isKind_any _ _).mono ?_; rintro e w' ⟨rfl, rfl⟩) | (go_at_call 88; refine (inBounds_any _ _ _ _ _ _ _ _ _).mono ?_; rintro e w1 ⟨rfl, hb1⟩; obtain ⟨hc1, hf1⟩ := bcell hb1) | (go_at_call 89; refine (hasLoad_any _ _ _ _ _ _ _ _ _).mono ?_; rintro e w2 ⟨rfl, hb2⟩))
  all_goals go_ret
  all_goals refine ⟨int_ret ?_, ?_⟩
  all_goals first | exact (Below.refl _ _).alloc (Nat.le_refl _) _ | exact ((Below.refl _ _).alloc (Nat.le_refl _) _).trans (hb1.mono (by simp)) | exact (((Below.refl _ _).alloc (Nat.le_refl _) _).trans (hb1.mono (by simp))).trans (hb2.mono (by have := hb1.size; simp at this; omega)) | (unfold fault; simp_all; try omega)

end Go.Proofs.YtjcomoinggiedaaGreat

namespace Go.Proofs.YtjcomoinggiedaaGreat
set_option linter.unusedVariables false
set_option maxRecDepth 100000

/-- What goes above 65535 carried round: the number from 1 to 65535 that leaves what T leaves by 65535 (0: 0). -/
def norm (T : Int) : Int := if T = 0 then 0 else (T - 1) % 65535 + 1

theorem norm_small (T : Int) (h0 : 0 ≤ T) (h : T ≤ 65535) : norm T = T := by unfold norm; split <;> omega
theorem norm_bd (T : Int) (h0 : 0 ≤ T) : 0 ≤ norm T ∧ norm T ≤ 65535 := by unfold norm; split <;> omega
theorem norm_carry (T : Int) (h : 65535 < T) : norm (T % 65536 + T / 65536) = norm T := by
  unfold norm
  rw [if_neg (by omega), if_neg (by omega)]
  omega
theorem norm_add (T c : Int) (h0 : 0 ≤ T) (hc : 0 ≤ c) (hc2 : c ≤ 65280) :
    norm (T + c) = if norm T + c > 65535 then norm T + c - 65535 else norm T + c := by
  unfold norm
  by_cases h1 : T = 0
  · subst h1; simp only [if_true]; split <;> split <;> omega
  · rw [if_neg h1]
    rw [if_neg (by omega)]
    split <;> omega

/-- The weight of a byte at a place. -/
def wt (i : Nat) (c : Int) : Int := if i % 2 = 0 then 256 * c else c
/-- The words of the first k bytes, added. -/
def tot (l : List Int) : Nat → Int
  | 0 => 0
  | k + 1 => tot l k + wt k (l.getD k 0)

/-- Each is a byte. -/
def Bs (l : List Int) : Prop := ∀ n ∈ l, 0 ≤ n ∧ n ≤ 255
theorem Bs.at {l : List Int} (h : Bs l) (k : Nat) : 0 ≤ l.getD k 0 ∧ l.getD k 0 ≤ 255 := by
  by_cases hk : k < l.length
  · have := h l[k] (List.getElem_mem hk)
    simpa [List.getD, List.getElem?_eq_getElem hk] using this
  · simp [List.getD, List.getElem?_eq_none (by omega : l.length ≤ k)]
theorem Bs.nil : Bs [] := fun n h => by cases h
theorem Bs.append {a b : List Int} (ha : Bs a) (hb : Bs b) : Bs (a ++ b) := fun n h => by
  rcases List.mem_append.1 h with h | h
  · exact ha n h
  · exact hb n h
theorem Bs.take {a : List Int} (ha : Bs a) (k : Nat) : Bs (a.take k) := fun n h => ha n (List.mem_of_mem_take h)
theorem Bs.drop {a : List Int} (ha : Bs a) (k : Nat) : Bs (a.drop k) := fun n h => ha n (List.mem_of_mem_drop h)

theorem wt_bd (i : Nat) (c : Int) (h0 : 0 ≤ c) (h : c ≤ 255) : 0 ≤ wt i c ∧ wt i c ≤ 65280 := by unfold wt; split <;> omega
theorem tot_bd {l : List Int} (h : Bs l) : ∀ k : Nat, 0 ≤ tot l k ∧ tot l k ≤ 65280 * k
  | 0 => by simp [tot]
  | k + 1 => by
    have h1 := tot_bd h k
    have h2 := h.at k
    have h3 := wt_bd k _ h2.1 h2.2
    simp only [tot]
    omega

/-- P1.2's sum. -/
def sm (l : List Int) : Int := 65535 - norm (tot l l.length)
theorem sm_bd {l : List Int} (h : Bs l) : 0 ≤ sm l ∧ sm l ≤ 65535 := by
  have h1 := tot_bd h l.length
  have h2 := norm_bd (tot l l.length) h1.1
  unfold sm; omega

/-- Two bytes of a word, the higher one first. -/
def word (n : Int) : List Int := [n / 256, n % 256]
theorem word_bs (n : Int) (h0 : 0 ≤ n) (h : n ≤ 65535) : Bs (word n) := fun x hx => by
  simp [word] at hx
  rcases hx with rfl | rfl <;> omega

/-- A text's bytes. -/
def nums (s : ByteArray) : List Int := s.data.toList.map fun b => (b.toNat : Int)
theorem nums_length (s : ByteArray) : (nums s).length = s.size := by simp [nums]
theorem nums_bs (s : ByteArray) : Bs (nums s) := fun x hx => by
  simp only [nums, List.mem_map] at hx
  obtain ⟨b, _, rfl⟩ := hx
  have := b.toNat_lt
  omega

/-- Numbers as bytes of memory. -/
def U (l : List Int) : List Value := l.map (Value.int .u8)
theorem U_length (l : List Int) : (U l).length = l.length := by simp [U]
theorem U_append (a b : List Int) : U (a ++ b) = U a ++ U b := by simp [U]
theorem U_one (l : List Int) : ∀ u ∈ U l, u.oneCell' = true := fun u hu => by
  simp only [U, List.mem_map] at hu
  obtain ⟨n, _, rfl⟩ := hu
  rfl

/-- P1.3: a frame's bytes without the sum, and with it. -/
def enc0 (dst src kind ips ipd ttl port : Int) (body : ByteArray) : List Int :=
  word dst ++ word src ++ [kind, ttl] ++ word ips ++ word ipd ++ word port ++ word body.size ++ nums body
def enc (dst src kind ips ipd ttl port : Int) (body : ByteArray) : List Int :=
  enc0 dst src kind ips ipd ttl port body ++ word (sm (enc0 dst src kind ips ipd ttl port body))

theorem enc0_length (dst src kind ips ipd ttl port : Int) (body : ByteArray) : (enc0 dst src kind ips ipd ttl port body).length = 14 + body.size := by
  simp [enc0, word, nums_length]; omega

end Go.Proofs.YtjcomoinggiedaaGreat

namespace Go.Proofs.YtjcomoinggiedaaGreat
open Go.RowKit
set_option linter.unusedVariables false
set_option maxRecDepth 100000

/-- A packet as a value. -/
abbrev pkt (f0 f1 f2 f3 f4 f5 f6 f7 f8 f9 : Int) (body : ByteArray) : Value :=
  .agg #[.int .i64 f0, .int .i64 f1, .int .i64 f2, .int .i64 f3, .int .i64 f4, .int .i64 f5, .int .i64 f6, .int .i64 f7, .int .i64 f8, .int .i64 f9, .string body]

/-- A packet lies at a block. -/
def PkAt (w : World) (b : Nat) (F : List Int) (body : ByteArray) : Prop :=
  F.length = 10 ∧ (∀ i, i < 10 → w.cell? ⟨b, i, none⟩ = some (.int .i64 (F.getD i 0))) ∧ w.cell? ⟨b, 10, none⟩ = some (.string body)

theorem pkAt_new (w : World) (t : TypeId) (f0 f1 f2 f3 f4 f5 f6 f7 f8 f9 : Int) (body : ByteArray) :
    PkAt (w.alloc (.cells #[.int .i64 f0, .int .i64 f1, .int .i64 f2, .int .i64 f3, .int .i64 f4, .int .i64 f5, .int .i64 f6, .int .i64 f7, .int .i64 f8, .int .i64 f9, .string body] t)) w.heap.size [f0, f1, f2, f3, f4, f5, f6, f7, f8, f9] body := by
  refine ⟨rfl, fun i hi => ?_, by simp⟩
  have hc : i = 0 ∨ i = 1 ∨ i = 2 ∨ i = 3 ∨ i = 4 ∨ i = 5 ∨ i = 6 ∨ i = 7 ∨ i = 8 ∨ i = 9 := by omega
  rcases hc with rfl | rfl | rfl | rfl | rfl | rfl | rfl | rfl | rfl | rfl <;> simp

theorem PkAt.below {w w' : World} {b B : Nat} {F : List Int} {body : ByteArray} (h : PkAt w b F body) (hb : Below B w w') (hB : b < B) : PkAt w' b F body :=
  ⟨h.1, fun i hi => (hb.cell (p := ⟨b, i, none⟩) hB).trans (h.2.1 i hi), (hb.cell (p := ⟨b, 10, none⟩) hB).trans h.2.2⟩

/-- P2.2: what is wrong with a packet. -/
def pktFault (F : List Int) (n : Nat) : Int := if F.all wordB then (if 40 < n then 1 else 0) else 2

theorem all_of (F : List Int) (k : Nat) (h : ∀ j, j < k → wordB (F.getD j 0) = true) (hk : k = F.length) : F.all wordB = true := by
  rw [List.all_eq_true]
  intro x hx
  obtain ⟨i, hi, rfl⟩ := List.getElem_of_mem hx
  have := h i (by omega)
  simpa [List.getD, List.getElem?_eq_getElem hi] using this
theorem not_all_of (F : List Int) (k : Nat) (hk : k < F.length) (h : wordB (F.getD k 0) = false) : F.all wordB = false := by
  rw [List.all_eq_false]
  exact ⟨F[k], List.getElem_mem hk, by simpa [List.getD, List.getElem?_eq_getElem hk] using h⟩

end Go.Proofs.YtjcomoinggiedaaGreat

namespace Go.Proofs.YtjcomoinggiedaaGreat
open Go.RowKit
set_option linter.unusedVariables false
set_option maxRecDepth 100000

theorem cell_in {w : World} {b o : Nat} {v : Value} (h : w.cell? ⟨b, o, none⟩ = some v) : b < w.heap.size := by
  rcases Nat.lt_or_ge b w.heap.size with h' | h'
  · exact h'
  · simp [World.cell?, Array.getElem?_eq_none h'] at h
theorem cell_beh {w w' : World} {B b o : Nat} {v : Value} (h : w.cell? ⟨b, o, none⟩ = some v) (hb : Below B w w') (hB : w.heap.size ≤ B) : w'.cell? ⟨b, o, none⟩ = some v :=
  (hb.cell (p := ⟨b, o, none⟩) (Nat.lt_of_lt_of_le (cell_in h) hB)).trans h
theorem new_cell (W : World) (n : Nat) (h : W.heap.size = n) (cs : Array Value) (t : TypeId) (j : Nat) (v : Value) (hv : cs[j]? = some v) : (W.alloc (.cells cs t)).cell? ⟨n, j, none⟩ = some v := by
  subst h
  simp [hv]
theorem old_cell {W : World} {b o : Nat} {v : Value} (h : W.cell? ⟨b, o, none⟩ = some v) (x : Obj) : (W.alloc x).cell? ⟨b, o, none⟩ = some v := cell_beh h ((Below.refl _ _).alloc (Nat.le_refl _) _) (Nat.le_refl _)

theorem new_frozen (W : World) (n : Nat) (h : W.heap.size = n) (cs : Array Value) (t : TypeId) (j : Nat) : (W.alloc (.cells cs t)).frozen? ⟨n, j, none⟩ = false := by
  subst h
  simp
theorem old_frozen {W : World} {b o : Nat} (hb : b < W.heap.size) (h : W.frozen? ⟨b, o, none⟩ = false) (x : Obj) : (W.alloc x).frozen? ⟨b, o, none⟩ = false := (((Below.refl W.heap.size W).alloc (Nat.le_refl _) x).frozen (p := ⟨b, o, none⟩) hb).trans h

/-- Cells that were filled. -/
theorem fill_at {w : World} {b : Nat} {vs : List Value} (h : ∀ j, j < vs.length → (w.cell? ⟨b, j, none⟩).isSome = true) {j : Nat} {v : Value} (hv : vs[j]? = some v) : (w.setCells b 0 vs).cell? ⟨b, j, none⟩ = some v := by
  have hj : j < vs.length := by
    rcases Nat.lt_or_ge j vs.length with h' | h'
    · exact h'
    · simp [List.getElem?_eq_none h'] at hv
  have := World.cell?_setCells_in b vs 0 w (fun k hk => by rw [Nat.zero_add]; exact h k hk) j hj
  rw [Nat.zero_add] at this
  rw [this]
  rw [List.getElem?_eq_getElem hj] at hv
  exact hv
theorem fill_below {B b : Nat} {a : World} (hb : B ≤ b) : ∀ (vs : List Value) (o : Nat) (w : World), Below B a w → Below B a (w.setCells b o vs)
  | [], _, _, h => h
  | v :: vs, o, w, h => fill_below hb vs (o + 1) _ (h.setCell hb v)
theorem new_cell_range (W : World) (n : Nat) (h : W.heap.size = n) (cs : Array Value) (t : TypeId) (j : Nat) (hj : j < cs.size) : ((W.alloc (.cells cs t)).cell? ⟨n, j, none⟩).isSome = true := by
  rw [new_cell W n h cs t j cs[j] (by simp [hj])]
  rfl

end Go.Proofs.YtjcomoinggiedaaGreat

namespace Go.Proofs.YtjcomoinggiedaaGreat
open Go.RowKit
set_option linter.unusedVariables false
set_option maxRecDepth 100000

set_option maxHeartbeats 4000000 in
theorem pFrame_any (g0 g1 g2 g3 g4 g5 g6 g7 g8 g9 : Int) (body : ByteArray) (w : World) (hb : body.size ≤ maxLen) :
    Calls Tryz.prog 131 #[pkt g0 g1 g2 g3 g4 g5 g6 g7 g8 g9 body] w fun e w' => e = .returned (.tuple #[if fault g1 g2 g3 g4 g5 g6 g7 body.size = 0 then fr g1 g2 g3 g4 g5 g6 g7 body else fr 0 0 0 0 0 0 0 ⟨#[]⟩, .int .i64 (fault g1 g2 g3 g4 g5 g6 g7 body.size)]) ∧ Below w.heap.size w w' := by
  have H1 := hide (fun W => check_any g1 g2 g3 g4 g5 g6 g7 body W hb)
  generalize fault g1 g2 g3 g4 g5 g6 g7 body.size = E at *
  go_enter Tryz.func131, Tryz.ntmps131
  go_wp2_with fail
  obtain ⟨W0, hW0⟩ : ∃ W0, W0 = ((w.alloc (.cells #[.int .i64 g0, .int .i64 g1, .int .i64 g2, .int .i64 g3, .int .i64 g4, .int .i64 g5, .int .i64 g6, .int .i64 g7, .int .i64 g8, .int .i64 g9, .string body] 108)).alloc (.cells #[.int .i64 0, .int .i64 0, .int .i64 0, .int .i64 0, .int .i64 0, .int .i64 0, .int .i64 0, .string ⟨#[]⟩] 32)).alloc (.cells #[.int .i64 g1, .int .i64 g2, .int .i64 g3, .int .i64 g4, .int .i64 g5, .int .i64 g6, .int .i64 g7, .string body] 32) := ⟨_, rfl⟩
  have k0 : Below w.heap.size w W0 := by rw [hW0]; exact (((Below.refl _ w).alloc (Nat.le_refl _) _).alloc (by simp) _).alloc (by simp; omega) _
  have hz0 : W0.heap.size = w.heap.size + 1 + 1 + 1 := by rw [hW0]; simp
  have r0 : W0.cell? ⟨w.heap.size + 1, 0, none⟩ = some (.int .i64 0) := by rw [hW0]; exact old_cell (new_cell _ _ (by simp) _ _ _ _ rfl) _
  have r1 : W0.cell? ⟨w.heap.size + 1, 1, none⟩ = some (.int .i64 0) := by rw [hW0]; exact old_cell (new_cell _ _ (by simp) _ _ _ _ rfl) _
  have r2 : W0.cell? ⟨w.heap.size + 1, 2, none⟩ = some (.int .i64 0) := by rw [hW0]; exact old_cell (new_cell _ _ (by simp) _ _ _ _ rfl) _
  have r3 : W0.cell? ⟨w.heap.size + 1, 3, none⟩ = some (.int .i64 0) := by rw [hW0]; exact old_cell (new_cell _ _ (by simp) _ _ _ _ rfl) _
  have r4 : W0.cell? ⟨w.heap.size + 1, 4, none⟩ = some (.int .i64 0) := by rw [hW0]; exact old_cell (new_cell _ _ (by simp) _ _ _ _ rfl) _
  have r5 : W0.cell? ⟨w.heap.size + 1, 5, none⟩ = some (.int .i64 0) := by rw [hW0]; exact old_cell (new_cell _ _ (by simp) _ _ _ _ rfl) _
  have r6 : W0.cell? ⟨w.heap.size + 1, 6, none⟩ = some (.int .i64 0) := by rw [hW0]; exact old_cell (new_cell _ _ (by simp) _ _ _ _ rfl) _
  have r7 : W0.cell? ⟨w.heap.size + 1, 7, none⟩ = some (.string ⟨#[]⟩) := by rw [hW0]; exact old_cell (new_cell _ _ (by simp) _ _ _ _ rfl) _
  have f0 : W0.cell? ⟨w.heap.size + 1 + 1, 0, none⟩ = some (.int .i64 g1) := by rw [hW0]; exact new_cell _ _ (by simp) _ _ _ _ rfl
  have f1 : W0.cell? ⟨w.heap.size + 1 + 1, 1, none⟩ = some (.int .i64 g2) := by rw [hW0]; exact new_cell _ _ (by simp) _ _ _ _ rfl
  have f2 : W0.cell? ⟨w.heap.size + 1 + 1, 2, none⟩ = some (.int .i64 g3) := by rw [hW0]; exact new_cell _ _ (by simp) _ _ _ _ rfl
  have f3 : W0.cell? ⟨w.heap.size + 1 + 1, 3, none⟩ = some (.int .i64 g4) := by rw [hW0]; exact new_cell _ _ (by simp) _ _ _ _ rfl
  have f4 : W0.cell? ⟨w.heap.size + 1 + 1, 4, none⟩ = some (.int .i64 g5) := by rw [hW0]; exact new_cell _ _ (by simp) _ _ _ _ rfl
  have f5 : W0.cell? ⟨w.heap.size + 1 + 1, 5, none⟩ = some (.int .i64 g6) := by rw [hW0]; exact new_cell _ _ (by simp) _ _ _ _ rfl
  have f6 : W0.cell? ⟨w.heap.size + 1 + 1, 6, none⟩ = some (.int .i64 g7) := by rw [hW0]; exact new_cell _ _ (by simp) _ _ _ _ rfl
  have f7 : W0.cell? ⟨w.heap.size + 1 + 1, 7, none⟩ = some (.string body) := by rw [hW0]; exact new_cell _ _ (by simp) _ _ _ _ rfl
  have z : ∀ j, W0.frozen? ⟨w.heap.size + 1, j, none⟩ = false := fun j => by rw [hW0]; exact old_frozen (by simp) (new_frozen _ _ (by simp) _ _ _) _
  rw [← hW0]
  clear hW0
  refine (unhide H1 _).mono ?_
  rintro e w1 ⟨rfl, hb1⟩
  have k1 := k0.trans (hb1.mono k0.size)
  replace r0 := cell_beh r0 hb1 (Nat.le_refl _)
  replace r1 := cell_beh r1 hb1 (Nat.le_refl _)
  replace r2 := cell_beh r2 hb1 (Nat.le_refl _)
  replace r3 := cell_beh r3 hb1 (Nat.le_refl _)
  replace r4 := cell_beh r4 hb1 (Nat.le_refl _)
  replace r5 := cell_beh r5 hb1 (Nat.le_refl _)
  replace r6 := cell_beh r6 hb1 (Nat.le_refl _)
  replace r7 := cell_beh r7 hb1 (Nat.le_refl _)
  replace f0 := cell_beh f0 hb1 (Nat.le_refl _)
  replace f1 := cell_beh f1 hb1 (Nat.le_refl _)
  replace f2 := cell_beh f2 hb1 (Nat.le_refl _)
  replace f3 := cell_beh f3 hb1 (Nat.le_refl _)
  replace f4 := cell_beh f4 hb1 (Nat.le_refl _)
  replace f5 := cell_beh f5 hb1 (Nat.le_refl _)
  replace f6 := cell_beh f6 hb1 (Nat.le_refl _)
  replace f7 := cell_beh f7 hb1 (Nat.le_refl _)
  replace z : ∀ j, w1.frozen? ⟨w.heap.size + 1, j, none⟩ = false := fun j => (hb1.frozen (p := ⟨w.heap.size + 1, j, none⟩) (by show w.heap.size + 1 < W0.heap.size; omega)).trans (z j)
  clear hb1 k0 H1 hz0
  by_cases hE : ¬ E = 0
  · clear f0 f1 f2 f3 f4 f5 f6 f7
    go_wp2_with fail
    have hS : ((((((((w1.setCell ⟨w.heap.size + 1, 0, none⟩ (.int .i64 0)).setCell ⟨w.heap.size + 1, 1, none⟩ (.int .i64 0)).setCell ⟨w.heap.size + 1, 2, none⟩ (.int .i64 0)).setCell ⟨w.heap.size + 1, 3, none⟩ (.int .i64 0)).setCell ⟨w.heap.size + 1, 4, none⟩ (.int .i64 0)).setCell ⟨w.heap.size + 1, 5, none⟩ (.int .i64 0)).setCell ⟨w.heap.size + 1, 6, none⟩ (.int .i64 0)).setCell ⟨w.heap.size + 1, 7, none⟩ (.string ⟨#[]⟩)) = w1.setCells (w.heap.size + 1) 0 [Value.int .i64 0, .int .i64 0, .int .i64 0, .int .i64 0, .int .i64 0, .int .i64 0, .int .i64 0, .string ⟨#[]⟩] := rfl
    have HB : Hid (Below w.heap.size w ((((((((w1.setCell ⟨w.heap.size + 1, 0, none⟩ (.int .i64 0)).setCell ⟨w.heap.size + 1, 1, none⟩ (.int .i64 0)).setCell ⟨w.heap.size + 1, 2, none⟩ (.int .i64 0)).setCell ⟨w.heap.size + 1, 3, none⟩ (.int .i64 0)).setCell ⟨w.heap.size + 1, 4, none⟩ (.int .i64 0)).setCell ⟨w.heap.size + 1, 5, none⟩ (.int .i64 0)).setCell ⟨w.heap.size + 1, 6, none⟩ (.int .i64 0)).setCell ⟨w.heap.size + 1, 7, none⟩ (.string ⟨#[]⟩))) := by rw [hS]; exact fill_below (Nat.le_succ _) _ _ _ (k1)
    have HI : Hid (∀ j, j < 8 → (w1.cell? ⟨w.heap.size + 1, j, none⟩).isSome = true) := fun j hj => by
      have hc : j = 0 ∨ j = 1 ∨ j = 2 ∨ j = 3 ∨ j = 4 ∨ j = 5 ∨ j = 6 ∨ j = 7 := by omega
      rcases hc with rfl | rfl | rfl | rfl | rfl | rfl | rfl | rfl
      · rw [r0]; rfl
      · rw [r1]; rfl
      · rw [r2]; rfl
      · rw [r3]; rfl
      · rw [r4]; rfl
      · rw [r5]; rfl
      · rw [r6]; rfl
      · rw [r7]; rfl
    have u0 : ((((((((w1.setCell ⟨w.heap.size + 1, 0, none⟩ (.int .i64 0)).setCell ⟨w.heap.size + 1, 1, none⟩ (.int .i64 0)).setCell ⟨w.heap.size + 1, 2, none⟩ (.int .i64 0)).setCell ⟨w.heap.size + 1, 3, none⟩ (.int .i64 0)).setCell ⟨w.heap.size + 1, 4, none⟩ (.int .i64 0)).setCell ⟨w.heap.size + 1, 5, none⟩ (.int .i64 0)).setCell ⟨w.heap.size + 1, 6, none⟩ (.int .i64 0)).setCell ⟨w.heap.size + 1, 7, none⟩ (.string ⟨#[]⟩)).cell? ⟨w.heap.size + 1, 0, none⟩ = some (.int .i64 0) := by rw [hS]; exact fill_at (vs := [Value.int .i64 0, .int .i64 0, .int .i64 0, .int .i64 0, .int .i64 0, .int .i64 0, .int .i64 0, .string ⟨#[]⟩]) HI.out rfl
    have u1 : ((((((((w1.setCell ⟨w.heap.size + 1, 0, none⟩ (.int .i64 0)).setCell ⟨w.heap.size + 1, 1, none⟩ (.int .i64 0)).setCell ⟨w.heap.size + 1, 2, none⟩ (.int .i64 0)).setCell ⟨w.heap.size + 1, 3, none⟩ (.int .i64 0)).setCell ⟨w.heap.size + 1, 4, none⟩ (.int .i64 0)).setCell ⟨w.heap.size + 1, 5, none⟩ (.int .i64 0)).setCell ⟨w.heap.size + 1, 6, none⟩ (.int .i64 0)).setCell ⟨w.heap.size + 1, 7, none⟩ (.string ⟨#[]⟩)).cell? ⟨w.heap.size + 1, 1, none⟩ = some (.int .i64 0) := by rw [hS]; exact fill_at (vs := [Value.int .i64 0, .int .i64 0, .int .i64 0, .int .i64 0, .int .i64 0, .int .i64 0, .int .i64 0, .string ⟨#[]⟩]) HI.out rfl
    have u2 : ((((((((w1.setCell ⟨w.heap.size + 1, 0, none⟩ (.int .i64 0)).setCell ⟨w.heap.size + 1, 1, none⟩ (.int .i64 0)).setCell ⟨w.heap.size + 1, 2, none⟩ (.int .i64 0)).setCell ⟨w.heap.size + 1, 3, none⟩ (.int .i64 0)).setCell ⟨w.heap.size + 1, 4, none⟩ (.int .i64 0)).setCell ⟨w.heap.size + 1, 5, none⟩ (.int .i64 0)).setCell ⟨w.heap.size + 1, 6, none⟩ (.int .i64 0)).setCell ⟨w.heap.size + 1, 7, none⟩ (.string ⟨#[]⟩)).cell? ⟨w.heap.size + 1, 2, none⟩ = some (.int .i64 0) := by rw [hS]; exact fill_at (vs := [Value.int .i64 0, .int .i64 0, .int .i64 0, .int .i64 0, .int .i64 0, .int .i64 0, .int .i64 0, .string ⟨#[]⟩]) HI.out rfl
    have u3 : ((((((((w1.setCell ⟨w.heap.size + 1, 0, none⟩ (.int .i64 0)).setCell ⟨w.heap.size + 1, 1, none⟩ (.int .i64 0)).setCell ⟨w.heap.size + 1, 2, none⟩ (.int .i64 0)).setCell ⟨w.heap.size + 1, 3, none⟩ (.int .i64 0)).setCell ⟨w.heap.size + 1, 4, none⟩ (.int .i64 0)).setCell ⟨w.heap.size + 1, 5, none⟩ (.int .i64 0)).setCell ⟨w.heap.size + 1, 6, none⟩ (.int .i64 0)).setCell ⟨w.heap.size + 1, 7, none⟩ (.string ⟨#[]⟩)).cell? ⟨w.heap.size + 1, 3, none⟩ = some (.int .i64 0) := by rw [hS]; exact fill_at (vs := [Value.int .i64 0, .int .i64 0, .int .i64 0, .int .i64 0, .int .i64 0, .int .i64 0, .int .i64 0, .string ⟨#[]⟩]) HI.out rfl
    have u4 : ((((((((w1.setCell ⟨w.heap.size + 1, 0, none⟩ (.int .i64 0)).setCell ⟨w.heap.size + 1, 1, none⟩ (.int .i64 0)).setCell ⟨w.heap.size + 1, 2, none⟩ (.int .i64 0)).setCell ⟨w.heap.size + 1, 3, none⟩ (.int .i64 0)).setCell ⟨w.heap.size + 1, 4, none⟩ (.int .i64 0)).setCell ⟨w.heap.size + 1, 5, none⟩ (.int .i64 0)).setCell ⟨w.heap.size + 1, 6, none⟩ (.int .i64 0)).setCell ⟨w.heap.size + 1, 7, none⟩ (.string ⟨#[]⟩)).cell? ⟨w.heap.size + 1, 4, none⟩ = some (.int .i64 0) := by rw [hS]; exact fill_at (vs := [Value.int .i64 0, .int .i64 0, .int .i64 0, .int .i64 0, .int .i64 0, .int .i64 0, .int .i64 0, .string ⟨#[]⟩]) HI.out rfl
    have u5 : ((((((((w1.setCell ⟨w.heap.size + 1, 0, none⟩ (.int .i64 0)).setCell ⟨w.heap.size + 1, 1, none⟩ (.int .i64 0)).setCell ⟨w.heap.size + 1, 2, none⟩ (.int .i64 0)).setCell ⟨w.heap.size + 1, 3, none⟩ (.int .i64 0)).setCell ⟨w.heap.size + 1, 4, none⟩ (.int .i64 0)).setCell ⟨w.heap.size + 1, 5, none⟩ (.int .i64 0)).setCell ⟨w.heap.size + 1, 6, none⟩ (.int .i64 0)).setCell ⟨w.heap.size + 1, 7, none⟩ (.string ⟨#[]⟩)).cell? ⟨w.heap.size + 1, 5, none⟩ = some (.int .i64 0) := by rw [hS]; exact fill_at (vs := [Value.int .i64 0, .int .i64 0, .int .i64 0, .int .i64 0, .int .i64 0, .int .i64 0, .int .i64 0, .string ⟨#[]⟩]) HI.out rfl
    have u6 : ((((((((w1.setCell ⟨w.heap.size + 1, 0, none⟩ (.int .i64 0)).setCell ⟨w.heap.size + 1, 1, none⟩ (.int .i64 0)).setCell ⟨w.heap.size + 1, 2, none⟩ (.int .i64 0)).setCell ⟨w.heap.size + 1, 3, none⟩ (.int .i64 0)).setCell ⟨w.heap.size + 1, 4, none⟩ (.int .i64 0)).setCell ⟨w.heap.size + 1, 5, none⟩ (.int .i64 0)).setCell ⟨w.heap.size + 1, 6, none⟩ (.int .i64 0)).setCell ⟨w.heap.size + 1, 7, none⟩ (.string ⟨#[]⟩)).cell? ⟨w.heap.size + 1, 6, none⟩ = some (.int .i64 0) := by rw [hS]; exact fill_at (vs := [Value.int .i64 0, .int .i64 0, .int .i64 0, .int .i64 0, .int .i64 0, .int .i64 0, .int .i64 0, .string ⟨#[]⟩]) HI.out rfl
    have u7 : ((((((((w1.setCell ⟨w.heap.size + 1, 0, none⟩ (.int .i64 0)).setCell ⟨w.heap.size + 1, 1, none⟩ (.int .i64 0)).setCell ⟨w.heap.size + 1, 2, none⟩ (.int .i64 0)).setCell ⟨w.heap.size + 1, 3, none⟩ (.int .i64 0)).setCell ⟨w.heap.size + 1, 4, none⟩ (.int .i64 0)).setCell ⟨w.heap.size + 1, 5, none⟩ (.int .i64 0)).setCell ⟨w.heap.size + 1, 6, none⟩ (.int .i64 0)).setCell ⟨w.heap.size + 1, 7, none⟩ (.string ⟨#[]⟩)).cell? ⟨w.heap.size + 1, 7, none⟩ = some (.string ⟨#[]⟩) := by rw [hS]; exact fill_at (vs := [Value.int .i64 0, .int .i64 0, .int .i64 0, .int .i64 0, .int .i64 0, .int .i64 0, .int .i64 0, .string ⟨#[]⟩]) HI.out rfl
    refine bodyPost_ret (v := .tuple #[.agg #[.int .i64 0, .int .i64 0, .int .i64 0, .int .i64 0, .int .i64 0, .int .i64 0, .int .i64 0, .string ⟨#[]⟩], .int .i64 E]) ?_ rfl ⟨by first | rfl | rw [if_neg hE], HB.out⟩
    clear HB HI hS r0 r1 r2 r3 r4 r5 r6 r7
    generalize ((((((((w1.setCell ⟨w.heap.size + 1, 0, none⟩ (.int .i64 0)).setCell ⟨w.heap.size + 1, 1, none⟩ (.int .i64 0)).setCell ⟨w.heap.size + 1, 2, none⟩ (.int .i64 0)).setCell ⟨w.heap.size + 1, 3, none⟩ (.int .i64 0)).setCell ⟨w.heap.size + 1, 4, none⟩ (.int .i64 0)).setCell ⟨w.heap.size + 1, 5, none⟩ (.int .i64 0)).setCell ⟨w.heap.size + 1, 6, none⟩ (.int .i64 0)).setCell ⟨w.heap.size + 1, 7, none⟩ (.string ⟨#[]⟩)) = W at *
    simp [results, Tryz.results131, go_sem, u0, u1, u2, u3, u4, u5, u6, u7]
  · have hE0 : E = 0 := by omega
    subst hE0
    clear hE
    go_wp2_with fail
    have hS : ((((((((w1.setCell ⟨w.heap.size + 1, 0, none⟩ (.int .i64 g1)).setCell ⟨w.heap.size + 1, 1, none⟩ (.int .i64 g2)).setCell ⟨w.heap.size + 1, 2, none⟩ (.int .i64 g3)).setCell ⟨w.heap.size + 1, 3, none⟩ (.int .i64 g4)).setCell ⟨w.heap.size + 1, 4, none⟩ (.int .i64 g5)).setCell ⟨w.heap.size + 1, 5, none⟩ (.int .i64 g6)).setCell ⟨w.heap.size + 1, 6, none⟩ (.int .i64 g7)).setCell ⟨w.heap.size + 1, 7, none⟩ (.string body)) = w1.setCells (w.heap.size + 1) 0 [Value.int .i64 g1, .int .i64 g2, .int .i64 g3, .int .i64 g4, .int .i64 g5, .int .i64 g6, .int .i64 g7, .string body] := rfl
    have HB : Hid (Below w.heap.size w ((((((((w1.setCell ⟨w.heap.size + 1, 0, none⟩ (.int .i64 g1)).setCell ⟨w.heap.size + 1, 1, none⟩ (.int .i64 g2)).setCell ⟨w.heap.size + 1, 2, none⟩ (.int .i64 g3)).setCell ⟨w.heap.size + 1, 3, none⟩ (.int .i64 g4)).setCell ⟨w.heap.size + 1, 4, none⟩ (.int .i64 g5)).setCell ⟨w.heap.size + 1, 5, none⟩ (.int .i64 g6)).setCell ⟨w.heap.size + 1, 6, none⟩ (.int .i64 g7)).setCell ⟨w.heap.size + 1, 7, none⟩ (.string body))) := by rw [hS]; exact fill_below (Nat.le_succ _) _ _ _ (k1)
    have HI : Hid (∀ j, j < 8 → (w1.cell? ⟨w.heap.size + 1, j, none⟩).isSome = true) := fun j hj => by
      have hc : j = 0 ∨ j = 1 ∨ j = 2 ∨ j = 3 ∨ j = 4 ∨ j = 5 ∨ j = 6 ∨ j = 7 := by omega
      rcases hc with rfl | rfl | rfl | rfl | rfl | rfl | rfl | rfl
      · rw [r0]; rfl
      · rw [r1]; rfl
      · rw [r2]; rfl
      · rw [r3]; rfl
      · rw [r4]; rfl
      · rw [r5]; rfl
      · rw [r6]; rfl
      · rw [r7]; rfl
    have u0 : ((((((((w1.setCell ⟨w.heap.size + 1, 0, none⟩ (.int .i64 g1)).setCell ⟨w.heap.size + 1, 1, none⟩ (.int .i64 g2)).setCell ⟨w.heap.size + 1, 2, none⟩ (.int .i64 g3)).setCell ⟨w.heap.size + 1, 3, none⟩ (.int .i64 g4)).setCell ⟨w.heap.size + 1, 4, none⟩ (.int .i64 g5)).setCell ⟨w.heap.size + 1, 5, none⟩ (.int .i64 g6)).setCell ⟨w.heap.size + 1, 6, none⟩ (.int .i64 g7)).setCell ⟨w.heap.size + 1, 7, none⟩ (.string body)).cell? ⟨w.heap.size + 1, 0, none⟩ = some (.int .i64 g1) := by rw [hS]; exact fill_at (vs := [Value.int .i64 g1, .int .i64 g2, .int .i64 g3, .int .i64 g4, .int .i64 g5, .int .i64 g6, .int .i64 g7, .string body]) HI.out rfl
    have u1 : ((((((((w1.setCell ⟨w.heap.size + 1, 0, none⟩ (.int .i64 g1)).setCell ⟨w.heap.size + 1, 1, none⟩ (.int .i64 g2)).setCell ⟨w.heap.size + 1, 2, none⟩ (.int .i64 g3)).setCell ⟨w.heap.size + 1, 3, none⟩ (.int .i64 g4)).setCell ⟨w.heap.size + 1, 4, none⟩ (.int .i64 g5)).setCell ⟨w.heap.size + 1, 5, none⟩ (.int .i64 g6)).setCell ⟨w.heap.size + 1, 6, none⟩ (.int .i64 g7)).setCell ⟨w.heap.size + 1, 7, none⟩ (.string body)).cell? ⟨w.heap.size + 1, 1, none⟩ = some (.int .i64 g2) := by rw [hS]; exact fill_at (vs := [Value.int .i64 g1, .int .i64 g2, .int .i64 g3, .int .i64 g4, .int .i64 g5, .int .i64 g6, .int .i64 g7, .string body]) HI.out rfl
    have u2 : ((((((((w1.setCell ⟨w.heap.size + 1, 0, none⟩ (.int .i64 g1)).setCell ⟨w.heap.size + 1, 1, none⟩ (.int .i64 g2)).setCell ⟨w.heap.size + 1, 2, none⟩ (.int .i64 g3)).setCell ⟨w.heap.size + 1, 3, none⟩ (.int .i64 g4)).setCell ⟨w.heap.size + 1, 4, none⟩ (.int .i64 g5)).setCell ⟨w.heap.size + 1, 5, none⟩ (.int .i64 g6)).setCell ⟨w.heap.size + 1, 6, none⟩ (.int .i64 g7)).setCell ⟨w.heap.size + 1, 7, none⟩ (.string body)).cell? ⟨w.heap.size + 1, 2, none⟩ = some (.int .i64 g3) := by rw [hS]; exact fill_at (vs := [Value.int .i64 g1, .int .i64 g2, .int .i64 g3, .int .i64 g4, .int .i64 g5, .int .i64 g6, .int .i64 g7, .string body]) HI.out rfl
    have u3 : ((((((((w1.setCell ⟨w.heap.size + 1, 0, none⟩ (.int .i64 g1)).setCell ⟨w.heap.size + 1, 1, none⟩ (.int .i64 g2)).setCell ⟨w.heap.size + 1, 2, none⟩ (.int .i64 g3)).setCell ⟨w.heap.size + 1, 3, none⟩ (.int .i64 g4)).setCell ⟨w.heap.size + 1, 4, none⟩ (.int .i64 g5)).setCell ⟨w.heap.size + 1, 5, none⟩ (.int .i64 g6)).setCell ⟨w.heap.size + 1, 6, none⟩ (.int .i64 g7)).setCell ⟨w.heap.size + 1, 7, none⟩ (.string body)).cell? ⟨w.heap.size + 1, 3, none⟩ = some (.int .i64 g4) := by rw [hS]; exact fill_at (vs := [Value.int .i64 g1, .int .i64 g2, .int .i64 g3, .int .i64 g4, .int .i64 g5, .int .i64 g6, .int .i64 g7, .string body]) HI.out rfl
    have u4 : ((((((((w1.setCell ⟨w.heap.size + 1, 0, none⟩ (.int .i64 g1)).setCell ⟨w.heap.size + 1, 1, none⟩ (.int .i64 g2)).setCell ⟨w.heap.size + 1, 2, none⟩ (.int .i64 g3)).setCell ⟨w.heap.size + 1, 3, none⟩ (.int .i64 g4)).setCell ⟨w.heap.size + 1, 4, none⟩ (.int .i64 g5)).setCell ⟨w.heap.size + 1, 5, none⟩ (.int .i64 g6)).setCell ⟨w.heap.size + 1, 6, none⟩ (.int .i64 g7)).setCell ⟨w.heap.size + 1, 7, none⟩ (.string body)).cell? ⟨w.heap.size + 1, 4, none⟩ = some (.int .i64 g5) := by rw [hS]; exact fill_at (vs := [Value.int .i64 g1, .int .i64 g2, .int .i64 g3, .int .i64 g4, .int .i64 g5, .int .i64 g6, .int .i64 g7, .string body]) HI.out rfl
    have u5 : ((((((((w1.setCell ⟨w.heap.size + 1, 0, none⟩ (.int .i64 g1)).setCell ⟨w.heap.size + 1, 1, none⟩ (.int .i64 g2)).setCell ⟨w.heap.size + 1, 2, none⟩ (.int .i64 g3)).setCell ⟨w.heap.size + 1, 3, none⟩ (.int .i64 g4)).setCell ⟨w.heap.size + 1, 4, none⟩ (.int .i64 g5)).setCell ⟨w.heap.size + 1, 5, none⟩ (.int .i64 g6)).setCell ⟨w.heap.size + 1, 6, none⟩ (.int .i64 g7)).setCell ⟨w.heap.size + 1, 7, none⟩ (.string body)).cell? ⟨w.heap.size + 1, 5, none⟩ = some (.int .i64 g6) := by rw [hS]; exact fill_at (vs := [Value.int .i64 g1, .int .i64 g2, .int .i64 g3, .int .i64 g4, .int .i64 g5, .int .i64 g6, .int .i64 g7, .string body]) HI.out rfl
    have u6 : ((((((((w1.setCell ⟨w.heap.size + 1, 0, none⟩ (.int .i64 g1)).setCell ⟨w.heap.size + 1, 1, none⟩ (.int .i64 g2)).setCell ⟨w.heap.size + 1, 2, none⟩ (.int .i64 g3)).setCell ⟨w.heap.size + 1, 3, none⟩ (.int .i64 g4)).setCell ⟨w.heap.size + 1, 4, none⟩ (.int .i64 g5)).setCell ⟨w.heap.size + 1, 5, none⟩ (.int .i64 g6)).setCell ⟨w.heap.size + 1, 6, none⟩ (.int .i64 g7)).setCell ⟨w.heap.size + 1, 7, none⟩ (.string body)).cell? ⟨w.heap.size + 1, 6, none⟩ = some (.int .i64 g7) := by rw [hS]; exact fill_at (vs := [Value.int .i64 g1, .int .i64 g2, .int .i64 g3, .int .i64 g4, .int .i64 g5, .int .i64 g6, .int .i64 g7, .string body]) HI.out rfl
    have u7 : ((((((((w1.setCell ⟨w.heap.size + 1, 0, none⟩ (.int .i64 g1)).setCell ⟨w.heap.size + 1, 1, none⟩ (.int .i64 g2)).setCell ⟨w.heap.size + 1, 2, none⟩ (.int .i64 g3)).setCell ⟨w.heap.size + 1, 3, none⟩ (.int .i64 g4)).setCell ⟨w.heap.size + 1, 4, none⟩ (.int .i64 g5)).setCell ⟨w.heap.size + 1, 5, none⟩ (.int .i64 g6)).setCell ⟨w.heap.size + 1, 6, none⟩ (.int .i64 g7)).setCell ⟨w.heap.size + 1, 7, none⟩ (.string body)).cell? ⟨w.heap.size + 1, 7, none⟩ = some (.string body) := by rw [hS]; exact fill_at (vs := [Value.int .i64 g1, .int .i64 g2, .int .i64 g3, .int .i64 g4, .int .i64 g5, .int .i64 g6, .int .i64 g7, .string body]) HI.out rfl
    refine bodyPost_ret (v := .tuple #[.agg #[.int .i64 g1, .int .i64 g2, .int .i64 g3, .int .i64 g4, .int .i64 g5, .int .i64 g6, .int .i64 g7, .string body], .int .i64 0]) ?_ rfl ⟨rfl, HB.out⟩
    clear HB HI hS r0 r1 r2 r3 r4 r5 r6 r7
    generalize ((((((((w1.setCell ⟨w.heap.size + 1, 0, none⟩ (.int .i64 g1)).setCell ⟨w.heap.size + 1, 1, none⟩ (.int .i64 g2)).setCell ⟨w.heap.size + 1, 2, none⟩ (.int .i64 g3)).setCell ⟨w.heap.size + 1, 3, none⟩ (.int .i64 g4)).setCell ⟨w.heap.size + 1, 4, none⟩ (.int .i64 g5)).setCell ⟨w.heap.size + 1, 5, none⟩ (.int .i64 g6)).setCell ⟨w.heap.size + 1, 6, none⟩ (.int .i64 g7)).setCell ⟨w.heap.size + 1, 7, none⟩ (.string body)) = W at *
    simp [results, Tryz.results131, go_sem, u0, u1, u2, u3, u4, u5, u6, u7]

end Go.Proofs.YtjcomoinggiedaaGreat

namespace Go.Proofs.YtjcomoinggiedaaGreat
set_option linter.unusedVariables false
set_option maxRecDepth 100000

/-- The bits of a number that a mask has. -/
def mk (n m : Int) : Int := ((n.toNat &&& m.toNat : Nat) : Int)

/-- .. of the lowest j bits. -/
def mkTo (n m : Int) : Nat → Int
  | 0 => 0
  | j + 1 => mkTo n m j + (if n / 2 ^ j % 2 = 1 ∧ m / 2 ^ j % 2 = 1 then 2 ^ j else 0)

theorem nat_bit (x j : Nat) : x % 2 ^ (j + 1) = x % 2 ^ j + (if x / 2 ^ j % 2 = 1 then 2 ^ j else 0) := by
  rw [Nat.pow_succ, Nat.mod_mul]
  split
  · rename_i h; rw [h, Nat.mul_one]
  · rename_i h
    have : x / 2 ^ j % 2 = 0 := by omega
    rw [this, Nat.mul_zero]

theorem mkTo_nat (a b : Nat) : ∀ j, mkTo a b j = (((a &&& b) % 2 ^ j : Nat) : Int)
  | 0 => by simp [mkTo, Nat.mod_one]
  | j + 1 => by
    simp only [mkTo]
    rw [mkTo_nat a b j, nat_bit (a &&& b) j]
    have e1 : ((a : Int) / 2 ^ j % 2 = 1 ∧ (b : Int) / 2 ^ j % 2 = 1) ↔ ((a &&& b) / 2 ^ j % 2 = 1) := by
      have ha : ((a : Int) / 2 ^ j % 2 = 1) ↔ (a / 2 ^ j % 2 = 1) := by
        rw [show ((a : Int) / 2 ^ j % 2) = ((a / 2 ^ j % 2 : Nat) : Int) by simp]
        omega
      have hb : ((b : Int) / 2 ^ j % 2 = 1) ↔ (b / 2 ^ j % 2 = 1) := by
        rw [show ((b : Int) / 2 ^ j % 2) = ((b / 2 ^ j % 2 : Nat) : Int) by simp]
        omega
      rw [ha, hb]
      have t := Nat.testBit_and a b j
      rw [Nat.testBit_eq_decide_div_mod_eq, Nat.testBit_eq_decide_div_mod_eq, Nat.testBit_eq_decide_div_mod_eq] at t
      have t' : ((a &&& b) / 2 ^ j % 2 = 1) ↔ (a / 2 ^ j % 2 = 1 ∧ b / 2 ^ j % 2 = 1) := by
        rw [← decide_eq_true_iff (p := (a &&& b) / 2 ^ j % 2 = 1), t, Bool.and_eq_true, decide_eq_true_iff, decide_eq_true_iff]
      exact t'.symm
    by_cases h : (a &&& b) / 2 ^ j % 2 = 1
    · rw [if_pos (e1.2 h), if_pos h]; simp
    · rw [if_neg (fun x => h (e1.1 x)), if_neg h]; simp

theorem mkTo_16 (n m : Int) (hn0 : 0 ≤ n) (hn1 : n ≤ 65535) (hm0 : 0 ≤ m) (hm1 : m ≤ 65535) : mkTo n m 16 = mk n m := by
  obtain ⟨a, rfl⟩ := Int.eq_ofNat_of_zero_le hn0
  obtain ⟨b, rfl⟩ := Int.eq_ofNat_of_zero_le hm0
  rw [mkTo_nat]
  unfold mk
  rw [Int.toNat_natCast, Int.toNat_natCast, Nat.mod_eq_of_lt]
  have := Nat.and_le_left (n := a) (m := b)
  omega

theorem mkTo_bd (n m : Int) (hn0 : 0 ≤ n) (hm0 : 0 ≤ m) : ∀ j, 0 ≤ mkTo n m j ∧ mkTo n m j < 2 ^ j
  | j => by
    obtain ⟨a, rfl⟩ := Int.eq_ofNat_of_zero_le hn0
    obtain ⟨b, rfl⟩ := Int.eq_ofNat_of_zero_le hm0
    rw [mkTo_nat]
    have h := Nat.mod_lt (a &&& b) (Nat.two_pow_pos j)
    exact ⟨by omega, by exact_mod_cast h⟩

end Go.Proofs.YtjcomoinggiedaaGreat

namespace Go.Proofs.YtjcomoinggiedaaGreat
open Go.RowKit
set_option linter.unusedVariables false
set_option maxRecDepth 100000

theorem wrapI (n : Int) (h0 : 0 ≤ n) (h1 : n ≤ 1000000) : IntKind.i64.wrap n = n := by
  simp [IntKind.wrap, IntKind.bits, IntKind.signed]
  split <;> omega

/-- A match: the field, the mask, the value. -/
structure Mt where
  f : Int
  m : Int
  v : Int
/-- What a flow does: the kind, A, N. -/
structure Do where
  k : Int
  a : Int
  n : Int
/-- A flow. -/
structure Fl where
  t : Int
  p : Int
  ms : List Mt
  ds : List Do

def mt0 : Mt := ⟨0, 0, 0⟩
def do0 : Do := ⟨0, 0, 0⟩
def fl0 : Fl := ⟨0, 0, [], []⟩

/-- Matches lie where a slice says. -/
def MsAt (w : World) (v : Value) (ms : List Mt) : Prop :=
  ∃ a cap, v = .slice a ms.length cap ∧ (a = none → cap = 0) ∧ (ms.length = 0 ∨ ∃ b off, a = some ⟨b, off, none⟩ ∧ ms.length ≤ cap ∧ ∀ i, i < ms.length →
    w.cell? ⟨b, off + i * 3, none⟩ = some (.int .i64 (ms.getD i mt0).f) ∧ w.cell? ⟨b, off + i * 3 + 1, none⟩ = some (.int .i64 (ms.getD i mt0).m) ∧ w.cell? ⟨b, off + i * 3 + 2, none⟩ = some (.int .i64 (ms.getD i mt0).v))
def DsAt (w : World) (v : Value) (ds : List Do) : Prop :=
  ∃ a cap, v = .slice a ds.length cap ∧ (a = none → cap = 0) ∧ (ds.length = 0 ∨ ∃ b off, a = some ⟨b, off, none⟩ ∧ ds.length ≤ cap ∧ ∀ i, i < ds.length →
    w.cell? ⟨b, off + i * 3, none⟩ = some (.int .i64 (ds.getD i do0).k) ∧ w.cell? ⟨b, off + i * 3 + 1, none⟩ = some (.int .i64 (ds.getD i do0).a) ∧ w.cell? ⟨b, off + i * 3 + 2, none⟩ = some (.int .i64 (ds.getD i do0).n))
/-- A flow lies at a place. -/
def FlAt (w : World) (b off : Nat) (f : Fl) : Prop :=
  w.cell? ⟨b, off, none⟩ = some (.int .i64 f.t) ∧ w.cell? ⟨b, off + 1, none⟩ = some (.int .i64 f.p) ∧
  ∃ mv dv, w.cell? ⟨b, off + 2, none⟩ = some mv ∧ w.cell? ⟨b, off + 3, none⟩ = some dv ∧ MsAt w mv f.ms ∧ DsAt w dv f.ds
/-- Flows lie where a slice says. -/
def FsAt (w : World) (v : Value) (fs : List Fl) : Prop :=
  ∃ a cap, v = .slice a fs.length cap ∧ (a = none → cap = 0) ∧ (fs.length = 0 ∨ ∃ b off, a = some ⟨b, off, none⟩ ∧ fs.length ≤ cap ∧ ∀ i, i < fs.length → FlAt w b (off + i * 4) (fs.getD i fl0))

theorem cell_lt {w : World} {b o : Nat} {v : Value} (h : w.cell? ⟨b, o, none⟩ = some v) : b < w.heap.size := by
  rcases Nat.lt_or_ge b w.heap.size with h' | h'
  · exact h'
  · simp [World.cell?, Array.getElem?_eq_none h'] at h
theorem cell_below {w w' : World} {B b o : Nat} {v : Value} (h : w.cell? ⟨b, o, none⟩ = some v) (hb : Below B w w') (hB : w.heap.size ≤ B) : w'.cell? ⟨b, o, none⟩ = some v :=
  (hb.cell (p := ⟨b, o, none⟩) (Nat.lt_of_lt_of_le (cell_lt h) hB)).trans h

theorem MsAt.below {w w' : World} {B : Nat} {v : Value} {ms : List Mt} (h : MsAt w v ms) (hb : Below B w w') (hB : w.heap.size ≤ B) : MsAt w' v ms := by
  obtain ⟨a, cap, hv, hn, h0 | ⟨b, off, ha, hc, hL⟩⟩ := h
  · exact ⟨a, cap, hv, hn, .inl h0⟩
  · exact ⟨a, cap, hv, hn, .inr ⟨b, off, ha, hc, fun i hi => ⟨cell_below (hL i hi).1 hb hB, cell_below (hL i hi).2.1 hb hB, cell_below (hL i hi).2.2 hb hB⟩⟩⟩
theorem DsAt.below {w w' : World} {B : Nat} {v : Value} {ds : List Do} (h : DsAt w v ds) (hb : Below B w w') (hB : w.heap.size ≤ B) : DsAt w' v ds := by
  obtain ⟨a, cap, hv, hn, h0 | ⟨b, off, ha, hc, hL⟩⟩ := h
  · exact ⟨a, cap, hv, hn, .inl h0⟩
  · exact ⟨a, cap, hv, hn, .inr ⟨b, off, ha, hc, fun i hi => ⟨cell_below (hL i hi).1 hb hB, cell_below (hL i hi).2.1 hb hB, cell_below (hL i hi).2.2 hb hB⟩⟩⟩
theorem FlAt.below {w w' : World} {B b off : Nat} {f : Fl} (h : FlAt w b off f) (hb : Below B w w') (hB : w.heap.size ≤ B) : FlAt w' b off f := by
  obtain ⟨h0, h1, mv, dv, h2, h3, hm, hd⟩ := h
  exact ⟨cell_below h0 hb hB, cell_below h1 hb hB, mv, dv, cell_below h2 hb hB, cell_below h3 hb hB, hm.below hb hB, hd.below hb hB⟩
theorem FsAt.below {w w' : World} {B : Nat} {v : Value} {fs : List Fl} (h : FsAt w v fs) (hb : Below B w w') (hB : w.heap.size ≤ B) : FsAt w' v fs := by
  obtain ⟨a, cap, hv, hn, h0 | ⟨b, off, ha, hc, hL⟩⟩ := h
  · exact ⟨a, cap, hv, hn, .inl h0⟩
  · exact ⟨a, cap, hv, hn, .inr ⟨b, off, ha, hc, fun i hi => (hL i hi).below hb hB⟩⟩

end Go.Proofs.YtjcomoinggiedaaGreat

namespace Go.Proofs.YtjcomoinggiedaaGreat
open Go.RowKit
set_option linter.unusedVariables false
set_option maxRecDepth 100000

/-- May a flow of a table do this? P2.1. -/
def doesB (kind a n table : Int) (last : Bool) : Bool :=
  if kind = 1 then decide (0 ≤ a ∧ a ≤ 9) && decide (0 ≤ n ∧ n ≤ 65535)
  else if kind = 2 then decide (0 ≤ a ∧ a ≤ 9) && decide (0 ≤ n ∧ n ≤ 9)
  else if kind = 3 then decide (0 ≤ a ∧ a ≤ 9) && (n == 0)
  else if kind = 4 then (a == 0) && decide (table + 1 ≤ n ∧ n ≤ 7) && last
  else if kind = 5 then (a == 0) && decide (0 ≤ n ∧ n ≤ 65535)
  else if kind = 6 then (a == 0) && decide (0 ≤ n ∧ n ≤ 5)
  else false

def fieldB (n : Int) : Bool := decide (0 ≤ n ∧ n ≤ 9)
def tableB (n : Int) : Bool := decide (0 ≤ n ∧ n ≤ 7)
def prioB (n : Int) : Bool := decide (0 ≤ n ∧ n ≤ 2000)
def matchB (m : Mt) : Bool := fieldB m.f && wordB m.m && wordB m.v && (mk m.v m.m == m.v)
def doB (t : Int) (ds : List Do) (j : Nat) : Bool := doesB (ds.getD j do0).k (ds.getD j do0).a (ds.getD j do0).n t ((j : Int) + 1 == (ds.length : Int))
/-- P2.1: what is wrong with a flow. -/
def flFault (f : Fl) : Int :=
  if 12 < f.ms.length ∨ 100 < f.ds.length then 1 else if (tableB f.t && prioB f.p) = false then 2 else if f.ms.all matchB = false then 4 else
    if (List.range f.ds.length).all (doB f.t f.ds) = false then 4 else 0
def fsFault1 : List Fl → Int
  | [] => 0
  | f :: r => if flFault f = 0 then fsFault1 r else flFault f
def fsFault (fs : List Fl) : Int := if 5000 < fs.length then 1 else fsFault1 fs

theorem fs_at : ∀ (fs : List Fl) (k : Nat), k < fs.length → (∀ j, j < k → flFault (fs.getD j fl0) = 0) → flFault (fs.getD k fl0) ≠ 0 → fsFault1 fs = flFault (fs.getD k fl0)
  | [], k, h, _, _ => by simp at h
  | f :: r, 0, _, _, hn => by
    simp only [fsFault1]
    rw [if_neg (by simpa using hn)]
    rfl
  | f :: r, k + 1, h, ha, hn => by
    have h0 := ha 0 (by omega)
    simp only [fsFault1]
    rw [if_pos (by simpa using h0)]
    have := fs_at r k (by simpa using h) (fun j hj => by simpa using ha (j + 1) (by omega)) (by simpa using hn)
    simpa using this
theorem fs_all : ∀ (fs : List Fl), (∀ j, j < fs.length → flFault (fs.getD j fl0) = 0) → fsFault1 fs = 0
  | [], _ => rfl
  | f :: r, h => by
    simp only [fsFault1]
    rw [if_pos (by simpa using h 0 (by simp))]
    exact fs_all r (fun j hj => by simpa using h (j + 1) (by simpa using hj))

theorem flFault_size {f : Fl} (h : 12 < f.ms.length ∨ 100 < f.ds.length) : flFault f = 1 := by unfold flFault; rw [if_pos h]
theorem flFault_range {f : Fl} (h : ¬ (12 < f.ms.length ∨ 100 < f.ds.length)) (h2 : (tableB f.t && prioB f.p) = false) : flFault f = 2 := by unfold flFault; rw [if_neg h, if_pos h2]
theorem flFault_match {f : Fl} (h : ¬ (12 < f.ms.length ∨ 100 < f.ds.length)) (h2 : (tableB f.t && prioB f.p) = true) (j : Nat) (hj : j < f.ms.length) (h3 : matchB (f.ms.getD j mt0) = false) : flFault f = 4 := by
  have : f.ms.all matchB = false := by
    rw [List.all_eq_false]
    exact ⟨f.ms[j], List.getElem_mem hj, by simpa [List.getD, List.getElem?_eq_getElem hj] using h3⟩
  unfold flFault; rw [if_neg h, if_neg (by simp [h2]), if_pos this]
theorem all_match {f : Fl} (h : ∀ j, j < f.ms.length → matchB (f.ms.getD j mt0) = true) : f.ms.all matchB = true := by
  rw [List.all_eq_true]
  intro x hx
  obtain ⟨i, hi, rfl⟩ := List.getElem_of_mem hx
  have := h i hi
  simpa [List.getD, List.getElem?_eq_getElem hi] using this
theorem flFault_does {f : Fl} (h : ¬ (12 < f.ms.length ∨ 100 < f.ds.length)) (h2 : (tableB f.t && prioB f.p) = true) (h3 : f.ms.all matchB = true) (j : Nat) (hj : j < f.ds.length) (h4 : doB f.t f.ds j = false) : flFault f = 4 := by
  have : (List.range f.ds.length).all (doB f.t f.ds) = false := by
    rw [List.all_eq_false]
    exact ⟨j, List.mem_range.2 hj, by simpa using h4⟩
  unfold flFault; rw [if_neg h, if_neg (by simp [h2]), if_neg (by simp [h3]), if_pos this]
theorem flFault_ok {f : Fl} (h : ¬ (12 < f.ms.length ∨ 100 < f.ds.length)) (h2 : (tableB f.t && prioB f.p) = true) (h3 : f.ms.all matchB = true) (h4 : ∀ j, j < f.ds.length → doB f.t f.ds j = true) : flFault f = 0 := by
  have : (List.range f.ds.length).all (doB f.t f.ds) = true := by
    rw [List.all_eq_true]
    intro j hj
    exact h4 j (List.mem_range.1 hj)
  unfold flFault; rw [if_neg h, if_neg (by simp [h2]), if_neg (by simp [h3]), if_neg (by simp [this])]

end Go.Proofs.YtjcomoinggiedaaGreat

namespace Go.Proofs.YtjcomoinggiedaaGreat
open Go.RowKit
set_option linter.unusedVariables false
set_option maxRecDepth 100000

/-- What is sent: the kind, the number, the packet's fields then. -/
structure Sn where
  k : Int
  n : Int
  F : List Int
/-- A packet's fields are ten words. -/
def WF (F : List Int) : Prop := F.length = 10 ∧ ∀ i, wordB (F.getD i 0) = true
theorem WF.bd {F : List Int} (h : WF F) (i : Nat) : 0 ≤ F.getD i 0 ∧ F.getD i 0 ≤ 65535 := by simpa [wordB] using h.2 i
theorem wf_of_all {F : List Int} (h : F.length = 10) (ha : F.all wordB = true) : WF F := by
  refine ⟨h, fun i => ?_⟩
  by_cases hi : i < F.length
  · rw [List.all_eq_true] at ha
    have := ha F[i] (List.getElem_mem hi)
    simpa [List.getD, List.getElem?_eq_getElem hi] using this
  · simp [List.getD, List.getElem?_eq_none (by omega : F.length ≤ i), wordB]
theorem WF.set {F : List Int} (h : WF F) (i : Nat) (x : Int) (hx : wordB x = true) : WF (F.set i x) := by
  refine ⟨by simp [h.1], fun j => ?_⟩
  by_cases hj : j < F.length
  · have := h.2 j
    simp only [List.getD, List.getElem?_set] at this ⊢
    split
    · split
      · simpa using hx
      · simp [wordB]
    · exact this
  · simp [List.getD, List.getElem?_eq_none (show (F.set i x).length ≤ j by simp; omega), wordB]

def fitsB (F : List Int) (ms : List Mt) : Bool := ms.all fun m => mk (F.getD m.f.toNat 0) m.m == m.v
def fitB (F : List Int) (t : Int) (f : Fl) : Bool := (f.t == t) && fitsB F f.ms
/-- The place of the flow that fits best, of the first k; -1: none. -/
def bestTo (fs : List Fl) (F : List Int) (t : Int) : Nat → Int
  | 0 => -1
  | k + 1 => if fitB F t (fs.getD k fl0) = true ∧ (bestTo fs F t k < 0 ∨ (fs.getD (bestTo fs F t k).toNat fl0).p < (fs.getD k fl0).p) then (k : Int) else bestTo fs F t k
theorem bestTo_in (fs : List Fl) (F : List Int) (t : Int) : ∀ k, -1 ≤ bestTo fs F t k ∧ bestTo fs F t k < k
  | 0 => by simp [bestTo]
  | k + 1 => by
    have := bestTo_in fs F t k
    unfold bestTo
    split <;> omega
/-- What it is to be the place of the flow that fits best, from lo on, below hi. -/
def Best (fs : List Fl) (F : List Int) (t : Int) (lo hi : Nat) (b : Int) : Prop :=
  (b = -1 ∧ ∀ i, lo ≤ i → i < hi → fitB F t (fs.getD i fl0) = false) ∨
  (∃ j : Nat, b = j ∧ lo ≤ j ∧ j < hi ∧ fitB F t (fs.getD j fl0) = true ∧ ∀ i, lo ≤ i → i < hi → fitB F t (fs.getD i fl0) = true → (fs.getD i fl0).p ≤ (fs.getD j fl0).p ∧ (i < j → (fs.getD i fl0).p < (fs.getD j fl0).p))
theorem bestTo_best (fs : List Fl) (F : List Int) (t : Int) : ∀ k, Best fs F t 0 k (bestTo fs F t k)
  | 0 => .inl ⟨rfl, fun i _ h => absurd h (by omega)⟩
  | k + 1 => by
    have ih := bestTo_best fs F t k
    unfold bestTo
    by_cases h : fitB F t (fs.getD k fl0) = true ∧ (bestTo fs F t k < 0 ∨ (fs.getD (bestTo fs F t k).toNat fl0).p < (fs.getD k fl0).p)
    · rw [if_pos h]
      refine .inr ⟨k, rfl, by omega, by omega, h.1, fun i _ hi hf => ?_⟩
      rcases ih with ⟨hb, ha⟩ | ⟨j, hb, _, hj, hfj, ha⟩
      · by_cases e : i = k
        · subst e; exact ⟨Int.le_refl _, fun h => absurd h (by omega)⟩
        · rw [ha i (by omega) (by omega)] at hf; simp at hf
      · rw [hb] at h
        simp only [Int.toNat_natCast] at h
        have hp : (fs.getD j fl0).p < (fs.getD k fl0).p := by rcases h.2 with h' | h' <;> omega
        by_cases e : i = k
        · subst e; exact ⟨Int.le_refl _, fun h => absurd h (by omega)⟩
        · have := ha i (by omega) (by omega) hf
          exact ⟨by omega, fun _ => by omega⟩
    · rw [if_neg h]
      rcases ih with ⟨hb, ha⟩ | ⟨j, hb, h0, hj, hfj, ha⟩
      · refine .inl ⟨hb, fun i _ hi => ?_⟩
        by_cases e : i = k
        · subst e
          rw [hb] at h
          by_cases hf : fitB F t (fs.getD i fl0) = true
          · exact absurd ⟨hf, .inl (by omega)⟩ h
          · simpa using hf
        · exact ha i (by omega) (by omega)
      · refine .inr ⟨j, hb, h0, by omega, hfj, fun i _ hi hf => ?_⟩
        by_cases e : i = k
        · subst e
          rw [hb] at h
          simp only [Int.toNat_natCast] at h
          have : ¬ (fs.getD j fl0).p < (fs.getD i fl0).p := fun hp => h ⟨hf, .inr hp⟩
          exact ⟨by omega, fun h' => absurd h' (by omega)⟩
        · exact ha i (by omega) (by omega) hf
theorem Best.unique {fs : List Fl} {F : List Int} {t : Int} {lo hi : Nat} {a b : Int} (ha : Best fs F t lo hi a) (hb : Best fs F t lo hi b) : a = b := by
  rcases ha with ⟨rfl, h1⟩ | ⟨i, rfl, i0, i1, fi, h1⟩
  · rcases hb with ⟨rfl, _⟩ | ⟨j, rfl, j0, j1, fj, _⟩
    · rfl
    · rw [h1 j j0 j1] at fj; simp at fj
  · rcases hb with ⟨rfl, h2⟩ | ⟨j, rfl, j0, j1, fj, h2⟩
    · rw [h2 i i0 i1] at fi; simp at fi
    · have a1 := h1 j j0 j1 fj
      have a2 := h2 i i0 i1 fi
      rcases Nat.lt_trichotomy i j with h | h | h
      · have := a2.2 h; omega
      · rw [h]
      · have := a1.2 h; omega
/-- One more flow ahead of those that were looked at. -/
theorem Best.down {fs : List Fl} {F : List Int} {t : Int} {k hi : Nat} {b : Int} (h : Best fs F t (k + 1) hi b) (hk : k < hi) (hf : fitB F t (fs.getD k fl0) = true) (hp : b < 0 ∨ (fs.getD b.toNat fl0).p ≤ (fs.getD k fl0).p) : Best fs F t k hi k := by
  refine .inr ⟨k, rfl, by omega, hk, hf, fun i h0 h1 fi => ?_⟩
  by_cases e : i = k
  · subst e; exact ⟨Int.le_refl _, fun h => absurd h (by omega)⟩
  · rcases h with ⟨rfl, ha⟩ | ⟨j, rfl, _, _, _, ha⟩
    · rw [ha i (by omega) h1] at fi; simp at fi
    · simp only [Int.toNat_natCast] at hp
      have := (ha i (by omega) h1 fi).1
      exact ⟨by omega, fun h => absurd h (by omega)⟩
theorem Best.stay {fs : List Fl} {F : List Int} {t : Int} {k hi : Nat} {b : Int} (h : Best fs F t (k + 1) hi b) (hk : k < hi) (hf : fitB F t (fs.getD k fl0) = true → 0 ≤ b ∧ (fs.getD k fl0).p < (fs.getD b.toNat fl0).p) : Best fs F t k hi b := by
  rcases h with ⟨rfl, ha⟩ | ⟨j, rfl, j0, j1, fj, ha⟩
  · refine .inl ⟨rfl, fun i h0 h1 => ?_⟩
    by_cases e : i = k
    · subst e
      by_cases hx : fitB F t (fs.getD i fl0) = true
      · have := hf hx; omega
      · simpa using hx
    · exact ha i (by omega) h1
  · refine .inr ⟨j, rfl, by omega, j1, fj, fun i h0 h1 fi => ?_⟩
    by_cases e : i = k
    · subst e
      have := (hf fi).2
      simp only [Int.toNat_natCast] at this
      exact ⟨by omega, fun _ => this⟩
    · exact ha i (by omega) h1 fi

def dsOf (fs : List Fl) (b : Int) : List Do := if b < 0 then [] else (fs.getD b.toNat fl0).ds
/-- The fields behind a Put, a Copy or a Less. -/
def doF (F : List Int) (d : Do) : List Int :=
  if d.k = 1 then F.set d.a.toNat d.n else if d.k = 2 then F.set d.a.toNat (F.getD d.n.toNat 0) else if d.k = 3 then F.set d.a.toNat (if 0 < F.getD d.a.toNat 0 then F.getD d.a.toNat 0 - 1 else 0) else F
/-- Where a run stands: the fields, the table, what has been sent. -/
structure St where
  F : List Int
  t : Int
  out : List Sn
def step (s : St) (d : Do) : St :=
  if d.k = 5 ∨ d.k = 6 then ⟨s.F, s.t, s.out ++ [⟨d.k, d.n, s.F⟩]⟩ else if d.k = 4 then ⟨s.F, d.n, s.out⟩ else ⟨doF s.F d, s.t, s.out⟩
def stepTo (s : St) (ds : List Do) : Nat → St
  | 0 => s
  | k + 1 => step (stepTo s ds k) (ds.getD k do0)
/-- One table. -/
def table (fs : List Fl) (s : St) : St := stepTo ⟨s.F, 8, s.out⟩ (dsOf fs (bestTo fs s.F s.t fs.length)) (dsOf fs (bestTo fs s.F s.t fs.length)).length
def runN (fs : List Fl) : Nat → St → St
  | 0, s => s
  | n + 1, s => if 7 < s.t then s else runN fs n (table fs s)
theorem runN_end (fs : List Fl) (s : St) (h : 7 < s.t) : ∀ n, runN fs n s = s
  | 0 => rfl
  | n + 1 => by unfold runN; rw [if_pos h]
/-- P2.2: what a packet's run through flows that may be sends. -/
def ran (fs : List Fl) (F : List Int) : List Sn := (runN fs 8 ⟨F, 0, []⟩).out

/-- What may be of what a flow of a table does. -/
theorem doB_parts {t : Int} {ds : List Do} {k : Nat} (h : doB t ds k = true) :
    let d := ds.getD k do0
    (d.k = 1 ∧ 0 ≤ d.a ∧ d.a ≤ 9 ∧ wordB d.n = true) ∨ (d.k = 2 ∧ 0 ≤ d.a ∧ d.a ≤ 9 ∧ 0 ≤ d.n ∧ d.n ≤ 9) ∨ (d.k = 3 ∧ 0 ≤ d.a ∧ d.a ≤ 9) ∨ (d.k = 4 ∧ t < d.n ∧ d.n ≤ 7) ∨ (d.k = 5 ∧ wordB d.n = true) ∨ (d.k = 6 ∧ 0 ≤ d.n ∧ d.n ≤ 5) := by
  intro d
  have h' : doesB d.k d.a d.n t ((k : Int) + 1 == (ds.length : Int)) = true := h
  clear_value d
  unfold doesB at h'
  split at h'
  · rename_i e; simp at h'; exact .inl ⟨e, h'.1.1, h'.1.2, by simpa [wordB] using h'.2⟩
  · split at h'
    · rename_i e; simp at h'; exact .inr (.inl ⟨e, h'.1.1, h'.1.2, h'.2.1, h'.2.2⟩)
    · split at h'
      · rename_i e; simp at h'; exact .inr (.inr (.inl ⟨e, h'.1.1, h'.1.2⟩))
      · split at h'
        · rename_i e; simp at h'; exact .inr (.inr (.inr (.inl ⟨e, by omega, h'.1.2.2⟩)))
        · split at h'
          · rename_i e; simp at h'; exact .inr (.inr (.inr (.inr (.inl ⟨e, by simpa [wordB] using h'.2⟩))))
          · split at h'
            · rename_i e; simp at h'; exact .inr (.inr (.inr (.inr (.inr ⟨e, h'.2.1, h'.2.2⟩))))
            · simp at h'

/-- What holds of where a run stands, t tables being behind. -/
def Ok (t : Int) (c : Nat) (s : St) : Prop := WF s.F ∧ t < s.t ∧ s.t ≤ 8 ∧ s.out.length ≤ c
theorem Ok.step {t : Int} {c : Nat} {s : St} {ds : List Do} {k : Nat} (h : Ok t c s) (hd : doB t ds k = true) : Ok t (c + 1) (step s (ds.getD k do0)) := by
  obtain ⟨hF, h1, h2, h3⟩ := h
  have hp := doB_parts hd
  generalize ds.getD k do0 = d at hp
  have hw : ∀ i, wordB (s.F.getD i 0) = true := hF.2
  simp only at hp
  rcases hp with ⟨e, a0, a1, hn⟩ | ⟨e, a0, a1, n0, n1⟩ | ⟨e, a0, a1⟩ | ⟨e, n0, n1⟩ | ⟨e, hn⟩ | ⟨e, n0, n1⟩
  · have : Go.Proofs.YtjcomoinggiedaaGreat.step s d = ⟨s.F.set d.a.toNat d.n, s.t, s.out⟩ := by unfold Go.Proofs.YtjcomoinggiedaaGreat.step doF; simp [e]
    rw [this]; exact ⟨hF.set _ _ hn, h1, h2, by simp; omega⟩
  · have : Go.Proofs.YtjcomoinggiedaaGreat.step s d = ⟨s.F.set d.a.toNat (s.F.getD d.n.toNat 0), s.t, s.out⟩ := by unfold Go.Proofs.YtjcomoinggiedaaGreat.step doF; simp [e]
    rw [this]; exact ⟨hF.set _ _ (hw _), h1, h2, by simp; omega⟩
  · have : Go.Proofs.YtjcomoinggiedaaGreat.step s d = ⟨s.F.set d.a.toNat (if 0 < s.F.getD d.a.toNat 0 then s.F.getD d.a.toNat 0 - 1 else 0), s.t, s.out⟩ := by unfold Go.Proofs.YtjcomoinggiedaaGreat.step doF; simp [e]
    rw [this]
    refine ⟨hF.set _ _ ?_, h1, h2, by simp; omega⟩
    have := hF.bd d.a.toNat
    generalize s.F.getD d.a.toNat 0 = x at this
    split
    · simp [wordB]; omega
    · simp [wordB]
  · have : Go.Proofs.YtjcomoinggiedaaGreat.step s d = ⟨s.F, d.n, s.out⟩ := by unfold Go.Proofs.YtjcomoinggiedaaGreat.step; simp [e]
    rw [this]; exact ⟨hF, n0, by simp; omega, by simp; omega⟩
  · have : Go.Proofs.YtjcomoinggiedaaGreat.step s d = ⟨s.F, s.t, s.out ++ [⟨d.k, d.n, s.F⟩]⟩ := by unfold Go.Proofs.YtjcomoinggiedaaGreat.step; simp [e]
    rw [this]; exact ⟨hF, h1, h2, by simp; omega⟩
  · have : Go.Proofs.YtjcomoinggiedaaGreat.step s d = ⟨s.F, s.t, s.out ++ [⟨d.k, d.n, s.F⟩]⟩ := by unfold Go.Proofs.YtjcomoinggiedaaGreat.step; simp [e]
    rw [this]; exact ⟨hF, h1, h2, by simp; omega⟩
theorem Ok.stepTo {t : Int} {c : Nat} {s : St} {ds : List Do} (h : Ok t c s) (hd : ∀ k, k < ds.length → doB t ds k = true) : ∀ k, k ≤ ds.length → Ok t (c + k) (stepTo s ds k)
  | 0, _ => h
  | k + 1, hk => (Ok.stepTo h hd k (by omega)).step (hd k (by omega))

/-- What is known of flows that may be. -/
theorem ok_flow {fs : List Fl} (h : fsFault fs = 0) {i : Nat} (hi : i < fs.length) : fs.length ≤ 5000 ∧ (fs.getD i fl0).ms.length ≤ 12 ∧ (fs.getD i fl0).ds.length ≤ 100 ∧ 0 ≤ (fs.getD i fl0).t ∧ (fs.getD i fl0).t ≤ 7 ∧ 0 ≤ (fs.getD i fl0).p ∧ (fs.getD i fl0).p ≤ 2000
    ∧ (∀ j, j < (fs.getD i fl0).ms.length → matchB ((fs.getD i fl0).ms.getD j mt0) = true) ∧ (∀ j, j < (fs.getD i fl0).ds.length → doB (fs.getD i fl0).t (fs.getD i fl0).ds j = true) := by
  have h5 : ¬ 5000 < fs.length := fun h' => by unfold fsFault at h; rw [if_pos h'] at h; omega
  unfold fsFault at h
  rw [if_neg h5] at h
  have hz : flFault (fs.getD i fl0) = 0 := by
    clear h5
    induction fs generalizing i with
    | nil => simp at hi
    | cons f r ih =>
      simp only [fsFault1] at h
      by_cases e : flFault f = 0
      · rw [if_pos e] at h
        cases i with
        | zero => simpa using e
        | succ i => rw [List.getD_cons_succ]; exact ih h (by simpa using hi)
      · rw [if_neg e] at h; exact absurd h e
  generalize fs.getD i fl0 = f at hz
  unfold flFault at hz
  split at hz
  · omega
  · rename_i s1
    split at hz
    · omega
    · rename_i s2
      split at hz
      · omega
      · rename_i s3
        split at hz
        · omega
        · rename_i s4
          have s2' : tableB f.t = true ∧ prioB f.p = true := by simpa using s2
          have s3' : f.ms.all matchB = true := by simpa using s3
          have s4' : (List.range f.ds.length).all (doB f.t f.ds) = true := by simpa using s4
          simp only [tableB, prioB, decide_eq_true_eq] at s2'
          rw [List.all_eq_true] at s3' s4'
          refine ⟨by omega, by omega, by omega, s2'.1.1, s2'.1.2, s2'.2.1, s2'.2.2, fun j hj => ?_, fun j hj => s4' j (List.mem_range.2 hj)⟩
          have := s3' f.ms[j] (List.getElem_mem hj)
          simpa [List.getD, List.getElem?_eq_getElem hj] using this

/-- A sent thing's cells. -/
def S (body : ByteArray) (l : List Sn) : List Value := l.flatMap fun x => [.int .i64 x.k, .int .i64 x.n, .int .i64 (x.F.getD 0 0), .int .i64 (x.F.getD 1 0), .int .i64 (x.F.getD 2 0), .int .i64 (x.F.getD 3 0), .int .i64 (x.F.getD 4 0), .int .i64 (x.F.getD 5 0), .int .i64 (x.F.getD 6 0), .int .i64 (x.F.getD 7 0), .int .i64 (x.F.getD 8 0), .int .i64 (x.F.getD 9 0), .string body]
theorem S_append (body : ByteArray) (a b : List Sn) : S body (a ++ b) = S body a ++ S body b := by simp [S]

end Go.Proofs.YtjcomoinggiedaaGreat

namespace Go.Proofs.YtjcomoinggiedaaGreat
open Go.RowKit
set_option linter.unusedVariables false

set_option maxHeartbeats 400000 in
theorem fIsWord_any (n : Int) (w : World) :
    Calls Tryz.prog 128 #[.int .i64 n] w fun e w' => e = .returned (.bool (wordB n)) ∧ w' = w := by
  go_enter Tryz.func128, Tryz.ntmps128
  go_wp2
  all_goals go_ret
  all_goals refine ⟨bool_ret ?_, rfl⟩
  all_goals (unfold wordB; rw [Bool.eq_iff_iff]; simp_all; try omega)

set_option maxRecDepth 100000 in
set_option maxHeartbeats 2000000 in
theorem checkPacket_any (f0 f1 f2 f3 f4 f5 f6 f7 f8 f9 : Int) (body : ByteArray) (w : World) (hb : body.size ≤ maxLen) :
    Calls Tryz.prog 78 #[pkt f0 f1 f2 f3 f4 f5 f6 f7 f8 f9 body] w fun e w' => e = .returned (.int .i64 (pktFault [f0, f1, f2, f3, f4, f5, f6, f7, f8, f9] body.size)) ∧ Below w.heap.size w w' := by
  unfold maxLen at hb
  have i0 : ∀ w : World, (Instr.index 106 (.agg #[.int .i64 f0, .int .i64 f1, .int .i64 f2, .int .i64 f3, .int .i64 f4, .int .i64 f5, .int .i64 f6, .int .i64 f7, .int .i64 f8, .int .i64 f9]) (.int .i64 0)).run Tryz.prog w = .ok (.int .i64 f0) w := fun _ => by kernel_rfl
  have i1 : ∀ w : World, (Instr.index 106 (.agg #[.int .i64 f0, .int .i64 f1, .int .i64 f2, .int .i64 f3, .int .i64 f4, .int .i64 f5, .int .i64 f6, .int .i64 f7, .int .i64 f8, .int .i64 f9]) (.int .i64 1)).run Tryz.prog w = .ok (.int .i64 f1) w := fun _ => by kernel_rfl
  have i2 : ∀ w : World, (Instr.index 106 (.agg #[.int .i64 f0, .int .i64 f1, .int .i64 f2, .int .i64 f3, .int .i64 f4, .int .i64 f5, .int .i64 f6, .int .i64 f7, .int .i64 f8, .int .i64 f9]) (.int .i64 2)).run Tryz.prog w = .ok (.int .i64 f2) w := fun _ => by kernel_rfl
  have i3 : ∀ w : World, (Instr.index 106 (.agg #[.int .i64 f0, .int .i64 f1, .int .i64 f2, .int .i64 f3, .int .i64 f4, .int .i64 f5, .int .i64 f6, .int .i64 f7, .int .i64 f8, .int .i64 f9]) (.int .i64 3)).run Tryz.prog w = .ok (.int .i64 f3) w := fun _ => by kernel_rfl
  have i4 : ∀ w : World, (Instr.index 106 (.agg #[.int .i64 f0, .int .i64 f1, .int .i64 f2, .int .i64 f3, .int .i64 f4, .int .i64 f5, .int .i64 f6, .int .i64 f7, .int .i64 f8, .int .i64 f9]) (.int .i64 4)).run Tryz.prog w = .ok (.int .i64 f4) w := fun _ => by kernel_rfl
  have i5 : ∀ w : World, (Instr.index 106 (.agg #[.int .i64 f0, .int .i64 f1, .int .i64 f2, .int .i64 f3, .int .i64 f4, .int .i64 f5, .int .i64 f6, .int .i64 f7, .int .i64 f8, .int .i64 f9]) (.int .i64 5)).run Tryz.prog w = .ok (.int .i64 f5) w := fun _ => by kernel_rfl
  have i6 : ∀ w : World, (Instr.index 106 (.agg #[.int .i64 f0, .int .i64 f1, .int .i64 f2, .int .i64 f3, .int .i64 f4, .int .i64 f5, .int .i64 f6, .int .i64 f7, .int .i64 f8, .int .i64 f9]) (.int .i64 6)).run Tryz.prog w = .ok (.int .i64 f6) w := fun _ => by kernel_rfl
  have i7 : ∀ w : World, (Instr.index 106 (.agg #[.int .i64 f0, .int .i64 f1, .int .i64 f2, .int .i64 f3, .int .i64 f4, .int .i64 f5, .int .i64 f6, .int .i64 f7, .int .i64 f8, .int .i64 f9]) (.int .i64 7)).run Tryz.prog w = .ok (.int .i64 f7) w := fun _ => by kernel_rfl
  have i8 : ∀ w : World, (Instr.index 106 (.agg #[.int .i64 f0, .int .i64 f1, .int .i64 f2, .int .i64 f3, .int .i64 f4, .int .i64 f5, .int .i64 f6, .int .i64 f7, .int .i64 f8, .int .i64 f9]) (.int .i64 8)).run Tryz.prog w = .ok (.int .i64 f8) w := fun _ => by kernel_rfl
  have i9 : ∀ w : World, (Instr.index 106 (.agg #[.int .i64 f0, .int .i64 f1, .int .i64 f2, .int .i64 f3, .int .i64 f4, .int .i64 f5, .int .i64 f6, .int .i64 f7, .int .i64 f8, .int .i64 f9]) (.int .i64 9)).run Tryz.prog w = .ok (.int .i64 f9) w := fun _ => by kernel_rfl
  have HF : Hid (pktFault [f0, f1, f2, f3, f4, f5, f6, f7, f8, f9] body.size = if ([f0, f1, f2, f3, f4, f5, f6, f7, f8, f9] : List Int).all wordB then (if 40 < body.size then 1 else 0) else 2) := rfl
  generalize pktFault [f0, f1, f2, f3, f4, f5, f6, f7, f8, f9] body.size = R at HF ⊢
  go_enter Tryz.func78, Tryz.ntmps78
  go_wp2_with fail
  obtain ⟨w1, hw1⟩ : ∃ w1, w1 = w.alloc (.cells #[.int .i64 f0, .int .i64 f1, .int .i64 f2, .int .i64 f3, .int .i64 f4, .int .i64 f5, .int .i64 f6, .int .i64 f7, .int .i64 f8, .int .i64 f9, .string body] 108) := ⟨_, rfl⟩
  have hbel : Below w.heap.size w w1 := by rw [hw1]; exact (Below.refl _ _).alloc (Nat.le_refl _) _
  have hc10 : w1.cell? ⟨w.heap.size, 10, none⟩ = some (.string body) := by rw [hw1]; simp
  rw [← hw1]
  clear hw1
  go_loop [7] (fun i => ∃ k : Nat, k ≤ 10 ∧ i = .int .i64 k ∧ Hid ((([f0, f1, f2, f3, f4, f5, f6, f7, f8, f9] : List Int).take k).all wordB = true)) (fun i => 10 - (intOf i).toNat)
  case atStart => exact ⟨0, by omega, rfl, rfl⟩
  case round =>
    obtain ⟨k, hk, rfl, HA⟩ := hrel
    have hk5 : k = 0 ∨ k = 1 ∨ k = 2 ∨ k = 3 ∨ k = 4 ∨ k = 5 ∨ k = 6 ∨ k = 7 ∨ k = 8 ∨ k = 9 ∨ k = 10 := by omega
    rcases hk5 with rfl | rfl | rfl | rfl | rfl | rfl | rfl | rfl | rfl | rfl | rfl
    · by_cases hx : wordB f0 = true
      · go_wp2_with (go_at_call 128; refine (fIsWord_any _ _).mono ?_; rintro e w' ⟨rfl, rfl⟩)
        go_round
        case rel => exact ⟨1, by omega, rfl, hide (by simp [hx])⟩
        case measure => simp [intOf]
      · have hx' : wordB f0 = false := by simpa using hx
        clear hx
        go_wp2_with (go_at_call 128; refine (fIsWord_any _ _).mono ?_; rintro e w' ⟨rfl, rfl⟩)
        go_ret
        exact ⟨int_ret (by rw [HF.out]; simp [hx']), hbel⟩
    · by_cases hx : wordB f1 = true
      · go_wp2_with (go_at_call 128; refine (fIsWord_any _ _).mono ?_; rintro e w' ⟨rfl, rfl⟩)
        go_round
        case rel => exact ⟨2, by omega, rfl, hide (by have := HA.out; simp at this ⊢; simp [this, hx])⟩
        case measure => simp [intOf]
      · have hx' : wordB f1 = false := by simpa using hx
        clear hx
        go_wp2_with (go_at_call 128; refine (fIsWord_any _ _).mono ?_; rintro e w' ⟨rfl, rfl⟩)
        go_ret
        exact ⟨int_ret (by rw [HF.out]; simp [hx']), hbel⟩
    · by_cases hx : wordB f2 = true
      · go_wp2_with (go_at_call 128; refine (fIsWord_any _ _).mono ?_; rintro e w' ⟨rfl, rfl⟩)
        go_round
        case rel => exact ⟨3, by omega, rfl, hide (by have := HA.out; simp at this ⊢; simp [this, hx])⟩
        case measure => simp [intOf]
      · have hx' : wordB f2 = false := by simpa using hx
        clear hx
        go_wp2_with (go_at_call 128; refine (fIsWord_any _ _).mono ?_; rintro e w' ⟨rfl, rfl⟩)
        go_ret
        exact ⟨int_ret (by rw [HF.out]; simp [hx']), hbel⟩
    · by_cases hx : wordB f3 = true
      · go_wp2_with (go_at_call 128; refine (fIsWord_any _ _).mono ?_; rintro e w' ⟨rfl, rfl⟩)
        go_round
        case rel => exact ⟨4, by omega, rfl, hide (by have := HA.out; simp at this ⊢; simp [this, hx])⟩
        case measure => simp [intOf]
      · have hx' : wordB f3 = false := by simpa using hx
        clear hx
        go_wp2_with (go_at_call 128; refine (fIsWord_any _ _).mono ?_; rintro e w' ⟨rfl, rfl⟩)
        go_ret
        exact ⟨int_ret (by rw [HF.out]; simp [hx']), hbel⟩
    · by_cases hx : wordB f4 = true
      · go_wp2_with (go_at_call 128; refine (fIsWord_any _ _).mono ?_; rintro e w' ⟨rfl, rfl⟩)
        go_round
        case rel => exact ⟨5, by omega, rfl, hide (by have := HA.out; simp at this ⊢; simp [this, hx])⟩
        case measure => simp [intOf]
      · have hx' : wordB f4 = false := by simpa using hx
        clear hx
        go_wp2_with (go_at_call 128; refine (fIsWord_any _ _).mono ?_; rintro e w' ⟨rfl, rfl⟩)
        go_ret
        exact ⟨int_ret (by rw [HF.out]; simp [hx']), hbel⟩
    · by_cases hx : wordB f5 = true
      · go_wp2_with (go_at_call 128; refine (fIsWord_any _ _).mono ?_; rintro e w' ⟨rfl, rfl⟩)
        go_round
        case rel => exact ⟨6, by omega, rfl, hide (by have := HA.out; simp at this ⊢; simp [this, hx])⟩
        case measure => simp [intOf]
      · have hx' : wordB f5 = false := by simpa using hx
        clear hx
        go_wp2_with (go_at_call 128; refine (fIsWord_any _ _).mono ?_; rintro e w' ⟨rfl, rfl⟩)
        go_ret
        exact ⟨int_ret (by rw [HF.out]; simp [hx']), hbel⟩
    · by_cases hx : wordB f6 = true
      · go_wp2_with (go_at_call 128; refine (fIsWord_any _ _).mono ?_; rintro e w' ⟨rfl, rfl⟩)
        go_round
        case rel => exact ⟨7, by omega, rfl, hide (by have := HA.out; simp at this ⊢; simp [this, hx])⟩
        case measure => simp [intOf]
      · have hx' : wordB f6 = false := by simpa using hx
        clear hx
        go_wp2_with (go_at_call 128; refine (fIsWord_any _ _).mono ?_; rintro e w' ⟨rfl, rfl⟩)
        go_ret
        exact ⟨int_ret (by rw [HF.out]; simp [hx']), hbel⟩
    · by_cases hx : wordB f7 = true
      · go_wp2_with (go_at_call 128; refine (fIsWord_any _ _).mono ?_; rintro e w' ⟨rfl, rfl⟩)
        go_round
        case rel => exact ⟨8, by omega, rfl, hide (by have := HA.out; simp at this ⊢; simp [this, hx])⟩
        case measure => simp [intOf]
      · have hx' : wordB f7 = false := by simpa using hx
        clear hx
        go_wp2_with (go_at_call 128; refine (fIsWord_any _ _).mono ?_; rintro e w' ⟨rfl, rfl⟩)
        go_ret
        exact ⟨int_ret (by rw [HF.out]; simp [hx']), hbel⟩
    · by_cases hx : wordB f8 = true
      · go_wp2_with (go_at_call 128; refine (fIsWord_any _ _).mono ?_; rintro e w' ⟨rfl, rfl⟩)
        go_round
        case rel => exact ⟨9, by omega, rfl, hide (by have := HA.out; simp at this ⊢; simp [this, hx])⟩
        case measure => simp [intOf]
      · have hx' : wordB f8 = false := by simpa using hx
        clear hx
        go_wp2_with (go_at_call 128; refine (fIsWord_any _ _).mono ?_; rintro e w' ⟨rfl, rfl⟩)
        go_ret
        exact ⟨int_ret (by rw [HF.out]; simp [hx']), hbel⟩
    · by_cases hx : wordB f9 = true
      · go_wp2_with (go_at_call 128; refine (fIsWord_any _ _).mono ?_; rintro e w' ⟨rfl, rfl⟩)
        go_round
        case rel => exact ⟨10, by omega, rfl, hide (by have := HA.out; simp at this ⊢; simp [this, hx])⟩
        case measure => simp [intOf]
      · have hx' : wordB f9 = false := by simpa using hx
        clear hx
        go_wp2_with (go_at_call 128; refine (fIsWord_any _ _).mono ?_; rintro e w' ⟨rfl, rfl⟩)
        go_ret
        exact ⟨int_ret (by rw [HF.out]; simp [hx']), hbel⟩
    · have HL := hide (show ([f0, f1, f2, f3, f4, f5, f6, f7, f8, f9] : List Int).all wordB = true from by simpa using HA.out)
      by_cases h40 : 40 < body.size
      · go_wp2_with fail
        go_ret
        exact ⟨int_ret (by rw [HF.out, HL.out, if_pos rfl, if_pos h40]), hbel⟩
      · go_wp2_with fail
        go_ret
        exact ⟨int_ret (by rw [HF.out, HL.out, if_pos rfl, if_neg h40]), hbel⟩

end Go.Proofs.YtjcomoinggiedaaGreat

namespace Go.Proofs.YtjcomoinggiedaaGreat
open Go.RowKit
set_option linter.unusedVariables false
set_option maxRecDepth 100000

set_option maxHeartbeats 400000 in
theorem fIsField_any (n : Int) (w : World) :
    Calls Tryz.prog 201 #[.int .i64 n] w fun e w' => e = .returned (.bool (fieldB n)) ∧ w' = w := by
  go_enter Tryz.func201, Tryz.ntmps201
  go_wp2
  all_goals go_ret
  all_goals refine ⟨bool_ret ?_, rfl⟩
  all_goals (unfold fieldB; rw [Bool.eq_iff_iff]; simp_all; try omega)

set_option maxHeartbeats 2000000 in
theorem isDoes_any (kind a n table : Int) (w : World) :
    Calls Tryz.prog 202 #[.agg #[.int .i64 kind, .int .i64 a, .int .i64 n], .int .i64 table] w fun e w' => e = .returned (.bool (doesB kind a n table true)) ∧ Below w.heap.size w w' := by
  have HI := hide fIsField_any
  have HJ := hide fIsWord_any
  have hcase : kind = 1 ∨ kind = 2 ∨ kind = 3 ∨ kind = 4 ∨ kind = 5 ∨ kind = 6 ∨ (¬ kind = 1 ∧ ¬ kind = 2 ∧ ¬ kind = 3 ∧ ¬ kind = 4 ∧ ¬ kind = 5 ∧ ¬ kind = 6) := by omega
  rcases hcase with rfl | rfl | rfl | rfl | rfl | rfl | ⟨h1, h2, h3, h4, h5, h6⟩
  all_goals
    go_enter Tryz.func202, Tryz.ntmps202
    go_wp2_with (first | (go_at_call 201; refine (unhide HI _ _).mono ?_; rintro e w' ⟨rfl, rfl⟩) | (go_at_call 128; refine (unhide HJ _ _).mono ?_; rintro e w' ⟨rfl, rfl⟩))
    all_goals go_ret
    all_goals refine ⟨bool_ret ?_, (Below.refl _ _).alloc (Nat.le_refl _) _⟩
    all_goals (unfold doesB; simp_all [fieldB, wordB]; try (first | (intros; omega) | (rw [Bool.eq_iff_iff]; simp; omega)))

theorem and_not_iff (x y : BitVec 64) : x &&& ~~~y = 0#64 ↔ x &&& y = x := by
  constructor
  · intro h
    apply BitVec.eq_of_getLsbD_eq
    intro i hi
    have := congrArg (fun z => BitVec.getLsbD z i) h
    simp [hi] at this
    simp [hi]
    exact this
  · intro h
    apply BitVec.eq_of_getLsbD_eq
    intro i hi
    have := congrArg (fun z => BitVec.getLsbD z i) h
    simp [hi] at this
    simp [hi]
    exact this

theorem ofInt_word (a : Nat) (h : a ≤ 65535) : (BitVec.ofInt 64 (a : Int)).toNat = a := by
  simp
  omega

theorem andNot_word (v m : Int) (hv : wordB v = true) (hm : wordB m = true) : (bits .andNot .i64 v m == 0) = (mk v m == v) := by
  unfold wordB at hv hm
  simp at hv hm
  obtain ⟨a, rfl⟩ := Int.eq_ofNat_of_zero_le hv.1
  obtain ⟨b, rfl⟩ := Int.eq_ofNat_of_zero_le hm.1
  have ha := ofInt_word a (by omega)
  have hb := ofInt_word b (by omega)
  show (IntKind.i64.wrap ((BitVec.ofInt 64 (a : Int) &&& ~~~BitVec.ofInt 64 (b : Int)).toNat : Int) == 0) = _
  generalize BitVec.ofInt 64 (a : Int) = X at ha ⊢
  generalize BitVec.ofInt 64 (b : Int) = Y at hb ⊢
  have hle : (X &&& ~~~Y).toNat ≤ a := by rw [BitVec.toNat_and, ha]; exact Nat.and_le_left
  rw [wrapI _ (by omega) (by omega)]
  have e1 : (X &&& ~~~Y).toNat = 0 ↔ (X &&& Y).toNat = X.toNat := by
    have h := and_not_iff X Y
    rw [← BitVec.toNat_inj, ← BitVec.toNat_inj] at h
    simpa using h
  rw [BitVec.toNat_and (x := X) (y := Y), ha, hb] at e1
  unfold mk
  rw [Bool.eq_iff_iff, beq_iff_eq, beq_iff_eq, Int.toNat_natCast, Int.toNat_natCast]
  constructor
  · intro h
    rw [e1.1 (by exact_mod_cast h)]
  · intro h
    rw [e1.2 (by exact_mod_cast h)]
    rfl

set_option maxHeartbeats 2000000 in
theorem isMatch_any (f m v : Int) (w : World) :
    Calls Tryz.prog 182 #[.agg #[.int .i64 f, .int .i64 m, .int .i64 v]] w fun e w' => e = .returned (.bool (matchB ⟨f, m, v⟩)) ∧ Below w.heap.size w w' := by
  have HI := hide fIsField_any
  have HJ := hide fIsWord_any
  have HR : Hid (matchB ⟨f, m, v⟩ = (fieldB f && wordB m && wordB v && (mk v m == v))) := rfl
  generalize matchB ⟨f, m, v⟩ = R at HR ⊢
  go_enter Tryz.func182, Tryz.ntmps182
  go_wp2_with (first | (go_at_call 201; refine (unhide HI _ _).mono ?_; rintro e w' ⟨rfl, rfl⟩) | (go_at_call 128; refine (unhide HJ _ _).mono ?_; rintro e w' ⟨rfl, rfl⟩))
  all_goals go_ret
  all_goals refine ⟨bool_ret ?_, (Below.refl _ _).alloc (Nat.le_refl _) _⟩
  all_goals (rw [HR.out]; try simp_all)
  all_goals (apply andNot_word <;> assumption)

end Go.Proofs.YtjcomoinggiedaaGreat

namespace Go.Proofs.YtjcomoinggiedaaGreat
open Go.RowKit
set_option linter.unusedVariables false
set_option maxRecDepth 100000

set_option maxHeartbeats 1000000 in
theorem noMatch_any (f m v : Int) (w : World) :
    Calls Tryz.prog 181 #[.agg #[.int .i64 f, .int .i64 m, .int .i64 v]] w fun e w' => e = .returned (.bool (!matchB ⟨f, m, v⟩)) ∧ Below w.heap.size w w' := by
  have HI := hide (isMatch_any f m v)
  generalize matchB ⟨f, m, v⟩ = R at HI ⊢
  go_enter Tryz.func181, Tryz.ntmps181
  go_wp2_with fail
  refine (unhide HI _).mono ?_
  rintro e w1 ⟨rfl, hb1⟩
  go_wp2_with fail
  go_ret
  exact ⟨rfl, by simpa using (by first | exact hb1 | exact ((Below.refl _ _).alloc (Nat.le_refl _) _).trans (hb1.mono (by simp)))⟩

set_option maxHeartbeats 2000000 in
theorem indexMs_any (v : Value) (ms : List Mt) (w : World) (hM : MsAt w v ms) (hl : ms.length ≤ 12) :
    Calls Tryz.prog 200 #[v, .func (.func 181) #[] #[]] w fun e w' => ∃ r : Int, e = .returned (.int .i64 r) ∧ decide (0 ≤ r) = !ms.all matchB ∧ Below w.heap.size w w' := by
  obtain ⟨a, cap, rfl, hn, hL⟩ := hM
  go_enter Tryz.func200, Tryz.ntmps200
  go_wp2_with fail
  go_loopw [8] (fun i wr => ∃ k : Nat, k ≤ ms.length ∧ i = .int .i64 k ∧ (∀ j, j < k → matchB (ms.getD j mt0) = true) ∧ Below w.heap.size w wr) (fun i _ => ms.length - (intOf i).toNat)
  case atStart => exact ⟨0, by omega, rfl, fun j h => absurd h (by omega), Below.refl _ _⟩
  case round =>
    obtain ⟨k, hk, rfl, hall, hbel⟩ := hrel
    have HALL := hide hall
    clear hall
    by_cases hlt : k < ms.length
    · obtain ⟨b, off, rfl, hcap, hcell⟩ : ∃ b off, a = some ⟨b, off, none⟩ ∧ ms.length ≤ cap ∧ ∀ i, i < ms.length → w.cell? ⟨b, off + i * 3, none⟩ = some (.int .i64 (ms.getD i mt0).f) ∧ w.cell? ⟨b, off + i * 3 + 1, none⟩ = some (.int .i64 (ms.getD i mt0).m) ∧ w.cell? ⟨b, off + i * 3 + 2, none⟩ = some (.int .i64 (ms.getD i mt0).v) := by
        rcases hL with h0 | h
        · omega
        · exact h
      obtain ⟨g0, g1, g2⟩ := hcell k hlt
      have m0' := cell_below g0 hbel (Nat.le_refl _)
      have m1' := cell_below g1 hbel (Nat.le_refl _)
      have m2' := cell_below g2 hbel (Nat.le_refl _)
      have hsz := hbel.size
      have HX : Hid (matchB (ms.getD k mt0) = true → ∀ x, x < k + 1 → matchB (ms.getD x mt0) = true) := fun h x hx => by
        by_cases e : x = k
        · subst e; exact h
        · exact HALL.out x (by omega)
      have HF : Hid (matchB (ms.getD k mt0) = false → ms.all matchB = false) := fun h => by
        rw [List.all_eq_false]
        exact ⟨ms[k], List.getElem_mem hlt, by simpa [List.getD, List.getElem?_eq_getElem hlt] using h⟩
      have HC : Hid (∀ W : World, Calls Tryz.prog 181 #[.agg #[.int .i64 (ms.getD k mt0).f, .int .i64 (ms.getD k mt0).m, .int .i64 (ms.getD k mt0).v]] W fun e w' => e = .returned (.bool (!matchB (ms.getD k mt0))) ∧ Below W.heap.size W w') := fun W => noMatch_any _ _ _ W
      clear g0 g1 g2 hcell hL HALL
      generalize (ms.getD k mt0) = M at *
      by_cases hx : matchB M = true
      · have HR := hide (HX.out hx)
        rw [hx] at HC
        clear HX HF hx
        go_wp2_with fail
        refine (unhide HC _).mono ?_
        rintro e w1 ⟨rfl, hb1⟩
        have hb2 := hbel.trans (hb1.mono hsz)
        go_wp2_with fail
        go_roundw
        case rel => exact ⟨k + 1, by omega, by go_num, HR.out, hb2⟩
        case measure => simp [intOf]; omega
      · have hx' : matchB M = false := by simpa using hx
        have HR := hide (HF.out hx')
        rw [hx'] at HC
        clear HX HF hx hx'
        go_wp2_with fail
        refine (unhide HC _).mono ?_
        rintro e w1 ⟨rfl, hb1⟩
        have hb2 := hbel.trans (hb1.mono hsz)
        go_wp2_with fail
        go_ret
        exact ⟨_, rfl, by rw [HR.out]; simp, hb2⟩
    · have HR : Hid (ms.all matchB = true) := by
        refine hide ?_
        rw [List.all_eq_true]
        intro x hx
        obtain ⟨i, hi, rfl⟩ := List.getElem_of_mem hx
        have := HALL.out i (by omega)
        simpa [List.getD, List.getElem?_eq_getElem hi] using this
      clear hL HALL
      go_wp2_with fail
      go_ret
      exact ⟨_, rfl, by rw [HR.out]; simp, hbel⟩

set_option maxHeartbeats 1000000 in
theorem containsMs_any (v : Value) (ms : List Mt) (w : World) (hM : MsAt w v ms) (hl : ms.length ≤ 12) :
    Calls Tryz.prog 180 #[v, .func (.func 181) #[] #[]] w fun e w' => e = .returned (.bool (!ms.all matchB)) ∧ Below w.heap.size w w' := by
  have HM := hide hM
  obtain ⟨a, cap, rfl, hn, hL⟩ := hM
  clear hL
  go_enter Tryz.func180, Tryz.ntmps180
  go_wp2_with fail
  refine (indexMs_any _ ms _ HM.out hl).mono ?_
  rintro e w1 ⟨r, rfl, hr, hb1⟩
  have HRR := hide hr
  clear hr
  go_wp2_with fail
  go_ret
  exact ⟨bool_ret HRR.out, hb1⟩

set_option maxHeartbeats 4000000 in
theorem mayDo_any (f : Fl) (mv v : Value) (w : World) (hD : DsAt w v f.ds) (hl : f.ds.length ≤ 100) :
    Calls Tryz.prog 183 #[.agg #[.int .i64 f.t, .int .i64 f.p, mv, v]] w fun e w' => e = .returned (.bool ((List.range f.ds.length).all (doB f.t f.ds))) ∧ Below w.heap.size w w' := by
  have HDS := hide hD
  obtain ⟨a, cap, rfl, hn, hL⟩ := hD
  clear hL
  go_enter Tryz.func183, Tryz.ntmps183
  go_wp2_with fail
  obtain ⟨W1, hW1⟩ : ∃ W1, W1 = w.alloc (.cells #[.int .i64 f.t, .int .i64 f.p, mv, .slice a f.ds.length cap] 96) := ⟨_, rfl⟩
  have q0 : W1.cell? ⟨w.heap.size, 0, none⟩ = some (.int .i64 f.t) := by rw [hW1]; simp
  have q3 : W1.cell? ⟨w.heap.size, 3, none⟩ = some (.slice a f.ds.length cap) := by rw [hW1]; simp
  have hbW : Below w.heap.size w W1 := by rw [hW1]; exact (Below.refl _ _).alloc (Nat.le_refl _) _
  have HD1 := hide (HDS.out.below hbW (Nat.le_refl _))
  have hz1 : w.heap.size < W1.heap.size := by rw [hW1]; simp
  rw [← hW1]
  clear hW1 HDS
  go_loopw [8] (fun i wr => ∃ k : Nat, k ≤ f.ds.length ∧ i = .int .i64 k ∧ (∀ j, j < k → doB f.t f.ds j = true) ∧ Below W1.heap.size W1 wr) (fun i _ => f.ds.length - (intOf i).toNat)
  case atStart => exact ⟨0, by omega, rfl, fun j h => absurd h (by omega), Below.refl _ _⟩
  case round =>
    obtain ⟨k, hk, rfl, hall, hbel⟩ := hrel
    have HALL := hide hall
    clear hall
    have hbel1 : Below w.heap.size w wr := hbW.trans (hbel.mono hbW.size)
    have c0 := cell_below q0 hbel (Nat.le_refl _)
    have c3 := cell_below q3 hbel (Nat.le_refl _)
    have hszr := hbel.size
    have hszw : w.heap.size < wr.heap.size := by omega
    by_cases hlt : k < f.ds.length
    · obtain ⟨a', cap', hv, hn', hL⟩ := HD1.out
      simp only [Value.slice.injEq] at hv
      obtain ⟨rfl, _, rfl⟩ := hv
      obtain ⟨b, off, rfl, hcap, hcell⟩ : ∃ b off, a = some ⟨b, off, none⟩ ∧ f.ds.length ≤ cap ∧ ∀ i, i < f.ds.length → W1.cell? ⟨b, off + i * 3, none⟩ = some (.int .i64 (f.ds.getD i do0).k) ∧ W1.cell? ⟨b, off + i * 3 + 1, none⟩ = some (.int .i64 (f.ds.getD i do0).a) ∧ W1.cell? ⟨b, off + i * 3 + 2, none⟩ = some (.int .i64 (f.ds.getD i do0).n) := by
        rcases hL with h0 | h
        · omega
        · exact h
      obtain ⟨g0, g1, g2⟩ := hcell k hlt
      have m0' := cell_below g0 hbel (Nat.le_refl _)
      have m1' := cell_below g1 hbel (Nat.le_refl _)
      have m2' := cell_below g2 hbel (Nat.le_refl _)
      have hbb := cell_lt m0'
      have HX : Hid (doB f.t f.ds k = true → ∀ x, x < k + 1 → doB f.t f.ds x = true) := fun h x hx => by
        by_cases e : x = k
        · subst e; exact h
        · exact HALL.out x (by omega)
      have HF : Hid (doB f.t f.ds k = false → (List.range f.ds.length).all (doB f.t f.ds) = false) := fun h => by
        rw [List.all_eq_false]
        exact ⟨k, List.mem_range.2 hlt, by simpa using h⟩
      have HD : Hid (doB f.t f.ds k = doesB (f.ds.getD k do0).k (f.ds.getD k do0).a (f.ds.getD k do0).n f.t ((k : Int) + 1 == (f.ds.length : Int))) := rfl
      clear g0 g1 g2 hcell hL HALL HD1 hn'
      generalize (f.ds.getD k do0).k = dk at *
      generalize (f.ds.getD k do0).a = da at *
      generalize (f.ds.getD k do0).n = dn at *
      have HT : Hid (∀ last, doesB dk da dn f.t last = (doesB dk da dn f.t true && (!(dk == 4) || last))) := fun last => by
        unfold doesB
        by_cases e : dk = 4
        · subst e; simp
        · simp [e]
      have HC := hide (isDoes_any dk da dn f.t)
      generalize doesB dk da dn f.t true = R at HC HT
      have hbA : Below wr.heap.size wr (wr.alloc (.cells #[.int .i64 dk, .int .i64 da, .int .i64 dn] 145)) := (Below.refl _ _).alloc (Nat.le_refl _) _
      have k0 : (wr.alloc (.cells #[.int .i64 dk, .int .i64 da, .int .i64 dn] 145)).cell? ⟨wr.heap.size, 0, none⟩ = some (.int .i64 dk) := by simp
      have k3 := cell_below c3 hbA (Nat.le_refl _)
      have HK0 := hide k0
      have HK3 := hide k3
      clear k0 k3
      have hwl : IntKind.i64.wrap ((f.ds.length : Int) - 1) = (f.ds.length : Int) - 1 := wrapI _ (by omega) (by omega)
      go_wp2_with fail
      refine (unhide HC _).mono ?_
      rintro e w1 ⟨rfl, hb1⟩
      have n0 := cell_below HK0.out hb1 (Nat.le_refl _)
      have n3 := cell_below HK3.out hb1 (Nat.le_refl _)
      have hbA2 := hbA.trans (hb1.mono hbA.size)
      have hbN : Below W1.heap.size W1 w1 := hbel.trans (hbA2.mono hszr)
      have hbN1 : Below w.heap.size w w1 := hbel1.trans (hbA2.mono (by omega))
      clear HK0 HK3 hb1 hbA hbA2 HC c0 c3 m0' m1' m2' q0 q3
      by_cases hR : R = true
      · subst hR
        by_cases e4 : dk = 4
        · by_cases el : k + 1 = f.ds.length
          · have HRR := hide (HX.out (by rw [HD.out, HT.out]; simp; omega))
            have hne : ((k : Int) != (f.ds.length : Int) - 1) = false := by simp; omega
            clear HX HF HD HT
            go_wp2_with fail
            go_roundw
            case rel => exact ⟨k + 1, by omega, by go_num, HRR.out, hbN⟩
            case measure => simp [intOf]; omega
          · have HRR := hide (HF.out (by rw [HD.out, HT.out]; simp [e4]; omega))
            have hne : ((k : Int) != (f.ds.length : Int) - 1) = true := by simp; omega
            clear HX HF HD HT
            go_wp2_with fail
            go_ret
            exact ⟨bool_ret HRR.out.symm, hbN1⟩
        · have HRR := hide (HX.out (by rw [HD.out, HT.out]; simp [e4]))
          clear HX HF HD HT
          go_wp2_with fail
          go_roundw
          case rel => exact ⟨k + 1, by omega, by go_num, HRR.out, hbN⟩
          case measure => simp [intOf]; omega
      · have hR' : R = false := by simpa using hR
        subst hR'
        have HRR := hide (HF.out (by rw [HD.out, HT.out]; simp))
        clear HX HF HD HT hR
        go_wp2_with fail
        go_ret
        exact ⟨bool_ret HRR.out.symm, hbN1⟩
    · have HR : Hid ((List.range f.ds.length).all (doB f.t f.ds) = true) := by
        refine hide ?_
        rw [List.all_eq_true]
        intro j hj
        exact HALL.out j (by have := List.mem_range.1 hj; omega)
      clear HALL
      go_wp2_with fail
      go_ret
      exact ⟨bool_ret HR.out.symm, hbel1⟩

set_option maxHeartbeats 4000000 in
theorem checkFlow_any (f : Fl) (mv dv : Value) (w : World) (hM : MsAt w mv f.ms) (hD : DsAt w dv f.ds) :
    Calls Tryz.prog 129 #[.agg #[.int .i64 f.t, .int .i64 f.p, mv, dv]] w fun e w' => e = .returned (.int .i64 (flFault f)) ∧ Below w.heap.size w w' := by
  have HMS := hide hM
  have HDS := hide hD
  obtain ⟨ma, mcap, rfl, hmn, hmL⟩ := hM
  obtain ⟨da, dcap, rfl, hdn, hdL⟩ := hD
  clear hmL hdL
  have hA : ∀ o : Obj, Below w.heap.size w (w.alloc o) := fun o => (Below.refl _ _).alloc (Nat.le_refl _) o
  by_cases s1 : 12 < f.ms.length
  · have HV : Hid (flFault f = 1) := flFault_size (.inl s1)
    go_enter Tryz.func129, Tryz.ntmps129
    go_wp2_with fail
    go_ret
    exact ⟨int_ret HV.out.symm, hA _⟩
  · by_cases s2 : 100 < f.ds.length
    · have HV : Hid (flFault f = 1) := flFault_size (.inr s2)
      go_enter Tryz.func129, Tryz.ntmps129
      go_wp2_with fail
      go_ret
      exact ⟨int_ret HV.out.symm, hA _⟩
    · have hns : ¬ (12 < f.ms.length ∨ 100 < f.ds.length) := by omega
      by_cases s3 : (tableB f.t && prioB f.p) = true
      · obtain ⟨s4, s5⟩ : tableB f.t = true ∧ prioB f.p = true := by simpa using s3
        have t0 : 0 ≤ f.t ∧ f.t ≤ 7 := by simpa [tableB] using s4
        have t1 : 0 ≤ f.p ∧ f.p ≤ 2000 := by simpa [prioB] using s5
        have a1 : decide (f.t < 0) = false := by simp; omega
        have a2 : decide (8 ≤ f.t) = false := by simp; omega
        have a3 : decide (f.p < 0) = false := by simp; omega
        have a4 : decide (2000 < f.p) = false := by simp; omega
        clear s4 s5
        have HW : Hid (∀ o : Obj, MsAt (w.alloc o) (.slice ma f.ms.length mcap) f.ms) := fun o => HMS.out.below (hA o) (Nat.le_refl _)
        go_enter Tryz.func129, Tryz.ntmps129
        go_wp2_with fail
        obtain ⟨W1, hW1⟩ : ∃ W1, W1 = w.alloc (.cells #[.int .i64 f.t, .int .i64 f.p, .slice ma f.ms.length mcap, .slice da f.ds.length dcap] 96) := ⟨_, rfl⟩
        have q0 : W1.cell? ⟨w.heap.size, 0, none⟩ = some (.int .i64 f.t) := by rw [hW1]; simp
        have q1 : W1.cell? ⟨w.heap.size, 1, none⟩ = some (.int .i64 f.p) := by rw [hW1]; simp
        have q2 : W1.cell? ⟨w.heap.size, 2, none⟩ = some (.slice ma f.ms.length mcap) := by rw [hW1]; simp
        have q3 : W1.cell? ⟨w.heap.size, 3, none⟩ = some (.slice da f.ds.length dcap) := by rw [hW1]; simp
        have hbW : Below w.heap.size w W1 := by rw [hW1]; exact hA _
        rw [← hW1]
        clear hW1 HW
        have HM1 := hide (HMS.out.below hbW (Nat.le_refl _))
        have HD1 := hide (HDS.out.below hbW (Nat.le_refl _))
        clear HMS HDS hA
        refine (containsMs_any _ f.ms _ HM1.out (by omega)).mono ?_
        rintro e w1 ⟨rfl, hb1⟩
        have HD2 := hide (HD1.out.below hb1 (Nat.le_refl _))
        have r0 := cell_below q0 hb1 (Nat.le_refl _)
        have r1 := cell_below q1 hb1 (Nat.le_refl _)
        have r2 := cell_below q2 hb1 (Nat.le_refl _)
        have r3 := cell_below q3 hb1 (Nat.le_refl _)
        have hbel := hbW.trans (hb1.mono hbW.size)
        clear q0 q1 q2 q3 HM1 HD1 hb1 hbW
        have hs1 := hbel.size
        by_cases sm : f.ms.all matchB = true
        · rw [sm]
          have HC := hide (mayDo_any f (.slice ma f.ms.length mcap) _ w1 HD2.out (by omega))
          have HV : Hid (flFault f = if (List.range f.ds.length).all (doB f.t f.ds) = false then 4 else 0) := by
            show _ = _
            unfold flFault; rw [if_neg hns, if_neg (by simp [s3]), if_neg (by simp [sm])]
          clear HD2 s3 sm
          generalize (List.range f.ds.length).all (doB f.t f.ds) = R at HC HV
          go_wp2_with fail
          refine (unhide HC).mono ?_
          rintro e w2 ⟨rfl, hb2⟩
          have hbel2 := hbel.trans (hb2.mono hs1)
          clear r0 r1 r2 r3
          cases R
          · go_wp2_with fail
            go_ret
            exact ⟨int_ret (by rw [HV.out]; rfl), hbel2⟩
          · go_wp2_with fail
            go_ret
            exact ⟨int_ret (by rw [HV.out]; rfl), hbel2⟩
        · have sm' : f.ms.all matchB = false := by simpa using sm
          rw [sm']
          have HV : Hid (flFault f = 4) := by
            show _ = _
            unfold flFault; rw [if_neg hns, if_neg (by simp [s3]), if_pos sm']
          clear HD2 s3 sm sm'
          go_wp2_with fail
          go_ret
          exact ⟨int_ret HV.out.symm, hbel⟩
      · have s3' : (tableB f.t && prioB f.p) = false := by simpa using s3
        have HV : Hid (flFault f = 2) := flFault_range hns s3'
        have hcase : f.t < 0 ∨ 8 ≤ f.t ∨ f.p < 0 ∨ 2000 < f.p := by simp [tableB, prioB] at s3'; omega
        go_enter Tryz.func129, Tryz.ntmps129
        go_wp2_with fail
        all_goals first | (exfalso; omega) | (go_ret; exact ⟨int_ret HV.out.symm, hA _⟩)

set_option maxHeartbeats 4000000 in
theorem fCheck_any (v : Value) (fs : List Fl) (w : World) (hF : FsAt w v fs) (hm : fs.length ≤ 140737488355328) :
    Calls Tryz.prog 79 #[v] w fun e w' => e = .returned (.int .i64 (fsFault fs)) ∧ Below w.heap.size w w' := by
  obtain ⟨a, cap, rfl, hn, hL⟩ := hF
  by_cases h5 : 5000 < fs.length
  · have HR : Hid (fsFault fs = 1) := by show _ = _; unfold fsFault; rw [if_pos h5]
    clear hL
    go_enter Tryz.func79, Tryz.ntmps79
    go_wp2_with fail
    go_ret
    exact ⟨int_ret HR.out.symm, Below.refl _ _⟩
  · have HR : Hid (fsFault fs = fsFault1 fs) := by show _ = _; unfold fsFault; rw [if_neg h5]
    go_enter Tryz.func79, Tryz.ntmps79
    go_wp2_with fail
    go_loopw [11] (fun i wr => ∃ k : Nat, k ≤ fs.length ∧ i = .int .i64 k ∧ (∀ j, j < k → flFault (fs.getD j fl0) = 0) ∧ Below w.heap.size w wr) (fun i _ => fs.length - (intOf i).toNat)
    case atStart => exact ⟨0, by omega, rfl, fun j h => absurd h (by omega), Below.refl _ _⟩
    case round =>
      obtain ⟨k, hk, rfl, hall, hbel⟩ := hrel
      have HALL := hide hall
      clear hall
      by_cases hlt : k < fs.length
      · obtain ⟨b, off, rfl, hcap, hcell⟩ : ∃ b off, a = some ⟨b, off, none⟩ ∧ fs.length ≤ cap ∧ ∀ i, i < fs.length → FlAt w b (off + i * 4) (fs.getD i fl0) := by
          rcases hL with h0 | h
          · omega
          · exact h
        have hf := (hcell k hlt).below hbel (Nat.le_refl _)
        have HA : Hid (flFault (fs.getD k fl0) = 0 → ∀ j, j < k + 1 → flFault (fs.getD j fl0) = 0) := fun h j hj => by
          by_cases e : j = k
          · subst e; exact h
          · exact HALL.out j (by omega)
        have HB : Hid (flFault (fs.getD k fl0) ≠ 0 → fsFault fs = flFault (fs.getD k fl0)) := fun h => by rw [HR.out]; exact fs_at fs k hlt HALL.out h
        clear hL hcell HALL HR
        generalize fs.getD k fl0 = f at *
        obtain ⟨f0, f1, mv, dv, f2, f3, hms, hds⟩ := hf
        have HMS := hide hms
        have HDS := hide hds
        obtain ⟨ma, mcap, rfl, hmn, hmL⟩ := hms
        obtain ⟨da, dcap, rfl, hdn, hdL⟩ := hds
        clear hmL hdL
        have hsz := hbel.size
        have hA : ∀ o : Obj, Below wr.heap.size wr (wr.alloc o) := fun o => (Below.refl _ _).alloc (Nat.le_refl _) o
        have HC : Hid (∀ o : Obj, Calls Tryz.prog 129 #[.agg #[.int .i64 f.t, .int .i64 f.p, .slice ma f.ms.length mcap, .slice da f.ds.length dcap]] (wr.alloc o) fun e w' => e = .returned (.int .i64 (flFault f)) ∧ Below wr.heap.size wr w') := fun o =>
          (checkFlow_any f _ _ (wr.alloc o) (HMS.out.below (hA o) (Nat.le_refl _)) (HDS.out.below (hA o) (Nat.le_refl _))).mono fun e w' ⟨he, hb⟩ => ⟨he, (hA o).trans (hb.mono (hA o).size)⟩
        clear HMS HDS hA
        generalize flFault f = R at *
        go_wp2_with fail
        refine (unhide HC _).mono ?_
        rintro e w1 ⟨rfl, hb1⟩
        have hbel2 := hbel.trans (hb1.mono hsz)
        clear HC f0 f1 f2 f3 hb1
        by_cases hz : R = 0
        · have HV := hide (HA.out hz)
          clear HA HB
          go_wp2_with fail
          go_roundw
          case rel => exact ⟨k + 1, by omega, by go_num, HV.out, hbel2⟩
          case measure => simp [intOf]; omega
        · have HV := hide (HB.out hz)
          clear HA HB
          go_wp2_with fail
          go_ret
          exact ⟨int_ret HV.out.symm, hbel2⟩
      · have HV : Hid (fsFault fs = 0) := by show _ = _; rw [HR.out]; exact fs_all fs (fun j hj => HALL.out j (by omega))
        clear HALL hL HR
        go_wp2_with fail
        go_ret
        exact ⟨int_ret HV.out.symm, hbel⟩

end Go.Proofs.YtjcomoinggiedaaGreat

namespace Go.Proofs.YtjcomoinggiedaaGreat
open Go.RowKit
set_option linter.unusedVariables false
set_option maxRecDepth 100000

theorem and_word (v m : Int) (hv : 0 ≤ v ∧ v ≤ 65535) (hm : wordB m = true) : bits .and .i64 v m = mk v m := by
  unfold wordB at hm
  simp at hm
  obtain ⟨a, rfl⟩ := Int.eq_ofNat_of_zero_le hv.1
  obtain ⟨b, rfl⟩ := Int.eq_ofNat_of_zero_le hm.1
  have ha := ofInt_word a (by omega)
  have hb := ofInt_word b (by omega)
  show IntKind.i64.wrap ((BitVec.ofInt 64 (a : Int) &&& BitVec.ofInt 64 (b : Int)).toNat : Int) = _
  rw [BitVec.toNat_and, ha, hb]
  have hle : a &&& b ≤ a := Nat.and_le_left
  rw [wrapI _ (by omega) (by omega)]
  unfold mk
  rw [Int.toNat_natCast, Int.toNat_natCast]

theorem cells10 (w : World) (t : TypeId) (f0 f1 f2 f3 f4 f5 f6 f7 f8 f9 : Int) : ∀ i, i < 10 → (w.alloc (.cells #[.int .i64 f0, .int .i64 f1, .int .i64 f2, .int .i64 f3, .int .i64 f4, .int .i64 f5, .int .i64 f6, .int .i64 f7, .int .i64 f8, .int .i64 f9] t)).cell? ⟨w.heap.size, i, none⟩ = some (.int .i64 (([f0, f1, f2, f3, f4, f5, f6, f7, f8, f9] : List Int).getD i 0)) := by
  intro i hi
  have hc : i = 0 ∨ i = 1 ∨ i = 2 ∨ i = 3 ∨ i = 4 ∨ i = 5 ∨ i = 6 ∨ i = 7 ∨ i = 8 ∨ i = 9 := by omega
  rcases hc with rfl | rfl | rfl | rfl | rfl | rfl | rfl | rfl | rfl | rfl <;> simp

theorem fitsB_all {F : List Int} {ms : List Mt} (h : ∀ j, j < ms.length → (mk (F.getD (ms.getD j mt0).f.toNat 0) (ms.getD j mt0).m == (ms.getD j mt0).v) = true) : fitsB F ms = true := by
  unfold fitsB
  rw [List.all_eq_true]
  intro x hx
  obtain ⟨i, hi, rfl⟩ := List.getElem_of_mem hx
  have := h i hi
  simpa [List.getD, List.getElem?_eq_getElem hi] using this
theorem fitsB_not {F : List Int} {ms : List Mt} (j : Nat) (hj : j < ms.length) (h : (mk (F.getD (ms.getD j mt0).f.toNat 0) (ms.getD j mt0).m == (ms.getD j mt0).v) = false) : fitsB F ms = false := by
  unfold fitsB
  rw [List.all_eq_false]
  exact ⟨ms[j], List.getElem_mem hj, by simpa [List.getD, List.getElem?_eq_getElem hj] using h⟩

set_option maxHeartbeats 4000000 in
theorem fits_any (f0 f1 f2 f3 f4 f5 f6 f7 f8 f9 : Int) (v : Value) (ms : List Mt) (w : World) (hF : WF [f0, f1, f2, f3, f4, f5, f6, f7, f8, f9]) (hM : MsAt w v ms) (hl : ms.length ≤ 12) (hm : ∀ j, j < ms.length → matchB (ms.getD j mt0) = true) :
    Calls Tryz.prog 130 #[v, .agg #[.int .i64 f0, .int .i64 f1, .int .i64 f2, .int .i64 f3, .int .i64 f4, .int .i64 f5, .int .i64 f6, .int .i64 f7, .int .i64 f8, .int .i64 f9]] w fun e w' => e = .returned (.bool (fitsB [f0, f1, f2, f3, f4, f5, f6, f7, f8, f9] ms)) ∧ Below w.heap.size w w' := by
  have HM := hide hM
  have HMB := hide hm
  have HF := hide hF
  have HCL := hide (cells10 w 106 f0 f1 f2 f3 f4 f5 f6 f7 f8 f9)
  obtain ⟨a, cap, rfl, hn, hL⟩ := hM
  clear hL hm hF
  obtain ⟨F, hFd⟩ : ∃ F : List Int, F = [f0, f1, f2, f3, f4, f5, f6, f7, f8, f9] := ⟨_, rfl⟩
  have HFD := hide hFd
  rw [← hFd] at HF HCL ⊢
  clear hFd
  go_enter Tryz.func130, Tryz.ntmps130
  go_wp2_with fail
  obtain ⟨W1, hW1⟩ : ∃ W1, W1 = w.alloc (.cells #[.int .i64 f0, .int .i64 f1, .int .i64 f2, .int .i64 f3, .int .i64 f4, .int .i64 f5, .int .i64 f6, .int .i64 f7, .int .i64 f8, .int .i64 f9] 106) := ⟨_, rfl⟩
  have hbW : Below w.heap.size w W1 := by rw [hW1]; exact (Below.refl _ _).alloc (Nat.le_refl _) _
  rw [← hW1] at HCL
  have HM1 := hide (HM.out.below hbW (Nat.le_refl _))
  have hz1 : w.heap.size < W1.heap.size := by rw [hW1]; simp
  rw [← hW1]
  clear hW1 HM
  go_loopw [9] (fun i wr => ∃ k : Nat, k ≤ ms.length ∧ i = .int .i64 k ∧ (∀ j, j < k → (mk (F.getD (ms.getD j mt0).f.toNat 0) (ms.getD j mt0).m == (ms.getD j mt0).v) = true) ∧ Below W1.heap.size W1 wr) (fun i _ => ms.length - (intOf i).toNat)
  case atStart => exact ⟨0, by omega, rfl, fun j h => absurd h (by omega), Below.refl _ _⟩
  case round =>
    obtain ⟨k, hk, rfl, hall, hbel⟩ := hrel
    have HALL := hide hall
    clear hall
    have hbel1 : Below w.heap.size w wr := hbW.trans (hbel.mono hbW.size)
    have hszr := hbel.size
    have hszw : w.heap.size < wr.heap.size := by omega
    by_cases hlt : k < ms.length
    · obtain ⟨a', cap', hv, hn', hL⟩ := HM1.out
      simp only [Value.slice.injEq] at hv
      obtain ⟨rfl, _, rfl⟩ := hv
      obtain ⟨b, off, rfl, hcap, hcell⟩ : ∃ b off, a = some ⟨b, off, none⟩ ∧ ms.length ≤ cap ∧ ∀ i, i < ms.length → W1.cell? ⟨b, off + i * 3, none⟩ = some (.int .i64 (ms.getD i mt0).f) ∧ W1.cell? ⟨b, off + i * 3 + 1, none⟩ = some (.int .i64 (ms.getD i mt0).m) ∧ W1.cell? ⟨b, off + i * 3 + 2, none⟩ = some (.int .i64 (ms.getD i mt0).v) := by
        rcases hL with h0 | h
        · omega
        · exact h
      obtain ⟨g0, g1, g2⟩ := hcell k hlt
      have m0' := cell_below g0 hbel (Nat.le_refl _)
      have m1' := cell_below g1 hbel (Nat.le_refl _)
      have m2' := cell_below g2 hbel (Nat.le_refl _)
      have hMk := HMB.out k hlt
      have HT : Hid ((mk (F.getD (ms.getD k mt0).f.toNat 0) (ms.getD k mt0).m == (ms.getD k mt0).v) = true → ∀ x, x < k + 1 → (mk (F.getD (ms.getD x mt0).f.toNat 0) (ms.getD x mt0).m == (ms.getD x mt0).v) = true) := fun h x hx => by
        by_cases e : x = k
        · subst e; exact h
        · exact HALL.out x (by omega)
      have HN : Hid ((mk (F.getD (ms.getD k mt0).f.toNat 0) (ms.getD k mt0).m == (ms.getD k mt0).v) = false → fitsB F ms = false) := fun h => fitsB_not k hlt h
      clear g0 g1 g2 hcell hL HALL HM1 hn'
      generalize ms.getD k mt0 = M at *
      obtain ⟨mf, mm, mv⟩ := M
      simp only at m0' m1' m2' HT HN
      simp only [matchB, fieldB, Bool.and_eq_true, decide_eq_true_eq] at hMk
      obtain ⟨⟨⟨⟨f0', f1'⟩, w1⟩, w2⟩, _⟩ := hMk
      obtain ⟨q, rfl⟩ := Int.eq_ofNat_of_zero_le f0'
      rw [Int.toNat_natCast] at HT HN
      have hq : q < 10 := by omega
      have cq := cell_below (HCL.out q hq) hbel (Nat.le_refl _)
      have hbw := and_word _ mm (HF.out.bd q) w1
      have hqz := HF.out.bd q
      generalize F.getD q 0 = x at *
      have hqi : ¬ ((10 : Int) ≤ (q : Int)) := by omega
      by_cases hx : mk x mm = mv
      · have HR := hide (HT.out (by simpa using hx))
        have hne : (mk x mm != mv) = false := by simpa using hx
        clear HT HN
        go_wp2_with fail
        go_quiet (fail)
        go_wp2
        go_roundw
        case rel => exact ⟨k + 1, by omega, by go_num, HR.out, below_drewN (hbel.alloc hszr _) _⟩
        case measure => simp [intOf]; omega
      · have HR := hide (HN.out (by simpa using hx))
        have hne : (mk x mm != mv) = true := by simpa using hx
        clear HT HN
        go_wp2_with fail
        go_quiet (fail)
        go_wp2
        go_ret
        exact ⟨bool_ret HR.out.symm, below_drewN (hbel1.alloc (by omega) _) _⟩
    · have HR := hide (fitsB_all (F := F) (ms := ms) (fun j hj => HALL.out j (by omega)))
      clear HALL
      go_wp2_with fail
      go_ret
      exact ⟨bool_ret HR.out.symm, hbel1⟩

theorem fs_cell {w : World} {fs : List Fl} {a : Option Addr} {n cap k : Nat} (hF : FsAt w (.slice a n cap) fs) (hk : k < fs.length) : ∃ b off, a = some ⟨b, off, none⟩ ∧ n = fs.length ∧ fs.length ≤ cap ∧ ∀ i, i < fs.length → FlAt w b (off + i * 4) (fs.getD i fl0) := by
  obtain ⟨a', cap', hv, hn, h0 | ⟨b, off, h1, h2, h3⟩⟩ := hF
  · omega
  · simp only [Value.slice.injEq] at hv
    obtain ⟨rfl, rfl, rfl⟩ := hv
    exact ⟨b, off, h1, rfl, h2, h3⟩

set_option maxHeartbeats 8000000 in
theorem pick_any (f0 f1 f2 f3 f4 f5 f6 f7 f8 f9 : Int) (v : Value) (fs : List Fl) (t : Int) (w0 w : World) (hF : WF [f0, f1, f2, f3, f4, f5, f6, f7, f8, f9]) (hL0 : FsAt w0 v fs) (hb0 : Below w0.heap.size w0 w) (hz : fsFault fs = 0) (hl : fs.length ≤ 5000) :
    Calls Tryz.prog 80 #[v, .int .i64 t, .agg #[.int .i64 f0, .int .i64 f1, .int .i64 f2, .int .i64 f3, .int .i64 f4, .int .i64 f5, .int .i64 f6, .int .i64 f7, .int .i64 f8, .int .i64 f9]] w fun e w' => ∃ u, e = .returned u ∧ DsAt w0 u (dsOf fs (bestTo fs [f0, f1, f2, f3, f4, f5, f6, f7, f8, f9] t fs.length)) ∧ Below w.heap.size w w' := by
  have HL0 := hide hL0
  have HB0 := hide hb0
  have hL := hL0.below hb0 (Nat.le_refl _)
  have HL := hide hL
  clear hL0
  have HZ := hide hz
  have HF := hide hF
  obtain ⟨a, cap, rfl, hn, _⟩ := hL
  clear hz hF
  obtain ⟨F, hFd⟩ : ∃ F : List Int, F = [f0, f1, f2, f3, f4, f5, f6, f7, f8, f9] := ⟨_, rfl⟩
  have HFD := hide hFd
  rw [← hFd] at HF ⊢
  clear hFd
  have HFT : Hid (∀ (u : Value) (ms : List Mt) (W : World), MsAt W u ms → ms.length ≤ 12 → (∀ j, j < ms.length → matchB (ms.getD j mt0) = true) → Calls Tryz.prog 130 #[u, .agg #[.int .i64 f0, .int .i64 f1, .int .i64 f2, .int .i64 f3, .int .i64 f4, .int .i64 f5, .int .i64 f6, .int .i64 f7, .int .i64 f8, .int .i64 f9]] W fun e w' => e = .returned (.bool (fitsB F ms)) ∧ Below W.heap.size W w') := fun u ms W h1 h2 h3 => by
    have := fits_any f0 f1 f2 f3 f4 f5 f6 f7 f8 f9 u ms W (by rw [← HFD.out]; exact HF.out) h1 h2 h3
    rw [HFD.out]; exact this
  go_enter Tryz.func80, Tryz.ntmps80
  go_wp2_with fail
  obtain ⟨W1, hW1⟩ : ∃ W1, W1 = w.alloc (.cells #[.int .i64 f0, .int .i64 f1, .int .i64 f2, .int .i64 f3, .int .i64 f4, .int .i64 f5, .int .i64 f6, .int .i64 f7, .int .i64 f8, .int .i64 f9] 106) := ⟨_, rfl⟩
  have hbW : Below w.heap.size w W1 := by rw [hW1]; exact (Below.refl _ _).alloc (Nat.le_refl _) _
  have c0 : W1.cell? ⟨w.heap.size, 0, none⟩ = some (.int .i64 f0) := by rw [hW1]; simp
  have c1 : W1.cell? ⟨w.heap.size, 1, none⟩ = some (.int .i64 f1) := by rw [hW1]; simp
  have c2 : W1.cell? ⟨w.heap.size, 2, none⟩ = some (.int .i64 f2) := by rw [hW1]; simp
  have c3 : W1.cell? ⟨w.heap.size, 3, none⟩ = some (.int .i64 f3) := by rw [hW1]; simp
  have c4 : W1.cell? ⟨w.heap.size, 4, none⟩ = some (.int .i64 f4) := by rw [hW1]; simp
  have c5 : W1.cell? ⟨w.heap.size, 5, none⟩ = some (.int .i64 f5) := by rw [hW1]; simp
  have c6 : W1.cell? ⟨w.heap.size, 6, none⟩ = some (.int .i64 f6) := by rw [hW1]; simp
  have c7 : W1.cell? ⟨w.heap.size, 7, none⟩ = some (.int .i64 f7) := by rw [hW1]; simp
  have c8 : W1.cell? ⟨w.heap.size, 8, none⟩ = some (.int .i64 f8) := by rw [hW1]; simp
  have c9 : W1.cell? ⟨w.heap.size, 9, none⟩ = some (.int .i64 f9) := by rw [hW1]; simp
  have HL1 := hide (HL.out.below hbW (Nat.le_refl _))
  have hz1 : w.heap.size < W1.heap.size := by rw [hW1]; simp
  rw [← hW1]
  clear hW1 HL
  go_loopw [7, 12] (fun o i wr => ∃ k : Nat, k ≤ fs.length ∧ i = .int .i64 k ∧ o = .int .i64 (bestTo fs F t k) ∧ Below W1.heap.size W1 wr) (fun _ i _ => fs.length - (intOf i).toNat)
  case atStart => exact ⟨0, by omega, rfl, rfl, Below.refl _ _⟩
  case round =>
    obtain ⟨k, hk, rfl, rfl, hbel⟩ := hrel
    have hbel1 : Below w.heap.size w wr := hbW.trans (hbel.mono hbW.size)
    have hszr := hbel.size
    have hszw : w.heap.size < wr.heap.size := by omega
    by_cases hlt : k < fs.length
    · obtain ⟨b, off, rfl, _, hcap, hcell⟩ := fs_cell HL1.out hlt
      have e0 := cell_below c0 hbel (Nat.le_refl _)
      have e1 := cell_below c1 hbel (Nat.le_refl _)
      have e2 := cell_below c2 hbel (Nat.le_refl _)
      have e3 := cell_below c3 hbel (Nat.le_refl _)
      have e4 := cell_below c4 hbel (Nat.le_refl _)
      have e5 := cell_below c5 hbel (Nat.le_refl _)
      have e6 := cell_below c6 hbel (Nat.le_refl _)
      have e7 := cell_below c7 hbel (Nat.le_refl _)
      have e8 := cell_below c8 hbel (Nat.le_refl _)
      have e9 := cell_below c9 hbel (Nat.le_refl _)
      have hf := (hcell k hlt).below hbel (Nat.le_refl _)
      have hbb := cell_lt hf.1
      have hbi := bestTo_in fs F t k
      have HOK := hide (ok_flow HZ.out hlt)
      have HB : Hid (bestTo fs F t (k + 1) = if fitB F t (fs.getD k fl0) = true ∧ (bestTo fs F t k < 0 ∨ (fs.getD (bestTo fs F t k).toNat fl0).p < (fs.getD k fl0).p) then (k : Int) else bestTo fs F t k) := rfl
      have HBC : Hid (∀ j : Nat, bestTo fs F t k = j → wr.cell? ⟨b, off + j * 4 + 1, none⟩ = some (.int .i64 (fs.getD j fl0).p)) := fun j hj => (((hcell j (by omega)).below hbel (Nat.le_refl _)).2.1)
      generalize bestTo fs F t k = B at *
      generalize fs.getD k fl0 = f at *
      clear hcell HL1
      obtain ⟨p0, p1, mv, dv, p2, p3, hms, hds⟩ := hf
      have HMS := hide hms
      obtain ⟨ma, mcap, rfl, hmn, hmL⟩ := hms
      obtain ⟨da, dcap, rfl, hdn, hdL⟩ := hds
      clear hmL hdL hdn hmn
      have hA : ∀ o : Obj, Below wr.heap.size wr (wr.alloc o) := fun o => (Below.refl _ _).alloc (Nat.le_refl _) o
      by_cases ht : f.t = t
      · have HC : Hid (∀ o : Obj, Calls Tryz.prog 130 #[.slice ma f.ms.length mcap, .agg #[.int .i64 f0, .int .i64 f1, .int .i64 f2, .int .i64 f3, .int .i64 f4, .int .i64 f5, .int .i64 f6, .int .i64 f7, .int .i64 f8, .int .i64 f9]] (wr.alloc o) fun e w' => e = .returned (.bool (fitsB F f.ms)) ∧ Below (wr.alloc o).heap.size (wr.alloc o) w') := fun o => HFT.out _ f.ms _ (HMS.out.below (hA o) (Nat.le_refl _)) HOK.out.2.1 HOK.out.2.2.2.2.2.2.2.1
        have HFB : Hid (fitB F t f = fitsB F f.ms) := by show _ = _; unfold fitB; simp [ht]
        clear HMS
        generalize fitsB F f.ms = R at *
        go_wp2_with fail
        refine (unhide HC _).mono ?_
        rintro e w1 ⟨rfl, hb1⟩
        have k1 : (wr.alloc (.cells #[.int .i64 t, .int .i64 f.p, .slice ma f.ms.length mcap, .slice da f.ds.length dcap] 96)).cell? ⟨wr.heap.size, 1, none⟩ = some (.int .i64 f.p) := by simp
        have k1' := cell_below k1 hb1 (Nat.le_refl _)
        have hbA2 : Below wr.heap.size wr w1 := (hA _).trans (hb1.mono (hA _).size)
        have hbN : Below W1.heap.size W1 w1 := hbel.trans (hbA2.mono hszr)
        have HBC2 : Hid (∀ j : Nat, B = j → w1.cell? ⟨b, off + j * 4 + 1, none⟩ = some (.int .i64 (fs.getD j fl0).p)) := fun j hj => cell_below (HBC.out j hj) hbA2 (Nat.le_refl _)
        have hsz1 := hbN.size
        clear k1 hb1 hbA2 HBC HC p0 p1 p2 p3 hA e0 e1 e2 e3 e4 e5 e6 e7 e8 e9
        cases R
        · have HR : Hid (bestTo fs F t (k + 1) = B) := by show _ = _; rw [HB.out, HFB.out]; simp
          clear HB HFB HBC2
          go_wp2_with fail
          go_roundw
          case rel => exact ⟨k + 1, by omega, by go_num, by rw [HR.out], hbN⟩
          case measure => simp [intOf]; omega
        · by_cases hB : B < 0
          · have HR : Hid (bestTo fs F t (k + 1) = k) := by show _ = _; rw [HB.out, HFB.out, if_pos ⟨rfl, .inl hB⟩]
            clear HB HFB HBC2
            go_wp2_with fail
            go_quiet (fail)
            go_wp2
            go_roundw
            case rel => exact ⟨k + 1, by omega, by go_num, by rw [HR.out], below_drewN hbN _⟩
            case measure => simp [intOf]; omega
          · obtain ⟨j, rfl⟩ := Int.eq_ofNat_of_zero_le (show 0 ≤ B by omega)
            have cj := HBC2.out j rfl
            have hjk : (j : Int) < fs.length := by omega
            have HB2 : Hid (bestTo fs F t (k + 1) = if (fs.getD j fl0).p < f.p then (k : Int) else j) := by
              show _ = _
              rw [HB.out, HFB.out]
              simp only [true_and, Int.toNat_natCast]
              by_cases hc : (fs.getD j fl0).p < f.p
              · rw [if_pos (.inr hc), if_pos hc]
              · rw [if_neg (by omega), if_neg hc]
            clear HB HFB HBC2
            generalize (fs.getD j fl0).p = P at *
            by_cases hp : P < f.p
            · have HR : Hid (bestTo fs F t (k + 1) = k) := by show _ = _; rw [HB2.out, if_pos hp]
              clear HB2
              go_wp2_with fail
              go_quiet (fail)
              go_wp2
              go_roundw
              case rel => exact ⟨k + 1, by omega, by go_num, by rw [HR.out], below_drewN hbN _⟩
              case measure => simp [intOf]; omega
            · have HR : Hid (bestTo fs F t (k + 1) = j) := by show _ = _; rw [HB2.out, if_neg hp]
              clear HB2
              go_wp2_with fail
              go_quiet (fail)
              go_wp2
              go_roundw
              case rel => exact ⟨k + 1, by omega, by go_num, by rw [HR.out], below_drewN hbN _⟩
              case measure => simp [intOf]; omega
      · have HR : Hid (bestTo fs F t (k + 1) = B) := by
          show _ = _
          have : fitB F t f = false := by unfold fitB; simp [ht]
          rw [HB.out, this]; simp
        clear HB HBC HMS HOK
        go_wp2_with fail
        go_roundw
        case rel => exact ⟨k + 1, by omega, by go_num, by rw [HR.out], hbel.alloc hszr _⟩
        case measure => simp [intOf]; omega
    · have hbi := bestTo_in fs F t k
      have hkl : k = fs.length := by omega
      subst hkl
      by_cases hB : bestTo fs F t fs.length < 0
      · have HD : Hid (dsOf fs (bestTo fs F t fs.length) = []) := by show _ = _; unfold dsOf; rw [if_pos hB]
        obtain ⟨B, hBd⟩ : ∃ B, B = bestTo fs F t fs.length := ⟨_, rfl⟩
        rw [← hBd]
        rw [← hBd] at hB
        clear hBd hbi
        go_wp2_with fail
        go_ret
        exact ⟨_, rfl, by rw [HD.out]; exact ⟨none, 0, rfl, fun _ => rfl, .inl rfl⟩, hbel1⟩
      · obtain ⟨j, hj⟩ := Int.eq_ofNat_of_zero_le (show 0 ≤ bestTo fs F t fs.length by omega)
        have HD : Hid (dsOf fs (bestTo fs F t fs.length) = (fs.getD j fl0).ds) := by show _ = _; unfold dsOf; rw [if_neg hB, hj, Int.toNat_natCast]
        have hjl : j < fs.length := by omega
        obtain ⟨b, off, rfl, _, hcap, hcell⟩ := fs_cell HL0.out hjl
        have hf := hcell j hjl
        have hb0r : Below w0.heap.size w0 wr := HB0.out.trans (hbel1.mono HB0.out.size)
        rw [hj]
        clear hbi hB hj hcell HL1 HL0
        generalize fs.getD j fl0 = f at *
        obtain ⟨p0, p1, mv, dv, p2, p3', hms, hds⟩ := hf
        have p3 := cell_below p3' hb0r (Nat.le_refl _)
        have HDS := hide hds
        obtain ⟨da, dcap, rfl, hdn, hdL⟩ := hds
        clear hdL hms p0 p1 p2 hdn p3' hb0r
        go_wp2_with fail
        go_ret
        exact ⟨_, rfl, by rw [HD.out]; exact HDS.out, hbel1⟩

end Go.Proofs.YtjcomoinggiedaaGreat

namespace Go.Proofs.YtjcomoinggiedaaGreat
open Go.RowKit
set_option linter.unusedVariables false
set_option maxRecDepth 100000

set_option maxHeartbeats 8000000 in
theorem changedPut_any (f0 f1 f2 f3 f4 f5 f6 f7 f8 f9 : Int) (q : Nat) (n : Int) (w : World) (hq : q < 10) :
    Calls Tryz.prog 81 #[.agg #[.int .i64 f0, .int .i64 f1, .int .i64 f2, .int .i64 f3, .int .i64 f4, .int .i64 f5, .int .i64 f6, .int .i64 f7, .int .i64 f8, .int .i64 f9], .agg #[.int .i64 1, .int .i64 q, .int .i64 n]] w fun e w' => ∃ g0 g1 g2 g3 g4 g5 g6 g7 g8 g9 : Int, e = .returned (.agg #[.int .i64 g0, .int .i64 g1, .int .i64 g2, .int .i64 g3, .int .i64 g4, .int .i64 g5, .int .i64 g6, .int .i64 g7, .int .i64 g8, .int .i64 g9]) ∧ [g0, g1, g2, g3, g4, g5, g6, g7, g8, g9] = ([f0, f1, f2, f3, f4, f5, f6, f7, f8, f9] : List Int).set q (n) ∧ Below w.heap.size w w' := by
  obtain ⟨L, hL⟩ : ∃ L, L = ([f0, f1, f2, f3, f4, f5, f6, f7, f8, f9] : List Int).set q (n) := ⟨_, rfl⟩
  rw [← hL]
  have HL := hide hL
  clear hL
  have hc : q = 0 ∨ q = 1 ∨ q = 2 ∨ q = 3 ∨ q = 4 ∨ q = 5 ∨ q = 6 ∨ q = 7 ∨ q = 8 ∨ q = 9 := by omega
  rcases hc with rfl | rfl | rfl | rfl | rfl | rfl | rfl | rfl | rfl | rfl
  · go_enter Tryz.func81, Tryz.ntmps81
    go_wp2_with fail
    refine bodyPost_ret (v := .agg #[.int .i64 n, .int .i64 f1, .int .i64 f2, .int .i64 f3, .int .i64 f4, .int .i64 f5, .int .i64 f6, .int .i64 f7, .int .i64 f8, .int .i64 f9]) ?_ rfl ⟨n, f1, f2, f3, f4, f5, f6, f7, f8, f9, rfl, by rw [HL.out]; rfl, (((Below.refl _ _).alloc (Nat.le_refl _) _).alloc (by simp) _).alloc (by simp; omega) _⟩
    simp [results, Tryz.results81, go_sem]
  · go_enter Tryz.func81, Tryz.ntmps81
    go_wp2_with fail
    refine bodyPost_ret (v := .agg #[.int .i64 f0, .int .i64 n, .int .i64 f2, .int .i64 f3, .int .i64 f4, .int .i64 f5, .int .i64 f6, .int .i64 f7, .int .i64 f8, .int .i64 f9]) ?_ rfl ⟨f0, n, f2, f3, f4, f5, f6, f7, f8, f9, rfl, by rw [HL.out]; rfl, (((Below.refl _ _).alloc (Nat.le_refl _) _).alloc (by simp) _).alloc (by simp; omega) _⟩
    simp [results, Tryz.results81, go_sem]
  · go_enter Tryz.func81, Tryz.ntmps81
    go_wp2_with fail
    refine bodyPost_ret (v := .agg #[.int .i64 f0, .int .i64 f1, .int .i64 n, .int .i64 f3, .int .i64 f4, .int .i64 f5, .int .i64 f6, .int .i64 f7, .int .i64 f8, .int .i64 f9]) ?_ rfl ⟨f0, f1, n, f3, f4, f5, f6, f7, f8, f9, rfl, by rw [HL.out]; rfl, (((Below.refl _ _).alloc (Nat.le_refl _) _).alloc (by simp) _).alloc (by simp; omega) _⟩
    simp [results, Tryz.results81, go_sem]
  · go_enter Tryz.func81, Tryz.ntmps81
    go_wp2_with fail
    refine bodyPost_ret (v := .agg #[.int .i64 f0, .int .i64 f1, .int .i64 f2, .int .i64 n, .int .i64 f4, .int .i64 f5, .int .i64 f6, .int .i64 f7, .int .i64 f8, .int .i64 f9]) ?_ rfl ⟨f0, f1, f2, n, f4, f5, f6, f7, f8, f9, rfl, by rw [HL.out]; rfl, (((Below.refl _ _).alloc (Nat.le_refl _) _).alloc (by simp) _).alloc (by simp; omega) _⟩
    simp [results, Tryz.results81, go_sem]
  · go_enter Tryz.func81, Tryz.ntmps81
    go_wp2_with fail
    refine bodyPost_ret (v := .agg #[.int .i64 f0, .int .i64 f1, .int .i64 f2, .int .i64 f3, .int .i64 n, .int .i64 f5, .int .i64 f6, .int .i64 f7, .int .i64 f8, .int .i64 f9]) ?_ rfl ⟨f0, f1, f2, f3, n, f5, f6, f7, f8, f9, rfl, by rw [HL.out]; rfl, (((Below.refl _ _).alloc (Nat.le_refl _) _).alloc (by simp) _).alloc (by simp; omega) _⟩
    simp [results, Tryz.results81, go_sem]
  · go_enter Tryz.func81, Tryz.ntmps81
    go_wp2_with fail
    refine bodyPost_ret (v := .agg #[.int .i64 f0, .int .i64 f1, .int .i64 f2, .int .i64 f3, .int .i64 f4, .int .i64 n, .int .i64 f6, .int .i64 f7, .int .i64 f8, .int .i64 f9]) ?_ rfl ⟨f0, f1, f2, f3, f4, n, f6, f7, f8, f9, rfl, by rw [HL.out]; rfl, (((Below.refl _ _).alloc (Nat.le_refl _) _).alloc (by simp) _).alloc (by simp; omega) _⟩
    simp [results, Tryz.results81, go_sem]
  · go_enter Tryz.func81, Tryz.ntmps81
    go_wp2_with fail
    refine bodyPost_ret (v := .agg #[.int .i64 f0, .int .i64 f1, .int .i64 f2, .int .i64 f3, .int .i64 f4, .int .i64 f5, .int .i64 n, .int .i64 f7, .int .i64 f8, .int .i64 f9]) ?_ rfl ⟨f0, f1, f2, f3, f4, f5, n, f7, f8, f9, rfl, by rw [HL.out]; rfl, (((Below.refl _ _).alloc (Nat.le_refl _) _).alloc (by simp) _).alloc (by simp; omega) _⟩
    simp [results, Tryz.results81, go_sem]
  · go_enter Tryz.func81, Tryz.ntmps81
    go_wp2_with fail
    refine bodyPost_ret (v := .agg #[.int .i64 f0, .int .i64 f1, .int .i64 f2, .int .i64 f3, .int .i64 f4, .int .i64 f5, .int .i64 f6, .int .i64 n, .int .i64 f8, .int .i64 f9]) ?_ rfl ⟨f0, f1, f2, f3, f4, f5, f6, n, f8, f9, rfl, by rw [HL.out]; rfl, (((Below.refl _ _).alloc (Nat.le_refl _) _).alloc (by simp) _).alloc (by simp; omega) _⟩
    simp [results, Tryz.results81, go_sem]
  · go_enter Tryz.func81, Tryz.ntmps81
    go_wp2_with fail
    refine bodyPost_ret (v := .agg #[.int .i64 f0, .int .i64 f1, .int .i64 f2, .int .i64 f3, .int .i64 f4, .int .i64 f5, .int .i64 f6, .int .i64 f7, .int .i64 n, .int .i64 f9]) ?_ rfl ⟨f0, f1, f2, f3, f4, f5, f6, f7, n, f9, rfl, by rw [HL.out]; rfl, (((Below.refl _ _).alloc (Nat.le_refl _) _).alloc (by simp) _).alloc (by simp; omega) _⟩
    simp [results, Tryz.results81, go_sem]
  · go_enter Tryz.func81, Tryz.ntmps81
    go_wp2_with fail
    refine bodyPost_ret (v := .agg #[.int .i64 f0, .int .i64 f1, .int .i64 f2, .int .i64 f3, .int .i64 f4, .int .i64 f5, .int .i64 f6, .int .i64 f7, .int .i64 f8, .int .i64 n]) ?_ rfl ⟨f0, f1, f2, f3, f4, f5, f6, f7, f8, n, rfl, by rw [HL.out]; rfl, (((Below.refl _ _).alloc (Nat.le_refl _) _).alloc (by simp) _).alloc (by simp; omega) _⟩
    simp [results, Tryz.results81, go_sem]
end Go.Proofs.YtjcomoinggiedaaGreat

namespace Go.Proofs.YtjcomoinggiedaaGreat
open Go.RowKit
set_option linter.unusedVariables false
set_option maxRecDepth 100000

set_option maxHeartbeats 8000000 in
theorem changedCopy_any (f0 f1 f2 f3 f4 f5 f6 f7 f8 f9 : Int) (q : Nat) (m : Nat) (w : World) (hq : q < 10) (hm : m < 10) :
    Calls Tryz.prog 81 #[.agg #[.int .i64 f0, .int .i64 f1, .int .i64 f2, .int .i64 f3, .int .i64 f4, .int .i64 f5, .int .i64 f6, .int .i64 f7, .int .i64 f8, .int .i64 f9], .agg #[.int .i64 2, .int .i64 q, .int .i64 m]] w fun e w' => ∃ g0 g1 g2 g3 g4 g5 g6 g7 g8 g9 : Int, e = .returned (.agg #[.int .i64 g0, .int .i64 g1, .int .i64 g2, .int .i64 g3, .int .i64 g4, .int .i64 g5, .int .i64 g6, .int .i64 g7, .int .i64 g8, .int .i64 g9]) ∧ [g0, g1, g2, g3, g4, g5, g6, g7, g8, g9] = ([f0, f1, f2, f3, f4, f5, f6, f7, f8, f9] : List Int).set q (([f0, f1, f2, f3, f4, f5, f6, f7, f8, f9] : List Int).getD m 0) ∧ Below w.heap.size w w' := by
  have hcm := cells10 w 106 f0 f1 f2 f3 f4 f5 f6 f7 f8 f9 m hm
  have HX := hide (rfl : ([f0, f1, f2, f3, f4, f5, f6, f7, f8, f9] : List Int).getD m 0 = ([f0, f1, f2, f3, f4, f5, f6, f7, f8, f9] : List Int).getD m 0)
  obtain ⟨x, hx⟩ : ∃ x, x = ([f0, f1, f2, f3, f4, f5, f6, f7, f8, f9] : List Int).getD m 0 := ⟨_, rfl⟩
  rw [← hx] at hcm
  replace HX := hide hx.symm
  clear hx
  have hmi : (m : Int) < 10 := by omega
  have hxm : ∀ h, (([.int .i64 f0, .int .i64 f1, .int .i64 f2, .int .i64 f3, .int .i64 f4, .int .i64 f5, .int .i64 f6, .int .i64 f7, .int .i64 f8, .int .i64 f9] : List Value)[m]'h) = .int .i64 x := fun h => by
    have h2 := HX.out
    clear hcm HX hmi
    have hc : m = 0 ∨ m = 1 ∨ m = 2 ∨ m = 3 ∨ m = 4 ∨ m = 5 ∨ m = 6 ∨ m = 7 ∨ m = 8 ∨ m = 9 := by omega
    rcases hc with rfl | rfl | rfl | rfl | rfl | rfl | rfl | rfl | rfl | rfl
    all_goals (rw [← h2]; rfl)
  obtain ⟨L, hL⟩ : ∃ L, L = ([f0, f1, f2, f3, f4, f5, f6, f7, f8, f9] : List Int).set q (([f0, f1, f2, f3, f4, f5, f6, f7, f8, f9] : List Int).getD m 0) := ⟨_, rfl⟩
  rw [← hL]
  have HL := hide hL
  clear hL
  have hc : q = 0 ∨ q = 1 ∨ q = 2 ∨ q = 3 ∨ q = 4 ∨ q = 5 ∨ q = 6 ∨ q = 7 ∨ q = 8 ∨ q = 9 := by omega
  rcases hc with rfl | rfl | rfl | rfl | rfl | rfl | rfl | rfl | rfl | rfl
  · go_enter Tryz.func81, Tryz.ntmps81
    go_wp2_with fail
    go_region
    all_goals go_wp2
    refine bodyPost_ret (v := .agg #[.int .i64 x, .int .i64 f1, .int .i64 f2, .int .i64 f3, .int .i64 f4, .int .i64 f5, .int .i64 f6, .int .i64 f7, .int .i64 f8, .int .i64 f9]) ?_ rfl ⟨x, f1, f2, f3, f4, f5, f6, f7, f8, f9, rfl, by rw [HL.out, HX.out]; rfl, ((((Below.refl _ _).alloc (Nat.le_refl _) _).alloc (by simp) _).alloc (by simp; omega) _).drew⟩
    simp [results, Tryz.results81, go_sem]
  · go_enter Tryz.func81, Tryz.ntmps81
    go_wp2_with fail
    go_region
    all_goals go_wp2
    refine bodyPost_ret (v := .agg #[.int .i64 f0, .int .i64 x, .int .i64 f2, .int .i64 f3, .int .i64 f4, .int .i64 f5, .int .i64 f6, .int .i64 f7, .int .i64 f8, .int .i64 f9]) ?_ rfl ⟨f0, x, f2, f3, f4, f5, f6, f7, f8, f9, rfl, by rw [HL.out, HX.out]; rfl, ((((Below.refl _ _).alloc (Nat.le_refl _) _).alloc (by simp) _).alloc (by simp; omega) _).drew⟩
    simp [results, Tryz.results81, go_sem]
  · go_enter Tryz.func81, Tryz.ntmps81
    go_wp2_with fail
    go_region
    all_goals go_wp2
    refine bodyPost_ret (v := .agg #[.int .i64 f0, .int .i64 f1, .int .i64 x, .int .i64 f3, .int .i64 f4, .int .i64 f5, .int .i64 f6, .int .i64 f7, .int .i64 f8, .int .i64 f9]) ?_ rfl ⟨f0, f1, x, f3, f4, f5, f6, f7, f8, f9, rfl, by rw [HL.out, HX.out]; rfl, ((((Below.refl _ _).alloc (Nat.le_refl _) _).alloc (by simp) _).alloc (by simp; omega) _).drew⟩
    simp [results, Tryz.results81, go_sem]
  · go_enter Tryz.func81, Tryz.ntmps81
    go_wp2_with fail
    go_region
    all_goals go_wp2
    refine bodyPost_ret (v := .agg #[.int .i64 f0, .int .i64 f1, .int .i64 f2, .int .i64 x, .int .i64 f4, .int .i64 f5, .int .i64 f6, .int .i64 f7, .int .i64 f8, .int .i64 f9]) ?_ rfl ⟨f0, f1, f2, x, f4, f5, f6, f7, f8, f9, rfl, by rw [HL.out, HX.out]; rfl, ((((Below.refl _ _).alloc (Nat.le_refl _) _).alloc (by simp) _).alloc (by simp; omega) _).drew⟩
    simp [results, Tryz.results81, go_sem]
  · go_enter Tryz.func81, Tryz.ntmps81
    go_wp2_with fail
    go_region
    all_goals go_wp2
    refine bodyPost_ret (v := .agg #[.int .i64 f0, .int .i64 f1, .int .i64 f2, .int .i64 f3, .int .i64 x, .int .i64 f5, .int .i64 f6, .int .i64 f7, .int .i64 f8, .int .i64 f9]) ?_ rfl ⟨f0, f1, f2, f3, x, f5, f6, f7, f8, f9, rfl, by rw [HL.out, HX.out]; rfl, ((((Below.refl _ _).alloc (Nat.le_refl _) _).alloc (by simp) _).alloc (by simp; omega) _).drew⟩
    simp [results, Tryz.results81, go_sem]
  · go_enter Tryz.func81, Tryz.ntmps81
    go_wp2_with fail
    go_region
    all_goals go_wp2
    refine bodyPost_ret (v := .agg #[.int .i64 f0, .int .i64 f1, .int .i64 f2, .int .i64 f3, .int .i64 f4, .int .i64 x, .int .i64 f6, .int .i64 f7, .int .i64 f8, .int .i64 f9]) ?_ rfl ⟨f0, f1, f2, f3, f4, x, f6, f7, f8, f9, rfl, by rw [HL.out, HX.out]; rfl, ((((Below.refl _ _).alloc (Nat.le_refl _) _).alloc (by simp) _).alloc (by simp; omega) _).drew⟩
    simp [results, Tryz.results81, go_sem]
  · go_enter Tryz.func81, Tryz.ntmps81
    go_wp2_with fail
    go_region
    all_goals go_wp2
    refine bodyPost_ret (v := .agg #[.int .i64 f0, .int .i64 f1, .int .i64 f2, .int .i64 f3, .int .i64 f4, .int .i64 f5, .int .i64 x, .int .i64 f7, .int .i64 f8, .int .i64 f9]) ?_ rfl ⟨f0, f1, f2, f3, f4, f5, x, f7, f8, f9, rfl, by rw [HL.out, HX.out]; rfl, ((((Below.refl _ _).alloc (Nat.le_refl _) _).alloc (by simp) _).alloc (by simp; omega) _).drew⟩
    simp [results, Tryz.results81, go_sem]
  · go_enter Tryz.func81, Tryz.ntmps81
    go_wp2_with fail
    go_region
    all_goals go_wp2
    refine bodyPost_ret (v := .agg #[.int .i64 f0, .int .i64 f1, .int .i64 f2, .int .i64 f3, .int .i64 f4, .int .i64 f5, .int .i64 f6, .int .i64 x, .int .i64 f8, .int .i64 f9]) ?_ rfl ⟨f0, f1, f2, f3, f4, f5, f6, x, f8, f9, rfl, by rw [HL.out, HX.out]; rfl, ((((Below.refl _ _).alloc (Nat.le_refl _) _).alloc (by simp) _).alloc (by simp; omega) _).drew⟩
    simp [results, Tryz.results81, go_sem]
  · go_enter Tryz.func81, Tryz.ntmps81
    go_wp2_with fail
    go_region
    all_goals go_wp2
    refine bodyPost_ret (v := .agg #[.int .i64 f0, .int .i64 f1, .int .i64 f2, .int .i64 f3, .int .i64 f4, .int .i64 f5, .int .i64 f6, .int .i64 f7, .int .i64 x, .int .i64 f9]) ?_ rfl ⟨f0, f1, f2, f3, f4, f5, f6, f7, x, f9, rfl, by rw [HL.out, HX.out]; rfl, ((((Below.refl _ _).alloc (Nat.le_refl _) _).alloc (by simp) _).alloc (by simp; omega) _).drew⟩
    simp [results, Tryz.results81, go_sem]
  · go_enter Tryz.func81, Tryz.ntmps81
    go_wp2_with fail
    go_region
    all_goals go_wp2
    refine bodyPost_ret (v := .agg #[.int .i64 f0, .int .i64 f1, .int .i64 f2, .int .i64 f3, .int .i64 f4, .int .i64 f5, .int .i64 f6, .int .i64 f7, .int .i64 f8, .int .i64 x]) ?_ rfl ⟨f0, f1, f2, f3, f4, f5, f6, f7, f8, x, rfl, by rw [HL.out, HX.out]; rfl, ((((Below.refl _ _).alloc (Nat.le_refl _) _).alloc (by simp) _).alloc (by simp; omega) _).drew⟩
    simp [results, Tryz.results81, go_sem]
end Go.Proofs.YtjcomoinggiedaaGreat

namespace Go.Proofs.YtjcomoinggiedaaGreat
open Go.RowKit
set_option linter.unusedVariables false
set_option maxRecDepth 100000

set_option maxHeartbeats 8000000 in
theorem changedLess_any (f0 f1 f2 f3 f4 f5 f6 f7 f8 f9 : Int) (q : Nat) (n : Int) (w : World) (hq : q < 10) (hb : ∀ i, 0 ≤ ([f0, f1, f2, f3, f4, f5, f6, f7, f8, f9] : List Int).getD i 0 ∧ ([f0, f1, f2, f3, f4, f5, f6, f7, f8, f9] : List Int).getD i 0 ≤ 65535) :
    Calls Tryz.prog 81 #[.agg #[.int .i64 f0, .int .i64 f1, .int .i64 f2, .int .i64 f3, .int .i64 f4, .int .i64 f5, .int .i64 f6, .int .i64 f7, .int .i64 f8, .int .i64 f9], .agg #[.int .i64 3, .int .i64 q, .int .i64 n]] w fun e w' => ∃ g0 g1 g2 g3 g4 g5 g6 g7 g8 g9 : Int, e = .returned (.agg #[.int .i64 g0, .int .i64 g1, .int .i64 g2, .int .i64 g3, .int .i64 g4, .int .i64 g5, .int .i64 g6, .int .i64 g7, .int .i64 g8, .int .i64 g9]) ∧ [g0, g1, g2, g3, g4, g5, g6, g7, g8, g9] = ([f0, f1, f2, f3, f4, f5, f6, f7, f8, f9] : List Int).set q (if 0 < ([f0, f1, f2, f3, f4, f5, f6, f7, f8, f9] : List Int).getD q 0 then ([f0, f1, f2, f3, f4, f5, f6, f7, f8, f9] : List Int).getD q 0 - 1 else 0) ∧ Below w.heap.size w w' := by
  obtain ⟨L, hL⟩ : ∃ L, L = ([f0, f1, f2, f3, f4, f5, f6, f7, f8, f9] : List Int).set q (if 0 < ([f0, f1, f2, f3, f4, f5, f6, f7, f8, f9] : List Int).getD q 0 then ([f0, f1, f2, f3, f4, f5, f6, f7, f8, f9] : List Int).getD q 0 - 1 else 0) := ⟨_, rfl⟩
  rw [← hL]
  have HL := hide hL
  clear hL
  have hc : q = 0 ∨ q = 1 ∨ q = 2 ∨ q = 3 ∨ q = 4 ∨ q = 5 ∨ q = 6 ∨ q = 7 ∨ q = 8 ∨ q = 9 := by omega
  rcases hc with rfl | rfl | rfl | rfl | rfl | rfl | rfl | rfl | rfl | rfl
  · have hq0 := hb 0
    simp at hq0
    by_cases h0 : 0 < f0
    · have hw : IntKind.i64.wrap (f0 - 1) = f0 - 1 := wrapI _ (by omega) (by omega)
      have hmx : max (f0 - 1) 0 = f0 - 1 := by omega
      go_enter Tryz.func81, Tryz.ntmps81
      go_wp2_with fail
      go_region
      all_goals go_wp2
      refine bodyPost_ret (v := .agg #[.int .i64 (f0 - 1), .int .i64 (f1), .int .i64 (f2), .int .i64 (f3), .int .i64 (f4), .int .i64 (f5), .int .i64 (f6), .int .i64 (f7), .int .i64 (f8), .int .i64 (f9)]) ?_ rfl ⟨f0 - 1, f1, f2, f3, f4, f5, f6, f7, f8, f9, rfl, by rw [HL.out]; simp [h0], ((((Below.refl _ _).alloc (Nat.le_refl _) _).alloc (by simp) _).alloc (by simp; omega) _).drew⟩
      simp [results, Tryz.results81, go_sem]
    · have he : f0 = 0 := by omega
      subst he
      go_enter Tryz.func81, Tryz.ntmps81
      go_wp2_with fail
      go_region
      all_goals go_wp2
      refine bodyPost_ret (v := .agg #[.int .i64 (0), .int .i64 (f1), .int .i64 (f2), .int .i64 (f3), .int .i64 (f4), .int .i64 (f5), .int .i64 (f6), .int .i64 (f7), .int .i64 (f8), .int .i64 (f9)]) ?_ rfl ⟨0, f1, f2, f3, f4, f5, f6, f7, f8, f9, rfl, by rw [HL.out]; simp, ((((Below.refl _ _).alloc (Nat.le_refl _) _).alloc (by simp) _).alloc (by simp; omega) _).drew⟩
      simp [results, Tryz.results81, go_sem]
  · have hq0 := hb 1
    simp at hq0
    by_cases h0 : 0 < f1
    · have hw : IntKind.i64.wrap (f1 - 1) = f1 - 1 := wrapI _ (by omega) (by omega)
      have hmx : max (f1 - 1) 0 = f1 - 1 := by omega
      go_enter Tryz.func81, Tryz.ntmps81
      go_wp2_with fail
      go_region
      all_goals go_wp2
      refine bodyPost_ret (v := .agg #[.int .i64 (f0), .int .i64 (f1 - 1), .int .i64 (f2), .int .i64 (f3), .int .i64 (f4), .int .i64 (f5), .int .i64 (f6), .int .i64 (f7), .int .i64 (f8), .int .i64 (f9)]) ?_ rfl ⟨f0, f1 - 1, f2, f3, f4, f5, f6, f7, f8, f9, rfl, by rw [HL.out]; simp [h0], ((((Below.refl _ _).alloc (Nat.le_refl _) _).alloc (by simp) _).alloc (by simp; omega) _).drew⟩
      simp [results, Tryz.results81, go_sem]
    · have he : f1 = 0 := by omega
      subst he
      go_enter Tryz.func81, Tryz.ntmps81
      go_wp2_with fail
      go_region
      all_goals go_wp2
      refine bodyPost_ret (v := .agg #[.int .i64 (f0), .int .i64 (0), .int .i64 (f2), .int .i64 (f3), .int .i64 (f4), .int .i64 (f5), .int .i64 (f6), .int .i64 (f7), .int .i64 (f8), .int .i64 (f9)]) ?_ rfl ⟨f0, 0, f2, f3, f4, f5, f6, f7, f8, f9, rfl, by rw [HL.out]; simp, ((((Below.refl _ _).alloc (Nat.le_refl _) _).alloc (by simp) _).alloc (by simp; omega) _).drew⟩
      simp [results, Tryz.results81, go_sem]
  · have hq0 := hb 2
    simp at hq0
    by_cases h0 : 0 < f2
    · have hw : IntKind.i64.wrap (f2 - 1) = f2 - 1 := wrapI _ (by omega) (by omega)
      have hmx : max (f2 - 1) 0 = f2 - 1 := by omega
      go_enter Tryz.func81, Tryz.ntmps81
      go_wp2_with fail
      go_region
      all_goals go_wp2
      refine bodyPost_ret (v := .agg #[.int .i64 (f0), .int .i64 (f1), .int .i64 (f2 - 1), .int .i64 (f3), .int .i64 (f4), .int .i64 (f5), .int .i64 (f6), .int .i64 (f7), .int .i64 (f8), .int .i64 (f9)]) ?_ rfl ⟨f0, f1, f2 - 1, f3, f4, f5, f6, f7, f8, f9, rfl, by rw [HL.out]; simp [h0], ((((Below.refl _ _).alloc (Nat.le_refl _) _).alloc (by simp) _).alloc (by simp; omega) _).drew⟩
      simp [results, Tryz.results81, go_sem]
    · have he : f2 = 0 := by omega
      subst he
      go_enter Tryz.func81, Tryz.ntmps81
      go_wp2_with fail
      go_region
      all_goals go_wp2
      refine bodyPost_ret (v := .agg #[.int .i64 (f0), .int .i64 (f1), .int .i64 (0), .int .i64 (f3), .int .i64 (f4), .int .i64 (f5), .int .i64 (f6), .int .i64 (f7), .int .i64 (f8), .int .i64 (f9)]) ?_ rfl ⟨f0, f1, 0, f3, f4, f5, f6, f7, f8, f9, rfl, by rw [HL.out]; simp, ((((Below.refl _ _).alloc (Nat.le_refl _) _).alloc (by simp) _).alloc (by simp; omega) _).drew⟩
      simp [results, Tryz.results81, go_sem]
  · have hq0 := hb 3
    simp at hq0
    by_cases h0 : 0 < f3
    · have hw : IntKind.i64.wrap (f3 - 1) = f3 - 1 := wrapI _ (by omega) (by omega)
      have hmx : max (f3 - 1) 0 = f3 - 1 := by omega
      go_enter Tryz.func81, Tryz.ntmps81
      go_wp2_with fail
      go_region
      all_goals go_wp2
      refine bodyPost_ret (v := .agg #[.int .i64 (f0), .int .i64 (f1), .int .i64 (f2), .int .i64 (f3 - 1), .int .i64 (f4), .int .i64 (f5), .int .i64 (f6), .int .i64 (f7), .int .i64 (f8), .int .i64 (f9)]) ?_ rfl ⟨f0, f1, f2, f3 - 1, f4, f5, f6, f7, f8, f9, rfl, by rw [HL.out]; simp [h0], ((((Below.refl _ _).alloc (Nat.le_refl _) _).alloc (by simp) _).alloc (by simp; omega) _).drew⟩
      simp [results, Tryz.results81, go_sem]
    · have he : f3 = 0 := by omega
      subst he
      go_enter Tryz.func81, Tryz.ntmps81
      go_wp2_with fail
      go_region
      all_goals go_wp2
      refine bodyPost_ret (v := .agg #[.int .i64 (f0), .int .i64 (f1), .int .i64 (f2), .int .i64 (0), .int .i64 (f4), .int .i64 (f5), .int .i64 (f6), .int .i64 (f7), .int .i64 (f8), .int .i64 (f9)]) ?_ rfl ⟨f0, f1, f2, 0, f4, f5, f6, f7, f8, f9, rfl, by rw [HL.out]; simp, ((((Below.refl _ _).alloc (Nat.le_refl _) _).alloc (by simp) _).alloc (by simp; omega) _).drew⟩
      simp [results, Tryz.results81, go_sem]
  · have hq0 := hb 4
    simp at hq0
    by_cases h0 : 0 < f4
    · have hw : IntKind.i64.wrap (f4 - 1) = f4 - 1 := wrapI _ (by omega) (by omega)
      have hmx : max (f4 - 1) 0 = f4 - 1 := by omega
      go_enter Tryz.func81, Tryz.ntmps81
      go_wp2_with fail
      go_region
      all_goals go_wp2
      refine bodyPost_ret (v := .agg #[.int .i64 (f0), .int .i64 (f1), .int .i64 (f2), .int .i64 (f3), .int .i64 (f4 - 1), .int .i64 (f5), .int .i64 (f6), .int .i64 (f7), .int .i64 (f8), .int .i64 (f9)]) ?_ rfl ⟨f0, f1, f2, f3, f4 - 1, f5, f6, f7, f8, f9, rfl, by rw [HL.out]; simp [h0], ((((Below.refl _ _).alloc (Nat.le_refl _) _).alloc (by simp) _).alloc (by simp; omega) _).drew⟩
      simp [results, Tryz.results81, go_sem]
    · have he : f4 = 0 := by omega
      subst he
      go_enter Tryz.func81, Tryz.ntmps81
      go_wp2_with fail
      go_region
      all_goals go_wp2
      refine bodyPost_ret (v := .agg #[.int .i64 (f0), .int .i64 (f1), .int .i64 (f2), .int .i64 (f3), .int .i64 (0), .int .i64 (f5), .int .i64 (f6), .int .i64 (f7), .int .i64 (f8), .int .i64 (f9)]) ?_ rfl ⟨f0, f1, f2, f3, 0, f5, f6, f7, f8, f9, rfl, by rw [HL.out]; simp, ((((Below.refl _ _).alloc (Nat.le_refl _) _).alloc (by simp) _).alloc (by simp; omega) _).drew⟩
      simp [results, Tryz.results81, go_sem]
  · have hq0 := hb 5
    simp at hq0
    by_cases h0 : 0 < f5
    · have hw : IntKind.i64.wrap (f5 - 1) = f5 - 1 := wrapI _ (by omega) (by omega)
      have hmx : max (f5 - 1) 0 = f5 - 1 := by omega
      go_enter Tryz.func81, Tryz.ntmps81
      go_wp2_with fail
      go_region
      all_goals go_wp2
      refine bodyPost_ret (v := .agg #[.int .i64 (f0), .int .i64 (f1), .int .i64 (f2), .int .i64 (f3), .int .i64 (f4), .int .i64 (f5 - 1), .int .i64 (f6), .int .i64 (f7), .int .i64 (f8), .int .i64 (f9)]) ?_ rfl ⟨f0, f1, f2, f3, f4, f5 - 1, f6, f7, f8, f9, rfl, by rw [HL.out]; simp [h0], ((((Below.refl _ _).alloc (Nat.le_refl _) _).alloc (by simp) _).alloc (by simp; omega) _).drew⟩
      simp [results, Tryz.results81, go_sem]
    · have he : f5 = 0 := by omega
      subst he
      go_enter Tryz.func81, Tryz.ntmps81
      go_wp2_with fail
      go_region
      all_goals go_wp2
      refine bodyPost_ret (v := .agg #[.int .i64 (f0), .int .i64 (f1), .int .i64 (f2), .int .i64 (f3), .int .i64 (f4), .int .i64 (0), .int .i64 (f6), .int .i64 (f7), .int .i64 (f8), .int .i64 (f9)]) ?_ rfl ⟨f0, f1, f2, f3, f4, 0, f6, f7, f8, f9, rfl, by rw [HL.out]; simp, ((((Below.refl _ _).alloc (Nat.le_refl _) _).alloc (by simp) _).alloc (by simp; omega) _).drew⟩
      simp [results, Tryz.results81, go_sem]
  · have hq0 := hb 6
    simp at hq0
    by_cases h0 : 0 < f6
    · have hw : IntKind.i64.wrap (f6 - 1) = f6 - 1 := wrapI _ (by omega) (by omega)
      have hmx : max (f6 - 1) 0 = f6 - 1 := by omega
      go_enter Tryz.func81, Tryz.ntmps81
      go_wp2_with fail
      go_region
      all_goals go_wp2
      refine bodyPost_ret (v := .agg #[.int .i64 (f0), .int .i64 (f1), .int .i64 (f2), .int .i64 (f3), .int .i64 (f4), .int .i64 (f5), .int .i64 (f6 - 1), .int .i64 (f7), .int .i64 (f8), .int .i64 (f9)]) ?_ rfl ⟨f0, f1, f2, f3, f4, f5, f6 - 1, f7, f8, f9, rfl, by rw [HL.out]; simp [h0], ((((Below.refl _ _).alloc (Nat.le_refl _) _).alloc (by simp) _).alloc (by simp; omega) _).drew⟩
      simp [results, Tryz.results81, go_sem]
    · have he : f6 = 0 := by omega
      subst he
      go_enter Tryz.func81, Tryz.ntmps81
      go_wp2_with fail
      go_region
      all_goals go_wp2
      refine bodyPost_ret (v := .agg #[.int .i64 (f0), .int .i64 (f1), .int .i64 (f2), .int .i64 (f3), .int .i64 (f4), .int .i64 (f5), .int .i64 (0), .int .i64 (f7), .int .i64 (f8), .int .i64 (f9)]) ?_ rfl ⟨f0, f1, f2, f3, f4, f5, 0, f7, f8, f9, rfl, by rw [HL.out]; simp, ((((Below.refl _ _).alloc (Nat.le_refl _) _).alloc (by simp) _).alloc (by simp; omega) _).drew⟩
      simp [results, Tryz.results81, go_sem]
  · have hq0 := hb 7
    simp at hq0
    by_cases h0 : 0 < f7
    · have hw : IntKind.i64.wrap (f7 - 1) = f7 - 1 := wrapI _ (by omega) (by omega)
      have hmx : max (f7 - 1) 0 = f7 - 1 := by omega
      go_enter Tryz.func81, Tryz.ntmps81
      go_wp2_with fail
      go_region
      all_goals go_wp2
      refine bodyPost_ret (v := .agg #[.int .i64 (f0), .int .i64 (f1), .int .i64 (f2), .int .i64 (f3), .int .i64 (f4), .int .i64 (f5), .int .i64 (f6), .int .i64 (f7 - 1), .int .i64 (f8), .int .i64 (f9)]) ?_ rfl ⟨f0, f1, f2, f3, f4, f5, f6, f7 - 1, f8, f9, rfl, by rw [HL.out]; simp [h0], ((((Below.refl _ _).alloc (Nat.le_refl _) _).alloc (by simp) _).alloc (by simp; omega) _).drew⟩
      simp [results, Tryz.results81, go_sem]
    · have he : f7 = 0 := by omega
      subst he
      go_enter Tryz.func81, Tryz.ntmps81
      go_wp2_with fail
      go_region
      all_goals go_wp2
      refine bodyPost_ret (v := .agg #[.int .i64 (f0), .int .i64 (f1), .int .i64 (f2), .int .i64 (f3), .int .i64 (f4), .int .i64 (f5), .int .i64 (f6), .int .i64 (0), .int .i64 (f8), .int .i64 (f9)]) ?_ rfl ⟨f0, f1, f2, f3, f4, f5, f6, 0, f8, f9, rfl, by rw [HL.out]; simp, ((((Below.refl _ _).alloc (Nat.le_refl _) _).alloc (by simp) _).alloc (by simp; omega) _).drew⟩
      simp [results, Tryz.results81, go_sem]
  · have hq0 := hb 8
    simp at hq0
    by_cases h0 : 0 < f8
    · have hw : IntKind.i64.wrap (f8 - 1) = f8 - 1 := wrapI _ (by omega) (by omega)
      have hmx : max (f8 - 1) 0 = f8 - 1 := by omega
      go_enter Tryz.func81, Tryz.ntmps81
      go_wp2_with fail
      go_region
      all_goals go_wp2
      refine bodyPost_ret (v := .agg #[.int .i64 (f0), .int .i64 (f1), .int .i64 (f2), .int .i64 (f3), .int .i64 (f4), .int .i64 (f5), .int .i64 (f6), .int .i64 (f7), .int .i64 (f8 - 1), .int .i64 (f9)]) ?_ rfl ⟨f0, f1, f2, f3, f4, f5, f6, f7, f8 - 1, f9, rfl, by rw [HL.out]; simp [h0], ((((Below.refl _ _).alloc (Nat.le_refl _) _).alloc (by simp) _).alloc (by simp; omega) _).drew⟩
      simp [results, Tryz.results81, go_sem]
    · have he : f8 = 0 := by omega
      subst he
      go_enter Tryz.func81, Tryz.ntmps81
      go_wp2_with fail
      go_region
      all_goals go_wp2
      refine bodyPost_ret (v := .agg #[.int .i64 (f0), .int .i64 (f1), .int .i64 (f2), .int .i64 (f3), .int .i64 (f4), .int .i64 (f5), .int .i64 (f6), .int .i64 (f7), .int .i64 (0), .int .i64 (f9)]) ?_ rfl ⟨f0, f1, f2, f3, f4, f5, f6, f7, 0, f9, rfl, by rw [HL.out]; simp, ((((Below.refl _ _).alloc (Nat.le_refl _) _).alloc (by simp) _).alloc (by simp; omega) _).drew⟩
      simp [results, Tryz.results81, go_sem]
  · have hq0 := hb 9
    simp at hq0
    by_cases h0 : 0 < f9
    · have hw : IntKind.i64.wrap (f9 - 1) = f9 - 1 := wrapI _ (by omega) (by omega)
      have hmx : max (f9 - 1) 0 = f9 - 1 := by omega
      go_enter Tryz.func81, Tryz.ntmps81
      go_wp2_with fail
      go_region
      all_goals go_wp2
      refine bodyPost_ret (v := .agg #[.int .i64 (f0), .int .i64 (f1), .int .i64 (f2), .int .i64 (f3), .int .i64 (f4), .int .i64 (f5), .int .i64 (f6), .int .i64 (f7), .int .i64 (f8), .int .i64 (f9 - 1)]) ?_ rfl ⟨f0, f1, f2, f3, f4, f5, f6, f7, f8, f9 - 1, rfl, by rw [HL.out]; simp [h0], ((((Below.refl _ _).alloc (Nat.le_refl _) _).alloc (by simp) _).alloc (by simp; omega) _).drew⟩
      simp [results, Tryz.results81, go_sem]
    · have he : f9 = 0 := by omega
      subst he
      go_enter Tryz.func81, Tryz.ntmps81
      go_wp2_with fail
      go_region
      all_goals go_wp2
      refine bodyPost_ret (v := .agg #[.int .i64 (f0), .int .i64 (f1), .int .i64 (f2), .int .i64 (f3), .int .i64 (f4), .int .i64 (f5), .int .i64 (f6), .int .i64 (f7), .int .i64 (f8), .int .i64 (0)]) ?_ rfl ⟨f0, f1, f2, f3, f4, f5, f6, f7, f8, 0, rfl, by rw [HL.out]; simp, ((((Below.refl _ _).alloc (Nat.le_refl _) _).alloc (by simp) _).alloc (by simp; omega) _).drew⟩
      simp [results, Tryz.results81, go_sem]
end Go.Proofs.YtjcomoinggiedaaGreat

namespace Go.Proofs.YtjcomoinggiedaaGreat
open Go.RowKit
set_option linter.unusedVariables false
set_option maxRecDepth 100000

theorem infoSent : (Tryz.prog.info? 115).map (fun i => (i.zero, i.size, i.bytes)) = some (some (.agg #[.int .i64 0, .int .i64 0, .int .i64 0, .int .i64 0, .int .i64 0, .int .i64 0, .int .i64 0, .int .i64 0, .int .i64 0, .int .i64 0, .int .i64 0, .int .i64 0, .string ByteArray.empty]), 13, 112) := by kernel_rfl

theorem pkt_parts {F : List Int} {n : Nat} (h : pktFault F n = 0) : F.all wordB = true ∧ n ≤ 40 := by
  unfold pktFault at h
  split at h
  · rename_i h1
    split at h
    · omega
    · exact ⟨h1, by omega⟩
  · omega
theorem len10 {F : List Int} (h : F.length = 10) : ∃ f0 f1 f2 f3 f4 f5 f6 f7 f8 f9, F = [f0, f1, f2, f3, f4, f5, f6, f7, f8, f9] := by
  match F, h with
  | [f0, f1, f2, f3, f4, f5, f6, f7, f8, f9], _ => exact ⟨f0, f1, f2, f3, f4, f5, f6, f7, f8, f9, rfl⟩

/-- A packet lies at a block that may be written. -/
def PkF (w : World) (b : Nat) (F : List Int) (body : ByteArray) : Prop := PkAt w b F body ∧ ∀ i, w.frozen? ⟨b, i, none⟩ = false
theorem PkF.below {w w' : World} {b B : Nat} {F : List Int} {body : ByteArray} (h : PkF w b F body) (hb : Below B w w') (hB : b < B) : PkF w' b F body :=
  ⟨h.1.below hb hB, fun i => (hb.frozen (p := ⟨b, i, none⟩) hB).trans (h.2 i)⟩
theorem PkF.cells {w : World} {b : Nat} {body : ByteArray} {f0 f1 f2 f3 f4 f5 f6 f7 f8 f9 : Int} (h : PkF w b [f0, f1, f2, f3, f4, f5, f6, f7, f8, f9] body) : w.cell? ⟨b, 0, none⟩ = some (.int .i64 f0) ∧ w.cell? ⟨b, 1, none⟩ = some (.int .i64 f1) ∧ w.cell? ⟨b, 2, none⟩ = some (.int .i64 f2) ∧ w.cell? ⟨b, 3, none⟩ = some (.int .i64 f3) ∧ w.cell? ⟨b, 4, none⟩ = some (.int .i64 f4) ∧ w.cell? ⟨b, 5, none⟩ = some (.int .i64 f5) ∧ w.cell? ⟨b, 6, none⟩ = some (.int .i64 f6) ∧ w.cell? ⟨b, 7, none⟩ = some (.int .i64 f7) ∧ w.cell? ⟨b, 8, none⟩ = some (.int .i64 f8) ∧ w.cell? ⟨b, 9, none⟩ = some (.int .i64 f9) ∧ w.cell? ⟨b, 10, none⟩ = some (.string body) :=
  ⟨h.1.2.1 0 (by omega), h.1.2.1 1 (by omega), h.1.2.1 2 (by omega), h.1.2.1 3 (by omega), h.1.2.1 4 (by omega), h.1.2.1 5 (by omega), h.1.2.1 6 (by omega), h.1.2.1 7 (by omega), h.1.2.1 8 (by omega), h.1.2.1 9 (by omega), h.1.2.2⟩
theorem ownB {w w' : World} {B e size n : Nat} {v : Value} {xs : List Value} (h : w.ownsRow B e size v n xs) (hb : Below w.heap.size w w') : w'.ownsRow B e size v n xs := by
  refine h.kept (w' := w') (row := none) ⟨hb.os, hb.tape, hb.output, hb.size, fun k hk _ => hb.block k hk⟩ ?_
  cases v.ownBlock
  · exact .inl rfl
  · exact .inr (by simp)
theorem addf (b j : Nat) : (⟨b, 0, none⟩ : Addr).add j = ⟨b, j, none⟩ := by by_cases h : j = 0 <;> simp [Addr.add, h]
theorem news13 (w : World) (t : TypeId) (dk dn f0 f1 f2 f3 f4 f5 f6 f7 f8 f9 : Int) (body : ByteArray) : ∀ j u, (S body [⟨dk, dn, [f0, f1, f2, f3, f4, f5, f6, f7, f8, f9]⟩])[j]? = some u → (w.alloc (.cells #[.int .i64 dk, .int .i64 dn, .int .i64 f0, .int .i64 f1, .int .i64 f2, .int .i64 f3, .int .i64 f4, .int .i64 f5, .int .i64 f6, .int .i64 f7, .int .i64 f8, .int .i64 f9, .string body] t)).cell? ((⟨w.heap.size, 0, none⟩ : Addr).add j) = some u := by
  intro j u hj
  have hl : j < 13 := by
    rcases Nat.lt_or_ge j 13 with h | h
    · exact h
    · rw [List.getElem?_eq_none (by simpa [S] using h)] at hj; simp at hj
  have hc : j = 0 ∨ j = 1 ∨ j = 2 ∨ j = 3 ∨ j = 4 ∨ j = 5 ∨ j = 6 ∨ j = 7 ∨ j = 8 ∨ j = 9 ∨ j = 10 ∨ j = 11 ∨ j = 12 := by omega
  rcases hc with rfl | rfl | rfl | rfl | rfl | rfl | rfl | rfl | rfl | rfl | rfl | rfl | rfl
  all_goals (simp [S] at hj; subst hj; simp [Addr.add])
theorem S_one (body : ByteArray) (l : List Sn) : ∀ u ∈ S body l, u.oneCell' = true := by
  intro u hu
  simp only [S, List.mem_flatMap] at hu
  obtain ⟨x, _, hu⟩ := hu
  simp only [List.mem_cons, List.not_mem_nil, or_false] at hu
  rcases hu with rfl | rfl | rfl | rfl | rfl | rfl | rfl | rfl | rfl | rfl | rfl | rfl | rfl
  all_goals rfl
theorem PkF.set1 {w : World} {b i : Nat} {F : List Int} {body : ByteArray} (h : PkF w b F body) (x : Int) (hi : i < 10) : PkF (w.setCell ⟨b, i, none⟩ (.int .i64 x)) b (F.set i x) body := by
  obtain ⟨⟨hl, hc, hbd⟩, hf⟩ := h
  refine ⟨⟨by simp [hl], fun j hj => ?_, ?_⟩, fun j => by rw [World.frozen?_setCell]; exact hf j⟩
  · by_cases e : j = i
    · subst e
      rw [World.cell?_setCell_same _ _ _ (hc j hj)]
      simp [List.getD, hl, hj]
    · rw [World.cell?_setCell_other _ _ _ _ (by simp), hc j hj]
      have e' : ¬ i = j := fun h => e h.symm
      simp [List.getD, e']
  · rw [World.cell?_setCell_other _ _ _ _ (by simp)]
    exact hbd
/-- Ten fields written. -/
def set10 (w : World) (b : Nat) (g0 g1 g2 g3 g4 g5 g6 g7 g8 g9 : Int) : World :=
  (((((((((w.setCell ⟨b, 0, none⟩ (.int .i64 g0)).setCell ⟨b, 1, none⟩ (.int .i64 g1)).setCell ⟨b, 2, none⟩ (.int .i64 g2)).setCell ⟨b, 3, none⟩ (.int .i64 g3)).setCell ⟨b, 4, none⟩ (.int .i64 g4)).setCell ⟨b, 5, none⟩ (.int .i64 g5)).setCell ⟨b, 6, none⟩ (.int .i64 g6)).setCell ⟨b, 7, none⟩ (.int .i64 g7)).setCell ⟨b, 8, none⟩ (.int .i64 g8)).setCell ⟨b, 9, none⟩ (.int .i64 g9)
theorem PkF.set10 {w : World} {b : Nat} {f0 f1 f2 f3 f4 f5 f6 f7 f8 f9 : Int} {body : ByteArray} (h : PkF w b [f0, f1, f2, f3, f4, f5, f6, f7, f8, f9] body) (g0 g1 g2 g3 g4 g5 g6 g7 g8 g9 : Int) : PkF (set10 w b g0 g1 g2 g3 g4 g5 g6 g7 g8 g9) b [g0, g1, g2, g3, g4, g5, g6, g7, g8, g9] body :=
  (((((((((h.set1 g0 (i := 0) (by omega)).set1 g1 (i := 1) (by omega)).set1 g2 (i := 2) (by omega)).set1 g3 (i := 3) (by omega)).set1 g4 (i := 4) (by omega)).set1 g5 (i := 5) (by omega)).set1 g6 (i := 6) (by omega)).set1 g7 (i := 7) (by omega)).set1 g8 (i := 8) (by omega)).set1 g9 (i := 9) (by omega)
theorem set10_below {w : World} {b : Nat} (g0 g1 g2 g3 g4 g5 g6 g7 g8 g9 : Int) {B : Nat} (hb : B ≤ b) {a : World} (h : Below B a w) : Below B a (set10 w b g0 g1 g2 g3 g4 g5 g6 g7 g8 g9) :=
  (((((((((h.setCell hb _).setCell hb _).setCell hb _).setCell hb _).setCell hb _).setCell hb _).setCell hb _).setCell hb _).setCell hb _).setCell hb _
theorem ownS {w : World} {B e size n : Nat} {v : Value} {xs : List Value} (h : w.ownsRow B e size v n xs) {a : Addr} (ha : a.block < B) (u : Value) : (w.setCell a u).ownsRow B e size v n xs := by
  obtain ⟨h0, h | ⟨g, cap, cur, h1, h2, h3, h4⟩⟩ := h
  · exact ⟨h0, .inl h⟩
  · exact ⟨h0, .inr ⟨g, cap, cur, h1, h2, (Below.heap_setCell w a u g (by omega)).trans h3, h4⟩⟩
theorem set10_own {w : World} {b : Nat} (g0 g1 g2 g3 g4 g5 g6 g7 g8 g9 : Int) {B e size n : Nat} {v : Value} {xs : List Value} (h : w.ownsRow B e size v n xs) (hb : b < B) : (set10 w b g0 g1 g2 g3 g4 g5 g6 g7 g8 g9).ownsRow B e size v n xs :=
  ownS (ownS (ownS (ownS (ownS (ownS (ownS (ownS (ownS (ownS h hb _) hb _) hb _) hb _) hb _) hb _) hb _) hb _) hb _) hb _
theorem set10_size (w : World) (b : Nat) (g0 g1 g2 g3 g4 g5 g6 g7 g8 g9 : Int) : (set10 w b g0 g1 g2 g3 g4 g5 g6 g7 g8 g9).heap.size = w.heap.size := by simp [set10]
theorem below_grown1 {w w' : World} {row : Option Nat} {B : Nat} (hg : w.grownBy w' row) (hB : B ≤ w.heap.size) (hr : ∀ k, row = some k → B ≤ k) : Below B w w' := (Below.refl B w).grown hg hB hr

set_option maxHeartbeats 16000000 in
theorem fRun_ok (f0 f1 f2 f3 f4 f5 f6 f7 f8 f9 : Int) (body : ByteArray) (v : Value) (fs : List Fl) (w : World) (hL : FsAt w v fs) (hz : fsFault fs = 0) (hp : pktFault [f0, f1, f2, f3, f4, f5, f6, f7, f8, f9] body.size = 0) (hm : fs.length ≤ 5000) :
    Calls Tryz.prog 47 #[v, pkt f0 f1 f2 f3 f4 f5 f6 f7 f8 f9 body] w fun e w' => ∃ u, e = .returned (.tuple #[u, .int .i64 0]) ∧ w'.ownsRow w.heap.size 115 13 u (ran fs [f0, f1, f2, f3, f4, f5, f6, f7, f8, f9]).length (S body (ran fs [f0, f1, f2, f3, f4, f5, f6, f7, f8, f9])) ∧ Below w.heap.size w w' := by
  obtain ⟨i0, hi, hz0, hz1, hz2⟩ := info_parts infoSent
  obtain ⟨hall, hbs⟩ := pkt_parts hp
  have HWF : Hid (WF [f0, f1, f2, f3, f4, f5, f6, f7, f8, f9]) := wf_of_all rfl hall
  have HL := hide hL
  have HZ := hide hz
  have HP := hide hp
  have hbm : body.size ≤ maxLen := by unfold maxLen; omega
  obtain ⟨a, cap, rfl, hn, _⟩ := hL
  obtain ⟨RES, hRES⟩ : ∃ R, R = ran fs [f0, f1, f2, f3, f4, f5, f6, f7, f8, f9] := ⟨_, rfl⟩
  rw [← hRES]
  have HRES := hide hRES
  clear hRES hall hz hp
  go_enter Tryz.func47, Tryz.ntmps47
  go_wp2_with fail
  obtain ⟨W0, hW0⟩ : ∃ W0, W0 = w.alloc (.cells #[.int .i64 f0, .int .i64 f1, .int .i64 f2, .int .i64 f3, .int .i64 f4, .int .i64 f5, .int .i64 f6, .int .i64 f7, .int .i64 f8, .int .i64 f9, .string body] 108) := ⟨_, rfl⟩
  have c0 : W0.cell? ⟨w.heap.size, 0, none⟩ = some (.int .i64 f0) := by rw [hW0]; simp
  have c1 : W0.cell? ⟨w.heap.size, 1, none⟩ = some (.int .i64 f1) := by rw [hW0]; simp
  have c2 : W0.cell? ⟨w.heap.size, 2, none⟩ = some (.int .i64 f2) := by rw [hW0]; simp
  have c3 : W0.cell? ⟨w.heap.size, 3, none⟩ = some (.int .i64 f3) := by rw [hW0]; simp
  have c4 : W0.cell? ⟨w.heap.size, 4, none⟩ = some (.int .i64 f4) := by rw [hW0]; simp
  have c5 : W0.cell? ⟨w.heap.size, 5, none⟩ = some (.int .i64 f5) := by rw [hW0]; simp
  have c6 : W0.cell? ⟨w.heap.size, 6, none⟩ = some (.int .i64 f6) := by rw [hW0]; simp
  have c7 : W0.cell? ⟨w.heap.size, 7, none⟩ = some (.int .i64 f7) := by rw [hW0]; simp
  have c8 : W0.cell? ⟨w.heap.size, 8, none⟩ = some (.int .i64 f8) := by rw [hW0]; simp
  have c9 : W0.cell? ⟨w.heap.size, 9, none⟩ = some (.int .i64 f9) := by rw [hW0]; simp
  have cb : W0.cell? ⟨w.heap.size, 10, none⟩ = some (.string body) := by rw [hW0]; simp
  have hfr0 : ∀ i, W0.frozen? ⟨w.heap.size, i, none⟩ = false := fun i => by rw [hW0]; simp
  have hb0 : Below w.heap.size w W0 := by rw [hW0]; exact (Below.refl _ _).alloc (Nat.le_refl _) _
  have hz0' : w.heap.size < W0.heap.size := by rw [hW0]; simp
  rw [← hW0]
  clear hW0
  have HFR0 := hide hfr0
  clear hfr0
  refine (fCheck_any _ fs _ (HL.out.below hb0 (Nat.le_refl _)) (by omega)).mono ?_
  rintro e w1 ⟨rfl, hb1⟩
  rw [HZ.out]
  replace c0 := cell_below c0 hb1 (Nat.le_refl _)
  replace c1 := cell_below c1 hb1 (Nat.le_refl _)
  replace c2 := cell_below c2 hb1 (Nat.le_refl _)
  replace c3 := cell_below c3 hb1 (Nat.le_refl _)
  replace c4 := cell_below c4 hb1 (Nat.le_refl _)
  replace c5 := cell_below c5 hb1 (Nat.le_refl _)
  replace c6 := cell_below c6 hb1 (Nat.le_refl _)
  replace c7 := cell_below c7 hb1 (Nat.le_refl _)
  replace c8 := cell_below c8 hb1 (Nat.le_refl _)
  replace c9 := cell_below c9 hb1 (Nat.le_refl _)
  replace cb := cell_below cb hb1 (Nat.le_refl _)
  go_wp2_with fail
  refine (checkPacket_any f0 f1 f2 f3 f4 f5 f6 f7 f8 f9 body _ hbm).mono ?_
  rintro e w2 ⟨rfl, hb2⟩
  rw [HP.out]
  replace c0 := cell_below c0 hb2 (Nat.le_refl _)
  replace c1 := cell_below c1 hb2 (Nat.le_refl _)
  replace c2 := cell_below c2 hb2 (Nat.le_refl _)
  replace c3 := cell_below c3 hb2 (Nat.le_refl _)
  replace c4 := cell_below c4 hb2 (Nat.le_refl _)
  replace c5 := cell_below c5 hb2 (Nat.le_refl _)
  replace c6 := cell_below c6 hb2 (Nat.le_refl _)
  replace c7 := cell_below c7 hb2 (Nat.le_refl _)
  replace c8 := cell_below c8 hb2 (Nat.le_refl _)
  replace c9 := cell_below c9 hb2 (Nat.le_refl _)
  replace cb := cell_below cb hb2 (Nat.le_refl _)
  have hb12 : Below W0.heap.size W0 w2 := hb1.trans (hb2.mono hb1.size)
  have HFR : Hid (∀ i, w2.frozen? ⟨w.heap.size, i, none⟩ = false) := fun i => (hb12.frozen (p := ⟨w.heap.size, i, none⟩) hz0').trans (HFR0.out i)
  have hb02 : Below w.heap.size w w2 := hb0.trans (hb12.mono hb0.size)
  have hs2 : w.heap.size < w2.heap.size := Nat.lt_of_lt_of_le hz0' hb12.size
  clear hb1 hb2 hb12 hb0 hz0' HFR0 W0 w1
  have HPK : Hid (PkF w2 w.heap.size [f0, f1, f2, f3, f4, f5, f6, f7, f8, f9] body) := hide ⟨⟨rfl, fun i hi => by
      have hc : i = 0 ∨ i = 1 ∨ i = 2 ∨ i = 3 ∨ i = 4 ∨ i = 5 ∨ i = 6 ∨ i = 7 ∨ i = 8 ∨ i = 9 := by omega
      rcases hc with rfl | rfl | rfl | rfl | rfl | rfl | rfl | rfl | rfl | rfl
      all_goals assumption, cb⟩, HFR.out⟩
  clear c0 c1 c2 c3 c4 c5 c6 c7 c8 c9 cb HFR HP
  obtain ⟨F0, hF0⟩ : ∃ F0 : List Int, F0 = [f0, f1, f2, f3, f4, f5, f6, f7, f8, f9] := ⟨_, rfl⟩
  rw [← hF0] at HPK HWF HRES
  clear hF0
  go_wp2_with fail
  go_loopw [8, 9] (fun o t wr => ∃ (j : Nat) (s : St), Hid (WF s.F) ∧ (j : Int) ≤ s.t ∧ s.t ≤ 8 ∧ s.out.length ≤ 100 * j ∧ t = .int .i64 s.t ∧ Hid (runN fs (8 - j) s = runN fs 8 ⟨F0, 0, []⟩) ∧ Hid (PkF wr w.heap.size s.F body) ∧ Hid (wr.ownsRow (w.heap.size + 1) 115 13 o s.out.length (S body s.out)) ∧ Below w.heap.size w wr ∧ w.heap.size < wr.heap.size) (fun _ t _ => 8 - (intOf t).toNat)
  case atStart => exact ⟨0, ⟨F0, 0, []⟩, HWF, by simp, by simp, by simp, rfl, hide rfl, HPK, hide (World.ownsRow_nil _ _ _ _), hb02, hs2⟩
  case round =>
    clear HPK hb02 hs2 HWF
    obtain ⟨j, s, HWF, hj1, ht8, hol, rfl, HRN, HPK, HOW, hbel, hsz⟩ := hrel
    obtain ⟨SF, st, so⟩ := s
    simp only at HWF hj1 ht8 hol HRN HPK HOW
    by_cases ht : st < 8
    · obtain ⟨f0, f1, f2, f3, f4, f5, f6, f7, f8, f9, rfl⟩ := len10 HWF.out.1
      have htd : decide (st < 8) = true := by simpa using ht
      have HTB : Hid (runN fs (8 - j) ⟨[f0, f1, f2, f3, f4, f5, f6, f7, f8, f9], st, so⟩ = runN fs (8 - (j + 1)) (table fs ⟨[f0, f1, f2, f3, f4, f5, f6, f7, f8, f9], st, so⟩)) := by
        show _ = _
        have e : 8 - j = (8 - (j + 1)) + 1 := by omega
        rw [e]
        show (if 7 < st then _ else _) = _
        rw [if_neg (by omega)]
      obtain ⟨c0, c1, c2, c3, c4, c5, c6, c7, c8, c9, cb⟩ := HPK.out.cells
      obtain ⟨oo, oc, rfl, hoc, hog⟩ : ∃ oo oc, u8 = .slice oo so.length oc ∧ so.length ≤ oc ∧ (0 < so.length → ∃ g, oo = some ⟨g, 0, none⟩) := by
        obtain ⟨_, ⟨rfl, h0⟩ | ⟨g, cap, cur, rfl, _, _, hc, _⟩⟩ := HOW.out
        · exact ⟨none, 0, by rw [h0], by omega, fun h => absurd h (by omega)⟩
        · exact ⟨_, cap, rfl, hc, fun _ => ⟨g, rfl⟩⟩
      go_wp2_with fail
      refine (pick_any f0 f1 f2 f3 f4 f5 f6 f7 f8 f9 _ fs st w wr HWF.out HL.out hbel HZ.out hm).mono ?_
      rintro e w1 ⟨u, rfl, hds, hb1⟩
      have HPK1 := hide (HPK.out.below hb1 hsz)
      have HOW1 := hide (ownB HOW.out hb1)
      have hbel1 := hbel.trans (hb1.mono hbel.size)
      have hsz1 := Nat.lt_of_lt_of_le hsz hb1.size
      clear HPK HOW hb1 c0 c1 c2 c3 c4 c5 c6 c7 c8 c9 cb hbel hsz
      obtain ⟨ds, hdsd⟩ : ∃ ds, ds = dsOf fs (bestTo fs [f0, f1, f2, f3, f4, f5, f6, f7, f8, f9] st fs.length) := ⟨_, rfl⟩
      have HTD : Hid (table fs ⟨[f0, f1, f2, f3, f4, f5, f6, f7, f8, f9], st, so⟩ = stepTo ⟨[f0, f1, f2, f3, f4, f5, f6, f7, f8, f9], 8, so⟩ ds ds.length) := by show _ = _; rw [hdsd]; rfl
      have HDB : Hid (ds.length ≤ 100 ∧ ∀ k, k < ds.length → doB st ds k = true) := by
        have hbi := bestTo_best fs [f0, f1, f2, f3, f4, f5, f6, f7, f8, f9] st fs.length
        rw [hdsd]
        unfold dsOf
        rcases hbi with ⟨hb, _⟩ | ⟨i, hb, _, hi, hf, _⟩
        · rw [hb]; exact hide ⟨by simp, fun k hk => by simp at hk⟩
        · rw [hb, if_neg (by omega), Int.toNat_natCast]
          have hk := ok_flow HZ.out hi
          have hft : (fs.getD i fl0).t = st := by
            unfold fitB at hf
            simp only [Bool.and_eq_true, beq_iff_eq] at hf
            exact hf.1
          exact hide ⟨hk.2.2.1, by rw [← hft]; exact hk.2.2.2.2.2.2.2.2⟩
      rw [← hdsd] at hds
      clear hdsd
      have HDS := hide hds
      obtain ⟨da, dcap, rfl, hdn, _⟩ := hds
      have hdl := HDB.out.1
      have HOK : Hid (∀ k, k ≤ ds.length → Ok st (100 * j + k) (stepTo ⟨[f0, f1, f2, f3, f4, f5, f6, f7, f8, f9], 8, so⟩ ds k)) := fun k hk => Ok.stepTo ⟨HWF.out, by simp; omega, by simp, by simp; omega⟩ HDB.out.2 k hk
      go_wp2_with fail
      rename World => W1
      go_loopw [8, 9, 32] (fun o t i wq => ∃ (k : Nat), k ≤ ds.length ∧ i = .int .i64 k ∧ t = .int .i64 (stepTo ⟨[f0, f1, f2, f3, f4, f5, f6, f7, f8, f9], 8, so⟩ ds k).t ∧ Hid (PkF wq w.heap.size (stepTo ⟨[f0, f1, f2, f3, f4, f5, f6, f7, f8, f9], 8, so⟩ ds k).F body) ∧ Hid (wq.ownsRow (w.heap.size + 1) 115 13 o (stepTo ⟨[f0, f1, f2, f3, f4, f5, f6, f7, f8, f9], 8, so⟩ ds k).out.length (S body (stepTo ⟨[f0, f1, f2, f3, f4, f5, f6, f7, f8, f9], 8, so⟩ ds k).out)) ∧ Below w.heap.size w wq ∧ w.heap.size < wq.heap.size) (fun _ _ i _ => ds.length - (intOf i).toNat)
      case atStart => exact ⟨0, by omega, rfl, rfl, HPK1, HOW1, hbel1, hsz1⟩
      case round =>
        clear HPK1 HOW1 hbel1 hsz1
        obtain ⟨k, hk, rfl, rfl, HPK, HOW, hbel, hsz⟩ := hrel
        by_cases hlt : k < ds.length
        · have HSTEP : Hid (stepTo ⟨[f0, f1, f2, f3, f4, f5, f6, f7, f8, f9], 8, so⟩ ds (k + 1) = step (stepTo ⟨[f0, f1, f2, f3, f4, f5, f6, f7, f8, f9], 8, so⟩ ds k) (ds.getD k do0)) := rfl
          have HOKk := hide (HOK.out k (by omega))
          have hpd := doB_parts (HDB.out.2 k hlt)
          obtain ⟨db, doff, rfl, hdc, hcell⟩ : ∃ b off, da = some ⟨b, off, none⟩ ∧ ds.length ≤ dcap ∧ ∀ i, i < ds.length → w.cell? ⟨b, off + i * 3, none⟩ = some (.int .i64 (ds.getD i do0).k) ∧ w.cell? ⟨b, off + i * 3 + 1, none⟩ = some (.int .i64 (ds.getD i do0).a) ∧ w.cell? ⟨b, off + i * 3 + 2, none⟩ = some (.int .i64 (ds.getD i do0).n) := by
            obtain ⟨a', cap', hv, hn', hL⟩ := HDS.out
            simp only [Value.slice.injEq] at hv
            obtain ⟨rfl, _, rfl⟩ := hv
            rcases hL with h0 | h
            · omega
            · exact h
          obtain ⟨g0, g1, g2⟩ := hcell k hlt
          have m0 := cell_below g0 hbel (Nat.le_refl _)
          have m1 := cell_below g1 hbel (Nat.le_refl _)
          have m2 := cell_below g2 hbel (Nat.le_refl _)
          clear g0 g1 g2 hcell
          generalize stepTo ⟨[f0, f1, f2, f3, f4, f5, f6, f7, f8, f9], 8, so⟩ ds k = s0 at *
          generalize ds.getD k do0 = d at *
          obtain ⟨dk, dA, dn⟩ := d
          obtain ⟨SF, st1, so1⟩ := s0
          simp only at hpd m0 m1 m2 HPK HOW
          obtain ⟨hw0, _, hw8, hwo⟩ := HOKk.out
          simp only at hw0 hw8 hwo
          have HW0 := hide hw0
          obtain ⟨p0, p1, p2, p3, p4, p5, p6, p7, p8, p9, rfl⟩ := len10 hw0.1
          clear hw0
          obtain ⟨c0, c1, c2, c3, c4, c5, c6, c7, c8, c9, cb⟩ := HPK.out.cells
          obtain ⟨oo, oc, rfl, hoc, hog⟩ : ∃ oo oc, u8 = .slice oo so1.length oc ∧ so1.length ≤ oc ∧ (0 < so1.length → ∃ g, oo = some ⟨g, 0, none⟩) := by
            obtain ⟨_, ⟨rfl, h0⟩ | ⟨g, cap, cur, rfl, _, _, hc, _⟩⟩ := HOW.out
            · exact ⟨none, 0, by rw [h0], by omega, fun h => absurd h (by omega)⟩
            · exact ⟨_, cap, rfl, hc, fun _ => ⟨g, rfl⟩⟩
          have hA : ∀ o : Obj, Below wr.heap.size wr (wr.alloc o) := fun o => (Below.refl _ _).alloc (Nat.le_refl _) o
          rcases hpd with ⟨rfl, a0, a1, hn1⟩ | ⟨rfl, a0, a1, n0, n1⟩ | ⟨rfl, a0, a1⟩ | ⟨rfl, n0, n1⟩ | ⟨rfl, hn1⟩ | ⟨rfl, n0, n1⟩
          · obtain ⟨q, rfl⟩ := Int.eq_ofNat_of_zero_le a0
            have HS1 : Hid (stepTo ⟨[f0, f1, f2, f3, f4, f5, f6, f7, f8, f9], 8, so⟩ ds (k + 1) = ⟨([p0, p1, p2, p3, p4, p5, p6, p7, p8, p9] : List Int).set q (dn), st1, so1⟩) := by show _ = _; rw [HSTEP.out]; unfold step doF; simp
            go_wp2_with fail
            refine (changedPut_any p0 p1 p2 p3 p4 p5 p6 p7 p8 p9 q dn _ (by omega)).mono ?_
            rintro e w3 ⟨g0, g1, g2, g3, g4, g5, g6, g7, g8, g9, rfl, hG, hb3⟩
            have HG := hide hG
            clear hG HSTEP
            have hb3' : Below wr.heap.size wr w3 := (hA _).trans (hb3.mono (hA _).size)
            have HPK3 := hide (HPK.out.below hb3' hsz)
            have HOW3 := hide (ownB HOW.out hb3')
            obtain ⟨c0, c1, c2, c3, c4, c5, c6, c7, c8, c9, cb⟩ := HPK3.out.cells
            have z0 := HPK3.out.2 0
            have z1 := HPK3.out.2 1
            have z2 := HPK3.out.2 2
            have z3 := HPK3.out.2 3
            have z4 := HPK3.out.2 4
            have z5 := HPK3.out.2 5
            have z6 := HPK3.out.2 6
            have z7 := HPK3.out.2 7
            have z8 := HPK3.out.2 8
            have z9 := HPK3.out.2 9
            have HPK4 := hide (HPK3.out.set10 g0 g1 g2 g3 g4 g5 g6 g7 g8 g9)
            rw [HG.out] at HPK4
            have HOW4 := hide (set10_own g0 g1 g2 g3 g4 g5 g6 g7 g8 g9 HOW3.out (Nat.lt_succ_self _))
            have hbel4 := set10_below g0 g1 g2 g3 g4 g5 g6 g7 g8 g9 (Nat.le_refl _) (hbel.trans (hb3'.mono hbel.size))
            have hsz4 : w.heap.size < (set10 w3 w.heap.size g0 g1 g2 g3 g4 g5 g6 g7 g8 g9).heap.size := by rw [set10_size]; have := hb3'.size; omega
            have HW4 : Hid (set10 w3 w.heap.size g0 g1 g2 g3 g4 g5 g6 g7 g8 g9 = (((((((((w3.setCell ⟨w.heap.size, 0, none⟩ (.int .i64 g0)).setCell ⟨w.heap.size, 1, none⟩ (.int .i64 g1)).setCell ⟨w.heap.size, 2, none⟩ (.int .i64 g2)).setCell ⟨w.heap.size, 3, none⟩ (.int .i64 g3)).setCell ⟨w.heap.size, 4, none⟩ (.int .i64 g4)).setCell ⟨w.heap.size, 5, none⟩ (.int .i64 g5)).setCell ⟨w.heap.size, 6, none⟩ (.int .i64 g6)).setCell ⟨w.heap.size, 7, none⟩ (.int .i64 g7)).setCell ⟨w.heap.size, 8, none⟩ (.int .i64 g8)).setCell ⟨w.heap.size, 9, none⟩ (.int .i64 g9)) := rfl
            generalize set10 w3 w.heap.size g0 g1 g2 g3 g4 g5 g6 g7 g8 g9 = w4 at *
            go_wp2_with fail
            rw [← HW4.out]
            go_roundw
            case rel => exact ⟨k + 1, by omega, by go_num, by rw [HS1.out], by rw [HS1.out]; exact HPK4, by rw [HS1.out]; exact HOW4, hbel4, hsz4⟩
            case measure => simp [intOf]; omega
          · obtain ⟨q, rfl⟩ := Int.eq_ofNat_of_zero_le a0
            obtain ⟨m, rfl⟩ := Int.eq_ofNat_of_zero_le n0
            have HS1 : Hid (stepTo ⟨[f0, f1, f2, f3, f4, f5, f6, f7, f8, f9], 8, so⟩ ds (k + 1) = ⟨([p0, p1, p2, p3, p4, p5, p6, p7, p8, p9] : List Int).set q (([p0, p1, p2, p3, p4, p5, p6, p7, p8, p9] : List Int).getD m 0), st1, so1⟩) := by show _ = _; rw [HSTEP.out]; unfold step doF; simp
            go_wp2_with fail
            refine (changedCopy_any p0 p1 p2 p3 p4 p5 p6 p7 p8 p9 q m _ (by omega) (by omega)).mono ?_
            rintro e w3 ⟨g0, g1, g2, g3, g4, g5, g6, g7, g8, g9, rfl, hG, hb3⟩
            have HG := hide hG
            clear hG HSTEP
            have hb3' : Below wr.heap.size wr w3 := (hA _).trans (hb3.mono (hA _).size)
            have HPK3 := hide (HPK.out.below hb3' hsz)
            have HOW3 := hide (ownB HOW.out hb3')
            obtain ⟨c0, c1, c2, c3, c4, c5, c6, c7, c8, c9, cb⟩ := HPK3.out.cells
            have z0 := HPK3.out.2 0
            have z1 := HPK3.out.2 1
            have z2 := HPK3.out.2 2
            have z3 := HPK3.out.2 3
            have z4 := HPK3.out.2 4
            have z5 := HPK3.out.2 5
            have z6 := HPK3.out.2 6
            have z7 := HPK3.out.2 7
            have z8 := HPK3.out.2 8
            have z9 := HPK3.out.2 9
            have HPK4 := hide (HPK3.out.set10 g0 g1 g2 g3 g4 g5 g6 g7 g8 g9)
            rw [HG.out] at HPK4
            have HOW4 := hide (set10_own g0 g1 g2 g3 g4 g5 g6 g7 g8 g9 HOW3.out (Nat.lt_succ_self _))
            have hbel4 := set10_below g0 g1 g2 g3 g4 g5 g6 g7 g8 g9 (Nat.le_refl _) (hbel.trans (hb3'.mono hbel.size))
            have hsz4 : w.heap.size < (set10 w3 w.heap.size g0 g1 g2 g3 g4 g5 g6 g7 g8 g9).heap.size := by rw [set10_size]; have := hb3'.size; omega
            have HW4 : Hid (set10 w3 w.heap.size g0 g1 g2 g3 g4 g5 g6 g7 g8 g9 = (((((((((w3.setCell ⟨w.heap.size, 0, none⟩ (.int .i64 g0)).setCell ⟨w.heap.size, 1, none⟩ (.int .i64 g1)).setCell ⟨w.heap.size, 2, none⟩ (.int .i64 g2)).setCell ⟨w.heap.size, 3, none⟩ (.int .i64 g3)).setCell ⟨w.heap.size, 4, none⟩ (.int .i64 g4)).setCell ⟨w.heap.size, 5, none⟩ (.int .i64 g5)).setCell ⟨w.heap.size, 6, none⟩ (.int .i64 g6)).setCell ⟨w.heap.size, 7, none⟩ (.int .i64 g7)).setCell ⟨w.heap.size, 8, none⟩ (.int .i64 g8)).setCell ⟨w.heap.size, 9, none⟩ (.int .i64 g9)) := rfl
            generalize set10 w3 w.heap.size g0 g1 g2 g3 g4 g5 g6 g7 g8 g9 = w4 at *
            go_wp2_with fail
            rw [← HW4.out]
            go_roundw
            case rel => exact ⟨k + 1, by omega, by go_num, by rw [HS1.out], by rw [HS1.out]; exact HPK4, by rw [HS1.out]; exact HOW4, hbel4, hsz4⟩
            case measure => simp [intOf]; omega
          · obtain ⟨q, rfl⟩ := Int.eq_ofNat_of_zero_le a0
            have HS1 : Hid (stepTo ⟨[f0, f1, f2, f3, f4, f5, f6, f7, f8, f9], 8, so⟩ ds (k + 1) = ⟨([p0, p1, p2, p3, p4, p5, p6, p7, p8, p9] : List Int).set q (if 0 < ([p0, p1, p2, p3, p4, p5, p6, p7, p8, p9] : List Int).getD q 0 then ([p0, p1, p2, p3, p4, p5, p6, p7, p8, p9] : List Int).getD q 0 - 1 else 0), st1, so1⟩) := by show _ = _; rw [HSTEP.out]; unfold step doF; simp
            go_wp2_with fail
            refine (changedLess_any p0 p1 p2 p3 p4 p5 p6 p7 p8 p9 q dn _ (by omega) (fun i => HW0.out.bd i)).mono ?_
            rintro e w3 ⟨g0, g1, g2, g3, g4, g5, g6, g7, g8, g9, rfl, hG, hb3⟩
            have HG := hide hG
            clear hG HSTEP
            have hb3' : Below wr.heap.size wr w3 := (hA _).trans (hb3.mono (hA _).size)
            have HPK3 := hide (HPK.out.below hb3' hsz)
            have HOW3 := hide (ownB HOW.out hb3')
            obtain ⟨c0, c1, c2, c3, c4, c5, c6, c7, c8, c9, cb⟩ := HPK3.out.cells
            have z0 := HPK3.out.2 0
            have z1 := HPK3.out.2 1
            have z2 := HPK3.out.2 2
            have z3 := HPK3.out.2 3
            have z4 := HPK3.out.2 4
            have z5 := HPK3.out.2 5
            have z6 := HPK3.out.2 6
            have z7 := HPK3.out.2 7
            have z8 := HPK3.out.2 8
            have z9 := HPK3.out.2 9
            have HPK4 := hide (HPK3.out.set10 g0 g1 g2 g3 g4 g5 g6 g7 g8 g9)
            rw [HG.out] at HPK4
            have HOW4 := hide (set10_own g0 g1 g2 g3 g4 g5 g6 g7 g8 g9 HOW3.out (Nat.lt_succ_self _))
            have hbel4 := set10_below g0 g1 g2 g3 g4 g5 g6 g7 g8 g9 (Nat.le_refl _) (hbel.trans (hb3'.mono hbel.size))
            have hsz4 : w.heap.size < (set10 w3 w.heap.size g0 g1 g2 g3 g4 g5 g6 g7 g8 g9).heap.size := by rw [set10_size]; have := hb3'.size; omega
            have HW4 : Hid (set10 w3 w.heap.size g0 g1 g2 g3 g4 g5 g6 g7 g8 g9 = (((((((((w3.setCell ⟨w.heap.size, 0, none⟩ (.int .i64 g0)).setCell ⟨w.heap.size, 1, none⟩ (.int .i64 g1)).setCell ⟨w.heap.size, 2, none⟩ (.int .i64 g2)).setCell ⟨w.heap.size, 3, none⟩ (.int .i64 g3)).setCell ⟨w.heap.size, 4, none⟩ (.int .i64 g4)).setCell ⟨w.heap.size, 5, none⟩ (.int .i64 g5)).setCell ⟨w.heap.size, 6, none⟩ (.int .i64 g6)).setCell ⟨w.heap.size, 7, none⟩ (.int .i64 g7)).setCell ⟨w.heap.size, 8, none⟩ (.int .i64 g8)).setCell ⟨w.heap.size, 9, none⟩ (.int .i64 g9)) := rfl
            generalize set10 w3 w.heap.size g0 g1 g2 g3 g4 g5 g6 g7 g8 g9 = w4 at *
            go_wp2_with fail
            rw [← HW4.out]
            go_roundw
            case rel => exact ⟨k + 1, by omega, by go_num, by rw [HS1.out], by rw [HS1.out]; exact HPK4, by rw [HS1.out]; exact HOW4, hbel4, hsz4⟩
            case measure => simp [intOf]; omega
          · have HS1 : Hid (stepTo ⟨[f0, f1, f2, f3, f4, f5, f6, f7, f8, f9], 8, so⟩ ds (k + 1) = ⟨[p0, p1, p2, p3, p4, p5, p6, p7, p8, p9], dn, so1⟩) := by show _ = _; rw [HSTEP.out]; unfold step; simp
            go_wp2_with fail
            go_roundw
            case rel => exact ⟨k + 1, by omega, by go_num, by rw [HS1.out], by rw [HS1.out]; exact hide (HPK.out.below (hA _) hsz), by rw [HS1.out]; exact hide (ownB HOW.out (hA _)), hbel.trans ((hA _).mono hbel.size), by simp; omega⟩
            case measure => simp [intOf]; omega
          · have HS1 : Hid (stepTo ⟨[f0, f1, f2, f3, f4, f5, f6, f7, f8, f9], 8, so⟩ ds (k + 1) = ⟨[p0, p1, p2, p3, p4, p5, p6, p7, p8, p9], st1, so1 ++ [⟨5, dn, [p0, p1, p2, p3, p4, p5, p6, p7, p8, p9]⟩]⟩) := by show _ = _; rw [HSTEP.out]; unfold step; simp
            obtain ⟨W2, hW2⟩ : ∃ W2, W2 = wr.alloc (.cells #[.int .i64 5, .int .i64 dA, .int .i64 dn] 145) := ⟨_, rfl⟩
            obtain ⟨W3, hW3⟩ : ∃ W3, W3 = W2.alloc (.cells #[.int .i64 5, .int .i64 dn, .int .i64 p0, .int .i64 p1, .int .i64 p2, .int .i64 p3, .int .i64 p4, .int .i64 p5, .int .i64 p6, .int .i64 p7, .int .i64 p8, .int .i64 p9, .string body] 115) := ⟨_, rfl⟩
            have hb3 : Below wr.heap.size wr W3 := by rw [hW3, hW2]; exact (hA _).alloc (by simp) _
            have hsz3 : wr.heap.size < W3.heap.size := by rw [hW3, hW2]; simp; omega
            have HOW3 := hide (ownB HOW.out hb3)
            have HPK3 := hide (HPK.out.below hb3 hsz)
            have HNW := hide (news13 W2 115 5 dn p0 p1 p2 p3 p4 p5 p6 p7 p8 p9 body)
            have eW2 : W2.heap.size = wr.heap.size + 1 := by rw [hW2]; simp
            rw [← hW3, eW2] at HNW
            have HW3 : Hid ((wr.alloc (.cells #[.int .i64 5, .int .i64 dA, .int .i64 dn] 145)).alloc (.cells #[.int .i64 5, .int .i64 dn, .int .i64 p0, .int .i64 p1, .int .i64 p2, .int .i64 p3, .int .i64 p4, .int .i64 p5, .int .i64 p6, .int .i64 p7, .int .i64 p8, .int .i64 p9, .string body] 115) = W3) := by show _ = _; rw [hW3, hW2]
            clear hW2 hW3 HPK HOW HSTEP
            go_wp2_with (at_builtin; rw [HW3.out]; refine wpList_append_own _ rfl _ _ 111 rfl (w.heap.size + 1) 115 i0 _ 13 112 Tryz.underlying111 hi hz0 hz1 hz2 rfl (by decide) _ _ _ rfl (unhide HOW3) ⟨wr.heap.size + 1, 0, none⟩ 1 1 (S body [⟨5, dn, [p0, p1, p2, p3, p4, p5, p6, p7, p8, p9]⟩]) rfl rfl ?a1 ?a2 ?a3 ?a4 ?a5 ?_)
            case a1 => exact fun j u hj => by have := HNW.out j u hj; rwa [addf] at this
            case a2 => exact S_one _ _
            case a3 => unfold maxLen; omega
            case a4 => omega
            case a5 => omega
            intro v4 w4 ho4 hg4 _
            have hb4 : Below (w.heap.size + 1) W3 w4 := below_grown1 hg4 (by omega) (own_ge HOW3.out)
            have HPK4 := hide (HPK3.out.below hb4 (by omega))
            have hbel4 : Below w.heap.size w w4 := (hbel.trans (hb3.mono hbel.size)).trans (hb4.mono (Nat.le_succ _))
            have hsz4 := hb4.size
            have HOW4 : Hid (w4.ownsRow (w.heap.size + 1) 115 13 v4 (so1 ++ ([⟨5, dn, [p0, p1, p2, p3, p4, p5, p6, p7, p8, p9]⟩] : List Sn)).length (S body (so1 ++ ([⟨5, dn, [p0, p1, p2, p3, p4, p5, p6, p7, p8, p9]⟩] : List Sn)))) := by
              refine hide ?_
              rw [S_append, List.length_append]; exact ho4
            obtain ⟨vo4, vc4, rfl⟩ : ∃ a c, v4 = .slice a (so1.length + 1) c := by
              obtain ⟨_, ⟨rfl, h0⟩ | ⟨g, cap, cur, rfl, _⟩⟩ := ho4
              · omega
              · exact ⟨_, _, rfl⟩
            clear ho4 hg4 HOW3 HPK3 hb3 hb4 HNW HW3 m0 m1 m2 c0 c1 c2 c3 c4 c5 c6 c7 c8 c9 cb
            go_wp2_with fail
            go_roundw
            case rel => exact ⟨k + 1, by omega, by go_num, by rw [HS1.out], by rw [HS1.out]; exact HPK4, by rw [HS1.out]; exact HOW4, hbel4, by omega⟩
            case measure => simp [intOf]; omega
          · have HS1 : Hid (stepTo ⟨[f0, f1, f2, f3, f4, f5, f6, f7, f8, f9], 8, so⟩ ds (k + 1) = ⟨[p0, p1, p2, p3, p4, p5, p6, p7, p8, p9], st1, so1 ++ [⟨6, dn, [p0, p1, p2, p3, p4, p5, p6, p7, p8, p9]⟩]⟩) := by show _ = _; rw [HSTEP.out]; unfold step; simp
            obtain ⟨W2, hW2⟩ : ∃ W2, W2 = wr.alloc (.cells #[.int .i64 6, .int .i64 dA, .int .i64 dn] 145) := ⟨_, rfl⟩
            obtain ⟨W3, hW3⟩ : ∃ W3, W3 = W2.alloc (.cells #[.int .i64 6, .int .i64 dn, .int .i64 p0, .int .i64 p1, .int .i64 p2, .int .i64 p3, .int .i64 p4, .int .i64 p5, .int .i64 p6, .int .i64 p7, .int .i64 p8, .int .i64 p9, .string body] 115) := ⟨_, rfl⟩
            have hb3 : Below wr.heap.size wr W3 := by rw [hW3, hW2]; exact (hA _).alloc (by simp) _
            have hsz3 : wr.heap.size < W3.heap.size := by rw [hW3, hW2]; simp; omega
            have HOW3 := hide (ownB HOW.out hb3)
            have HPK3 := hide (HPK.out.below hb3 hsz)
            have HNW := hide (news13 W2 115 6 dn p0 p1 p2 p3 p4 p5 p6 p7 p8 p9 body)
            have eW2 : W2.heap.size = wr.heap.size + 1 := by rw [hW2]; simp
            rw [← hW3, eW2] at HNW
            have HW3 : Hid ((wr.alloc (.cells #[.int .i64 6, .int .i64 dA, .int .i64 dn] 145)).alloc (.cells #[.int .i64 6, .int .i64 dn, .int .i64 p0, .int .i64 p1, .int .i64 p2, .int .i64 p3, .int .i64 p4, .int .i64 p5, .int .i64 p6, .int .i64 p7, .int .i64 p8, .int .i64 p9, .string body] 115) = W3) := by show _ = _; rw [hW3, hW2]
            clear hW2 hW3 HPK HOW HSTEP
            go_wp2_with (at_builtin; rw [HW3.out]; refine wpList_append_own _ rfl _ _ 111 rfl (w.heap.size + 1) 115 i0 _ 13 112 Tryz.underlying111 hi hz0 hz1 hz2 rfl (by decide) _ _ _ rfl (unhide HOW3) ⟨wr.heap.size + 1, 0, none⟩ 1 1 (S body [⟨6, dn, [p0, p1, p2, p3, p4, p5, p6, p7, p8, p9]⟩]) rfl rfl ?a1 ?a2 ?a3 ?a4 ?a5 ?_)
            case a1 => exact fun j u hj => by have := HNW.out j u hj; rwa [addf] at this
            case a2 => exact S_one _ _
            case a3 => unfold maxLen; omega
            case a4 => omega
            case a5 => omega
            intro v4 w4 ho4 hg4 _
            have hb4 : Below (w.heap.size + 1) W3 w4 := below_grown1 hg4 (by omega) (own_ge HOW3.out)
            have HPK4 := hide (HPK3.out.below hb4 (by omega))
            have hbel4 : Below w.heap.size w w4 := (hbel.trans (hb3.mono hbel.size)).trans (hb4.mono (Nat.le_succ _))
            have hsz4 := hb4.size
            have HOW4 : Hid (w4.ownsRow (w.heap.size + 1) 115 13 v4 (so1 ++ ([⟨6, dn, [p0, p1, p2, p3, p4, p5, p6, p7, p8, p9]⟩] : List Sn)).length (S body (so1 ++ ([⟨6, dn, [p0, p1, p2, p3, p4, p5, p6, p7, p8, p9]⟩] : List Sn)))) := by
              refine hide ?_
              rw [S_append, List.length_append]; exact ho4
            obtain ⟨vo4, vc4, rfl⟩ : ∃ a c, v4 = .slice a (so1.length + 1) c := by
              obtain ⟨_, ⟨rfl, h0⟩ | ⟨g, cap, cur, rfl, _⟩⟩ := ho4
              · omega
              · exact ⟨_, _, rfl⟩
            clear ho4 hg4 HOW3 HPK3 hb3 hb4 HNW HW3 m0 m1 m2 c0 c1 c2 c3 c4 c5 c6 c7 c8 c9 cb
            go_wp2_with fail
            go_roundw
            case rel => exact ⟨k + 1, by omega, by go_num, by rw [HS1.out], by rw [HS1.out]; exact HPK4, by rw [HS1.out]; exact HOW4, hbel4, by omega⟩
            case measure => simp [intOf]; omega
        · have hkl : k = ds.length := by omega
          subst hkl
          have hok := HOK.out ds.length (Nat.le_refl _)
          rw [← HTD.out] at hok HPK HOW
          rw [← HTD.out]
          rw [HTB.out] at HRN
          clear HOK HTD HTB HDS HDB
          generalize table fs ⟨[f0, f1, f2, f3, f4, f5, f6, f7, f8, f9], st, so⟩ = s1 at *
          obtain ⟨hw0, hw7, hw8, hwo⟩ := hok
          have HW0 := hide hw0
          clear hw0
          go_wp2_with fail
          go_roundw
          case rel => exact ⟨j + 1, s1, HW0, by omega, hw8, by omega, rfl, HRN, HPK, HOW, hbel, hsz⟩
          case measure => simp [intOf]; omega
    · have htd : decide (st < 8) = false := by simpa using ht
      have HEND : Hid (so = RES) := by
        show _ = _
        have h1 := HRN.out
        rw [runN_end fs _ (by show 7 < st; omega)] at h1
        rw [HRES.out]
        unfold ran
        rw [← h1]
      go_wp2_with fail
      go_ret2
      exact ⟨_, rfl, by rw [← HEND.out]; exact own_less HOW.out (Nat.le_succ _), hbel⟩

end Go.Proofs.YtjcomoinggiedaaGreat

namespace Go.Proofs.YtjcomoinggiedaaGreat
open Go.RowKit
set_option linter.unusedVariables false
set_option maxRecDepth 100000

/-- A switch: its number, tenant and gate. -/
structure Sw where
  i : Int
  t : Int
  g : Int
/-- A port: its number, switch, address, number of its own, chassis. -/
structure Pr where
  i : Int
  s : Int
  m : Int
  p : Int
  c : Int
/-- A rule. -/
structure Ac where
  s : Int
  p : Int
  n : Bool
  src : Int
  sb : Int
  dst : Int
  db : Int
  o : Int
  d : Bool
def sw0 : Sw := ⟨0, 0, 0⟩
def pr0 : Pr := ⟨0, 0, 0, 0, 0⟩
def ac0 : Ac := ⟨0, 0, false, 0, 0, 0, 0, 0, false⟩
def swC (x : Sw) : List Value := [.int .i64 x.i, .int .i64 x.t, .int .i64 x.g]
def prC (x : Pr) : List Value := [.int .i64 x.i, .int .i64 x.s, .int .i64 x.m, .int .i64 x.p, .int .i64 x.c]
def acC (x : Ac) : List Value := [.int .i64 x.s, .int .i64 x.p, .bool x.n, .int .i64 x.src, .int .i64 x.sb, .int .i64 x.dst, .int .i64 x.db, .int .i64 x.o, .bool x.d]

/-- Structs of sz cells lie where a slice says. -/
def RowAt {α : Type} (C : α → List Value) (sz : Nat) (w : World) (v : Value) (l : List α) : Prop :=
  ∃ a cap, v = .slice a l.length cap ∧ (a = none → cap = 0) ∧ (l.length = 0 ∨ ∃ b off, a = some ⟨b, off, none⟩ ∧ l.length ≤ cap ∧ ∀ i x, l[i]? = some x → ∀ j u, (C x)[j]? = some u → w.cell? ⟨b, off + i * sz + j, none⟩ = some u)
def SwsAt := RowAt swC 3
def PrsAt := RowAt prC 5
def AcsAt := RowAt acC 9

theorem RowAt.below {α : Type} {C : α → List Value} {sz : Nat} {w w' : World} {B : Nat} {v : Value} {l : List α} (h : RowAt C sz w v l) (hb : Below B w w') (hB : w.heap.size ≤ B) : RowAt C sz w' v l := by
  obtain ⟨a, cap, hv, hn, h0 | ⟨b, off, ha, hc, hL⟩⟩ := h
  · exact ⟨a, cap, hv, hn, .inl h0⟩
  · exact ⟨a, cap, hv, hn, .inr ⟨b, off, ha, hc, fun i x hx j u hu => cell_beh (hL i x hx j u hu) hb hB⟩⟩
theorem RowAt.slice {α : Type} {C : α → List Value} {sz : Nat} {w : World} {v : Value} {l : List α} (h : RowAt C sz w v l) : ∃ a cap, v = .slice a l.length cap := by
  obtain ⟨a, cap, hv, _⟩ := h
  exact ⟨a, cap, hv⟩
theorem RowAt.nil {α : Type} (C : α → List Value) (sz : Nat) (w : World) : RowAt C sz w (.slice none 0 0) [] := ⟨none, 0, rfl, fun _ => rfl, .inl rfl⟩
/-- What stands ahead of a place. -/
theorem RowAt.take {α : Type} {C : α → List Value} {sz : Nat} {w : World} {a : Option Addr} {n cap : Nat} {l : List α} (h : RowAt C sz w (.slice a n cap) l) (k : Nat) (hk : k < l.length) : RowAt C sz w (.slice a k cap) (l.take k) := by
  obtain ⟨a', cap', hv, hn, h0 | ⟨b, off, ha, hc, hL⟩⟩ := h
  · omega
  · simp only [Value.slice.injEq] at hv
    obtain ⟨rfl, _, rfl⟩ := hv
    refine ⟨a, cap, by rw [List.length_take, Nat.min_eq_left (by omega)], hn, .inr ⟨b, off, ha, by rw [List.length_take]; omega, fun i x hx => hL i x ?_⟩⟩
    rw [List.getElem?_take] at hx
    split at hx
    · exact hx
    · simp at hx

theorem getD_at {α : Type} {l : List α} {k : Nat} (d : α) (hk : k < l.length) : l[k]? = some (l.getD k d) := by
  simp [List.getD, List.getElem?_eq_getElem hk]

theorem sw_at {w : World} {v : Value} {l : List Sw} {k : Nat} (h : SwsAt w v l) (hk : k < l.length) : ∃ b off cap, v = .slice (some ⟨b, off, none⟩) l.length cap ∧ l.length ≤ cap ∧ b < w.heap.size ∧
    w.cell? ⟨b, off + k * 3, none⟩ = some (.int .i64 (l.getD k sw0).i) ∧ w.cell? ⟨b, off + k * 3 + 1, none⟩ = some (.int .i64 (l.getD k sw0).t) ∧ w.cell? ⟨b, off + k * 3 + 2, none⟩ = some (.int .i64 (l.getD k sw0).g) := by
  obtain ⟨a, cap, hv, hn, h0 | ⟨b, off, rfl, hc, hL⟩⟩ := h
  · omega
  · have h0 := hL k _ (getD_at sw0 hk) 0 _ rfl
    exact ⟨b, off, cap, hv, hc, cell_in h0, h0, hL k _ (getD_at sw0 hk) 1 _ rfl, hL k _ (getD_at sw0 hk) 2 _ rfl⟩
theorem pr_at {w : World} {v : Value} {l : List Pr} {k : Nat} (h : PrsAt w v l) (hk : k < l.length) : ∃ b off cap, v = .slice (some ⟨b, off, none⟩) l.length cap ∧ l.length ≤ cap ∧ b < w.heap.size ∧
    w.cell? ⟨b, off + k * 5, none⟩ = some (.int .i64 (l.getD k pr0).i) ∧ w.cell? ⟨b, off + k * 5 + 1, none⟩ = some (.int .i64 (l.getD k pr0).s) ∧ w.cell? ⟨b, off + k * 5 + 2, none⟩ = some (.int .i64 (l.getD k pr0).m) ∧ w.cell? ⟨b, off + k * 5 + 3, none⟩ = some (.int .i64 (l.getD k pr0).p) ∧
    w.cell? ⟨b, off + k * 5 + 4, none⟩ = some (.int .i64 (l.getD k pr0).c) := by
  obtain ⟨a, cap, hv, hn, h0 | ⟨b, off, rfl, hc, hL⟩⟩ := h
  · omega
  · have h0 := hL k _ (getD_at pr0 hk) 0 _ rfl
    exact ⟨b, off, cap, hv, hc, cell_in h0, h0, hL k _ (getD_at pr0 hk) 1 _ rfl, hL k _ (getD_at pr0 hk) 2 _ rfl, hL k _ (getD_at pr0 hk) 3 _ rfl, hL k _ (getD_at pr0 hk) 4 _ rfl⟩
theorem ac_at {w : World} {v : Value} {l : List Ac} {k : Nat} (h : AcsAt w v l) (hk : k < l.length) : ∃ b off cap, v = .slice (some ⟨b, off, none⟩) l.length cap ∧ l.length ≤ cap ∧ b < w.heap.size ∧
    w.cell? ⟨b, off + k * 9, none⟩ = some (.int .i64 (l.getD k ac0).s) ∧ w.cell? ⟨b, off + k * 9 + 1, none⟩ = some (.int .i64 (l.getD k ac0).p) ∧ w.cell? ⟨b, off + k * 9 + 2, none⟩ = some (.bool (l.getD k ac0).n) ∧ w.cell? ⟨b, off + k * 9 + 3, none⟩ = some (.int .i64 (l.getD k ac0).src) ∧
    w.cell? ⟨b, off + k * 9 + 4, none⟩ = some (.int .i64 (l.getD k ac0).sb) ∧ w.cell? ⟨b, off + k * 9 + 5, none⟩ = some (.int .i64 (l.getD k ac0).dst) ∧ w.cell? ⟨b, off + k * 9 + 6, none⟩ = some (.int .i64 (l.getD k ac0).db) ∧ w.cell? ⟨b, off + k * 9 + 7, none⟩ = some (.int .i64 (l.getD k ac0).o) ∧
    w.cell? ⟨b, off + k * 9 + 8, none⟩ = some (.bool (l.getD k ac0).d) := by
  obtain ⟨a, cap, hv, hn, h0 | ⟨b, off, rfl, hc, hL⟩⟩ := h
  · omega
  · have h0 := hL k _ (getD_at ac0 hk) 0 _ rfl
    exact ⟨b, off, cap, hv, hc, cell_in h0, h0, hL k _ (getD_at ac0 hk) 1 _ rfl, hL k _ (getD_at ac0 hk) 2 _ rfl, hL k _ (getD_at ac0 hk) 3 _ rfl, hL k _ (getD_at ac0 hk) 4 _ rfl, hL k _ (getD_at ac0 hk) 5 _ rfl, hL k _ (getD_at ac0 hk) 6 _ rfl, hL k _ (getD_at ac0 hk) 7 _ rfl, hL k _ (getD_at ac0 hk) 8 _ rfl⟩

/- rows as cells, one behind the other -/
theorem flat_len {α : Type} {C : α → List Value} {sz : Nat} (hC : ∀ x, (C x).length = sz) : ∀ l : List α, (l.flatMap C).length = l.length * sz
  | [] => by simp
  | x :: r => by
    have := flat_len hC r
    simp [List.flatMap_cons, hC, this, Nat.add_mul]
    omega
theorem flat_at {α : Type} {C : α → List Value} {sz : Nat} (hC : ∀ x, (C x).length = sz) : ∀ (l : List α) (i : Nat) (x : α), l[i]? = some x → ∀ j u, (C x)[j]? = some u → (l.flatMap C)[i * sz + j]? = some u
  | [], i, x, h => by simp at h
  | y :: r, 0, x, h => fun j u hu => by
    simp at h
    subst h
    have hj : j < (C y).length := by
      rcases Nat.lt_or_ge j (C y).length with h | h
      · exact h
      · simp [List.getElem?_eq_none h] at hu
    rw [List.flatMap_cons, Nat.zero_mul, Nat.zero_add, List.getElem?_append_left hj]
    exact hu
  | y :: r, i + 1, x, h => fun j u hu => by
    have ih := flat_at hC r i x (by simpa using h) j u hu
    rw [List.flatMap_cons, List.getElem?_append_right (by rw [hC, Nat.add_mul]; omega)]
    rw [hC, show (i + 1) * sz + j - sz = i * sz + j by rw [Nat.add_mul]; omega]
    exact ih
theorem flat_inv {α : Type} {C : α → List Value} {sz : Nat} (hC : ∀ x, (C x).length = sz) : ∀ (l : List α) (k : Nat) (u : Value), (l.flatMap C)[k]? = some u → ∃ i x j, l[i]? = some x ∧ (C x)[j]? = some u ∧ k = i * sz + j
  | [], k, u, h => by simp at h
  | y :: r, k, u, h => by
    rw [List.flatMap_cons] at h
    by_cases hk : k < (C y).length
    · rw [List.getElem?_append_left hk] at h
      exact ⟨0, y, k, rfl, h, by omega⟩
    · rw [List.getElem?_append_right (by omega)] at h
      obtain ⟨i, x, j, h1, h2, h3⟩ := flat_inv hC r _ u h
      rw [hC] at hk h3
      exact ⟨i + 1, x, j, by simpa using h1, h2, by rw [Nat.add_mul]; omega⟩
theorem swC_len (x : Sw) : (swC x).length = 3 := rfl
theorem prC_len (x : Pr) : (prC x).length = 5 := rfl
theorem acC_len (x : Ac) : (acC x).length = 9 := rfl
theorem swC_one (l : List Sw) : ∀ u ∈ l.flatMap swC, u.oneCell' = true := by
  intro u hu
  simp only [List.mem_flatMap] at hu
  obtain ⟨x, _, hu⟩ := hu
  simp only [swC, List.mem_cons, List.not_mem_nil, or_false] at hu
  rcases hu with rfl | rfl | rfl <;> rfl
theorem prC_one (l : List Pr) : ∀ u ∈ l.flatMap prC, u.oneCell' = true := by
  intro u hu
  simp only [List.mem_flatMap] at hu
  obtain ⟨x, _, hu⟩ := hu
  simp only [prC, List.mem_cons, List.not_mem_nil, or_false] at hu
  rcases hu with rfl | rfl | rfl | rfl | rfl <;> rfl
theorem acC_one (l : List Ac) : ∀ u ∈ l.flatMap acC, u.oneCell' = true := by
  intro u hu
  simp only [List.mem_flatMap] at hu
  obtain ⟨x, _, hu⟩ := hu
  simp only [acC, List.mem_cons, List.not_mem_nil, or_false] at hu
  rcases hu with rfl | rfl | rfl | rfl | rfl | rfl | rfl | rfl | rfl <;> rfl
theorem add_fl (b o j : Nat) : (⟨b, o, none⟩ : Addr).add j = ⟨b, o + j, none⟩ := by by_cases h : j = 0 <;> simp [Addr.add, h]

/-- A row's cells, as append asks for them. -/
theorem RowAt.news {α : Type} {C : α → List Value} {sz : Nat} (hC : ∀ x, (C x).length = sz) {w : World} {ad : Addr} {n cap : Nat} {l : List α} (h : RowAt C sz w (.slice (some ad) n cap) l) : ∀ j u, (l.flatMap C)[j]? = some u → w.cell? (ad.add j) = some u := by
  obtain ⟨a, c, hv, hn, h0 | ⟨b, off, ha, hc, hL⟩⟩ := h
  · intro j u hj
    rw [List.eq_nil_of_length_eq_zero h0] at hj
    simp at hj
  · simp only [Value.slice.injEq] at hv
    obtain ⟨h1, _, rfl⟩ := hv
    rw [ha] at h1
    simp at h1
    subst h1
    intro j u hj
    obtain ⟨i, x, k, hx, hu, rfl⟩ := flat_inv hC l j u hj
    rw [add_fl, ← Nat.add_assoc]
    exact hL i x hx k u hu
/-- What a row of the call's own holds, as what came in is said. -/
theorem RowAt.of_own {α : Type} {C : α → List Value} {sz : Nat} (hC : ∀ x, (C x).length = sz) (hs : 0 < sz) {w : World} {B e : Nat} {v : Value} {l : List α} (h : w.ownsRow B e sz v l.length (l.flatMap C)) : RowAt C sz w v l := by
  by_cases h0 : l.length = 0
  · obtain ⟨_, ⟨rfl, hn⟩ | ⟨g, cap, cur, rfl, _⟩⟩ := h
    · exact ⟨none, 0, by rw [h0], fun _ => rfl, .inl h0⟩
    · exact ⟨_, cap, rfl, by simp, .inl h0⟩
  · obtain ⟨g, cap, rfl, _, _⟩ := h.form (by omega)
    have hc : l.length ≤ cap := by
      obtain ⟨_, ⟨h, _⟩ | ⟨g', cap', cur, h, _, _, hc, _⟩⟩ := h
      · simp at h
      · simp only [Value.slice.injEq] at h
        omega
    refine ⟨_, cap, rfl, by simp, .inr ⟨g, 0, rfl, hc, fun i x hx j u hu => ?_⟩⟩
    have hj : j < sz := by
      rcases Nat.lt_or_ge j (C x).length with h | h
      · rw [hC] at h; exact h
      · simp [List.getElem?_eq_none h] at hu
    have hi : i < l.length := by
      rcases Nat.lt_or_ge i l.length with h | h
      · exact h
      · simp [List.getElem?_eq_none h] at hx
    have hlt : i * sz + j < l.length * sz := Nat.lt_of_lt_of_le (by rw [Nat.add_mul]; omega : i * sz + j < (i + 1) * sz) (Nat.mul_le_mul_right _ hi)
    rw [Nat.zero_add]
    exact (h.cellAt _ hlt).trans (flat_at hC l i x hx j u hu)

theorem set3 {w : World} {b : Nat} {x y z : Value} (t0 : w.cell? ⟨b, 0, none⟩ = some x) (t1 : w.cell? ⟨b, 1, none⟩ = some y) (t2 : w.cell? ⟨b, 2, none⟩ = some z) (p q r : Value) :
    (((w.setCell ⟨b, 0, none⟩ p).setCell ⟨b, 1, none⟩ q).setCell ⟨b, 2, none⟩ r).cell? ⟨b, 0, none⟩ = some p ∧ (((w.setCell ⟨b, 0, none⟩ p).setCell ⟨b, 1, none⟩ q).setCell ⟨b, 2, none⟩ r).cell? ⟨b, 1, none⟩ = some q ∧ (((w.setCell ⟨b, 0, none⟩ p).setCell ⟨b, 1, none⟩ q).setCell ⟨b, 2, none⟩ r).cell? ⟨b, 2, none⟩ = some r := by
  refine ⟨?_, ?_, ?_⟩
  · rw [World.cell?_setCell_other _ _ _ _ (by simp), World.cell?_setCell_other _ _ _ _ (by simp), World.cell?_setCell_same _ _ _ t0]
  · rw [World.cell?_setCell_other _ _ _ _ (by simp)]
    exact World.cell?_setCell_same _ _ _ ((World.cell?_setCell_other _ _ _ _ (by simp)).trans t1)
  · exact World.cell?_setCell_same _ _ _ ((World.cell?_setCell_other _ _ _ _ (by simp)).trans ((World.cell?_setCell_other _ _ _ _ (by simp)).trans t2))

/-- What is wanted lies where three slices say. -/
def CfAt (w : World) (sv pv av : Value) (S : List Sw) (P : List Pr) (A : List Ac) : Prop := SwsAt w sv S ∧ PrsAt w pv P ∧ AcsAt w av A
theorem CfAt.below {w w' : World} {B : Nat} {sv pv av : Value} {S : List Sw} {P : List Pr} {A : List Ac} (h : CfAt w sv pv av S P A) (hb : Below B w w') (hB : w.heap.size ≤ B) : CfAt w' sv pv av S P A :=
  ⟨RowAt.below h.1 hb hB, RowAt.below h.2.1 hb hB, RowAt.below h.2.2 hb hB⟩

theorem infoSw : (Tryz.prog.info? 42).map (fun i => (i.zero, i.size, i.bytes)) = some (some (.agg #[.int .i64 0, .int .i64 0, .int .i64 0]), 3, 24) := by kernel_rfl
theorem infoPr : (Tryz.prog.info? 45).map (fun i => (i.zero, i.size, i.bytes)) = some (some (.agg #[.int .i64 0, .int .i64 0, .int .i64 0, .int .i64 0, .int .i64 0]), 5, 40) := by kernel_rfl
theorem infoAc : (Tryz.prog.info? 52).map (fun i => (i.zero, i.size, i.bytes)) = some (some (.agg #[.int .i64 0, .int .i64 0, .bool false, .int .i64 0, .int .i64 0, .int .i64 0, .int .i64 0, .int .i64 0, .bool false]), 9, 72) := by kernel_rfl
theorem own_slc {w : World} {B e size n : Nat} {v : Value} {xs : List Value} (h : w.ownsRow B e size v n xs) : ∃ o c, v = .slice o n c := by
  obtain ⟨_, ⟨rfl, h0⟩ | ⟨g', cap', cur, rfl, _⟩⟩ := h
  · exact ⟨_, _, by rw [h0]⟩
  · exact ⟨_, _, rfl⟩
theorem own_in {w : World} {B e size n : Nat} {v : Value} {xs : List Value} (h : w.ownsRow B e size v n xs) {g : Nat} (hg : v.ownBlock = some g) : g < w.heap.size := by
  obtain ⟨_, ⟨rfl, _⟩ | ⟨g', cap', cur, rfl, hB, hb, _⟩⟩ := h
  · simp [Value.ownBlock] at hg
  · simp [Value.ownBlock] at hg
    subst hg
    rcases Nat.lt_or_ge g' w.heap.size with h' | h'
    · exact h'
    · simp [Array.getElem?_eq_none h'] at hb
theorem own_apart {w w' : World} {B B' e e' size size' n n' : Nat} {u v : Value} {xs ys : List Value} (h : w.ownsRow B e size u n xs) (h' : w'.ownsRow B' e' size' v n' ys) (hB : w.heap.size ≤ B') : u.ownBlock = none ∨ u.ownBlock ≠ v.ownBlock := by
  cases hu : u.ownBlock with
  | none => exact .inl rfl
  | some g =>
    refine .inr fun e => ?_
    have h1 := own_in h hu
    have h2 := own_ge h' g e.symm
    omega
theorem flat_next {α : Type} {C : α → List Value} (d : α) {l : List α} {k : Nat} (h : k < l.length) : (l.take k).flatMap C ++ C (l.getD k d) = (l.take (k + 1)).flatMap C := by
  rw [List.take_succ_eq_append_getElem h, List.flatMap_append]
  simp [List.getD, List.getElem?_eq_getElem h]
theorem all_one {l : List Value} (h : l.all (fun u => u.oneCell') = true) : ∀ u ∈ l, u.oneCell' = true := fun u hu => List.all_eq_true.1 h u hu

end Go.Proofs.YtjcomoinggiedaaGreat
