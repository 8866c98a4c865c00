/-
  What wire.parse and wire.Decode answer.
-/
import Derived.Test.YtgkdmmfogibbjabWc
import Derived.Deep.RegionHeld3
namespace Go.Proofs.Ytgkdmmfogibbjab
open Go.RowKit
set_option linter.unusedVariables false

theorem Lies.lt {w : World} {b off : Nat} {xs : List Int} (h : Lies w b off xs) (h0 : 0 < xs.length) : b < w.heap.size := by
  have := h 0 h0
  rcases Nat.lt_or_ge b w.heap.size with h' | h'
  · exact h'
  · simp [World.cell?, Array.getElem?_eq_none h'] at this
theorem Lies.below {w w' : World} {b off B : Nat} {xs : List Int} (h : Lies w b off xs) (hb : Below B w w') (hB : b < B) : Lies w' b off xs := fun i hi => (hb.cell (p := ⟨b, off + i, none⟩) hB).trans (h i hi)
theorem lies_drewN (w : World) (b off : Nat) (xs : List Int) (n : Nat) : Lies (w.drewN n) b off xs ↔ Lies w b off xs := by
  constructor
  · intro h i hi; have := h i hi; simpa using this
  · intro h; exact h.drewN n
theorem lies_drew (w : World) (b off : Nat) (xs : List Int) : Lies w.drew b off xs ↔ Lies w b off xs := by
  constructor
  · intro h i hi; have := h i hi; simpa using this
  · intro h i hi; have := h i hi; simpa using this

theorem lies_alloc (w : World) (o : Obj) (b off : Nat) (xs : List Int) (h : b < w.heap.size) : Lies (w.alloc o) b off xs ↔ Lies w b off xs := by
  have hb : Below w.heap.size w (w.alloc o) := (Below.refl _ w).alloc (Nat.le_refl _) o
  constructor
  · intro hL i hi; rw [← hb.cell (p := ⟨b, off + i, none⟩) h]; exact hL i hi
  · intro hL; exact hL.below hb h
theorem cell_set_ne (w : World) (a : Addr) (v : Value) (b o : Nat) (h : ¬ b = a.block) : (w.setCell a v).cell? ⟨b, o, none⟩ = w.cell? ⟨b, o, none⟩ :=
  World.cell?_of_block (w := w) (Below.heap_setCell w a v b h)
theorem lies_set_ne (w : World) (a : Addr) (v : Value) (b off : Nat) (xs : List Int) (h : ¬ b = a.block) : Lies (w.setCell a v) b off xs ↔ Lies w b off xs := by
  constructor
  · intro hL i hi; rw [← cell_set_ne w a v b _ h]; exact hL i hi
  · intro hL i hi; rw [cell_set_ne w a v b _ h]; exact hL i hi

/-- The text of bytes that tell a frame. -/
def bodyOf (xs : List Int) (n : Nat) : ByteArray := strOfNums ((xs.drop 14).take n)
theorem bodyOf_size (xs : List Int) (n : Nat) (h : 14 + n ≤ xs.length) : (bodyOf xs n).size = n := by
  unfold bodyOf; rw [strOfNums_size]; simp; omega

theorem conv_body (b off cap n : Nat) (xs : List Int) (hn : 14 + n ≤ xs.length) (w : World) (hL : Lies w b off xs) :
    (convert 22 9 (.slice (some ⟨b, off + 14, none⟩) n cap)).run Try.prog w = .ok (.string (bodyOf xs n)) w :=
  run_convert_bytes_arg w 22 5 Try.underlying22 Try.underlying5 b (off + 14) n cap ((xs.drop 14).take n) (by simp; omega) (fun i hi => by
    rw [show off + 14 + i = off + (14 + i) by omega, hL (14 + i) (by omega)]
    simp [hi]) 9 Try.underlying9

/-- The frame that bytes tell. -/
abbrev told (xs : List Int) (n : Nat) : Value := fr (wd xs 0) (wd xs 2) (bt xs 4) (wd xs 6) (wd xs 8) (bt xs 5) (wd xs 10) (bodyOf xs n)

set_option maxHeartbeats 2000000 in
theorem parse_any (b off len cap n : Nat) (xs : List Int) (w : World) (hl : xs.length = len) (hx : Bs xs) (hm : len ≤ 140737488355328) (hlc : len ≤ cap) (hL : Lies w b off xs) (hn : wd xs 12 = n) (h1 : 16 + n = len) (h40 : n ≤ 40) :
    Calls Try.prog 25 #[.slice (some ⟨b, off, none⟩) len cap] w fun e w' => e = .returned (told xs n) ∧ Below w.heap.size w w' := by
  have hb := hL.lt (by omega)
  have hL0 : ∀ o : Obj, Lies (w.alloc o) b off xs := fun o => hL.below ((Below.refl _ w).alloc (Nat.le_refl _) o) hb
  have c4 : ∀ w', Lies w' b off xs → w'.cell? ⟨b, off + 4, none⟩ = some (.int .u8 (xs.getD 4 0)) := fun w' h => h 4 (by omega)
  have c5 : ∀ w', Lies w' b off xs → w'.cell? ⟨b, off + 5, none⟩ = some (.int .u8 (xs.getD 5 0)) := fun w' h => h 5 (by omega)
  have b4 := hx.at 4
  have b5 := hx.at 5
  have HW := hide (fun (w' : World) (h : Lies w' b off xs) (i : Int) (h0 : 0 ≤ i) (h1 : i + 1 < len) => wordAt_any b off len cap xs i w' hl hx hm hlc h h0 h1)
  have HB := hide (fun (w' : World) (h : Lies w' b off xs) => bodySize_any b off len cap xs w' hl hx hm hlc h (by omega))
  rw [hn] at HB
  have hcv := fun (c : Nat) (w' : World) (h : Lies w' b off xs) => conv_body b off c n xs (by omega) w' h
  clear hL hx hn
  have n14 : ¬ cap = 14 := by omega
  have hbn : ¬ b = w.heap.size := by omega
  have HT : Hid (told xs n = fr (wd xs 0) (wd xs 2) (xs.getD 4 0) (wd xs 6) (wd xs 8) (xs.getD 5 0) (wd xs 10) (bodyOf xs n)) := rfl
  generalize xs.getD 4 0 = x4 at *
  generalize xs.getD 5 0 = x5 at *
  obtain ⟨b40, b41⟩ := b4
  obtain ⟨b50, b51⟩ := b5
  have k0 : (4 : Int) < (len : Int) := by omega
  have k1 : (5 : Int) < (len : Int) := by omega
  have k2 : (14 : Int) ≤ 14 + (n : Int) := by omega
  have k3 : 14 + (n : Int) ≤ (cap : Int) := by omega
  have k4 : (0 : Int) ≤ 14 + (n : Int) := by omega
  have k5 : IntKind.i64.wrap (14 + (n : Int)) = 14 + (n : Int) := wrap_i64_small _ (by omega) (by omega)
  have k6 : (14 + (n : Int)).toNat - 14 = n := by omega
  have k7 : IntKind.i64.wrap x4 = x4 := wrap_i64_small _ (by omega) (by omega)
  have k8 : IntKind.i64.wrap x5 = x5 := wrap_i64_small _ (by omega) (by omega)
  go_enter Try.func25, Try.ntmps25
  go_wp2_with fail
  go_region_held3 (fun w' => Lies w' b off xs ∧ w'.cell? ⟨b, off + 4, none⟩ = some (.int .u8 x4) ∧ w'.cell? ⟨b, off + 5, none⟩ = some (.int .u8 x5)) (first | (simp [*, lies_drewN, lies_drew]; done) | (simp [*, lies_set_ne]; done))
    (first | (go_at_call 48; refine (unhide HW _ (by first | assumption | (simp [*]; done)) _ (by omega) (by omega)).mono ?_; rintro e w' ⟨rfl, m, rfl⟩) | (go_at_call 47; refine (unhide HB _ (by first | assumption | (simp [*]; done))).mono ?_; rintro e w' ⟨rfl, m, rfl⟩))
  go_wp2
  refine bodyPost_ret (v := fr (wd xs 0) (wd xs 2) x4 (wd xs 6) (wd xs 8) x5 (wd xs 10) (bodyOf xs n)) ?_ rfl ⟨by rw [HT.out], ?_⟩
  · simp [results, Try.results25, go_sem]
  · refine Below.setCell (Below.setCell (Below.setCell (Below.setCell (Below.setCell (Below.setCell (Below.setCell (Below.setCell ?_ ?_ _) ?_ _) ?_ _) ?_ _) ?_ _) ?_ _) ?_ _) ?_ _
    · exact below_drewN ((Below.refl _ _).alloc (Nat.le_refl _) _) _
    all_goals exact Nat.le_refl _

end Go.Proofs.Ytgkdmmfogibbjab
