/-
  What wire.Unwrap answers.
-/
import Derived.Test.YtgkdmmfogibbjaaUn
import Derived.Test.YtgkdmmfogibbjaaWe2
namespace Go.Proofs.Ytgkdmmfogibbjaa
open Go.RowKit
set_option linter.unusedVariables false
set_option maxRecDepth 100000

set_option maxHeartbeats 2000000 in
theorem unwrap_any (a : Option Addr) (len cap : Nat) (xs : List Int) (w : World) (hI : IsB w a len cap xs) :
    Calls Try.prog 17 #[.slice a len cap] w fun e w' => e = .returned (unw xs) ∧ Below w.heap.size w w' := by
  obtain ⟨hl, hx, hm, hI⟩ := hI
  by_cases h6 : len < 6
  · have HR : Hid (Ending.returned (unw xs) = .returned (.tuple #[.int .i64 0, .int .i64 0, zeroF, .int .i64 5])) := by
      show _ = _
      have hE : unwE xs = 5 := by unfold unwE; rw [if_pos (by omega)]
      unfold unw; rw [hE]; rfl
    clear hI
    go_enter Try.func17, Try.ntmps17
    go_wp2_with fail
    refine bodyPost_ret (v := .tuple #[.int .i64 0, .int .i64 0, zeroF, .int .i64 5]) ?_ rfl ⟨HR.out.symm, ?_⟩
    · simp [results, Try.results17, go_sem]
    · exact (Below.refl _ _).alloc (Nat.le_refl _) _
  · obtain ⟨b, off, rfl, hlc, hL⟩ : ∃ b off, a = some ⟨b, off, none⟩ ∧ len ≤ cap ∧ Lies w b off xs := by
      rcases hI with h0 | h
      · omega
      · exact h
    clear hI
    have hbw := hL.lt (by omega)
    have hL0 : ∀ o : Obj, Lies (w.alloc o) b off xs := fun o => hL.below ((Below.refl _ w).alloc (Nat.le_refl _) o) hbw
    have hT : (xs.take 2).length = 2 := by simp; omega
    have hcv := fun (o : Obj) (c : Nat) => conv_two b off c xs (by omega) (w.alloc o) (hL0 o)
    have k6 : ((6 : Int)) ≤ (len : Int) := by omega
    have k2 : ((2 : Int)) ≤ (cap : Int) := by omega
    by_cases hdy : dyB xs = true
    · have hE : unwE xs = decE (xs.drop 6) := by unfold unwE; rw [if_neg (by omega), if_pos hdy]
      have hU : unw xs = if decE (xs.drop 6) = 0 then .tuple #[.int .i64 (wd xs 2), .int .i64 (wd xs 4), decV (xs.drop 6), .int .i64 0] else .tuple #[.int .i64 0, .int .i64 0, zeroF, .int .i64 (decE (xs.drop 6))] := by unfold unw; rw [hE]
      have HU := hide hU
      clear hU hE
      have hdl : (xs.drop 6).length = len - 6 := by simp; omega
      have HD := hide (fun a' c' w' (h : IsB w' a' (len - 6) c' (xs.drop 6)) => decode_any a' (len - 6) c' (xs.drop 6) w' h)
      have HW := hide (fun (w' : World) (h : Lies w' b off xs) (i : Int) (h0 : 0 ≤ i) (h1 : i + 1 < len) => wordAt_any b off len cap xs i w' hl hx hm hlc h h0 h1)
      have HI6 : Hid (∀ o : Obj, IsB (w.alloc o) (some ⟨b, off + 6, none⟩) (len - 6) (cap - 6) (xs.drop 6)) := fun o =>
        ⟨hdl, hx.drop 6, by omega, .inr ⟨b, off + 6, rfl, by omega, fun i hi => by
          rw [show off + 6 + i = off + (6 + i) by omega, hL0 o (6 + i) (by omega)]
          simp⟩⟩
      have HI0 : Hid (cap = 6 → ∀ (o : Obj) (a' : Option Addr) (c' : Nat), IsB (w.alloc o) a' (len - 6) c' (xs.drop 6)) := fun hc o a' c' =>
        ⟨hdl, hx.drop 6, by omega, .inl (by omega)⟩
      unfold dyB at hdy
      have HX := hide hx
      clear hx hdl hT
      have hy0 : cap = 6 → decE (xs.drop 6) = 5 := fun hc => by
        have : xs.drop 6 = [] := List.drop_eq_nil_of_le (by omega)
        rw [this]; decide
      generalize xs.drop 6 = ys at *
      obtain ⟨d0, d1, d2, d3, d4, d5, d6, s, hV⟩ := decV_form ys
      rw [hV] at HD HU
      clear hV
      by_cases n6 : cap = 6
      · have hz : decE ys ≠ 0 := by rw [hy0 n6]; decide
        obtain rfl : len = 6 := by omega
        subst n6
        have HI1 : Hid (∀ (o : Obj) (a' : Option Addr) (c' : Nat), IsB (w.alloc o) a' 0 c' ys) := HI0.out rfl
        have HD1 : Hid (∀ a' c' w', IsB w' a' 0 c' ys → Calls Try.prog 13 #[.slice a' 0 c'] w' fun e w'' => e = .returned (.tuple #[fr d0 d1 d2 d3 d4 d5 d6 s, .int .i64 (decE ys)]) ∧ Below w'.heap.size w' w'') := HD
        clear hy0 HI0 HI6 HD
        go_enter Try.func17, Try.ntmps17
        go_wp2_with fail
        refine (unhide HD1 _ _ _ (HI1.out _ _ _)).mono ?_
        rintro e w2 ⟨rfl, hb2⟩
        have hz2 : w.heap.size < w2.heap.size := by have := hb2.size; simp at this; omega
        have hz2' : ¬ w.heap.size = w2.heap.size := by omega
        have hb2' := hb2.mono (B' := w.heap.size + 1) (by simp)
        obtain ⟨hc2, hf2⟩ := bcell2 hb2'
        have hbel : Below w.heap.size w w2 := ((Below.refl _ w).alloc (Nat.le_refl _) _).trans (hb2'.mono (by omega))
        have hs2 : w.heap.size ≤ w2.heap.size := by omega
        have HR : Hid (Ending.returned (unw xs) = .returned (.tuple #[.int .i64 0, .int .i64 0, zeroF, .int .i64 (decE ys)])) := by show _ = _; rw [HU.out, if_neg hz]
        have hne : (decE ys != 0) = true := by simpa using hz
        clear HU hz hb2 hb2' HD1 HW HI1
        go_wp2_with fail
        refine bodyPost_ret (v := .tuple #[.int .i64 0, .int .i64 0, zeroF, .int .i64 (decE ys)]) ?_ rfl ⟨HR.out.symm, ?_⟩
        · simp [results, Try.results17, go_sem, hc2, hz2]
        · exact (below_set8 hbel _ (Nat.le_refl _) _ _ _ _ _ _ _ _).alloc (by simp; omega) _
      · clear hy0
        go_enter Try.func17, Try.ntmps17
        go_wp2_with fail
        refine (unhide HD _ _ _ (HI6.out _)).mono ?_
        rintro e w2 ⟨rfl, hb2⟩
        have hz2 : w.heap.size < w2.heap.size := by have := hb2.size; simp at this; omega
        have hz2' : ¬ w.heap.size = w2.heap.size := by omega
        have hb2' := hb2.mono (B' := w.heap.size + 1) (by simp)
        obtain ⟨hc2, hf2⟩ := bcell2 hb2'
        have hbel : Below w.heap.size w w2 := ((Below.refl _ w).alloc (Nat.le_refl _) _).trans (hb2'.mono (by omega))
        have hs2 : w.heap.size ≤ w2.heap.size := by omega
        by_cases hz : decE ys = 0
        · have HR : Hid (Ending.returned (unw xs) = .returned (.tuple #[.int .i64 (wd xs 2), .int .i64 (wd xs 4), fr d0 d1 d2 d3 d4 d5 d6 s, .int .i64 0])) := by show _ = _; rw [HU.out, if_pos hz]
          have hL2 : Lies w2 b off xs := hL.below hbel hbw
          clear HU hb2 hb2' HD HI6 HI0
          have hbn : ¬ b = w.heap.size := by omega
          have hbn2 : ¬ b = w2.heap.size := by omega
          have hbw2 : b < w2.heap.size := by omega
          have hz2'' : ¬ w2.heap.size = w.heap.size := by omega
          have k4 : (4 : Int) + 1 < (len : Int) := by omega
          have k3 : (2 : Int) + 1 < (len : Int) := by omega
          clear hcv hdy
          go_wp2_with fail
          go_region_held3 (fun w' => Lies w' b off xs ∧ w'.cell? ⟨w2.heap.size, 0, none⟩ = some (Value.int .i64 d0) ∧ w'.cell? ⟨w2.heap.size, 1, none⟩ = some (Value.int .i64 d1) ∧ w'.cell? ⟨w2.heap.size, 2, none⟩ = some (Value.int .i64 d2) ∧ w'.cell? ⟨w2.heap.size, 3, none⟩ = some (Value.int .i64 d3) ∧ w'.cell? ⟨w2.heap.size, 4, none⟩ = some (Value.int .i64 d4) ∧ w'.cell? ⟨w2.heap.size, 5, none⟩ = some (Value.int .i64 d5) ∧ w'.cell? ⟨w2.heap.size, 6, none⟩ = some (Value.int .i64 d6) ∧ w'.cell? ⟨w2.heap.size, 7, none⟩ = some (Value.string s)) (first | (simp [*, lies_alloc, lies_drew]; done) | (simp [*, lies_alloc, lies_drewN]; done) | (simp [*, lies_set_ne, cell_set_ne]; done))
            (first | (go_at_call 35; refine (unhide HW _ (by first | assumption | (simp [*]; done)) _ (by omega) (by omega)).mono ?_; rintro e w' ⟨rfl, m, rfl⟩))
          go_wp2
          refine bodyPost_ret (v := .tuple #[.int .i64 (wd xs 2), .int .i64 (wd xs 4), fr d0 d1 d2 d3 d4 d5 d6 s, .int .i64 0]) ?_ rfl ⟨HR.out.symm, ?_⟩
          · simp [results, Try.results17, go_sem, hc2, hz2]
          · exact below_set8 (below_drewN (hbel.alloc hs2 _) _) _ (Nat.le_refl _) _ _ _ _ _ _ _ _
        · have HR : Hid (Ending.returned (unw xs) = .returned (.tuple #[.int .i64 0, .int .i64 0, zeroF, .int .i64 (decE ys)])) := by show _ = _; rw [HU.out, if_neg hz]
          have hne : (decE ys != 0) = true := by simpa using hz
          clear HU hz hb2 hb2' HD HW HI6 HI0
          go_wp2_with fail
          refine bodyPost_ret (v := .tuple #[.int .i64 0, .int .i64 0, zeroF, .int .i64 (decE ys)]) ?_ rfl ⟨HR.out.symm, ?_⟩
          · simp [results, Try.results17, go_sem, hc2, hz2]
          · exact (below_set8 hbel _ (Nat.le_refl _) _ _ _ _ _ _ _ _).alloc (by simp; omega) _
    · have hdy' : dyB xs = false := by simpa using hdy
      have HR : Hid (Ending.returned (unw xs) = .returned (.tuple #[.int .i64 0, .int .i64 0, zeroF, .int .i64 4])) := by
        show _ = _
        have hE : unwE xs = 4 := by unfold unwE; rw [if_neg (by omega), if_neg hdy]
        unfold unw; rw [hE]; rfl
      unfold dyB at hdy'
      clear hdy
      go_enter Try.func17, Try.ntmps17
      go_wp2_with fail
      refine bodyPost_ret (v := .tuple #[.int .i64 0, .int .i64 0, zeroF, .int .i64 4]) ?_ rfl ⟨HR.out.symm, ?_⟩
      · simp [results, Try.results17, go_sem]
      · exact (Below.refl _ _).alloc (Nat.le_refl _) _

end Go.Proofs.Ytgkdmmfogibbjaa
