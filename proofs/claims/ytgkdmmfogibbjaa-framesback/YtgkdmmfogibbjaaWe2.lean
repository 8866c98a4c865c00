/-
  What wire.Decode answers.
-/
import Derived.Test.YtgkdmmfogibbjaaWd
import Derived.Test.YtgkdmmfogibbjaaWe
namespace Go.Proofs.Ytgkdmmfogibbjaa
open Go.RowKit
set_option linter.unusedVariables false
set_option maxRecDepth 100000

/-- A slice of bytes that came in: its bytes. -/
def IsB (w : World) (a : Option Addr) (len cap : Nat) (xs : List Int) : Prop :=
  xs.length = len ∧ Bs xs ∧ len ≤ 140737488355328 ∧ (len = 0 ∨ ∃ b off, a = some ⟨b, off, none⟩ ∧ len ≤ cap ∧ Lies w b off xs)

theorem IsB.below {w w' : World} {a : Option Addr} {len cap : Nat} {xs : List Int} {B : Nat} (h : IsB w a len cap xs) (hb : Below B w w') (hB : w.heap.size ≤ B) : IsB w' a len cap xs := by
  obtain ⟨h1, h2, h3, h0 | ⟨b, off, ha, hc, hL⟩⟩ := h
  · exact ⟨h1, h2, h3, .inl h0⟩
  · by_cases h0 : len = 0
    · exact ⟨h1, h2, h3, .inl h0⟩
    · exact ⟨h1, h2, h3, .inr ⟨b, off, ha, hc, hL.below hb (Nat.lt_of_lt_of_le (hL.lt (by omega)) hB)⟩⟩

theorem below_set8 {B : Nat} {a w : World} (h : Below B a w) (g : Nat) (hg : B ≤ g) (v0 v1 v2 v3 v4 v5 v6 v7 : Value) :
    Below B a ((((((((w.setCell ⟨g, 0, none⟩ v0).setCell ⟨g, 1, none⟩ v1).setCell ⟨g, 2, none⟩ v2).setCell ⟨g, 3, none⟩ v3).setCell ⟨g, 4, none⟩ v4).setCell ⟨g, 5, none⟩ v5).setCell ⟨g, 6, none⟩ v6).setCell ⟨g, 7, none⟩ v7) :=
  Below.setCell (Below.setCell (Below.setCell (Below.setCell (Below.setCell (Below.setCell (Below.setCell (Below.setCell h hg _) hg _) hg _) hg _) hg _) hg _) hg _) hg _

abbrev zeroF : Value := fr 0 0 0 0 0 0 0 ⟨#[]⟩

/-- P1.4: the error, and the frame. -/
def toldFault (xs : List Int) : Int := fault (wd xs 0) (wd xs 2) (bt xs 4) (wd xs 6) (wd xs 8) (bt xs 5) (wd xs 10) (wd xs 12).toNat
def decE (xs : List Int) : Int := if chk xs = 0 then toldFault xs else chk xs
def decV (xs : List Int) : Value := if decE xs = 0 then told xs (wd xs 12).toNat else zeroF

theorem chk_zero {xs : List Int} (hx : Bs xs) (h : chk xs = 0) : 16 ≤ xs.length ∧ wd xs 12 ≤ 40 ∧ 16 + (wd xs 12).toNat = xs.length ∧ wd xs (14 + (wd xs 12).toNat) = sm (xs.take (14 + (wd xs 12).toNat)) := by
  have hw := wd_bd hx 12
  unfold chk at h
  by_cases c0 : xs.length < 16
  · rw [if_pos c0] at h; omega
  · rw [if_neg c0] at h
    by_cases c1 : 40 < wd xs 12
    · rw [if_pos c1] at h; omega
    · rw [if_neg c1] at h
      by_cases c2 : (xs.length : Int) < 16 + wd xs 12
      · rw [if_pos c2] at h; omega
      · rw [if_neg c2] at h
        by_cases c3 : 16 + wd xs 12 < (xs.length : Int)
        · rw [if_pos c3] at h; omega
        · rw [if_neg c3] at h
          by_cases c4 : wd xs (14 + (wd xs 12).toNat) = sm (xs.take (14 + (wd xs 12).toNat))
          · exact ⟨by omega, by omega, by omega, c4⟩
          · rw [if_pos c4] at h; omega

set_option maxHeartbeats 1000000 in
theorem decode_any (a : Option Addr) (len cap : Nat) (xs : List Int) (w : World) (hI : IsB w a len cap xs) :
    Calls Try.prog 13 #[.slice a len cap] w fun e w' => e = .returned (.tuple #[decV xs, .int .i64 (decE xs)]) ∧ Below w.heap.size w w' := by
  obtain ⟨hl, hx, hm, hI⟩ := hI
  by_cases h16 : len < 16
  · have hE : decE xs = 5 := by
      have hc : chk xs = 5 := by unfold chk; rw [if_pos (by omega)]
      unfold decE; rw [hc]; rfl
    have hV : decV xs = zeroF := by unfold decV; rw [hE]; rfl
    have HR : Hid (Ending.returned (.tuple #[decV xs, .int .i64 (decE xs)]) = .returned (.tuple #[zeroF, .int .i64 5])) := by show _ = _; rw [hE, hV]
    clear hE hV hI
    go_enter Try.func13, Try.ntmps13
    go_wp2_with fail
    refine (checkBytes_short a len cap _ h16).mono ?_
    rintro e w' ⟨rfl, rfl⟩
    go_wp2_with fail
    refine bodyPost_ret (v := .tuple #[zeroF, .int .i64 5]) ?_ rfl ⟨HR.out.symm, ?_⟩
    · simp [results, Try.results13, go_sem]
    · exact (Below.refl _ _).alloc (Nat.le_refl _) _
  · have h16' : 16 ≤ len := by omega
    obtain ⟨b, off, rfl, hlc, hL⟩ : ∃ b off, a = some ⟨b, off, none⟩ ∧ len ≤ cap ∧ Lies w b off xs := by
      rcases hI with h0 | h
      · omega
      · exact h
    clear hI h16
    have hbw := hL.lt (by omega)
    have hL0 : ∀ o : Obj, Lies (w.alloc o) b off xs := fun o => hL.below ((Below.refl _ w).alloc (Nat.le_refl _) o) hbw
    by_cases hc : chk xs = 0
    · obtain ⟨_, hw40, hlen, _⟩ := chk_zero hx hc
      have HC := hide (fun w' h => checkBytes_any b off len cap xs w' hl hx hm hlc h h16')
      obtain ⟨n, hn⟩ := Int.eq_ofNat_of_zero_le (wd_bd hx 12).1
      have hn40 : n ≤ 40 := by omega
      have hn16 : 16 + n = len := by rw [hn, Int.toNat_natCast] at hlen; omega
      have HP := hide (fun w' h => parse_any b off len cap n xs w' hl hx hm hlc h hn hn16 hn40)
      have hbs := bodyOf_size xs n (by omega)
      have hE : decE xs = fault (wd xs 0) (wd xs 2) (bt xs 4) (wd xs 6) (wd xs 8) (bt xs 5) (wd xs 10) (bodyOf xs n).size := by unfold decE toldFault; rw [if_pos hc, hn, Int.toNat_natCast, hbs]
      have hV : decV xs = if decE xs = 0 then told xs n else zeroF := by unfold decV; rw [hn, Int.toNat_natCast]
      have HK := hide (fun w' => check_any (wd xs 0) (wd xs 2) (bt xs 4) (wd xs 6) (wd xs 8) (bt xs 5) (wd xs 10) (bodyOf xs n) w' (by rw [hbs]; unfold maxLen; omega))
      rw [hc] at HC
      rw [← hE] at HK
      clear hE hn hbs hL hlen hw40 hc
      go_enter Try.func13, Try.ntmps13
      go_wp2_with fail
      refine (unhide HC _ (hL0 _)).mono ?_
      rintro e w' ⟨rfl, m, rfl⟩
      go_wp2_with fail
      refine (unhide HP _ ((hL0 _).drewN m)).mono ?_
      rintro e w2 ⟨rfl, hb2⟩
      have hz2 : w.heap.size < w2.heap.size := by have := hb2.size; simp at this; omega
      have hz2' : ¬ w.heap.size = w2.heap.size := by omega
      have hb2' := hb2.mono (B' := w.heap.size + 1) (by simp)
      obtain ⟨hc2, hf2⟩ := bcell2 hb2'
      go_wp2_with fail
      refine (unhide HK _).mono ?_
      rintro e w3 ⟨rfl, hb3⟩
      have hb3' := hb3.mono (B' := w2.heap.size + 1) (by simp)
      obtain ⟨hc3, hf3⟩ := bcell2 hb3'
      have hbel : Below w.heap.size w w3 := ((below_drewN ((Below.refl w.heap.size w).alloc (Nat.le_refl _) _) m).trans (hb2'.mono (by omega))).trans (((Below.refl _ w2).alloc (by omega) _).trans (hb3'.mono (by omega)))
      clear hb2 hb3 HC HP HK hb2' hb3' hL0
      have HV := hide hV
      clear hV
      by_cases hz : decE xs = 0
      · have hV0 : decV xs = told xs n := by rw [HV.out, if_pos hz]
        have HR : Hid (Ending.returned (.tuple #[decV xs, .int .i64 (decE xs)]) = .returned (.tuple #[told xs n, .int .i64 0])) := by show _ = _; rw [hV0, hz]
        clear hV0 HV
        go_wp2_with fail
        refine bodyPost_ret (v := .tuple #[told xs n, .int .i64 0]) ?_ rfl ⟨HR.out.symm, ?_⟩
        · simp [results, Try.results13, go_sem, hc3, hc2, hz2, Nat.lt_succ_of_lt hz2]
        · exact below_set8 hbel _ (Nat.le_refl _) _ _ _ _ _ _ _ _
      · have hV0 : decV xs = zeroF := by rw [HV.out, if_neg hz]
        have HR : Hid (Ending.returned (.tuple #[decV xs, .int .i64 (decE xs)]) = .returned (.tuple #[zeroF, .int .i64 (decE xs)])) := by show _ = _; rw [hV0]
        have hne : (decE xs != 0) = true := by simpa using hz
        clear hV0 HV hz
        go_wp2_with fail
        refine bodyPost_ret (v := .tuple #[zeroF, .int .i64 (decE xs)]) ?_ rfl ⟨HR.out.symm, ?_⟩
        · simp [results, Try.results13, go_sem, hc3, hc2, hz2, Nat.lt_succ_of_lt hz2]
        · exact below_set8 hbel _ (Nat.le_refl _) _ _ _ _ _ _ _ _
    · have hE : decE xs = chk xs := by unfold decE; rw [if_neg hc]
      have hV : decV xs = zeroF := by unfold decV; rw [hE, if_neg hc]
      have HR : Hid (Ending.returned (.tuple #[decV xs, .int .i64 (decE xs)]) = .returned (.tuple #[zeroF, .int .i64 (chk xs)])) := by show _ = _; rw [hE, hV]
      have HC := hide (fun w' h => checkBytes_any b off len cap xs w' hl hx hm hlc h h16')
      have hne : (chk xs != 0) = true := by simpa using hc
      clear hE hV hc hL
      generalize chk xs = c at *
      go_enter Try.func13, Try.ntmps13
      go_wp2_with fail
      refine (unhide HC _ (hL0 _)).mono ?_
      rintro e w' ⟨rfl, m, rfl⟩
      go_wp2_with fail
      refine bodyPost_ret (v := .tuple #[zeroF, .int .i64 c]) ?_ rfl ⟨HR.out.symm, ?_⟩
      · simp [results, Try.results13, go_sem]
      · exact below_set8 (below_drewN ((Below.refl _ _).alloc (Nat.le_refl _) _) _) _ (Nat.le_refl _) _ _ _ _ _ _ _ _

end Go.Proofs.Ytgkdmmfogibbjaa
