/-
  What the document's wordAt and FrameOf answer.
-/
import Derived.Test.YtaonmcjbpfiliaaWe2
import Derived.Test.YtaonmcjbpfiliaaRb
namespace Go.Proofs.Ytaonmcjbpfiliaa
open Go.RowKit
set_option linter.unusedVariables false

set_option maxHeartbeats 1000000 in
theorem rwordAt_any (b off len cap : Nat) (xs : List Int) (i : Int) (w : World) (hl : xs.length = len) (hx : Bs xs) (hm : len ≤ 140737488355328) (hlc : len ≤ cap) (hL : Lies w b off xs) (h0 : 0 ≤ i) (h1 : i + 1 < len) :
    Calls Try.prog 28 #[.slice (some ⟨b, off, none⟩) len cap, .int .i64 i] w fun e w' => e = .returned (.int .i64 (wd xs i.toNat)) ∧ ∃ n, w' = w.drewN n := by
  have c0 := hL i.toNat (by omega)
  have c1 := hL (i + 1).toNat (by omega)
  have b0 := hx.at i.toNat
  have b1 := hx.at (i + 1).toNat
  have HW : Hid (wd xs i.toNat = xs.getD i.toNat 0 * 256 + xs.getD (i + 1).toNat 0) := by show _ = _; unfold wd; rw [show (i + 1).toNat = i.toNat + 1 by omega]
  generalize xs.getD i.toNat 0 = p at c0 b0 HW
  generalize xs.getD (i + 1).toNat 0 = q at c1 b1 HW
  obtain ⟨p0, p1⟩ := b0
  obtain ⟨q0, q1⟩ := b1
  clear hL hx hl
  have h2 : i < len := by omega
  go_enter Try.func28, Try.ntmps28
  go_wp2
  go_quiet (fail)
  go_wp2
  go_ret
  exact ⟨int_ret (by rw [HW.out]; omega), _, rfl⟩


set_option maxHeartbeats 2000000 in
theorem frameOf_any (a : Option Addr) (len cap : Nat) (xs : List Int) (w : World) (hI : IsB w a len cap xs) :
    Calls Try.prog 13 #[.slice a len cap] w fun e w' => e = .returned (.tuple #[decV xs, .int .i64 (decE xs)]) ∧ Below w.heap.size w w' := by
  obtain ⟨hl, hx, hm, hI⟩ := hI
  by_cases h16 : len < 16
  · have hE : decE xs = 5 := by
      have hc : chk xs = 5 := by unfold chk; rw [if_pos (by omega)]
      unfold decE; rw [hc]; rfl
    have hV : decV xs = zeroF := by unfold decV; rw [hE]; rfl
    have HR : Hid (Ending.returned (.tuple #[decV xs, .int .i64 (decE xs)]) = .returned (.tuple #[zeroF, .int .i64 5])) := by show _ = _; rw [hE, hV]
    clear hE hV hI
    go_enter Try.func13, Try.ntmps13
    go_wp2_with fail
    refine bodyPost_ret (v := .tuple #[zeroF, .int .i64 5]) ?_ rfl ⟨HR.out.symm, ?_⟩
    · simp [results, Try.results13, go_sem]
    · exact (Below.refl _ _).alloc (Nat.le_refl _) _
  · have h16' : 16 ≤ len := by omega
    obtain ⟨b, off, rfl, hlc, hL⟩ : ∃ b off, a = some ⟨b, off, none⟩ ∧ len ≤ cap ∧ Lies w b off xs := by
      rcases hI with h0 | h
      · omega
      · exact h
    clear hI h16
    have hbw := hL.lt (by omega)
    have hL0 : ∀ o : Obj, Lies (w.alloc o) b off xs := fun o => hL.below ((Below.refl _ w).alloc (Nat.le_refl _) o) hbw
    have HW := hide (fun (w' : World) (h : Lies w' b off xs) (i : Int) (h0 : 0 ≤ i) (h1 : i + 1 < len) => rwordAt_any b off len cap xs i w' hl hx hm hlc h h0 h1)
    have hw12 := wd_bd hx 12
    obtain ⟨n, hn⟩ := Int.eq_ofNat_of_zero_le hw12.1
    have hnb : n ≤ 65535 := by omega
    have HN := hide hn
    have HLw := hide hL
    clear hw12 hn hL
    go_enter Try.func13, Try.ntmps13
    go_wp2_with fail
    refine (unhide HW _ (hL0 _) 12 (by omega) (by omega)).mono ?_
    rintro e w' ⟨rfl, m, rfl⟩
    rw [show (12 : Int).toNat = 12 from rfl, HN.out]
    have bel0 : Below w.heap.size w ((w.alloc (.cells #[.int .i64 0, .int .i64 0, .int .i64 0, .int .i64 0, .int .i64 0, .int .i64 0, .int .i64 0, .string ⟨#[]⟩] 23)).drewN m) := below_drewN ((Below.refl _ _).alloc (Nat.le_refl _) _) m
    by_cases c1 : 40 < n
    · have hc : chk xs = 1 := by unfold chk; rw [if_neg (by omega), if_pos (by rw [HN.out]; omega)]
      have HR : Hid (Ending.returned (.tuple #[decV xs, .int .i64 (decE xs)]) = .returned (.tuple #[zeroF, .int .i64 1])) := by
        show _ = _
        have hE : decE xs = 1 := by unfold decE; rw [hc]; rfl
        have hV : decV xs = zeroF := by unfold decV; rw [hE]; rfl
        rw [hE, hV]
      clear hc
      go_wp2_with fail
      refine bodyPost_ret (v := .tuple #[zeroF, .int .i64 1]) ?_ rfl ⟨HR.out.symm, ?_⟩
      · simp [results, Try.results13, go_sem]
      · exact below_set8 bel0 _ (Nat.le_refl _) _ _ _ _ _ _ _ _
    · by_cases c2 : len < 16 + n
      · have hc : chk xs = 5 := by unfold chk; rw [if_neg (by omega), HN.out, if_neg (by omega), if_pos (by omega)]
        have HR : Hid (Ending.returned (.tuple #[decV xs, .int .i64 (decE xs)]) = .returned (.tuple #[zeroF, .int .i64 5])) := by
          show _ = _
          have hE : decE xs = 5 := by unfold decE; rw [hc]; rfl
          have hV : decV xs = zeroF := by unfold decV; rw [hE]; rfl
          rw [hE, hV]
        clear hc
        go_wp2_with fail
        refine bodyPost_ret (v := .tuple #[zeroF, .int .i64 5]) ?_ rfl ⟨HR.out.symm, ?_⟩
        · simp [results, Try.results13, go_sem]
        · exact below_set8 bel0 _ (Nat.le_refl _) _ _ _ _ _ _ _ _
      · by_cases c3 : 16 + n < len
        · have hc : chk xs = 4 := by unfold chk; rw [if_neg (by omega), HN.out, if_neg (by omega), if_neg (by omega), if_pos (by omega)]
          have HR : Hid (Ending.returned (.tuple #[decV xs, .int .i64 (decE xs)]) = .returned (.tuple #[zeroF, .int .i64 4])) := by
            show _ = _
            have hE : decE xs = 4 := by unfold decE; rw [hc]; rfl
            have hV : decV xs = zeroF := by unfold decV; rw [hE]; rfl
            rw [hE, hV]
          clear hc
          go_wp2_with fail
          refine bodyPost_ret (v := .tuple #[zeroF, .int .i64 4]) ?_ rfl ⟨HR.out.symm, ?_⟩
          · simp [results, Try.results13, go_sem]
          · exact below_set8 bel0 _ (Nat.le_refl _) _ _ _ _ _ _ _ _
        · have HCK : Hid (chk xs = if wd xs (14 + n) ≠ sm (xs.take (14 + n)) then 10 else 0) := by
            show _ = _
            unfold chk
            rw [if_neg (by omega), HN.out, if_neg (by omega), if_neg (by omega), if_neg (by omega), Int.toNat_natCast]
          have hT : (xs.take (14 + n)).length = 14 + n := by simp; omega
          have HT := hide hT
          clear hT
          have hT1 : 14 + n ≤ cap := by omega
          have hT2 : 14 + n ≤ 100 := by omega
          obtain ⟨w1, hw1⟩ : ∃ w1, w1 = (w.alloc (.cells #[.int .i64 0, .int .i64 0, .int .i64 0, .int .i64 0, .int .i64 0, .int .i64 0, .int .i64 0, .string ⟨#[]⟩] 23)).drewN m := ⟨_, rfl⟩
          have hL1 : Lies w1 b off xs := by rw [hw1]; exact (hL0 _).drewN m
          have HX := hide hx
          clear hx
          go_wp2_with fail
          rw [← hw1]
          have HW1 := hide hw1
          clear hw1 bel0
          go_quiet ((first | (go_at_call 28; exact Calls.quiet_of (unhide HW _ (hL1.drewN _) _ (by omega) (by omega))) | (go_at_call 25; exact Calls.quiet_of_same (sumOf_any b off (14 + n) cap (xs.take (14 + n)) _ HT.out (HX.out.take _) hT2 hT1 (fun i hi => ((hL1.take (14 + n)).drewN _) i (by rw [HT.out]; exact hi))))))
          have hw1 := HW1.out
          subst hw1
          clear HW1
          by_cases hpq : wd xs (14 + n) = sm (xs.take (14 + n))
          · have hne : (wd xs (14 + n) != sm (xs.take (14 + n))) = false := by simpa using hpq
            have hc : chk xs = 0 := by rw [HCK.out, if_neg (by simpa using hpq)]
            have hbs := bodyOf_size xs n (by omega)
            have hE : decE xs = fault (wd xs 0) (wd xs 2) (bt xs 4) (wd xs 6) (wd xs 8) (bt xs 5) (wd xs 10) (bodyOf xs n).size := by unfold decE toldFault; rw [if_pos hc, HN.out, Int.toNat_natCast, hbs]
            have HV : Hid (decV xs = if decE xs = 0 then told xs n else zeroF) := by show _ = _; unfold decV; rw [HN.out, Int.toNat_natCast]
            have HK := hide (fun w' => frameFault_any (wd xs 0) (wd xs 2) (bt xs 4) (wd xs 6) (wd xs 8) (bt xs 5) (wd xs 10) (bodyOf xs n) w' (by rw [hbs]; unfold maxLen; omega))
            rw [← hE] at HK
            clear hE hbs
            have c4 : ∀ w', Lies w' b off xs → w'.cell? ⟨b, off + 4, none⟩ = some (.int .u8 (bt xs 4)) := fun w' h => h 4 (by omega)
            have c5 : ∀ w', Lies w' b off xs → w'.cell? ⟨b, off + 5, none⟩ = some (.int .u8 (bt xs 5)) := fun w' h => h 5 (by omega)
            have hcv := fun (c : Nat) (w' : World) (h : Lies w' b off xs) => conv_body b off c n xs (by omega) w' h
            have b4 := HX.out.at 4
            have b5 := HX.out.at 5
            have n14 : ¬ cap = 14 := by omega
            have hbn : ¬ b = w.heap.size := by omega
            have hbn1 : ¬ b = w.heap.size + 1 := by omega
            have hbw1 : b < w.heap.size + 1 := by omega
            have hLw := HLw.out
            have k0 : (4 : Int) < (len : Int) := by omega
            have k1 : (5 : Int) < (len : Int) := by omega
            have k2 : (14 : Int) ≤ 14 + (n : Int) := by omega
            have k3 : 14 + (n : Int) ≤ (cap : Int) := by omega
            have k4 : (0 : Int) ≤ 14 + (n : Int) := by omega
            have k5 : IntKind.i64.wrap (14 + (n : Int)) = 14 + (n : Int) := wrap_i64_small _ (by omega) (by omega)
            have k6 : (14 + (n : Int)).toNat - 14 = n := by omega
            have d4 : bt xs 4 = xs.getD 4 0 := rfl
            have d5 : bt xs 5 = xs.getD 5 0 := rfl
            rw [← d4] at b4
            rw [← d5] at b5
            obtain ⟨b40, b41⟩ := b4
            obtain ⟨b50, b51⟩ := b5
            have k7 : IntKind.i64.wrap (bt xs 4) = bt xs 4 := wrap_i64_small _ (by omega) (by omega)
            have k8 : IntKind.i64.wrap (bt xs 5) = bt xs 5 := wrap_i64_small _ (by omega) (by omega)
            clear hc hpq HCK d4 d5 hL1
            go_wp2_with fail
            go_region_held3 (fun w' => Lies w' b off xs ∧ w'.cell? ⟨b, off + 4, none⟩ = some (.int .u8 (bt xs 4)) ∧ w'.cell? ⟨b, off + 5, none⟩ = some (.int .u8 (bt xs 5))) (first | (simp [*, lies_drewN]; done) | (simp [*, lies_alloc, lies_drewN]; done) | (simp [*, lies_set_ne]; done)) (fail)
            clear c4 c5 hcv k0 k1 k2 k3 k4 k5 k6 k7 k8 b40 b41 b50 b51 n14 hL0
            go_wp2_with (go_at_call 28; refine (unhide HW _ (by simp [lies_alloc, lies_drewN, lies_set_ne, hLw, hbw, hbw1, hbn1]) _ (by omega) (by omega)).mono ?_; rintro e w' ⟨rfl, m1, rfl⟩)
            refine (unhide HK _).mono ?_
            rintro e w3 ⟨rfl, hb3⟩
            have hb3' := hb3.mono (B' := w.heap.size + 2) (by simp)
            obtain ⟨hc3, hf3⟩ := bcell2 hb3'
            have hbel : Below w.heap.size w w3 := by
              refine Below.trans ?_ (hb3'.mono (by omega))
              repeat (first | exact Below.refl _ _ | refine Below.setCell ?_ (by simp) _ | refine below_drewN ?_ _ | refine Below.alloc ?_ (by simp) _)
            clear hb3 hb3' HW HK
            by_cases hz : decE xs = 0
            · have hV0 : decV xs = told xs n := by rw [HV.out, if_pos hz]
              have HR : Hid (Ending.returned (.tuple #[decV xs, .int .i64 (decE xs)]) = .returned (.tuple #[told xs n, .int .i64 0])) := by show _ = _; rw [hV0, hz]
              clear hV0 HV
              go_wp2_with fail
              refine bodyPost_ret (v := .tuple #[told xs n, .int .i64 0]) ?_ rfl ⟨HR.out.symm, ?_⟩
              · simp [results, Try.results13, go_sem, hc3]
              · exact below_set8 hbel _ (Nat.le_refl _) _ _ _ _ _ _ _ _
            · have hV0 : decV xs = zeroF := by rw [HV.out, if_neg hz]
              have HR : Hid (Ending.returned (.tuple #[decV xs, .int .i64 (decE xs)]) = .returned (.tuple #[zeroF, .int .i64 (decE xs)])) := by show _ = _; rw [hV0]
              have hne2 : (decE xs != 0) = true := by simpa using hz
              clear hV0 HV hz
              go_wp2_with fail
              refine bodyPost_ret (v := .tuple #[zeroF, .int .i64 (decE xs)]) ?_ rfl ⟨HR.out.symm, ?_⟩
              · simp [results, Try.results13, go_sem, hc3]
              · exact below_set8 hbel _ (Nat.le_refl _) _ _ _ _ _ _ _ _
          · have hne : (wd xs (14 + n) != sm (xs.take (14 + n))) = true := by simpa using hpq
            have hc : chk xs = 10 := by rw [HCK.out, if_pos hpq]
            have HR : Hid (Ending.returned (.tuple #[decV xs, .int .i64 (decE xs)]) = .returned (.tuple #[zeroF, .int .i64 10])) := by
              show _ = _
              have hE : decE xs = 10 := by unfold decE; rw [hc]; rfl
              have hV : decV xs = zeroF := by unfold decV; rw [hE]; rfl
              rw [hE, hV]
            clear hc HCK hpq
            go_wp2_with fail
            refine bodyPost_ret (v := .tuple #[zeroF, .int .i64 10]) ?_ rfl ⟨HR.out.symm, ?_⟩
            · simp [results, Try.results13, go_sem]
            · exact below_set8 (below_drewN ((Below.refl _ _).alloc (Nat.le_refl _) _) _) _ (Nat.le_refl _) _ _ _ _ _ _ _ _

end Go.Proofs.Ytaonmcjbpfiliaa
