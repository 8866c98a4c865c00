/- The law FramesOnce returns true at every slice of bytes, and the slice reads behind the call as it read before; no condition. -/
import Derived.Test.YtaonmcjbpfiliabEq
import Derived.Test.YtaonmcjbpfiliabCv
import Derived.Test.YtaonmcjbpfiliabUn
namespace Go.Proofs.Ytaonmcjbpfiliab
open Go.ChangeShapes Go.WideShapes Go.ChangeAt Go.RowKit
set_option linter.unusedVariables false

theorem split14 (xs : List Int) (h : 14 ≤ xs.length) : ∃ x0 x1 x2 x3 x4 x5 x6 x7 x8 x9 x10 x11 x12 x13 : Int, ∃ r, xs = x0 :: x1 :: x2 :: x3 :: x4 :: x5 :: x6 :: x7 :: x8 :: x9 :: x10 :: x11 :: x12 :: x13 :: r := by
  match xs, h with
  | x0 :: x1 :: x2 :: x3 :: x4 :: x5 :: x6 :: x7 :: x8 :: x9 :: x10 :: x11 :: x12 :: x13 :: r, _ => exact ⟨x0, x1, x2, x3, x4, x5, x6, x7, x8, x9, x10, x11, x12, x13, r, rfl⟩

theorem word_wd {xs : List Int} (hx : Bs xs) (i : Nat) : word (wd xs i) = [xs.getD i 0, xs.getD (i + 1) 0] := by
  have h1 := hx.at i
  have h2 := hx.at (i + 1)
  unfold word wd
  generalize xs.getD i 0 = p at *
  generalize xs.getD (i + 1) 0 = q at *
  rw [show (p * 256 + q) / 256 = p by omega, show (p * 256 + q) % 256 = q by omega]

theorem nums_body {xs : List Int} (hx : Bs xs) (n : Nat) : nums (bodyOf xs n) = (xs.drop 14).take n := by
  have hb := (hx.drop 14).take n
  unfold bodyOf nums
  rw [strOfNums_data, List.map_map]
  conv => rhs; rw [← List.map_id ((xs.drop 14).take n)]
  apply List.map_congr_left
  intro x h
  have := hb x h
  simp
  omega

/-- No frame has two forms: what is read is written so again. -/
theorem enc_told {xs : List Int} (hx : Bs xs) (h : chk xs = 0) (n : Nat) (hn : wd xs 12 = n) :
    enc (wd xs 0) (wd xs 2) (bt xs 4) (wd xs 6) (wd xs 8) (bt xs 5) (wd xs 10) (bodyOf xs n) = xs := by
  obtain ⟨h16, h40, hlen, hsum⟩ := chk_zero hx h
  rw [hn, Int.toNat_natCast] at hlen hsum
  have hbs := bodyOf_size xs n (by omega)
  have h0 : enc0 (wd xs 0) (wd xs 2) (bt xs 4) (wd xs 6) (wd xs 8) (bt xs 5) (wd xs 10) (bodyOf xs n) = xs.take (14 + n) := by
    unfold enc0
    rw [hbs, ← hn, word_wd hx, word_wd hx, word_wd hx, word_wd hx, word_wd hx, word_wd hx, nums_body hx]
    unfold bt
    clear hsum hbs h hx hn h40
    obtain ⟨x0, x1, x2, x3, x4, x5, x6, x7, x8, x9, x10, x11, x12, x13, r, rfl⟩ := split14 xs (by omega)
    rw [show 14 + n = n + 14 by omega]
    simp
  unfold enc
  rw [h0, ← hsum, word_wd hx]
  have h2 : xs.drop (14 + n) = [xs.getD (14 + n) 0, xs.getD (14 + n + 1) 0] := by
    rw [List.drop_eq_getElem_cons (by omega : 14 + n < xs.length), List.drop_eq_getElem_cons (by omega : 14 + n + 1 < xs.length), List.drop_eq_nil_of_le (by omega)]
    simp [List.getD, List.getElem?_eq_getElem (by omega : 14 + n < xs.length), List.getElem?_eq_getElem (by omega : 14 + n + 1 < xs.length)]
  rw [← h2]
  exact List.take_append_drop _ _

set_option maxHeartbeats 1000000 in
theorem framesOnce_any (a : Option Addr) (len cap : Nat) (xs : List Int) (w : World) (hI : IsB w a len cap xs) :
    Calls Try.prog 3 #[.slice a len cap] w fun e w' => e = .returned (.bool true) ∧ Below w.heap.size w w' := by
  have hg := guardFrame
  have hl := hI.1
  have hbs := hI.2.1
  have HD := hide (decode_any a len cap xs w hI)
  by_cases hz : decE xs = 0
  · have hc : chk xs = 0 := by
      unfold decE at hz
      by_cases h : chk xs = 0
      · exact h
      · rw [if_neg h] at hz; exact absurd hz h
    obtain ⟨n, hn⟩ := Int.eq_ofNat_of_zero_le (wd_bd hbs 12).1
    obtain ⟨h16, h40, hlen, _⟩ := chk_zero hbs hc
    rw [hn, Int.toNat_natCast] at hlen
    have hsz := bodyOf_size xs n (by omega)
    have hF : fault (wd xs 0) (wd xs 2) (bt xs 4) (wd xs 6) (wd xs 8) (bt xs 5) (wd xs 10) (bodyOf xs n).size = 0 := by
      unfold decE toldFault at hz
      rw [if_pos hc, hn, Int.toNat_natCast] at hz
      rw [hsz]; exact hz
    have hV : decV xs = told xs n := by unfold decV; rw [if_pos hz, hn, Int.toNat_natCast]
    rw [hV, hz] at HD
    have HE := hide (fun w' => encode_yes (wd xs 0) (wd xs 2) (bt xs 4) (wd xs 6) (wd xs 8) (bt xs 5) (wd xs 10) (bodyOf xs n) w' hF)
    rw [enc_told hbs hc n hn] at HE
    obtain ⟨b, off, rfl, hlc, hL⟩ : ∃ b off, a = some ⟨b, off, none⟩ ∧ len ≤ cap ∧ Lies w b off xs := by
      rcases hI.2.2.2 with h0 | h
      · omega
      · exact h
    have hbw := hL.lt (by omega)
    have HL := hide hL
    clear hc hn hsz hF hV hL hI hlen h40 hz
    go_enter Try.func3, Try.ntmps3
    go_wp2_with fail
    refine (unhide HD).mono ?_
    rintro e w1 ⟨rfl, hb1⟩
    have hs1 := hb1.size
    go_wp2_with fail
    refine (unhide HE _).mono ?_
    rintro e w2 ⟨v2, rfl, ho2, hb2⟩
    have hbel : Below w.heap.size w w2 := (hb1.alloc hs1 _).trans (hb2.mono (by simp; omega))
    obtain ⟨g, cap2, rfl, hgg, _, hcell⟩ := own_cells ho2 (by omega)
    have r1 := conv_own (w := w2) (cap := cap2) hcell
    have r2 : (convert 22 9 (.slice (some ⟨b, off, none⟩) len cap)).run Try.prog w2 = .ok (.string (strOfNums xs)) w2 :=
      run_convert_bytes_arg w2 22 5 Try.underlying22 Try.underlying5 b off len cap xs hl (fun i hi => (HL.out.below hbel hbw) i (by omega)) 9 Try.underlying9
    rw [hl] at r1 ⊢
    clear HD HE ho2 hcell hb2 hb1
    go_wp2_with fail
    go_ret
    exact ⟨bool_ret (by simp), hbel⟩
  · have hV : decV xs = zeroF := by unfold decV; rw [if_neg hz]
    rw [hV] at HD
    have heq := eqFrame 0 0 0 0 0 0 0 ⟨#[]⟩
    have hne : (decE xs != 0) = true := by simpa using hz
    clear hz hV hI
    go_enter Try.func3, Try.ntmps3
    go_wp2_with fail
    refine (unhide HD).mono ?_
    rintro e w1 ⟨rfl, hb1⟩
    have hs1 := hb1.size
    go_wp2_with fail
    go_ret
    exact ⟨bool_ret (by simp), hb1.alloc hs1 _⟩

set_option maxRecDepth 100000 in
theorem framesOnce_lifted (os : Os) (started : os.Started) (H : Type) (enc : TypeId × Value → H) :
    ReturnsInHanded {} Try.checked os 3 .any (Rows.framesOnceSpec.pre6 enc Try.prog Try.f3 Rows.framesOnceRow.domain false) (Rows.framesOnceSpec.post enc Try.prog Try.f3 false true false false) := by
  refine returnsInHanded_of_change_sized (C := Try.checked) own started (by kernel_rfl) Try.func3
    (ChangeSpec.witness6 (enc := enc) (C := Try.checked) false ⟨#[], #[.slice none 0 0], []⟩ 8 (by kernel_rfl) (by kernel_rfl) (by kernel_rfl) (by kernel_rfl)) ?_
  intro W base args ds gs before hval0 hW hcnd hsz0 _
  have hval : ∀ (j : Nat) t v, Try.f3.params[j]? = some t → args[j]? = some v → Value.okWide Try.prog W .any base t v := hval0
  have hsz : (DataW.weightsEach Try.prog (Try.f3.params.toList ++ Rows.framesOnceSpec.plain.varTypes Try.prog) (ds ++ gs)).all (· ≤ reachBytes) = true := hsz0
  have hW' := hW
  obtain ⟨p, q, hA0, hV, rfl, hfz, hnd⟩ := hW
  have hA : DataW.TrodAll enc Try.prog W 0 (fun _ => true) true Try.f3.params.toList args.toList ds p := hA0
  rw [Try.params3] at hA hval hsz
  obtain ⟨v0, vs0, d0, ds0, p0, q0, hargs, rfl, rfl, h0, r0⟩ := trodAll_cons hA
  obtain ⟨rfl, rfl, rfl⟩ := trodAll_nil r0
  obtain rfl : args = #[v0] := by cases args; simp_all
  obtain ⟨rfl, rfl⟩ := trodVars_none hV
  have k0 := h0
  have lt0 : ∀ x ∈ p0, x.block < W.heap.size := by obtain ⟨m, hm⟩ := k0; exact DataW.trod_lt m _ _ _ hm
  obtain ⟨a, len, cap, xs, rfl, hl, hbs, hL, hnone, hd⟩ := open_bytes (hval 0 22 v0 rfl rfl) h0
  have hlen : len ≤ 140737488351232 := by
    rcases hd with h | ⟨elems, sp, rfl, he⟩
    · omega
    · have := sized_slice hsz (j := 0) (t := 22) (e := 5) rfl rfl Try.underlying22
      rw [bytesU8] at this
      simp only [reachBytes] at this
      omega
  clear hA0 hval0 hsz0
  refine (framesOnce_any a len cap xs W ⟨hl, hbs, by omega, hL⟩).mono fun e W' ⟨he, bel⟩ => ?_
  subst he
  exact ⟨_, rfl, _, _, _, [], _, [], hW', trodAll_mk1 (shut_bool Try.underlying4 _), (trodAll_cons_mk (Below.trod laidOut (by kernel_rfl) (of_decide_eq_true (by kernel_rfl)) k0 bel lt0) trodAll_mk0), rfl, bel.frame _, fun h => by cases h⟩

theorem framesOnce_holds : Rows.FramesOnceSaid :=
  OpenClaim.holds_of_wide 3 Try.f3 rfl rfl rfl rfl rfl rfl rfl ⟨rfl, rfl, rfl, rfl, rfl⟩ rfl rfl rfl rfl rfl (by kernel_rfl) Try.func3 (by kernel_rfl)
    (of_decide_eq_true (by kernel_rfl)) (by unfold Func.isWrapper; first | (rw [if_pos (by decide +kernel)]; kernel_rfl) | (rw [if_neg (by decide +kernel)]; exact ⟨rfl, rfl⟩))
    (fun os started H enc _ => framesOnce_lifted os started H enc)

end Go.Proofs.Ytaonmcjbpfiliab
