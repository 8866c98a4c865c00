/- The law WireDecodes returns true at every slice of bytes, and the slice reads behind the call as it read before; no condition. -/
import Derived.Test.YtaonmcjbpfiliaaEq
import Derived.Test.YtaonmcjbpfiliaaRd
import Derived.Test.YtaonmcjbpfiliaaUn
namespace Go.Proofs.Ytaonmcjbpfiliaa
open Go.ChangeShapes Go.WideShapes Go.ChangeAt Go.RowKit
set_option linter.unusedVariables false

set_option maxHeartbeats 1000000 in
theorem wireDecodes_any (a : Option Addr) (len cap : Nat) (xs : List Int) (w : World) (hI : IsB w a len cap xs) (hr : len ≤ 140737488351232) (hnone : a = none → cap = 0) :
    Calls Try.prog 5 #[.slice a len cap] w fun e w' => e = .returned (.bool true) ∧ Below w.heap.size w w' := by
  obtain ⟨i0, hi, hz0, hz1, hz2⟩ := info_parts infoByte
  obtain ⟨d0, d1, d2, d3, d4, d5, d6, s, hV⟩ := decV_form xs
  have HD := hide (fun a' c' w' (h : IsB w' a' len c' xs) => decode_any a' len c' xs w' h)
  have HF := hide (fun a' c' w' (h : IsB w' a' len c' xs) => frameOf_any a' len c' xs w' h)
  rw [hV] at HD HF
  clear hV
  have heq := eqFrame d0 d1 d2 d3 d4 d5 d6 s
  have hg := guardFrame
  have hl := hI.1
  have hbs := hI.2.1
  cases a with
  | none =>
    obtain rfl := hnone rfl
    have h0 : len = 0 := by
      rcases hI.2.2.2 with h | ⟨_, _, h, _⟩
      · exact h
      · simp at h
    obtain rfl : xs = [] := List.eq_nil_of_length_eq_zero (by omega)
    subst h0
    have HI := hide hI
    clear hI hnone hl hbs
    go_enter Try.func5, Try.ntmps5
    go_wp2_with (at_builtin; refine wpList_append_own_none rfl _ _ 27 rfl w.heap.size 5 i0 1 Try.underlying27 hi _ _ _ rfl (World.ownsRow_nil _ _ _ _) rfl ?_)
    refine (unhide HD _ _ _ HI.out).mono ?_
    rintro e w2 ⟨rfl, hb2⟩
    have hb20 : Below w.heap.size w w2 := hb2
    have hs2 : w.heap.size ≤ w2.heap.size := hb20.size
    go_wp2_with fail
    refine (unhide HF _ _ _ (HI.out.below (hb20.alloc hs2 _) (Nat.le_refl _))).mono ?_
    rintro e w3 ⟨rfl, hb3⟩
    obtain ⟨hc3, hf3⟩ := bcell hb3
    have hs3 : w2.heap.size < w3.heap.size := by have := hb3.size; simp at this; omega
    have hs3' : ¬ w2.heap.size = w3.heap.size := by omega
    have hbel : Below w.heap.size w w3 := (hb20.alloc hs2 _).trans (hb3.mono (by simp; omega))
    have hs4 : w.heap.size ≤ w3.heap.size := hbel.size
    clear HD HF hb3 hb20 hb2
    go_wp2_with fail
    go_ret
    exact ⟨bool_ret (by simp), hbel.alloc hs4 _⟩
  | some ad =>
    have HI := hide hI
    clear hI hnone
    go_enter Try.func5, Try.ntmps5
    go_wp2_with (at_builtin; refine wpList_append_own _ rfl _ _ 27 rfl w.heap.size 5 i0 (.int .u8 0) 1 1 Try.underlying27 hi hz0 hz1 hz2 rfl (by decide) _ _ _ rfl (World.ownsRow_nil _ _ _ _) ad len cap (U xs) rfl ?a1 ?a2 ?a3 ?a4 ?a5 ?a6 ?_)
    case a1 => rw [U_length]; omega
    case a2 => exact HI.out.news
    case a3 => exact U_one _
    case a4 => unfold maxLen; omega
    case a5 => omega
    case a6 => exact Nat.le_refl _
    intro v1 w1 ho1 hg1 _
    have hb1 : Below w.heap.size w w1 := (Below.refl _ w).grown hg1 (Nat.le_refl _) (by simp [Value.ownBlock])
    have ho1' : w1.ownsRow w.heap.size 5 1 v1 xs.length (U xs) := by rw [hl]; simpa using ho1
    obtain ⟨a1, c1, rfl, hI1⟩ := own_isB ho1' hbs (by omega)
    rw [hl] at hI1 ⊢
    clear ho1 hg1 ho1'
    go_wp2_with fail
    refine (unhide HD _ _ _ hI1).mono ?_
    rintro e w2 ⟨rfl, hb2⟩
    have hb20 : Below w.heap.size w w2 := hb1.trans (hb2.mono hb1.size)
    have hs2 : w.heap.size ≤ w2.heap.size := hb20.size
    go_wp2_with fail
    refine (unhide HF _ _ _ (HI.out.below (hb20.alloc hs2 _) (Nat.le_refl _))).mono ?_
    rintro e w3 ⟨rfl, hb3⟩
    obtain ⟨hc3, hf3⟩ := bcell hb3
    have hs3 : w2.heap.size < w3.heap.size := by have := hb3.size; simp at this; omega
    have hs3' : ¬ w2.heap.size = w3.heap.size := by omega
    have hbel : Below w.heap.size w w3 := (hb20.alloc hs2 _).trans (hb3.mono (by simp; omega))
    have hs4 : w.heap.size ≤ w3.heap.size := hbel.size
    clear HD HF hb3 hb20 hb2
    go_wp2_with fail
    go_ret
    exact ⟨bool_ret (by simp), hbel.alloc hs4 _⟩

set_option maxRecDepth 100000 in
theorem wireDecodes_lifted (os : Os) (started : os.Started) (H : Type) (enc : TypeId × Value → H) :
    ReturnsInHanded {} Try.checked os 5 .any (Rows.wireDecodesSpec.pre6 enc Try.prog Try.f5 Rows.wireDecodesRow.domain false) (Rows.wireDecodesSpec.post enc Try.prog Try.f5 false true false false) := by
  refine returnsInHanded_of_change_sized (C := Try.checked) own started (by kernel_rfl) Try.func5
    (ChangeSpec.witness6 (enc := enc) (C := Try.checked) false ⟨#[], #[.slice none 0 0], []⟩ 8 (by kernel_rfl) (by kernel_rfl) (by kernel_rfl) (by kernel_rfl)) ?_
  intro W base args ds gs before hval0 hW hcnd hsz0 _
  have hval : ∀ (j : Nat) t v, Try.f5.params[j]? = some t → args[j]? = some v → Value.okWide Try.prog W .any base t v := hval0
  have hsz : (DataW.weightsEach Try.prog (Try.f5.params.toList ++ Rows.wireDecodesSpec.plain.varTypes Try.prog) (ds ++ gs)).all (· ≤ reachBytes) = true := hsz0
  have hW' := hW
  obtain ⟨p, q, hA0, hV, rfl, hfz, hnd⟩ := hW
  have hA : DataW.TrodAll enc Try.prog W 0 (fun _ => true) true Try.f5.params.toList args.toList ds p := hA0
  rw [Try.params5] at hA hval hsz
  obtain ⟨v0, vs0, d0, ds0, p0, q0, hargs, rfl, rfl, h0, r0⟩ := trodAll_cons hA
  obtain ⟨rfl, rfl, rfl⟩ := trodAll_nil r0
  obtain rfl : args = #[v0] := by cases args; simp_all
  obtain ⟨rfl, rfl⟩ := trodVars_none hV
  have k0 := h0
  have lt0 : ∀ x ∈ p0, x.block < W.heap.size := by obtain ⟨m, hm⟩ := k0; exact DataW.trod_lt m _ _ _ hm
  obtain ⟨a, len, cap, xs, rfl, hl, hbs, hL, hnone, hd⟩ := open_bytes (hval 0 27 v0 rfl rfl) h0
  have hlen : len ≤ 140737488351232 := by
    rcases hd with h | ⟨elems, sp, rfl, he⟩
    · omega
    · have := sized_slice hsz (j := 0) (t := 27) (e := 5) rfl rfl Try.underlying27
      rw [bytesU8] at this
      simp only [reachBytes] at this
      omega
  clear hA0 hval0 hsz0
  refine (wireDecodes_any a len cap xs W ⟨hl, hbs, by omega, hL⟩ hlen hnone).mono fun e W' ⟨he, bel⟩ => ?_
  subst he
  exact ⟨_, rfl, _, _, _, [], _, [], hW', trodAll_mk1 (shut_bool Try.underlying4 _), (trodAll_cons_mk (Below.trod laidOut (by kernel_rfl) (of_decide_eq_true (by kernel_rfl)) k0 bel lt0) trodAll_mk0), rfl, bel.frame _, fun h => by cases h⟩

theorem wireDecodes_holds : Rows.WireDecodesSaid :=
  OpenClaim.holds_of_wide 5 Try.f5 rfl rfl rfl rfl rfl rfl rfl ⟨rfl, rfl, rfl, rfl, rfl⟩ rfl rfl rfl rfl rfl (by kernel_rfl) Try.func5 (by kernel_rfl)
    (of_decide_eq_true (by kernel_rfl)) (by unfold Func.isWrapper; first | (rw [if_pos (by decide +kernel)]; kernel_rfl) | (rw [if_neg (by decide +kernel)]; exact ⟨rfl, rfl⟩))
    (fun os started H enc _ => wireDecodes_lifted os started H enc)

end Go.Proofs.Ytaonmcjbpfiliaa
