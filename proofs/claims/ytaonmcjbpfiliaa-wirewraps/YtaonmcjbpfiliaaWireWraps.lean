/- The law WireWraps returns true at every two numbers and every frame, and the arguments read behind the call as they read before; no condition. -/
import Derived.Test.YtaonmcjbpfiliaaOp
import Derived.Test.YtaonmcjbpfiliaaRw
import Derived.Test.YtaonmcjbpfiliaaCv
namespace Go.Proofs.Ytaonmcjbpfiliaa
open Go.ChangeShapes Go.WideShapes Go.ChangeAt Go.RowKit
set_option linter.unusedVariables false

set_option maxHeartbeats 1000000 in
theorem wireWraps_any (net tow dst src kind ips ipd ttl port : Int) (body : ByteArray) (w : World) (hb : body.size ≤ maxLen) :
    Calls Try.prog 6 #[.int .i64 net, .int .i64 tow, fr dst src kind ips ipd ttl port body] w fun e w' => e = .returned (.bool true) ∧ Below w.heap.size w w' := by
  by_cases hw : (wordB net && wordB tow) = true
  · obtain ⟨h1, h2⟩ : wordB net = true ∧ wordB tow = true := by simpa using hw
    clear hw
    by_cases hf : fault dst src kind ips ipd ttl port body.size = 0
    · go_enter Try.func6, Try.ntmps6
      go_wp2_with fail
      refine (wrap_yes _ _ _ _ _ _ _ _ _ _ _ h1 h2 hf).mono ?_
      rintro e w1 ⟨v1, rfl, ho1, hb1⟩
      obtain ⟨hc1, hf1⟩ := bcell hb1
      go_wp2_with fail
      refine (wrappedOf_yes _ _ _ _ _ _ _ _ _ _ _ h1 h2 hf).mono ?_
      rintro e w2 ⟨v2, rfl, ho2, hb2⟩
      have hlen : 0 < (wrapped net tow dst src kind ips ipd ttl port body).length := by simp [wrapped]
      generalize wrapped net tow dst src kind ips ipd ttl port body = xs at *
      obtain ⟨g1, cap1, rfl, hg1, _, hcell1⟩ := own_cells ho1 hlen
      obtain ⟨g2, cap2, rfl, hg2, _, hcell2⟩ := own_cells ho2 hlen
      have r1 := conv_own (w := w2) (cap := cap1) (fun i hi => (hb2.cell (p := ⟨g1, 0 + i, none⟩) hg1.2).trans (hcell1 i hi))
      have r2 := conv_own (w := w2) (cap := cap2) hcell2
      have hbel := (((Below.refl w.heap.size w).alloc (Nat.le_refl _) (.cells #[.int .i64 dst, .int .i64 src, .int .i64 kind, .int .i64 ips, .int .i64 ipd, .int .i64 ttl, .int .i64 port, .string body] 23)).trans (hb1.mono (by simp))).trans (hb2.mono (by have := hb1.size; simp at this; omega))
      clear ho1 ho2 hcell1 hcell2 hc1 hf1 hb1 hb2 hg1 hg2
      go_wp2_with fail
      go_ret
      exact ⟨bool_ret (by simp), hbel⟩
    · go_enter Try.func6, Try.ntmps6
      go_wp2_with fail
      refine (wrap_no _ _ _ _ _ _ _ _ _ _ _ h1 h2 hb hf).mono ?_
      rintro e w1 ⟨rfl, hb1⟩
      obtain ⟨hc1, hf1⟩ := bcell hb1
      go_wp2_with fail
      refine (wrappedOf_no _ _ _ _ _ _ _ _ _ _ _ h1 h2 hb hf).mono ?_
      rintro e w2 ⟨rfl, hb2⟩
      have r1 := conv_nil w2
      go_wp2_with fail
      go_ret
      exact ⟨bool_ret (by simp), (((Below.refl _ _).alloc (Nat.le_refl _) _).trans (hb1.mono (by simp))).trans (hb2.mono (by have := hb1.size; simp at this; omega))⟩
  · have hw' : (wordB net && wordB tow) = false := by simpa using hw
    clear hw
    have HW := hide hw'
    clear hw'
    go_enter Try.func6, Try.ntmps6
    go_wp2_with fail
    refine (wrap_far _ _ _ _ _ _ _ _ _ _ _ (unhide HW)).mono ?_
    rintro e w1 ⟨rfl, hb1⟩
    obtain ⟨hc1, hf1⟩ := bcell hb1
    go_wp2_with fail
    refine (wrappedOf_far _ _ _ _ _ _ _ _ _ _ _ (unhide HW)).mono ?_
    rintro e w2 ⟨rfl, hb2⟩
    have r1 := conv_nil w2
    go_wp2_with fail
    go_ret
    exact ⟨bool_ret (by simp), (((Below.refl _ _).alloc (Nat.le_refl _) _).trans (hb1.mono (by simp))).trans (hb2.mono (by have := hb1.size; simp at this; omega))⟩

set_option maxRecDepth 100000 in
theorem wireWraps_lifted (os : Os) (started : os.Started) (H : Type) (enc : TypeId × Value → H) :
    ReturnsInHanded {} Try.checked os 6 .any (Rows.wireWrapsSpec.pre6 enc Try.prog Try.f6 Rows.wireWrapsRow.domain false) (Rows.wireWrapsSpec.post enc Try.prog Try.f6 false true false false) := by
  refine returnsInHanded_of_change (C := Try.checked) own started (by kernel_rfl) Try.func6
    (ChangeSpec.witness6 (enc := enc) (C := Try.checked) false ⟨#[], #[.int .i64 0, .int .i64 0, fr 0 0 0 0 0 0 0 ⟨#[]⟩], []⟩ 8 (by kernel_rfl) (by kernel_rfl) (by kernel_rfl) (by kernel_rfl)) ?_
  intro W base args ds gs before hval0 hW hcnd _
  have hval : ∀ (j : Nat) t v, Try.f6.params[j]? = some t → args[j]? = some v → Value.okWide Try.prog W .any base t v := hval0
  have hW' := hW
  obtain ⟨p, q, hA0, hV, rfl, hfz, hnd⟩ := hW
  have hA : DataW.TrodAll enc Try.prog W 0 (fun _ => true) true Try.f6.params.toList args.toList ds p := hA0
  rw [Try.params6] at hA hval
  obtain ⟨v0, vs0, d0, ds0, p0, q0, hargs, rfl, rfl, h0, r0⟩ := trodAll_cons hA
  obtain ⟨v1, vs1, d1, ds1, p1, q1, rfl, rfl, rfl, h1, r1⟩ := trodAll_cons r0
  obtain ⟨v2, vs2, d2, ds2, p2, q2, rfl, rfl, rfl, h2, r2⟩ := trodAll_cons r1
  obtain ⟨rfl, rfl, rfl⟩ := trodAll_nil r2
  obtain rfl : args = #[v0, v1, v2] := by cases args; simp_all
  obtain ⟨rfl, rfl⟩ := trodVars_none hV
  have k2 := h2
  have lt2 : ∀ x ∈ p2, x.block < W.heap.size := by obtain ⟨m, hm⟩ := k2; exact DataW.trod_lt m _ _ _ hm
  obtain ⟨net, rfl, rfl, rfl, wn⟩ := open_int Try.underlying3 (hval 0 3 v0 rfl rfl) h0
  obtain ⟨tow, rfl, rfl, rfl, wt⟩ := open_int Try.underlying3 (hval 1 3 v1 rfl rfl) h1
  obtain ⟨dst, src, kind, ips, ipd, ttl, port, body, rfl, hb, _⟩ := open_frame (hval 2 23 v2 rfl rfl) h2
  clear hA0 hval0
  refine (wireWraps_any net tow dst src kind ips ipd ttl port body W hb).mono fun e W' ⟨he, bel⟩ => ?_
  subst he
  exact ⟨_, rfl, _, _, _, [], _, [], hW', trodAll_mk1 (shut_bool Try.underlying4 _), (trodAll_cons_mk (shut_int Try.underlying3 wn) (trodAll_cons_mk (shut_int Try.underlying3 wt) (trodAll_cons_mk (Below.trod laidOut (by kernel_rfl) (of_decide_eq_true (by kernel_rfl)) k2 bel lt2) trodAll_mk0))), rfl, bel.frame _, fun h => by cases h⟩

theorem wireWraps_holds : Rows.WireWrapsSaid :=
  OpenClaim.holds_of_wide 6 Try.f6 rfl rfl rfl rfl rfl rfl rfl ⟨rfl, rfl, rfl, rfl, rfl⟩ rfl rfl rfl rfl rfl (by kernel_rfl) Try.func6 (by kernel_rfl)
    (of_decide_eq_true (by kernel_rfl)) (by unfold Func.isWrapper; first | (rw [if_pos (by decide +kernel)]; kernel_rfl) | (rw [if_neg (by decide +kernel)]; exact ⟨rfl, rfl⟩))
    (fun os started H enc _ => wireWraps_lifted os started H enc)

end Go.Proofs.Ytaonmcjbpfiliaa
