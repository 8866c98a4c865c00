/- The law WireEncodes returns true at every frame, and the frame reads behind the call as it read before; no condition. -/
import Derived.Test.YtaonmcjbpfiliaaOp
import Derived.Test.YtaonmcjbpfiliaaRb
namespace Go.Proofs.Ytaonmcjbpfiliaa
open Go.ChangeShapes Go.WideShapes Go.ChangeAt Go.RowKit
set_option linter.unusedVariables false

/-- 'string(b)' of a slice that owns bytes. -/
theorem conv_own {w : World} {g cap : Nat} {xs : List Int} (hcell : ∀ i, i < xs.length → w.cell? ⟨g, 0 + i, none⟩ = some (.int .u8 (xs.getD i 0))) :
    (convert 27 9 (.slice (some ⟨g, 0, none⟩) xs.length cap)).run Try.prog w = .ok (.string (strOfNums xs)) w :=
  run_convert_bytes_arg w 27 5 Try.underlying27 Try.underlying5 g 0 xs.length cap xs rfl hcell 9 Try.underlying9

theorem conv_nil (w : World) : (convert 27 9 (.slice none 0 0)).run Try.prog w = .ok (.string ByteArray.empty) w :=
  run_convert_bytes_nil w 27 5 Try.underlying27 Try.underlying5 0 0 9 Try.underlying9

set_option maxHeartbeats 1000000 in
theorem wireEncodes_any (dst src kind ips ipd ttl port : Int) (body : ByteArray) (w : World) (hb : body.size ≤ maxLen) :
    Calls Try.prog 4 #[fr dst src kind ips ipd ttl port body] w fun e w' => e = .returned (.bool true) ∧ Below w.heap.size w w' := by
  by_cases hf : fault dst src kind ips ipd ttl port body.size = 0
  · go_enter Try.func4, Try.ntmps4
    go_wp2_with fail
    refine (encode_yes _ _ _ _ _ _ _ _ _ hf).mono ?_
    rintro e w1 ⟨v1, rfl, ho1, hb1⟩
    obtain ⟨hc1, hf1⟩ := bcell hb1
    go_wp2_with fail
    refine (frameBytes_yes _ _ _ _ _ _ _ _ _ hf).mono ?_
    rintro e w2 ⟨v2, rfl, ho2, hb2⟩
    have hlen : 0 < (enc dst src kind ips ipd ttl port body).length := by unfold enc; rw [List.length_append, enc0_length]; omega
    generalize enc dst src kind ips ipd ttl port body = xs at *
    obtain ⟨g1, cap1, rfl, hg1, _, hcell1⟩ := own_cells ho1 hlen
    obtain ⟨g2, cap2, rfl, hg2, _, hcell2⟩ := own_cells ho2 hlen
    have r1 := conv_own (w := w2) (cap := cap1) (fun i hi => (hb2.cell (p := ⟨g1, 0 + i, none⟩) hg1.2).trans (hcell1 i hi))
    have r2 := conv_own (w := w2) (cap := cap2) hcell2
    have hbel := (((Below.refl w.heap.size w).alloc (Nat.le_refl _) (.cells #[.int .i64 dst, .int .i64 src, .int .i64 kind, .int .i64 ips, .int .i64 ipd, .int .i64 ttl, .int .i64 port, .string body] 23)).trans (hb1.mono (by simp))).trans (hb2.mono (by have := hb1.size; simp at this; omega))
    clear ho1 ho2 hcell1 hcell2 hc1 hf1 hb1 hb2 hg1 hg2
    go_wp2_with fail
    go_ret
    exact ⟨bool_ret (by simp), hbel⟩
  · go_enter Try.func4, Try.ntmps4
    go_wp2_with fail
    refine (encode_no _ _ _ _ _ _ _ _ _ hb hf).mono ?_
    rintro e w1 ⟨rfl, hb1⟩
    obtain ⟨hc1, hf1⟩ := bcell hb1
    go_wp2_with fail
    refine (frameBytes_no _ _ _ _ _ _ _ _ _ hb hf).mono ?_
    rintro e w2 ⟨rfl, hb2⟩
    have r1 := conv_nil w2
    go_wp2_with fail
    go_ret
    exact ⟨bool_ret (by simp), (((Below.refl _ _).alloc (Nat.le_refl _) _).trans (hb1.mono (by simp))).trans (hb2.mono (by have := hb1.size; simp at this; omega))⟩

set_option maxRecDepth 100000 in
theorem wireEncodes_lifted (os : Os) (started : os.Started) (H : Type) (enc : TypeId × Value → H) :
    ReturnsInHanded {} Try.checked os 4 .any (Rows.wireEncodesSpec.pre6 enc Try.prog Try.f4 Rows.wireEncodesRow.domain false) (Rows.wireEncodesSpec.post enc Try.prog Try.f4 false true false false) := by
  refine returnsInHanded_of_change (C := Try.checked) own started (by kernel_rfl) Try.func4
    (ChangeSpec.witness6 (enc := enc) (C := Try.checked) false ⟨#[], #[fr 0 0 0 0 0 0 0 ⟨#[]⟩], []⟩ 8 (by kernel_rfl) (by kernel_rfl) (by kernel_rfl) (by kernel_rfl)) ?_
  intro W base args ds gs before hval0 hW hcnd _
  have hval : ∀ (j : Nat) t v, Try.f4.params[j]? = some t → args[j]? = some v → Value.okWide Try.prog W .any base t v := hval0
  have hW' := hW
  obtain ⟨p, q, hA0, hV, rfl, hfz, hnd⟩ := hW
  have hA : DataW.TrodAll enc Try.prog W 0 (fun _ => true) true Try.f4.params.toList args.toList ds p := hA0
  rw [Try.params4] at hA hval
  obtain ⟨v0, vs0, d0, ds0, p0, q0, hargs, rfl, rfl, h0, r0⟩ := trodAll_cons hA
  obtain ⟨rfl, rfl, rfl⟩ := trodAll_nil r0
  obtain rfl : args = #[v0] := by cases args; simp_all
  obtain ⟨rfl, rfl⟩ := trodVars_none hV
  have k0 := h0
  have lt0 : ∀ x ∈ p0, x.block < W.heap.size := by obtain ⟨m, hm⟩ := k0; exact DataW.trod_lt m _ _ _ hm
  obtain ⟨dst, src, kind, ips, ipd, ttl, port, body, rfl, hb, _⟩ := open_frame (hval 0 23 v0 rfl rfl) h0
  clear hA0 hval0
  refine (wireEncodes_any dst src kind ips ipd ttl port body W hb).mono fun e W' ⟨he, bel⟩ => ?_
  subst he
  exact ⟨_, rfl, _, _, _, [], _, [], hW', trodAll_mk1 (shut_bool Try.underlying4 _), (trodAll_cons_mk (Below.trod laidOut (by kernel_rfl) (of_decide_eq_true (by kernel_rfl)) k0 bel lt0) trodAll_mk0), rfl, bel.frame _, fun h => by cases h⟩

theorem wireEncodes_holds : Rows.WireEncodesSaid :=
  OpenClaim.holds_of_wide 4 Try.f4 rfl rfl rfl rfl rfl rfl rfl ⟨rfl, rfl, rfl, rfl, rfl⟩ rfl rfl rfl rfl rfl (by kernel_rfl) Try.func4 (by kernel_rfl)
    (of_decide_eq_true (by kernel_rfl)) (by unfold Func.isWrapper; first | (rw [if_pos (by decide +kernel)]; kernel_rfl) | (rw [if_neg (by decide +kernel)]; exact ⟨rfl, rfl⟩))
    (fun os started H enc _ => wireEncodes_lifted os started H enc)

end Go.Proofs.Ytaonmcjbpfiliaa
