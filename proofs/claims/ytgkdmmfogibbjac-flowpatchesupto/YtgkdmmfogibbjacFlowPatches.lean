/-
  FlowPatches: flow.Patch answers what P2.4 says, at every three lists of flows (the second form: what came in is of bulk at most 2^20).
-/
import Derived.Test.YtgkdmmfogibbjacOb
import Derived.Test.YtgkdmmfogibbjacPu
import Derived.JoinedCond
import Derived.SizedLaws
namespace Go.Proofs.Ytgkdmmfogibbjac
open Go.ChangeShapes Go.WideShapes Go.ChangeAt Go.RowKit
set_option linter.unusedVariables false
set_option maxRecDepth 100000

set_option maxHeartbeats 2000000 in
theorem flowPatches_any (vl vc vg : Value) (ls cs gs : List Fl) (w : World) (hL : FsAt w vl ls) (hC : FsAt w vc cs) (hG : FsAt w vg gs) (fl : Few ls) (fc : Few cs) (fg : Few gs) (hsum : ls.length + cs.length ≤ 2000000) :
    Calls Try.prog 4 #[vl, vc, vg] w fun e w' => e = .returned (.bool true) ∧ Below w.heap.size w w' := by
  have HL := hide hL
  have HC := hide hC
  have HG := hide hG
  have HFL := hide fl
  have HFC := hide fc
  have HFG := hide fg
  have HEQ : Hid (srt (srt (lft ls gs) (lft ls gs).length ++ cs) (srt (lft ls gs) (lft ls gs).length ++ cs).length = srt (lft ls gs ++ cs) (lft ls gs ++ cs).length) := hide (srt_same fun x => by rw [List.mem_append, List.mem_append, srt_in])
  have HFW : Hid (Few (srt (lft ls gs ++ cs) (lft ls gs ++ cs).length)) := by
    refine hide (Few.srt ⟨?_, fun f hf => ?_⟩)
    · have := lft_length ls gs
      rw [List.length_append]; omega
    · rcases List.mem_append.1 hf with h | h
      · exact fl.2 f (lft_mem h)
      · exact fc.2 f h
  obtain ⟨a, cap, rfl⟩ := fs_slice hL
  obtain ⟨a2, cap2, rfl⟩ := fs_slice hC
  obtain ⟨a3, cap3, rfl⟩ := fs_slice hG
  clear hL hC hG fl fc fg
  go_enter Try.func4, Try.ntmps4
  go_wp2_with fail
  refine (patch_any _ _ _ ls cs gs _ HL.out HC.out HG.out HFL.out HFC.out HFG.out hsum).mono ?_
  rintro e w1 ⟨u, rfl, hu, hb1⟩
  have HU := hide hu
  obtain ⟨p1, c1, hv1⟩ := fs_slice hu
  obtain ⟨N, hN⟩ : ∃ N, N = (srt (lft ls gs ++ cs) (lft ls gs ++ cs).length).length := ⟨_, rfl⟩
  rw [← hN] at hv1
  subst hv1
  have HN := hide hN
  clear hu hN
  go_wp2_with fail
  refine (patchedOf_any _ _ _ ls cs gs _ (HL.out.below hb1 (Nat.le_refl _)) (HC.out.below hb1 (Nat.le_refl _)) (HG.out.below hb1 (Nat.le_refl _)) HFL.out HFC.out HFG.out hsum).mono ?_
  rintro e w2 ⟨v, rfl, hv, hb2⟩
  rw [HEQ.out] at hv
  have HV := hide hv
  obtain ⟨p2, c2, hv2⟩ := fs_slice hv
  rw [← HN.out] at hv2
  subst hv2
  have HU2 := hide (HU.out.below hb2 (Nat.le_refl _))
  have HB2 := hide (hb1.trans (hb2.mono hb1.size))
  have HK := hide (sameFls_any _ _ _ _ HU2.out HV.out HFW.out.1 HFW.out.2)
  clear hv hb1 hb2 HU
  go_wp2_with fail
  refine (unhide HK).mono ?_
  rintro e w3 ⟨rfl, n3, hw3⟩
  have HB3 : Hid (Below w.heap.size w w3) := by rw [hw3]; exact hide (HB2.out.trans ⟨rfl, rfl, rfl, Nat.le_refl _, fun _ _ => rfl⟩)
  clear hw3
  go_wp2_with fail
  go_ret
  exact ⟨rfl, HB3.out⟩

theorem few_of {H : Type} {d : DataW H} {fs : List Fl} (hb : fs.length ≤ Rows.uptoBulk d ∧ ∀ f ∈ fs, f.ms.length ≤ Rows.uptoBulk d ∧ f.ds.length ≤ Rows.uptoBulk d) (h : Rows.uptoBulk d ≤ 1048576) : Few fs :=
  ⟨by omega, fun f hf => ⟨by have := (hb.2 f hf).1; omega, by have := (hb.2 f hf).2; omega⟩⟩
theorem bulk_three_flows {H : Type} {d e f : DataW H} (hk : Rows.uptoSmall H [d, e, f] = true) : Rows.uptoBulk d + Rows.uptoBulk e + Rows.uptoBulk f ≤ 1048576 := by
  have h : Rows.uptoBulkAll [d, e, f] ≤ 1048576 := of_decide_eq_true hk
  simp only [Rows.uptoBulkAll] at h
  omega

theorem flowPatches_contract (H : Type) (enc : TypeId × Value → H) (W : World) (base : Nat) (args : Array Value) (ds gs : List (DataW H)) (before : List MemPlace)
    (hval : ∀ (j : Nat) t v, Try.f4.params[j]? = some t → args[j]? = some v → Value.okWide Try.prog W .any base t v)
    (hW : DataW.Whole enc Try.prog Try.f4.params.toList Rows.flowPatchesSpec.vars false W args.toList ds gs before) (hk : Rows.uptoSmall H (ds ++ gs) = true) :
    Calls Try.prog 4 args W fun e W' => ∃ v, e = .returned v ∧ Rows.flowPatchesSpec.post enc Try.prog Try.f4 false true false false W args v W' := by
  have hW' := hW
  obtain ⟨p, q, hA0, hV, rfl, hfz, hnd⟩ := hW
  have hA : DataW.TrodAll enc Try.prog W 0 (fun _ => true) true Try.f4.params.toList args.toList ds p := hA0
  rw [Try.params4] at hA hval
  obtain ⟨v0, vs0, d0, ds0, p0, q0, hargs, rfl, rfl, h0, r0⟩ := trodAll_cons hA
  obtain ⟨v1, vs1, d1, ds1, p1, q1, rfl, rfl, rfl, h1, r1⟩ := trodAll_cons r0
  obtain ⟨v2, vs2, d2, ds2, p2, q2, rfl, rfl, rfl, h2, r2⟩ := trodAll_cons r1
  obtain ⟨rfl, rfl, rfl⟩ := trodAll_nil r2
  obtain rfl : args = #[v0, v1, v2] := by cases args; simp_all
  obtain ⟨rfl, rfl⟩ := trodVars_none hV
  have k0 := h0
  have k1 := h1
  have k2 := h2
  have lt0 : ∀ x ∈ p0, x.block < W.heap.size := by obtain ⟨m, hm⟩ := k0; exact DataW.trod_lt m _ _ _ hm
  have lt1 : ∀ x ∈ p1, x.block < W.heap.size := by obtain ⟨m, hm⟩ := k1; exact DataW.trod_lt m _ _ _ hm
  have lt2 : ∀ x ∈ p2, x.block < W.heap.size := by obtain ⟨m, hm⟩ := k2; exact DataW.trod_lt m _ _ _ hm
  obtain ⟨xs, hX, _⟩ := open_flows (hval 0 22 v0 rfl rfl) h0
  obtain ⟨ys, hY, _⟩ := open_flows (hval 1 22 v1 rfl rfl) h1
  obtain ⟨zs, hZ, _⟩ := open_flows (hval 2 22 v2 rfl rfl) h2
  have hbx := bulk_flows hX h0
  have hby := bulk_flows hY h1
  have hbz := bulk_flows hZ h2
  simp only [List.append_nil] at hk
  have hB := bulk_three_flows hk
  clear hA0
  refine (flowPatches_any v0 v1 v2 xs ys zs W hX hY hZ (few_of hbx (by omega)) (few_of hby (by omega)) (few_of hbz (by omega)) (by have := hbx.1; have := hby.1; omega)).mono fun e W' ⟨he, bel⟩ => ?_
  subst he
  exact ⟨_, rfl, _, _, _, [], _, [], hW', trodAll_mk1 (shut_bool Try.underlying4 _), (trodAll_cons_mk (Below.trod laidOut (by kernel_rfl) (of_decide_eq_true (by kernel_rfl)) k0 bel lt0) (trodAll_cons_mk (Below.trod laidOut (by kernel_rfl) (of_decide_eq_true (by kernel_rfl)) k1 bel lt1) (trodAll_cons_mk (Below.trod laidOut (by kernel_rfl) (of_decide_eq_true (by kernel_rfl)) k2 bel lt2) trodAll_mk0))), rfl, bel.frame _, fun h => by cases h⟩

set_option maxRecDepth 100000 in
theorem flowPatches_lifted (os : Os) (started : os.Started) (H : Type) (enc : TypeId × Value → H) (F : Stop.Interp) :
    ReturnsInHanded {} Try.checked os 4 .any ((Rows.OpenSpec.upto Rows.flowPatchesSpec).pre6 enc Try.prog Try.f4 Rows.flowPatchesUptoRow.domain false) (((Rows.OpenSpec.upto Rows.flowPatchesSpec).at F).post enc Try.prog Try.f4 false true false false) := by
  refine returnsInHanded_of_cond (C := Try.checked) (s := Rows.OpenSpec.upto Rows.flowPatchesSpec) (k := Rows.uptoSmall) rfl own started (by kernel_rfl) Try.func4
    (OpenSpec.witness (enc := enc) (C := Try.checked) (s := Rows.OpenSpec.upto Rows.flowPatchesSpec) (k := Rows.uptoSmall) rfl false ⟨#[], #[.slice none 0 0, .slice none 0 0, .slice none 0 0], []⟩ 8 (by kernel_rfl) (by kernel_rfl) (by kernel_rfl)
      (x := ([.nil, .nil, .nil], [], [])) (by kernel_rfl) rfl (by kernel_rfl)) ?_
  intro W base args ds gs before hval hW _ hk _
  exact flowPatches_contract H enc W base args ds gs before hval hW hk

theorem flowPatchesUpto : Rows.FlowPatchesUptoSaid :=
  OpenClaim.holds_of_cond 4 Try.f4 rfl rfl rfl rfl rfl rfl rfl ⟨rfl, rfl, rfl, rfl, rfl⟩ rfl rfl rfl rfl rfl (by kernel_rfl) Try.func4 (by kernel_rfl)
    (of_decide_eq_true (by kernel_rfl)) (by unfold Func.isWrapper; first | (rw [if_pos (by decide +kernel)]; kernel_rfl) | (rw [if_neg (by decide +kernel)]; exact ⟨rfl, rfl⟩))
    (fun os started H enc _ F => flowPatches_lifted os started H enc F)

end Go.Proofs.Ytgkdmmfogibbjac
