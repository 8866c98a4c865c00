/-
  FlowDiffs: flow.Diff answers what P2.4 says, at every two lists of flows (the second form: what came in is of bulk at most 2^20).
-/
import Derived.Test.YtgkdmmfogibbjacOb
import Derived.Test.YtgkdmmfogibbjacDf
import Derived.JoinedCond
import Derived.SizedLaws
namespace Go.Proofs.Ytgkdmmfogibbjac
open Go.ChangeShapes Go.WideShapes Go.ChangeAt Go.RowKit
set_option linter.unusedVariables false
set_option maxRecDepth 100000

theorem below_drewN (w : World) (n B : Nat) : Below B w (w.drewN n) := ⟨rfl, rfl, rfl, Nat.le_refl _, fun _ _ => rfl⟩

set_option maxHeartbeats 2000000 in
theorem flowDiffs_any (va vb : Value) (xs ys : List Fl) (w : World) (hA : FsAt w va xs) (hB : FsAt w vb ys) (hx : Few xs) (hy : Few ys) :
    Calls Try.prog 3 #[va, vb] w fun e w' => e = .returned (.bool true) ∧ Below w.heap.size w w' := by
  have HA := hide hA
  have HB := hide hB
  have HX := hide hx
  have HY := hide hy
  obtain ⟨a, cap, rfl⟩ := fs_slice hA
  obtain ⟨a2, cap2, rfl⟩ := fs_slice hB
  clear hA hB hx hy
  go_enter Try.func3, Try.ntmps3
  go_wp2_with fail
  refine (diff_any _ _ xs ys _ HA.out HB.out HX.out HY.out).mono ?_
  rintro e w1 ⟨u, v, rfl, hu, hv, hb1⟩
  have HU := hide hu
  have HV := hide hv
  obtain ⟨p1, c1, rfl⟩ := fs_slice hu
  obtain ⟨p2, c2, rfl⟩ := fs_slice hv
  clear hu hv
  go_wp2_with fail
  refine (leftF_any _ _ ys xs _ (HB.out.below hb1 (Nat.le_refl _)) (HA.out.below hb1 (Nat.le_refl _)) HY.out HX.out).mono ?_
  rintro e w2 ⟨z, rfl, hz, hb2⟩
  have HZ := hide hz
  obtain ⟨p3, c3, rfl⟩ := fs_slice hz
  have hb02 := hb1.trans (hb2.mono hb1.size)
  have HU2 := hide (HU.out.below hb2 (Nat.le_refl _))
  have HV2 := hide (HV.out.below hb2 (Nat.le_refl _))
  clear hz HU HV hb1 hb2
  go_wp2_with fail
  refine (leftF_any _ _ xs ys _ (HA.out.below hb02 (Nat.le_refl _)) (HB.out.below hb02 (Nat.le_refl _)) HX.out HY.out).mono ?_
  rintro e w3 ⟨y, rfl, hyy, hb3⟩
  have HYY := hide hyy
  obtain ⟨p4, c4, rfl⟩ := fs_slice hyy
  have hb03 := hb02.trans (hb3.mono hb02.size)
  have HU3 := hide (HU2.out.below hb3 (Nat.le_refl _))
  have HV3 := hide (HV2.out.below hb3 (Nat.le_refl _))
  have HZ3 := hide (HZ.out.below hb3 (Nat.le_refl _))
  have HB3 := hide hb03
  clear hyy HU2 HV2 HZ hb02 hb3 hb03
  have HK : Hid (∀ W : World, Below w3.heap.size w3 W → Calls Try.prog 10 #[.slice p1 (srt (lft ys xs) (lft ys xs).length).length c1, .slice p3 (srt (lft ys xs) (lft ys xs).length).length c3] W fun e w' => e = .returned (.bool true) ∧ ∃ n', w' = W.drewN n') := fun W hW =>
    sameFls_any _ _ _ _ (HU3.out.below hW (Nat.le_refl _)) (HZ3.out.below hW (Nat.le_refl _)) HY.out.lft.srt.1 HY.out.lft.srt.2
  have HK2 : Hid (∀ W : World, Below w3.heap.size w3 W → Calls Try.prog 10 #[.slice p2 (srt (lft xs ys) (lft xs ys).length).length c2, .slice p4 (srt (lft xs ys) (lft xs ys).length).length c4] W fun e w' => e = .returned (.bool true) ∧ ∃ n', w' = W.drewN n') := fun W hW =>
    sameFls_any _ _ _ _ (HV3.out.below hW (Nat.le_refl _)) (HYY.out.below hW (Nat.le_refl _)) HX.out.lft.srt.1 HX.out.lft.srt.2
  generalize (srt (lft ys xs) (lft ys xs).length).length = n1 at *
  generalize (srt (lft xs ys) (lft xs ys).length).length = n2 at *
  go_wp2_with fail
  refine (unhide HK _ (Below.refl _ _)).mono ?_
  rintro e w4 ⟨rfl, n4, hw4⟩
  have hb4 : Below w3.heap.size w3 w4 := by rw [hw4]; exact below_drewN _ _ _
  clear hw4
  go_wp2_with fail
  refine (unhide HK2 _ hb4).mono ?_
  rintro e w5 ⟨rfl, n5, hw5⟩
  have hb5 : Below w3.heap.size w3 w5 := by rw [hw5]; exact hb4.trans (below_drewN _ _ _)
  have HB5 := hide (HB3.out.trans (hb5.mono HB3.out.size))
  clear hw5 hb4 hb5
  go_wp2_with fail
  go_ret
  exact ⟨rfl, HB5.out⟩

theorem bulk_two_flows {H : Type} {d e : DataW H} (hk : Rows.uptoSmall H [d, e] = true) : Rows.uptoBulk d ≤ 1048576 ∧ Rows.uptoBulk e ≤ 1048576 := by
  have h : Rows.uptoBulkAll [d, e] ≤ 1048576 := of_decide_eq_true hk
  simp only [Rows.uptoBulkAll] at h
  omega
theorem few_of {H : Type} {d : DataW H} {fs : List Fl} (hb : fs.length ≤ Rows.uptoBulk d ∧ ∀ f ∈ fs, f.ms.length ≤ Rows.uptoBulk d ∧ f.ds.length ≤ Rows.uptoBulk d) (h : Rows.uptoBulk d ≤ 1048576) : Few fs :=
  ⟨by omega, fun f hf => ⟨by have := (hb.2 f hf).1; omega, by have := (hb.2 f hf).2; omega⟩⟩

theorem flowDiffs_contract (H : Type) (enc : TypeId × Value → H) (W : World) (base : Nat) (args : Array Value) (ds gs : List (DataW H)) (before : List MemPlace)
    (hval : ∀ (j : Nat) t v, Try.f3.params[j]? = some t → args[j]? = some v → Value.okWide Try.prog W .any base t v)
    (hW : DataW.Whole enc Try.prog Try.f3.params.toList Rows.flowDiffsSpec.vars false W args.toList ds gs before) (hk : Rows.uptoSmall H (ds ++ gs) = true) :
    Calls Try.prog 3 args W fun e W' => ∃ v, e = .returned v ∧ Rows.flowDiffsSpec.post enc Try.prog Try.f3 false true false false W args v W' := by
  have hW' := hW
  obtain ⟨p, q, hA0, hV, rfl, hfz, hnd⟩ := hW
  have hA : DataW.TrodAll enc Try.prog W 0 (fun _ => true) true Try.f3.params.toList args.toList ds p := hA0
  rw [Try.params3] at hA hval
  obtain ⟨v0, vs0, d0, ds0, p0, q0, hargs, rfl, rfl, h0, r0⟩ := trodAll_cons hA
  obtain ⟨v1, vs1, d1, ds1, p1, q1, rfl, rfl, rfl, h1, r1⟩ := trodAll_cons r0
  obtain ⟨rfl, rfl, rfl⟩ := trodAll_nil r1
  obtain rfl : args = #[v0, v1] := by cases args; simp_all
  obtain ⟨rfl, rfl⟩ := trodVars_none hV
  have k0 := h0
  have k1 := h1
  have lt0 : ∀ x ∈ p0, x.block < W.heap.size := by obtain ⟨m, hm⟩ := k0; exact DataW.trod_lt m _ _ _ hm
  have lt1 : ∀ x ∈ p1, x.block < W.heap.size := by obtain ⟨m, hm⟩ := k1; exact DataW.trod_lt m _ _ _ hm
  obtain ⟨xs, hX, _⟩ := open_flows (hval 0 22 v0 rfl rfl) h0
  obtain ⟨ys, hY, _⟩ := open_flows (hval 1 22 v1 rfl rfl) h1
  have hbx := bulk_flows hX h0
  have hby := bulk_flows hY h1
  simp only [List.append_nil] at hk
  obtain ⟨hB0, hB1⟩ := bulk_two_flows hk
  clear hA0
  refine (flowDiffs_any v0 v1 xs ys W hX hY (few_of hbx hB0) (few_of hby hB1)).mono fun e W' ⟨he, bel⟩ => ?_
  subst he
  exact ⟨_, rfl, _, _, _, [], _, [], hW', trodAll_mk1 (shut_bool Try.underlying4 _), (trodAll_cons_mk (Below.trod laidOut (by kernel_rfl) (of_decide_eq_true (by kernel_rfl)) k0 bel lt0) (trodAll_cons_mk (Below.trod laidOut (by kernel_rfl) (of_decide_eq_true (by kernel_rfl)) k1 bel lt1) trodAll_mk0)), rfl, bel.frame _, fun h => by cases h⟩

set_option maxRecDepth 100000 in
theorem flowDiffs_lifted (os : Os) (started : os.Started) (H : Type) (enc : TypeId × Value → H) (F : Stop.Interp) :
    ReturnsInHanded {} Try.checked os 3 .any ((Rows.OpenSpec.upto Rows.flowDiffsSpec).pre6 enc Try.prog Try.f3 Rows.flowDiffsUptoRow.domain false) (((Rows.OpenSpec.upto Rows.flowDiffsSpec).at F).post enc Try.prog Try.f3 false true false false) := by
  refine returnsInHanded_of_cond (C := Try.checked) (s := Rows.OpenSpec.upto Rows.flowDiffsSpec) (k := Rows.uptoSmall) rfl own started (by kernel_rfl) Try.func3
    (OpenSpec.witness (enc := enc) (C := Try.checked) (s := Rows.OpenSpec.upto Rows.flowDiffsSpec) (k := Rows.uptoSmall) rfl false ⟨#[], #[.slice none 0 0, .slice none 0 0], []⟩ 8 (by kernel_rfl) (by kernel_rfl) (by kernel_rfl)
      (x := ([.nil, .nil], [], [])) (by kernel_rfl) rfl (by kernel_rfl)) ?_
  intro W base args ds gs before hval hW _ hk _
  exact flowDiffs_contract H enc W base args ds gs before hval hW hk

theorem flowDiffsUpto : Rows.FlowDiffsUptoSaid :=
  OpenClaim.holds_of_cond 3 Try.f3 rfl rfl rfl rfl rfl rfl rfl ⟨rfl, rfl, rfl, rfl, rfl⟩ rfl rfl rfl rfl rfl (by kernel_rfl) Try.func3 (by kernel_rfl)
    (of_decide_eq_true (by kernel_rfl)) (by unfold Func.isWrapper; first | (rw [if_pos (by decide +kernel)]; kernel_rfl) | (rw [if_neg (by decide +kernel)]; exact ⟨rfl, rfl⟩))
    (fun os started H enc _ F => flowDiffs_lifted os started H enc F)

end Go.Proofs.Ytgkdmmfogibbjac
