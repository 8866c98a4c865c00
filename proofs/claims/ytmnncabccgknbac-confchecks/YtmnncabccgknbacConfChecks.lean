/-
  ConfChecks: conf.Check answers what P3.4 says, at whatever is wanted: the law returns true. No condition.
-/
import Derived.Test.YtmnncabccgknbacRcm
import Derived.Test.YtmnncabccgknbacOcf
namespace Go.Proofs.Ytmnncabccgknbac
open Go.ChangeShapes Go.WideShapes Go.ChangeAt Go.RowKit
set_option linter.unusedVariables false
set_option maxRecDepth 100000

set_option maxHeartbeats 1000000 in
theorem confChecks_any (sv pv av : Value) (S : List Sw) (P : List Pr) (A : List Ac) (w : World) (hC : CfAt w sv pv av S P A) (h1 : S.length * 24 ≤ 140737488355328) (h2 : P.length * 40 ≤ 140737488355328) (h3 : A.length * 72 ≤ 140737488355328) :
    Calls Try.prog 8 #[.agg #[sv, pv, av]] w fun e w' => e = .returned (.bool true) ∧ Below w.heap.size w w' := by
  have HK := hide (fun W (hW : Below w.heap.size w W) => confCheck_any sv pv av S P A W (hC.below hW (Nat.le_refl _)) h1 h2 h3)
  have HQ := hide (fun W (hW : Below w.heap.size w W) => confMay_any sv pv av S P A W (hC.below hW (Nat.le_refl _)) h1 h2 h3)
  obtain ⟨E, hE⟩ : ∃ E : Int, E = if may S P A = true then 0 else 8 := ⟨_, rfl⟩
  rw [← hE] at HK
  have HE := hide hE
  clear hE
  generalize may S P A = R at *
  obtain ⟨s1, s2, rfl⟩ := hC.1.slice
  obtain ⟨p1, p2, rfl⟩ := hC.2.1.slice
  obtain ⟨a1, a2, rfl⟩ := hC.2.2.slice
  clear hC h1 h2 h3
  go_enter Try.func8, Try.ntmps8
  go_wp2_with fail
  have hb0 : Below w.heap.size w (w.alloc (.cells #[.slice s1 S.length s2, .slice p1 P.length p2, .slice a1 A.length a2] 59)) := (Below.refl _ _).alloc (Nat.le_refl _) _
  refine (unhide HK _ hb0).mono ?_
  rintro e w1 ⟨rfl, hb1⟩
  have hb01 := hb0.trans (hb1.mono hb0.size)
  have z0 : w1.cell? ⟨w.heap.size, 0, none⟩ = some (.slice s1 S.length s2) := cell_beh (new_cell w _ rfl _ _ _ _ rfl) hb1 (Nat.le_refl _)
  have z1 : w1.cell? ⟨w.heap.size, 1, none⟩ = some (.slice p1 P.length p2) := cell_beh (new_cell w _ rfl _ _ _ _ rfl) hb1 (Nat.le_refl _)
  have z2 : w1.cell? ⟨w.heap.size, 2, none⟩ = some (.slice a1 A.length a2) := cell_beh (new_cell w _ rfl _ _ _ _ rfl) hb1 (Nat.le_refl _)
  clear hb0 hb1 HK
  go_wp2_with fail
  refine (unhide HQ _ hb01).mono ?_
  rintro e w2 ⟨rfl, hb2⟩
  have hb := hb01.trans (hb2.mono hb01.size)
  clear z0 z1 z2 hb01 hb2 HQ
  cases R
  · obtain rfl : E = 8 := HE.out
    go_wp2_with fail
    go_ret
    exact ⟨rfl, hb⟩
  · obtain rfl : E = 0 := HE.out
    go_wp2_with fail
    go_ret
    exact ⟨rfl, hb⟩

set_option maxRecDepth 100000 in
theorem confChecks_lifted (os : Os) (started : os.Started) (H : Type) (enc : TypeId × Value → H) :
    ReturnsInHanded {} Try.checked os 8 .any (Rows.confChecksSpec.pre6 enc Try.prog Try.f8 Rows.confChecksRow.domain false) (Rows.confChecksSpec.post enc Try.prog Try.f8 false true false false) := by
  refine returnsInHanded_of_change_sized (C := Try.checked) own started (by kernel_rfl) Try.func8
    (ChangeSpec.witness6 (enc := enc) (C := Try.checked) false ⟨#[], #[.agg #[.slice none 0 0, .slice none 0 0, .slice none 0 0]], []⟩ 8 (by kernel_rfl) (by kernel_rfl) (by kernel_rfl) (by kernel_rfl)) ?_
  intro W base args ds gs before hval0 hW hcnd hsz0 _
  have hval : ∀ (j : Nat) t v, Try.f8.params[j]? = some t → args[j]? = some v → Value.okWide Try.prog W .any base t v := hval0
  have hsz : (DataW.weightsEach Try.prog (Try.f8.params.toList ++ Rows.confChecksSpec.plain.varTypes Try.prog) (ds ++ gs)).all (· ≤ reachBytes) = true := hsz0
  have hW' := hW
  obtain ⟨p, q, hA0, hV, rfl, hfz, hnd⟩ := hW
  have hA : DataW.TrodAll enc Try.prog W 0 (fun _ => true) true Try.f8.params.toList args.toList ds p := hA0
  rw [Try.params8] at hA hval hsz
  obtain ⟨v0, vs0, d0, ds0, p0, q0, hargs, rfl, rfl, h0, r0⟩ := trodAll_cons hA
  obtain ⟨rfl, rfl, rfl⟩ := trodAll_nil r0
  obtain rfl : args = #[v0] := by cases args; simp_all
  obtain ⟨rfl, rfl⟩ := trodVars_none hV
  have k0 := h0
  have lt0 : ∀ x ∈ p0, x.block < W.heap.size := by obtain ⟨m, hm⟩ := k0; exact DataW.trod_lt m _ _ _ hm
  obtain ⟨sv, pv, av, S, P, A, rfl, hC, hbd⟩ := open_conf (hval 0 59 v0 rfl rfl) h0
  obtain ⟨b1, b2, b3⟩ := hbd (weights_one hsz (j := 0) rfl rfl)
  clear hA0 hval0 hsz0
  refine (confChecks_any sv pv av S P A W hC b1 b2 b3).mono fun e W' ⟨he, bel⟩ => ?_
  subst he
  exact ⟨_, rfl, _, _, _, [], _, [], hW', trodAll_mk1 (shut_bool Try.underlying4 _), (trodAll_cons_mk (Below.trod laidOut (by kernel_rfl) (of_decide_eq_true (by kernel_rfl)) k0 bel lt0) trodAll_mk0), rfl, bel.frame _, fun h => by cases h⟩

theorem confChecks : Rows.ConfChecksSaid :=
  OpenClaim.holds_of_wide 8 Try.f8 rfl rfl rfl rfl rfl rfl rfl ⟨rfl, rfl, rfl, rfl, rfl⟩ rfl rfl rfl rfl rfl (by kernel_rfl) Try.func8 (by kernel_rfl)
    (of_decide_eq_true (by kernel_rfl)) (by unfold Func.isWrapper; first | (rw [if_pos (by decide +kernel)]; kernel_rfl) | (rw [if_neg (by decide +kernel)]; exact ⟨rfl, rfl⟩))
    (fun os started H enc _ => confChecks_lifted os started H enc)

end Go.Proofs.Ytmnncabccgknbac
