/-
  ConfCopies: conf.Copy answers the same, at whatever is wanted: the law returns true. No condition.
-/
import Derived.Test.YtmnncabccgknbadCy
import Derived.Test.YtmnncabccgknbadCs
import Derived.Test.YtmnncabccgknbadOcf
namespace Go.Proofs.Ytmnncabccgknbad
open Go.ChangeShapes Go.WideShapes Go.ChangeAt Go.RowKit
set_option linter.unusedVariables false
set_option maxRecDepth 100000

set_option maxHeartbeats 1000000 in
theorem confCopies_any (sv pv av : Value) (S : List Sw) (P : List Pr) (A : List Ac) (w : World) (hC : CfAt w sv pv av S P A) (h1 : S.length * 24 ≤ 140737488355328) (h2 : P.length * 40 ≤ 140737488355328) (h3 : A.length * 72 ≤ 140737488355328) :
    Calls Try.prog 3 #[.agg #[sv, pv, av]] w fun e w' => e = .returned (.bool true) ∧ Below w.heap.size w w' := by
  have HC := hide hC
  have HQ := hide (fun W u1 u2 u3 v1 v2 v3 a b => sameConf_any u1 u2 u3 v1 v2 v3 S P A W a b h1 h2 h3)
  have HK := hide (fun W (hW : Below w.heap.size w W) => copy_any sv pv av S P A W (hC.below hW (Nat.le_refl _)) h1 h2 h3)
  obtain ⟨s1, s2, rfl⟩ := hC.1.slice
  obtain ⟨p1, p2, rfl⟩ := hC.2.1.slice
  obtain ⟨a1, a2, rfl⟩ := hC.2.2.slice
  clear hC h1 h2 h3
  go_enter Try.func3, Try.ntmps3
  go_wp2_with fail
  have hb0 : Below w.heap.size w (w.alloc (.cells #[.slice s1 S.length s2, .slice p1 P.length p2, .slice a1 A.length a2] 26)) := (Below.refl _ _).alloc (Nat.le_refl _) _
  refine (unhide HK _ hb0).mono ?_
  rintro e w1 ⟨u1, u2, u3, rfl, ho, hb1⟩
  have HO := hide ho.cf
  obtain ⟨x1, y1, rfl⟩ := own_slc ho.s
  obtain ⟨x2, y2, rfl⟩ := own_slc ho.p
  obtain ⟨x3, y3, rfl⟩ := own_slc ho.a
  have hb01 := hb0.trans (hb1.mono hb0.size)
  have z0 : w1.cell? ⟨w.heap.size, 0, none⟩ = some (.slice s1 S.length s2) := by rw [hb1.cell (p := ⟨w.heap.size, 0, none⟩) (by simp)]; simp
  have z1 : w1.cell? ⟨w.heap.size, 1, none⟩ = some (.slice p1 P.length p2) := by rw [hb1.cell (p := ⟨w.heap.size, 1, none⟩) (by simp)]; simp
  have z2 : w1.cell? ⟨w.heap.size, 2, none⟩ = some (.slice a1 A.length a2) := by rw [hb1.cell (p := ⟨w.heap.size, 2, none⟩) (by simp)]; simp
  have hn : w.heap.size < w1.heap.size := by have := hb1.size; simp at this; omega
  have hne : w.heap.size ≠ w1.heap.size := by omega
  have hs1 := hb01.size
  clear ho hb0
  go_wp2_with fail
  refine (unhide HQ _ _ _ _ _ _ _ (HO.out.below ((Below.refl _ _).alloc (Nat.le_refl _) _) (Nat.le_refl _)) (HC.out.below (hb01.alloc hs1 _) (Nat.le_refl _))).mono ?_
  rintro e w2 ⟨rfl, hb2⟩
  go_wp2_with fail
  go_ret
  exact ⟨rfl, (hb01.alloc hs1 _).trans (hb2.mono (by simp; omega))⟩

set_option maxRecDepth 100000 in
theorem confCopies_lifted (os : Os) (started : os.Started) (H : Type) (enc : TypeId × Value → H) :
    ReturnsInHanded {} Try.checked os 3 .any (Rows.confCopiesSpec.pre6 enc Try.prog Try.f3 Rows.confCopiesRow.domain false) (Rows.confCopiesSpec.post enc Try.prog Try.f3 false true false false) := by
  refine returnsInHanded_of_change_sized (C := Try.checked) own started (by kernel_rfl) Try.func3
    (ChangeSpec.witness6 (enc := enc) (C := Try.checked) false ⟨#[], #[.agg #[.slice none 0 0, .slice none 0 0, .slice none 0 0]], []⟩ 8 (by kernel_rfl) (by kernel_rfl) (by kernel_rfl) (by kernel_rfl)) ?_
  intro W base args ds gs before hval0 hW hcnd hsz0 _
  have hval : ∀ (j : Nat) t v, Try.f3.params[j]? = some t → args[j]? = some v → Value.okWide Try.prog W .any base t v := hval0
  have hsz : (DataW.weightsEach Try.prog (Try.f3.params.toList ++ Rows.confCopiesSpec.plain.varTypes Try.prog) (ds ++ gs)).all (· ≤ reachBytes) = true := hsz0
  have hW' := hW
  obtain ⟨p, q, hA0, hV, rfl, hfz, hnd⟩ := hW
  have hA : DataW.TrodAll enc Try.prog W 0 (fun _ => true) true Try.f3.params.toList args.toList ds p := hA0
  rw [Try.params3] at hA hval hsz
  obtain ⟨v0, vs0, d0, ds0, p0, q0, hargs, rfl, rfl, h0, r0⟩ := trodAll_cons hA
  obtain ⟨rfl, rfl, rfl⟩ := trodAll_nil r0
  obtain rfl : args = #[v0] := by cases args; simp_all
  obtain ⟨rfl, rfl⟩ := trodVars_none hV
  have k0 := h0
  have lt0 : ∀ x ∈ p0, x.block < W.heap.size := by obtain ⟨m, hm⟩ := k0; exact DataW.trod_lt m _ _ _ hm
  obtain ⟨sv, pv, av, S, P, A, rfl, hC, hbd⟩ := open_conf (hval 0 26 v0 rfl rfl) h0
  obtain ⟨b1, b2, b3⟩ := hbd (weights_one hsz (j := 0) rfl rfl)
  clear hA0 hval0 hsz0
  refine (confCopies_any sv pv av S P A W hC b1 b2 b3).mono fun e W' ⟨he, bel⟩ => ?_
  subst he
  exact ⟨_, rfl, _, _, _, [], _, [], hW', trodAll_mk1 (shut_bool Try.underlying4 _), (trodAll_cons_mk (Below.trod laidOut (by kernel_rfl) (of_decide_eq_true (by kernel_rfl)) k0 bel lt0) trodAll_mk0), rfl, bel.frame _, fun h => by cases h⟩

theorem confCopies : Rows.ConfCopiesSaid :=
  OpenClaim.holds_of_wide 3 Try.f3 rfl rfl rfl rfl rfl rfl rfl ⟨rfl, rfl, rfl, rfl, rfl⟩ rfl rfl rfl rfl rfl (by kernel_rfl) Try.func3 (by kernel_rfl)
    (of_decide_eq_true (by kernel_rfl)) (by unfold Func.isWrapper; first | (rw [if_pos (by decide +kernel)]; kernel_rfl) | (rw [if_neg (by decide +kernel)]; exact ⟨rfl, rfl⟩))
    (fun os started H enc _ => confCopies_lifted os started H enc)

end Go.Proofs.Ytmnncabccgknbad
