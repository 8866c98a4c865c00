/- The row of FlowChecks, out of its walk; the premise: what flow.Check answers (CheckSays). -/
import Derived.Test.YtgkdmmfogibbjabRf
import Derived.Test.YtgkdmmfogibbjabOf
import Derived.SizedLaws
namespace Go.Proofs.Ytgkdmmfogibbjab
open Go.ChangeShapes Go.WideShapes Go.ChangeAt Go.RowKit
set_option linter.unusedVariables false
set_option maxRecDepth 100000

/-- flow.Check answers P2.1's number. -/
def CheckSays : Prop := ∀ (v : Value) (fs : List Fl) (w : World), FsAt w v fs → fs.length ≤ 140737488355328 →
  Calls Try.prog 14 #[v] w fun e w' => e = .returned (.int .i64 (fsFault fs)) ∧ Below w.heap.size w w'

set_option maxHeartbeats 1000000 in
theorem flowChecks_any (hC : CheckSays) (v : Value) (fs : List Fl) (w : World) (hF : FsAt w v fs) (hm : fs.length ≤ 140737488355328) :
    Calls Try.prog 5 #[v] w fun e w' => e = .returned (.bool true) ∧ Below w.heap.size w w' := by
  have HC := hide hC
  have HF := hide hF
  obtain ⟨a, cap, rfl, _⟩ := hF
  clear hC
  go_enter Try.func5, Try.ntmps5
  go_wp2_with fail
  refine (unhide HC _ fs _ HF.out hm).mono ?_
  rintro e w1 ⟨rfl, hb1⟩
  go_wp2_with fail
  refine (flowsFault_any _ fs _ (HF.out.below hb1 (Nat.le_refl _)) hm).mono ?_
  rintro e w2 ⟨rfl, hb2⟩
  have hbel := hb1.trans (hb2.mono hb1.size)
  go_wp2_with fail
  go_ret
  exact ⟨bool_ret (by simp), hbel⟩

theorem bytesFlow : Try.prog.bytesOf 61 = 64 := by kernel_rfl

set_option maxRecDepth 100000 in
theorem flowChecks_lifted (hC : CheckSays) (os : Os) (started : os.Started) (H : Type) (enc : TypeId × Value → H) :
    ReturnsInHanded {} Try.checked os 5 .any (Rows.flowChecksSpec.pre6 enc Try.prog Try.f5 Rows.flowChecksRow.domain false) (Rows.flowChecksSpec.post enc Try.prog Try.f5 false true false false) := by
  refine returnsInHanded_of_change_sized (C := Try.checked) own started (by kernel_rfl) Try.func5
    (ChangeSpec.witness6 (enc := enc) (C := Try.checked) false ⟨#[], #[.slice none 0 0], []⟩ 8 (by kernel_rfl) (by kernel_rfl) (by kernel_rfl) (by kernel_rfl)) ?_
  intro W base args ds gs before hval0 hW hcnd hsz0 _
  have hval : ∀ (j : Nat) t v, Try.f5.params[j]? = some t → args[j]? = some v → Value.okWide Try.prog W .any base t v := hval0
  have hsz : (DataW.weightsEach Try.prog (Try.f5.params.toList ++ Rows.flowChecksSpec.plain.varTypes Try.prog) (ds ++ gs)).all (· ≤ reachBytes) = true := hsz0
  have hW' := hW
  obtain ⟨p, q, hA0, hV, rfl, hfz, hnd⟩ := hW
  have hA : DataW.TrodAll enc Try.prog W 0 (fun _ => true) true Try.f5.params.toList args.toList ds p := hA0
  rw [Try.params5] at hA hval hsz
  obtain ⟨v0, vs0, d0, ds0, p0, q0, hargs, rfl, rfl, h0, r0⟩ := trodAll_cons hA
  obtain ⟨rfl, rfl, rfl⟩ := trodAll_nil r0
  obtain rfl : args = #[v0] := by cases args; simp_all
  obtain ⟨rfl, rfl⟩ := trodVars_none hV
  have k0 := h0
  have lt0 : ∀ x ∈ p0, x.block < W.heap.size := by obtain ⟨m, hm⟩ := k0; exact DataW.trod_lt m _ _ _ hm
  obtain ⟨fs, hF, hd⟩ := open_flows (hval 0 37 v0 rfl rfl) h0
  have hlen : fs.length ≤ 140737488355328 := by
    rcases hd with h | ⟨elems, sp, rfl, he⟩
    · omega
    · have := sized_slice hsz (j := 0) (t := 37) (e := 61) rfl rfl Try.underlying37
      rw [bytesFlow] at this
      simp only [reachBytes] at this
      omega
  clear hA0 hval0 hsz0
  refine (flowChecks_any hC v0 fs W hF hlen).mono fun e W' ⟨he, bel⟩ => ?_
  subst he
  exact ⟨_, rfl, _, _, _, [], _, [], hW', trodAll_mk1 (shut_bool Try.underlying4 _), (trodAll_cons_mk (Below.trod laidOut (by kernel_rfl) (of_decide_eq_true (by kernel_rfl)) k0 bel lt0) trodAll_mk0), rfl, bel.frame _, fun h => by cases h⟩

theorem flowChecks_of (hC : CheckSays) : Rows.FlowChecksSaid :=
  OpenClaim.holds_of_wide 5 Try.f5 rfl rfl rfl rfl rfl rfl rfl ⟨rfl, rfl, rfl, rfl, rfl⟩ rfl rfl rfl rfl rfl (by kernel_rfl) Try.func5 (by kernel_rfl)
    (of_decide_eq_true (by kernel_rfl)) (by unfold Func.isWrapper; first | (rw [if_pos (by decide +kernel)]; kernel_rfl) | (rw [if_neg (by decide +kernel)]; exact ⟨rfl, rfl⟩))
    (fun os started H enc _ => flowChecks_lifted hC os started H enc)

end Go.Proofs.Ytgkdmmfogibbjab
