/-
  FlowSorts: flow.Sort answers what P2.3 says, at every list of flows (the second form: what came in is of bulk at most 2^20).
-/
import Derived.Test.YtgkdmmfogibbjabOb
import Derived.Test.YtgkdmmfogibbjabSk
import Derived.Test.YtgkdmmfogibbjabSm
import Derived.Test.YtgkdmmfogibbjabRso
import Derived.JoinedCond
import Derived.SizedLaws
namespace Go.Proofs.Ytgkdmmfogibbjab
open Go.ChangeShapes Go.WideShapes Go.ChangeAt Go.RowKit
set_option linter.unusedVariables false
set_option maxRecDepth 100000

theorem rows2_fsAt {w : World} {B : Nat} {vo : Value} {lo : List Fv} (h : Rows2 w B vo lo (.slice none 0 0) []) : FsAt w vo (lo.map Fv.f) := by
  obtain ⟨o, c, rfl, hc, hg⟩ := own_form h.out
  have hok := h.oks
  have hout := h.out
  by_cases hz : lo.length = 0
  · refine ⟨o, c, by simp, ?_, .inl (by simpa using hz)⟩
    intro ho
    subst ho
    obtain ⟨_, ⟨hv, _⟩ | ⟨g', cap', cur, hv, _⟩⟩ := hout
    · simp only [Value.slice.injEq] at hv; exact hv.2.2
    · simp at hv
  · obtain ⟨g, rfl⟩ := hg (by omega)
    exact row_fsAt hout (fun x hx => ⟨(hok x (by simp [hx])).1.1, (hok x (by simp [hx])).1.2.1⟩)

set_option maxHeartbeats 1000000 in
theorem flowSorts_any (v : Value) (fs : List Fl) (w : World) (hF : FsAt w v fs) (hl : fs.length ≤ 2000000) (hs : ∀ f ∈ fs, f.ms.length ≤ 2000000 ∧ f.ds.length ≤ 2000000) :
    Calls Try.prog 8 #[v] w fun e w' => e = .returned (.bool true) ∧ Below w.heap.size w w' := by
  have HF := hide hF
  have HS := hide hs
  have HT : Hid (∀ f ∈ srt fs fs.length, f.ms.length ≤ 2000000 ∧ f.ds.length ≤ 2000000) := hide fun f hf => hs f (srt_mem fs fs.length (Nat.le_refl _) f hf)
  have hsl : (srt fs fs.length).length ≤ 2000000 := Nat.le_trans (srt_length fs fs.length) hl
  have HL := hide hsl
  obtain ⟨a, cap, rfl, _⟩ := hF
  clear hs hsl
  go_enter Try.func8, Try.ntmps8
  go_wp2_with fail
  refine (sort_any _ fs _ HF.out hl HS.out).mono ?_
  rintro e w1 ⟨u, rfl, hu, hb1⟩
  have HU := hide hu
  obtain ⟨ua, uc, rfl, _⟩ := hu
  go_wp2_with fail
  refine (sortedOf_any _ fs _ (HF.out.below hb1 (Nat.le_refl _)) hl HS.out).mono ?_
  rintro e w2 ⟨vo, lo, rfl, hm, hr, hb2⟩
  have HR := hide (rows2_fsAt hr)
  rw [hm] at HR
  have HU2 := hide (HU.out.below hb2 (Nat.le_refl _))
  obtain ⟨oo, oc, rfl, _⟩ := own_form hr.out
  have hbel := hb1.trans (hb2.mono hb1.size)
  clear hm hr
  go_wp2_with fail
  refine (sameFls_any _ _ _ _ HU2.out HR.out HL.out HT.out).mono ?_
  rintro e w3 ⟨rfl, n, hw3⟩
  have hb3 : Below w.heap.size w w3 := by
    rw [hw3]
    exact hbel.trans ⟨rfl, rfl, rfl, Nat.le_refl _, fun _ _ => rfl⟩
  clear hw3
  go_wp2_with fail
  go_ret
  exact ⟨rfl, hb3⟩

theorem flowSorts_contract (H : Type) (enc : TypeId × Value → H) (W : World) (base : Nat) (args : Array Value) (ds gs : List (DataW H)) (before : List MemPlace)
    (hval : ∀ (j : Nat) t v, Try.f8.params[j]? = some t → args[j]? = some v → Value.okWide Try.prog W .any base t v)
    (hW : DataW.Whole enc Try.prog Try.f8.params.toList Rows.flowSortsSpec.vars false W args.toList ds gs before) (hk : Rows.uptoSmall H (ds ++ gs) = true) :
    Calls Try.prog 8 args W fun e W' => ∃ v, e = .returned v ∧ Rows.flowSortsSpec.post enc Try.prog Try.f8 false true false false W args v W' := by
  have hW' := hW
  obtain ⟨p, q, hA0, hV, rfl, hfz, hnd⟩ := hW
  have hA : DataW.TrodAll enc Try.prog W 0 (fun _ => true) true Try.f8.params.toList args.toList ds p := hA0
  rw [Try.params8] at hA hval
  obtain ⟨v0, vs0, d0, ds0, p0, q0, hargs, rfl, rfl, h0, r0⟩ := trodAll_cons hA
  obtain ⟨rfl, rfl, rfl⟩ := trodAll_nil r0
  obtain rfl : args = #[v0] := by cases args; simp_all
  obtain ⟨rfl, rfl⟩ := trodVars_none hV
  have k0 := h0
  have lt0 : ∀ x ∈ p0, x.block < W.heap.size := by obtain ⟨m, hm⟩ := k0; exact DataW.trod_lt m _ _ _ hm
  obtain ⟨fs, hF, _⟩ := open_flows (hval 0 37 v0 rfl rfl) h0
  have hb := bulk_flows hF h0
  simp only [List.append_nil] at hk
  have hB := bulk_one_flows hk
  clear hA0
  refine (flowSorts_any v0 fs W hF (by omega) (fun f hf => ⟨by have := (hb.2 f hf).1; omega, by have := (hb.2 f hf).2; omega⟩)).mono fun e W' ⟨he, bel⟩ => ?_
  subst he
  exact ⟨_, rfl, _, _, _, [], _, [], hW', trodAll_mk1 (shut_bool Try.underlying4 _), (trodAll_cons_mk (Below.trod laidOut (by kernel_rfl) (of_decide_eq_true (by kernel_rfl)) k0 bel lt0) trodAll_mk0), rfl, bel.frame _, fun h => by cases h⟩

set_option maxRecDepth 100000 in
theorem flowSorts_lifted (os : Os) (started : os.Started) (H : Type) (enc : TypeId × Value → H) (F : Stop.Interp) :
    ReturnsInHanded {} Try.checked os 8 .any ((Rows.OpenSpec.upto Rows.flowSortsSpec).pre6 enc Try.prog Try.f8 Rows.flowSortsUptoRow.domain false) (((Rows.OpenSpec.upto Rows.flowSortsSpec).at F).post enc Try.prog Try.f8 false true false false) := by
  refine returnsInHanded_of_cond (C := Try.checked) (s := Rows.OpenSpec.upto Rows.flowSortsSpec) (k := Rows.uptoSmall) rfl own started (by kernel_rfl) Try.func8
    (OpenSpec.witness (enc := enc) (C := Try.checked) (s := Rows.OpenSpec.upto Rows.flowSortsSpec) (k := Rows.uptoSmall) rfl false ⟨#[], #[.slice none 0 0], []⟩ 8 (by kernel_rfl) (by kernel_rfl) (by kernel_rfl)
      (x := ([.nil], [], [])) (by kernel_rfl) rfl (by kernel_rfl)) ?_
  intro W base args ds gs before hval hW _ hk _
  exact flowSorts_contract H enc W base args ds gs before hval hW hk

theorem flowSortsUpto : Rows.FlowSortsUptoSaid :=
  OpenClaim.holds_of_cond 8 Try.f8 rfl rfl rfl rfl rfl rfl rfl ⟨rfl, rfl, rfl, rfl, rfl⟩ rfl rfl rfl rfl rfl (by kernel_rfl) Try.func8 (by kernel_rfl)
    (of_decide_eq_true (by kernel_rfl)) (by unfold Func.isWrapper; first | (rw [if_pos (by decide +kernel)]; kernel_rfl) | (rw [if_neg (by decide +kernel)]; exact ⟨rfl, rfl⟩))
    (fun os started H enc _ F => flowSorts_lifted os started H enc F)

end Go.Proofs.Ytgkdmmfogibbjab
