/- The law PatchesLead returns true at any two lists of raw numbers, and both read behind the call as they read before; no condition. -/
import Derived.Test.YtonhfgdnkkkikacPw
import Derived.Test.YtonhfgdnkkkikacKl
import Derived.Test.YtonhfgdnkkkikacKb
import Derived.Test.YtonhfgdnkkkikacPo
namespace Go.Proofs.Ytonhfgdnkkkikac
open Go.ChangeShapes Go.WideShapes Go.ChangeAt Go.RowKit
set_option linter.unusedVariables false
set_option maxRecDepth 100000

theorem rows2_fs {w : World} {B : Nat} {vo : Value} {lo : List Fv} (h : Rows2 w B vo lo (.slice none 0 0) []) : FsAt w vo (lo.map Fv.f) := by
  obtain ⟨o, c, rfl, hc, hg⟩ := own_form h.out
  have hok := h.oks
  have hout := h.out
  by_cases hz : lo.length = 0
  · refine ⟨o, c, by simp, ?_, .inl (by simpa using hz)⟩
    intro ho
    subst ho
    obtain ⟨_, ⟨hv, _⟩ | ⟨g', cap', cur, hv, _⟩⟩ := hout
    · simp only [Value.slice.injEq] at hv; exact hv.2.2
    · simp at hv
  · obtain ⟨g, rfl⟩ := hg (by omega)
    exact row_fsAt hout (fun x hx => ⟨(hok x (by simp [hx])).1.1, (hok x (by simp [hx])).1.2.1⟩)

theorem flowsSay {w : World} {v : Value} {l : List Rw} (h : RowAt rwC 4 w v l) : FlowsSay w v := fun W hW => by
  refine (flows_any l v W (RowAt.below h hW (Nat.le_refl _))).mono ?_
  rintro e w' ⟨u, rfl, lo, hr, hl, ht, hb⟩
  refine ⟨u, rfl, lo.map Fv.f, rows2_fs hr, ⟨by rw [List.length_map]; omega, fun f hf => ?_⟩, by rw [List.length_map]; exact hl, hb⟩
  obtain ⟨x, hx, rfl⟩ := List.mem_map.1 hf
  obtain ⟨_, _, h1, h2⟩ := ht x hx
  omega

theorem patchesLead_any (v0 : Value) (l0 : List Rw) (v1 : Value) (l1 : List Rw) (w : World) (h0 : RowAt rwC 4 w v0 l0) (h1 : RowAt rwC 4 w v1 l1) :
    Calls Try.prog 7 #[v0, v1] w fun e w' => e = .returned (.bool true) ∧ Below w.heap.size w w' := by
  have s0 := flowsSay h0
  have s1 := flowsSay h1
  obtain ⟨a, c, rfl⟩ := h0.slice
  obtain ⟨a', c', rfl⟩ := h1.slice
  exact patchesLead_walk (fun W => frameTells_any patchOne_any W) _ _ _ _ _ _ w s0 s1

set_option maxRecDepth 100000 in
theorem patchesLead_lifted (os : Os) (started : os.Started) (H : Type) (enc : TypeId × Value → H) :
    ReturnsInHanded {} Try.checked os 7 .any (Rows.patchesLeadSpec.pre6 enc Try.prog Try.f7 Rows.patchesLeadRow.domain false) (Rows.patchesLeadSpec.post enc Try.prog Try.f7 false true false false) := by
  refine returnsInHanded_of_change (C := Try.checked) own started (by kernel_rfl) Try.func7
    (ChangeSpec.witness6 (enc := enc) (C := Try.checked) false ⟨#[], #[.slice none 0 0, .slice none 0 0], []⟩ 8 (by kernel_rfl) (by kernel_rfl) (by kernel_rfl) (by kernel_rfl)) ?_
  intro W base args ds gs before hval0 hW hcnd _
  have hval : ∀ (j : Nat) t v, Try.f7.params[j]? = some t → args[j]? = some v → Value.okWide Try.prog W .any base t v := hval0
  have hW' := hW
  obtain ⟨p, q, hA0, hV, rfl, hfz, hnd⟩ := hW
  have hA : DataW.TrodAll enc Try.prog W 0 (fun _ => true) true Try.f7.params.toList args.toList ds p := hA0
  rw [Try.params7] at hA hval
  obtain ⟨v0, vs0, d0, ds0, p0, q0, hargs, rfl, rfl, h0, r0⟩ := trodAll_cons hA
  obtain ⟨v1, vs1, d1, ds1, p1, q1, rfl, rfl, rfl, h1, r1⟩ := trodAll_cons r0
  obtain ⟨rfl, rfl, rfl⟩ := trodAll_nil r1
  obtain rfl : args = #[v0, v1] := by cases args; simp_all
  obtain ⟨rfl, rfl⟩ := trodVars_none hV
  have k0 := h0
  have lt0 : ∀ x ∈ p0, x.block < W.heap.size := by obtain ⟨m, hm⟩ := k0; exact DataW.trod_lt m _ _ _ hm
  obtain ⟨l0, hl0⟩ := open_raws (hval 0 29 v0 rfl rfl) h0
  have k1 := h1
  have lt1 : ∀ x ∈ p1, x.block < W.heap.size := by obtain ⟨m, hm⟩ := k1; exact DataW.trod_lt m _ _ _ hm
  obtain ⟨l1, hl1⟩ := open_raws (hval 1 29 v1 rfl rfl) h1
  clear hA0 hval0
  refine (patchesLead_any v0 l0 v1 l1 W hl0 hl1).mono fun e W' ⟨he, bel⟩ => ?_
  subst he
  exact ⟨_, rfl, _, _, _, [], _, [], hW', trodAll_mk1 (shut_bool Try.underlying4 _), (trodAll_cons_mk (Below.trod laidOut (by kernel_rfl) (of_decide_eq_true (by kernel_rfl)) k0 bel lt0) (trodAll_cons_mk (Below.trod laidOut (by kernel_rfl) (of_decide_eq_true (by kernel_rfl)) k1 bel lt1) trodAll_mk0)), rfl, bel.frame _, fun h => by cases h⟩

theorem patchesLead_holds : Rows.PatchesLeadSaid :=
  OpenClaim.holds_of_wide 7 Try.f7 rfl rfl rfl rfl rfl rfl rfl ⟨rfl, rfl, rfl, rfl, rfl⟩ rfl rfl rfl rfl rfl (by kernel_rfl) Try.func7 (by kernel_rfl)
    (of_decide_eq_true (by kernel_rfl)) (by unfold Func.isWrapper; first | (rw [if_pos (by decide +kernel)]; kernel_rfl) | (rw [if_neg (by decide +kernel)]; exact ⟨rfl, rfl⟩))
    (fun os started H enc _ => patchesLead_lifted os started H enc)

end Go.Proofs.Ytonhfgdnkkkikac
