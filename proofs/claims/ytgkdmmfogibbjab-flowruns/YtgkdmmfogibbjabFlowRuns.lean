/-
  FlowRuns: flow.Run answers what P2.2 says, at every list of flows and every packet. No condition.
-/
import Derived.Test.YtgkdmmfogibbjabRr2
import Derived.Test.YtgkdmmfogibbjabSs
import Derived.Test.YtgkdmmfogibbjabOpk
import Derived.Test.YtgkdmmfogibbjabOf
import Derived.SizedLaws
namespace Go.Proofs.Ytgkdmmfogibbjab
open Go.ChangeShapes Go.WideShapes Go.ChangeAt Go.RowKit
set_option linter.unusedVariables false
set_option maxRecDepth 100000

/-- What a table does, and how much it sends. -/
theorem table_ok {fs : List Fl} (hz : fsFault fs = 0) (s : St) (hF : WF s.F) (ht : s.t ≤ 7) : Ok s.t (s.out.length + 100) (table fs s) := by
  have key : ∀ ds : List Do, ds.length ≤ 100 → (∀ k, k < ds.length → doB s.t ds k = true) → Ok s.t (s.out.length + 100) (stepTo ⟨s.F, 8, s.out⟩ ds ds.length) := fun ds h1 h2 => by
    have h := Ok.stepTo (t := s.t) (c := s.out.length) (s := ⟨s.F, 8, s.out⟩) (ds := ds) ⟨hF, by simp; omega, by simp, by simp⟩ h2 ds.length (Nat.le_refl _)
    exact ⟨h.1, h.2.1, h.2.2.1, by have := h.2.2.2; omega⟩
  unfold table
  have hbi := bestTo_best fs s.F s.t fs.length
  rcases hbi with ⟨hb, _⟩ | ⟨i, hb, _, hi, hf, _⟩
  · rw [hb]
    exact key [] (by simp) (fun k hk => by simp at hk)
  · have hd : dsOf fs (bestTo fs s.F s.t fs.length) = (fs.getD i fl0).ds := by rw [hb]; unfold dsOf; rw [if_neg (by omega), Int.toNat_natCast]
    have hk := ok_flow hz hi
    have hft : (fs.getD i fl0).t = s.t := by
      unfold fitB at hf
      simp only [Bool.and_eq_true, beq_iff_eq] at hf
      exact hf.1
    rw [hd]
    exact key _ hk.2.2.1 (by rw [← hft]; exact hk.2.2.2.2.2.2.2.2)
theorem runN_len {fs : List Fl} (hz : fsFault fs = 0) : ∀ (n : Nat) (s : St), WF s.F → (runN fs n s).out.length ≤ s.out.length + 100 * n
  | 0, s, _ => by simp [runN]
  | n + 1, s, hF => by
    unfold runN
    split
    · omega
    · have h := table_ok hz s hF (by omega)
      have ih := runN_len hz n (table fs s) h.1
      have := h.2.2.2
      omega
theorem runL_len (fs : List Fl) (F : List Int) (n : Nat) (h10 : F.length = 10) : (runL fs F n).length ≤ 1000000 := by
  unfold runL
  split
  · rename_i h
    unfold runE at h
    split at h
    · rename_i hz
      have := runN_len hz 8 ⟨F, 0, []⟩ (wf_of_all h10 (pkt_parts h).1)
      unfold ran
      simp at this
      omega
    · rename_i hz; exact absurd h hz
  · simp

set_option maxHeartbeats 2000000 in
theorem flowRuns_any (f0 f1 f2 f3 f4 f5 f6 f7 f8 f9 : Int) (body : ByteArray) (v : Value) (fs : List Fl) (w : World) (hF : FsAt w v fs) (hb : body.size ≤ maxLen) (hm : fs.length ≤ 140737488355328) :
    Calls Try.prog 7 #[v, pkt f0 f1 f2 f3 f4 f5 f6 f7 f8 f9 body] w fun e w' => e = .returned (.bool true) ∧ Below w.heap.size w w' := by
  have HF := hide hF
  have HLEN := hide (runL_len fs [f0, f1, f2, f3, f4, f5, f6, f7, f8, f9] body.size rfl)
  have HA := hide (fun W h => fRun_any f0 f1 f2 f3 f4 f5 f6 f7 f8 f9 body v fs W h hb hm)
  have HB := hide (fun W h => ranOf_any f0 f1 f2 f3 f4 f5 f6 f7 f8 f9 body v fs W h hb hm)
  obtain ⟨a, cap, rfl, _⟩ := hF
  generalize runL fs [f0, f1, f2, f3, f4, f5, f6, f7, f8, f9] body.size = L at *
  generalize runE fs [f0, f1, f2, f3, f4, f5, f6, f7, f8, f9] body.size = E at *
  go_enter Try.func7, Try.ntmps7
  go_wp2_with fail
  obtain ⟨W0, hW0⟩ : ∃ W0, W0 = w.alloc (.cells #[.int .i64 f0, .int .i64 f1, .int .i64 f2, .int .i64 f3, .int .i64 f4, .int .i64 f5, .int .i64 f6, .int .i64 f7, .int .i64 f8, .int .i64 f9, .string body] 42) := ⟨_, rfl⟩
  have c0 : W0.cell? ⟨w.heap.size, 0, none⟩ = some (.int .i64 f0) := by rw [hW0]; simp
  have c1 : W0.cell? ⟨w.heap.size, 1, none⟩ = some (.int .i64 f1) := by rw [hW0]; simp
  have c2 : W0.cell? ⟨w.heap.size, 2, none⟩ = some (.int .i64 f2) := by rw [hW0]; simp
  have c3 : W0.cell? ⟨w.heap.size, 3, none⟩ = some (.int .i64 f3) := by rw [hW0]; simp
  have c4 : W0.cell? ⟨w.heap.size, 4, none⟩ = some (.int .i64 f4) := by rw [hW0]; simp
  have c5 : W0.cell? ⟨w.heap.size, 5, none⟩ = some (.int .i64 f5) := by rw [hW0]; simp
  have c6 : W0.cell? ⟨w.heap.size, 6, none⟩ = some (.int .i64 f6) := by rw [hW0]; simp
  have c7 : W0.cell? ⟨w.heap.size, 7, none⟩ = some (.int .i64 f7) := by rw [hW0]; simp
  have c8 : W0.cell? ⟨w.heap.size, 8, none⟩ = some (.int .i64 f8) := by rw [hW0]; simp
  have c9 : W0.cell? ⟨w.heap.size, 9, none⟩ = some (.int .i64 f9) := by rw [hW0]; simp
  have cb : W0.cell? ⟨w.heap.size, 10, none⟩ = some (.string body) := by rw [hW0]; simp
  have hb0 : Below w.heap.size w W0 := by rw [hW0]; exact (Below.refl _ _).alloc (Nat.le_refl _) _
  rw [← hW0]
  clear hW0
  have HF0 := hide (HF.out.below hb0 (Nat.le_refl _))
  refine (unhide HA _ HF0.out).mono ?_
  rintro e w1 ⟨u, rfl, ho1, hb1⟩
  replace c0 := cell_below c0 hb1 (Nat.le_refl _)
  replace c1 := cell_below c1 hb1 (Nat.le_refl _)
  replace c2 := cell_below c2 hb1 (Nat.le_refl _)
  replace c3 := cell_below c3 hb1 (Nat.le_refl _)
  replace c4 := cell_below c4 hb1 (Nat.le_refl _)
  replace c5 := cell_below c5 hb1 (Nat.le_refl _)
  replace c6 := cell_below c6 hb1 (Nat.le_refl _)
  replace c7 := cell_below c7 hb1 (Nat.le_refl _)
  replace c8 := cell_below c8 hb1 (Nat.le_refl _)
  replace c9 := cell_below c9 hb1 (Nat.le_refl _)
  replace cb := cell_below cb hb1 (Nat.le_refl _)
  have HO1 := hide ho1
  obtain ⟨ua, uc, rfl⟩ : ∃ a c, u = .slice a L.length c := by
    obtain ⟨_, ⟨rfl, h0⟩ | ⟨g, cap, cur, rfl, _⟩⟩ := ho1
    · exact ⟨_, _, by rw [h0]⟩
    · exact ⟨_, _, rfl⟩
  clear ho1
  go_wp2_with fail
  refine (unhide HB _ (HF0.out.below hb1 (Nat.le_refl _))).mono ?_
  rintro e w2 ⟨u2, rfl, ho2, hb2⟩
  have HO1' := hide (ownB HO1.out hb2)
  have HO2 := hide ho2
  obtain ⟨va, vc, rfl⟩ : ∃ a c, u2 = .slice a L.length c := by
    obtain ⟨_, ⟨rfl, h0⟩ | ⟨g, cap, cur, rfl, _⟩⟩ := ho2
    · exact ⟨_, _, by rw [h0]⟩
    · exact ⟨_, _, rfl⟩
  clear ho2 c0 c1 c2 c3 c4 c5 c6 c7 c8 c9 cb
  have hb12 := (hb0.trans (hb1.mono hb0.size)).trans (hb2.mono (Nat.le_trans hb0.size hb1.size))
  go_wp2_with fail
  refine (sameSent_any _ _ L body _ _ _ HO1'.out HO2.out HLEN.out).mono ?_
  rintro e w3 ⟨rfl, hb3⟩
  have hb03 := hb12.trans (hb3.mono hb12.size)
  go_wp2_with fail
  go_ret
  exact ⟨rfl, hb03⟩

theorem bytesFlow : Try.prog.bytesOf 61 = 64 := by kernel_rfl

set_option maxRecDepth 100000 in
theorem flowRuns_lifted (os : Os) (started : os.Started) (H : Type) (enc : TypeId × Value → H) :
    ReturnsInHanded {} Try.checked os 7 .any (Rows.flowRunsSpec.pre6 enc Try.prog Try.f7 Rows.flowRunsRow.domain false) (Rows.flowRunsSpec.post enc Try.prog Try.f7 false true false false) := by
  refine returnsInHanded_of_change_sized (C := Try.checked) own started (by kernel_rfl) Try.func7
    (ChangeSpec.witness6 (enc := enc) (C := Try.checked) false ⟨#[], #[.slice none 0 0, pkt 0 0 0 0 0 0 0 0 0 0 ⟨#[]⟩], []⟩ 8 (by kernel_rfl) (by kernel_rfl) (by kernel_rfl) (by kernel_rfl)) ?_
  intro W base args ds gs before hval0 hW hcnd hsz0 _
  have hval : ∀ (j : Nat) t v, Try.f7.params[j]? = some t → args[j]? = some v → Value.okWide Try.prog W .any base t v := hval0
  have hsz : (DataW.weightsEach Try.prog (Try.f7.params.toList ++ Rows.flowRunsSpec.plain.varTypes Try.prog) (ds ++ gs)).all (· ≤ reachBytes) = true := hsz0
  have hW' := hW
  obtain ⟨p, q, hA0, hV, rfl, hfz, hnd⟩ := hW
  have hA : DataW.TrodAll enc Try.prog W 0 (fun _ => true) true Try.f7.params.toList args.toList ds p := hA0
  rw [Try.params7] at hA hval hsz
  obtain ⟨v0, vs0, d0, ds0, p0, q0, hargs, rfl, rfl, h0, r0⟩ := trodAll_cons hA
  obtain ⟨v1, vs1, d1, ds1, p1, q1, rfl, rfl, rfl, h1, r1⟩ := trodAll_cons r0
  obtain ⟨rfl, rfl, rfl⟩ := trodAll_nil r1
  obtain rfl : args = #[v0, v1] := by cases args; simp_all
  obtain ⟨rfl, rfl⟩ := trodVars_none hV
  have k0 := h0
  have k1 := h1
  have lt0 : ∀ x ∈ p0, x.block < W.heap.size := by obtain ⟨m, hm⟩ := k0; exact DataW.trod_lt m _ _ _ hm
  have lt1 : ∀ x ∈ p1, x.block < W.heap.size := by obtain ⟨m, hm⟩ := k1; exact DataW.trod_lt m _ _ _ hm
  obtain ⟨fs, hF, hd⟩ := open_flows (hval 0 37 v0 rfl rfl) h0
  have hlen : fs.length ≤ 140737488355328 := by
    rcases hd with h | ⟨elems, sp, rfl, he⟩
    · omega
    · have := sized_slice hsz (j := 0) (t := 37) (e := 61) rfl rfl Try.underlying37
      rw [bytesFlow] at this
      simp only [reachBytes] at this
      omega
  obtain ⟨f0, f1, f2, f3, f4, f5, f6, f7, f8, f9, body, rfl, hb⟩ := open_packet (hval 1 42 v1 rfl rfl) h1
  clear hA0 hval0 hsz0
  refine (flowRuns_any f0 f1 f2 f3 f4 f5 f6 f7 f8 f9 body v0 fs W hF hb hlen).mono fun e W' ⟨he, bel⟩ => ?_
  subst he
  exact ⟨_, rfl, _, _, _, [], _, [], hW', trodAll_mk1 (shut_bool Try.underlying4 _), (trodAll_cons_mk (Below.trod laidOut (by kernel_rfl) (of_decide_eq_true (by kernel_rfl)) k0 bel lt0) (trodAll_cons_mk (Below.trod laidOut (by kernel_rfl) (of_decide_eq_true (by kernel_rfl)) k1 bel lt1) trodAll_mk0)), rfl, bel.frame _, fun h => by cases h⟩

theorem flowRuns : Rows.FlowRunsSaid :=
  OpenClaim.holds_of_wide 7 Try.f7 rfl rfl rfl rfl rfl rfl rfl ⟨rfl, rfl, rfl, rfl, rfl⟩ rfl rfl rfl rfl rfl (by kernel_rfl) Try.func7 (by kernel_rfl)
    (of_decide_eq_true (by kernel_rfl)) (by unfold Func.isWrapper; first | (rw [if_pos (by decide +kernel)]; kernel_rfl) | (rw [if_neg (by decide +kernel)]; exact ⟨rfl, rfl⟩))
    (fun os started H enc _ => flowRuns_lifted os started H enc)

end Go.Proofs.Ytgkdmmfogibbjab
