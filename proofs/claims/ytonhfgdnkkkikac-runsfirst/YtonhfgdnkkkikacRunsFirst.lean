/- The law RunsFirst returns true at every list of raw numbers and at every number, and both read behind the call as they read before; no condition. -/
import Derived.Test.YtonhfgdnkkkikacKl
import Derived.Test.YtonhfgdnkkkikacEs
import Derived.Test.YtonhfgdnkkkikacRfm
import Derived.Test.YtonhfgdnkkkikacRso
import Derived.Test.YtonhfgdnkkkikacSk
namespace Go.Proofs.Ytonhfgdnkkkikac
open Go.ChangeShapes Go.WideShapes Go.ChangeAt Go.RowKit
set_option linter.unusedVariables false
set_option maxRecDepth 100000

theorem rows2_fs2 {w : World} {B : Nat} {vo : Value} {lo : List Fv} (h : Rows2 w B vo lo (.slice none 0 0) []) : FsAt w vo (lo.map Fv.f) := by
  obtain ⟨o, c, rfl, hc, hg⟩ := own_form h.out
  have hok := h.oks
  have hout := h.out
  by_cases hz : lo.length = 0
  · refine ⟨o, c, by simp, ?_, .inl (by simpa using hz)⟩
    intro ho
    subst ho
    obtain ⟨_, ⟨hv, _⟩ | ⟨g', cap', cur, hv, _⟩⟩ := hout
    · simp only [Value.slice.injEq] at hv; exact hv.2.2
    · simp at hv
  · obtain ⟨g, rfl⟩ := hg (by omega)
    exact row_fsAt hout (fun x hx => ⟨(hok x (by simp [hx])).1.1, (hok x (by simp [hx])).1.2.1⟩)
theorem unshift2 {w : World} {B : Nat} {v : Value} {lo : List Fv} (h : Rows2 w B v lo (.slice none 0 0) []) : Rows2 w B (.slice none 0 0) [] v lo :=
  ⟨h.next, h.out, .inl rfl, fun x hx => by
    obtain ⟨k0, k1, k2, k3, k4⟩ := h.oks x (by simpa using hx)
    exact ⟨k0, k3, k4, k1, k2⟩⟩
theorem apart_low {b n c B : Nat} {v : Value} (h : b < B) (hv : ∀ g, v.ownBlock = some g → B ≤ g) : Apart (.slice (some ⟨b, 0, none⟩) n c) v := .inr fun e => by
  have := hv b e.symm
  omega
/-- Where the strong flow is the last one, Run answers what it sends. -/
theorem run_strong (fs : List Fl) (nn : Int) (h0 : 0 ≤ nn) (h1 : nn ≤ 65535) (hl : fs.length ≤ 20) (ht : ∀ f ∈ fs, flFault f = 0 ∧ f.p ≤ 3) (v : Value) (w : World) (hF : FsAt w v (fs ++ [strong nn])) :
    Calls Try.prog 15 #[v, pkt nn 0 0 0 0 0 0 0 0 0 ⟨#[]⟩] w fun e w' => ∃ g c, e = .returned (.tuple #[.slice (some ⟨g, 0, none⟩) 1 c, .int .i64 0]) ∧ 1 ≤ c ∧ w.heap.size ≤ g ∧ (w'.cell? ⟨g, 0, none⟩ = some (.int .i64 5) ∧ w'.cell? ⟨g, 1, none⟩ = some (.int .i64 3) ∧ w'.cell? ⟨g, 2, none⟩ = some (.int .i64 nn) ∧ w'.cell? ⟨g, 3, none⟩ = some (.int .i64 0) ∧ w'.cell? ⟨g, 4, none⟩ = some (.int .i64 0) ∧ w'.cell? ⟨g, 5, none⟩ = some (.int .i64 0) ∧ w'.cell? ⟨g, 6, none⟩ = some (.int .i64 0) ∧ w'.cell? ⟨g, 7, none⟩ = some (.int .i64 0) ∧ w'.cell? ⟨g, 8, none⟩ = some (.int .i64 0) ∧ w'.cell? ⟨g, 9, none⟩ = some (.int .i64 0) ∧ w'.cell? ⟨g, 10, none⟩ = some (.int .i64 0) ∧ w'.cell? ⟨g, 11, none⟩ = some (.int .i64 7) ∧ w'.cell? ⟨g, 12, none⟩ = some (.string ⟨#[]⟩)) ∧ Below w.heap.size w w' := by
  have e0 : fsFault (fs ++ [strong nn]) = 0 := fs_may (by simp; omega) fun f hf => by
    rcases List.mem_append.1 hf with h | h
    · exact (ht f h).1
    · rw [List.mem_singleton.1 h]; exact strong_may h0 h1
  have e1 : runE (fs ++ [strong nn]) [nn, 0, 0, 0, 0, 0, 0, 0, 0, 0] (⟨#[]⟩ : ByteArray).size = 0 := by
    unfold runE
    rw [if_pos e0]
    unfold pktFault
    have : [nn, 0, 0, 0, 0, 0, 0, 0, 0, 0].all wordB = true := by simp [wordB]; omega
    rw [this]
    rfl
  have e2 : runL (fs ++ [strong nn]) [nn, 0, 0, 0, 0, 0, 0, 0, 0, 0] (⟨#[]⟩ : ByteArray).size = [⟨5, 3, [nn, 0, 0, 0, 0, 0, 0, 0, 0, 7]⟩] := by
    unfold runL
    rw [if_pos e1]
    exact first_tells h0 h1 fun f hf => (ht f hf).2
  have := fRun_any nn 0 0 0 0 0 0 0 0 0 ⟨#[]⟩ v _ w hF (by unfold maxLen; decide) (by simp; omega)
  rw [e1, e2] at this
  refine this.mono ?_
  rintro e w' ⟨u, rfl, ho, hb⟩
  obtain ⟨o, c, rfl, hc, hg⟩ := own_form ho
  obtain ⟨g, rfl⟩ := hg (by simp)
  refine ⟨g, c, rfl, by simpa using hc, own_ge ho g rfl, ?_, hb⟩
  · refine ⟨?_, ?_, ?_, ?_, ?_, ?_, ?_, ?_, ?_, ?_, ?_, ?_, ?_⟩
    all_goals first
      | exact (ho.cellAt 0 (by simp)).trans rfl
      | exact (ho.cellAt 1 (by simp)).trans rfl
      | exact (ho.cellAt 2 (by simp)).trans rfl
      | exact (ho.cellAt 3 (by simp)).trans rfl
      | exact (ho.cellAt 4 (by simp)).trans rfl
      | exact (ho.cellAt 5 (by simp)).trans rfl
      | exact (ho.cellAt 6 (by simp)).trans rfl
      | exact (ho.cellAt 7 (by simp)).trans rfl
      | exact (ho.cellAt 8 (by simp)).trans rfl
      | exact (ho.cellAt 9 (by simp)).trans rfl
      | exact (ho.cellAt 10 (by simp)).trans rfl
      | exact (ho.cellAt 11 (by simp)).trans rfl
      | exact (ho.cellAt 12 (by simp)).trans rfl

set_option maxHeartbeats 16000000 in
theorem runsFirst_any (lv : Value) (l : List Rw) (n : Int) (w : World) (hL : RowAt rwC 4 w lv l) (hn0 : -9223372036854775808 ≤ n) (hn1 : n ≤ 9223372036854775807) :
    Calls Try.prog 5 #[lv, .int .i64 n] w fun e w' => e = .returned (.bool true) ∧ Below w.heap.size w w' := by
  have HFL := hide (fun W (hW : Below w.heap.size w W) => flows_any l lv W (RowAt.below hL hW (Nat.le_refl _)))
  obtain ⟨p0, p1⟩ := pk_in n 50 (by omega)
  have HPN := hide (fun W => picked_any n 50 W hn0 hn1 (by omega) (by omega))
  clear hn0 hn1
  obtain ⟨la, lc, rfl⟩ := hL.slice
  clear hL
  generalize pk n 50 = nn at *
  go_enter Try.func5, Try.ntmps5
  go_wp2_with (first | (go_at_call 14; refine (unhide HPN _).mono ?_; rintro e WD ⟨rfl, hWD⟩; rw [hWD]; clear hWD WD))
  obtain ⟨ifw, hifw, hF0, hF1, hF2⟩ := info_parts infoFw
  obtain ⟨W0, hW0⟩ : ∃ W0, W0 = ((((w.alloc (.cells #[.int .i64 nn, .int .i64 0, .int .i64 0, .int .i64 0, .int .i64 0, .int .i64 0, .int .i64 0, .int .i64 0, .int .i64 0, .int .i64 0, .string ⟨#[]⟩] 32)).alloc (.cells #[.int .i64 0, .int .i64 65535, .int .i64 nn] 35)).alloc (.cells #[.int .i64 1, .int .i64 9, .int .i64 7, .int .i64 5, .int .i64 0, .int .i64 3] 38)).alloc (.cells #[.int .i64 0, .int .i64 9, .slice (some ⟨w.heap.size + 1, 0, none⟩) 1 1, .slice (some ⟨w.heap.size + 1 + 1, 0, none⟩) 2 2] 41)) := ⟨_, rfl⟩
  have k0 : Below w.heap.size w W0 := by rw [hW0]; exact ((((Below.refl _ w).alloc (Nat.le_refl _) _).alloc (by simp) _).alloc (by simp; omega) _).alloc (by simp; omega) _
  have q0 : W0.cell? ⟨w.heap.size, 0, none⟩ = some (.int .i64 nn) := by rw [hW0]; exact old_cell (old_cell (old_cell (new_cell w _ rfl _ _ _ _ rfl) _) _) _
  have q1 : W0.cell? ⟨w.heap.size, 1, none⟩ = some (.int .i64 0) := by rw [hW0]; exact old_cell (old_cell (old_cell (new_cell w _ rfl _ _ _ _ rfl) _) _) _
  have q2 : W0.cell? ⟨w.heap.size, 2, none⟩ = some (.int .i64 0) := by rw [hW0]; exact old_cell (old_cell (old_cell (new_cell w _ rfl _ _ _ _ rfl) _) _) _
  have q3 : W0.cell? ⟨w.heap.size, 3, none⟩ = some (.int .i64 0) := by rw [hW0]; exact old_cell (old_cell (old_cell (new_cell w _ rfl _ _ _ _ rfl) _) _) _
  have q4 : W0.cell? ⟨w.heap.size, 4, none⟩ = some (.int .i64 0) := by rw [hW0]; exact old_cell (old_cell (old_cell (new_cell w _ rfl _ _ _ _ rfl) _) _) _
  have q5 : W0.cell? ⟨w.heap.size, 5, none⟩ = some (.int .i64 0) := by rw [hW0]; exact old_cell (old_cell (old_cell (new_cell w _ rfl _ _ _ _ rfl) _) _) _
  have q6 : W0.cell? ⟨w.heap.size, 6, none⟩ = some (.int .i64 0) := by rw [hW0]; exact old_cell (old_cell (old_cell (new_cell w _ rfl _ _ _ _ rfl) _) _) _
  have q7 : W0.cell? ⟨w.heap.size, 7, none⟩ = some (.int .i64 0) := by rw [hW0]; exact old_cell (old_cell (old_cell (new_cell w _ rfl _ _ _ _ rfl) _) _) _
  have q8 : W0.cell? ⟨w.heap.size, 8, none⟩ = some (.int .i64 0) := by rw [hW0]; exact old_cell (old_cell (old_cell (new_cell w _ rfl _ _ _ _ rfl) _) _) _
  have q9 : W0.cell? ⟨w.heap.size, 9, none⟩ = some (.int .i64 0) := by rw [hW0]; exact old_cell (old_cell (old_cell (new_cell w _ rfl _ _ _ _ rfl) _) _) _
  have q10 : W0.cell? ⟨w.heap.size, 10, none⟩ = some (.string ⟨#[]⟩) := by rw [hW0]; exact old_cell (old_cell (old_cell (new_cell w _ rfl _ _ _ _ rfl) _) _) _
  have zq9 : W0.frozen? ⟨w.heap.size, 9, none⟩ = false := by rw [hW0]; exact old_frozen (by simp; omega) (old_frozen (by simp; omega) (old_frozen (by simp) (new_frozen w _ rfl _ _ _) _) _) _
  have m0 : W0.cell? ⟨w.heap.size + 1, 0, none⟩ = some (.int .i64 0) := by rw [hW0]; exact old_cell (old_cell (new_cell _ _ (by simp) _ _ _ _ rfl) _) _
  have m1 : W0.cell? ⟨w.heap.size + 1, 1, none⟩ = some (.int .i64 65535) := by rw [hW0]; exact old_cell (old_cell (new_cell _ _ (by simp) _ _ _ _ rfl) _) _
  have m2 : W0.cell? ⟨w.heap.size + 1, 2, none⟩ = some (.int .i64 nn) := by rw [hW0]; exact old_cell (old_cell (new_cell _ _ (by simp) _ _ _ _ rfl) _) _
  have d0 : W0.cell? ⟨w.heap.size + 1 + 1, 0, none⟩ = some (.int .i64 1) := by rw [hW0]; exact old_cell (new_cell _ _ (by simp) _ _ _ _ rfl) _
  have d1 : W0.cell? ⟨w.heap.size + 1 + 1, 1, none⟩ = some (.int .i64 9) := by rw [hW0]; exact old_cell (new_cell _ _ (by simp) _ _ _ _ rfl) _
  have d2 : W0.cell? ⟨w.heap.size + 1 + 1, 2, none⟩ = some (.int .i64 7) := by rw [hW0]; exact old_cell (new_cell _ _ (by simp) _ _ _ _ rfl) _
  have d3 : W0.cell? ⟨w.heap.size + 1 + 1, 3, none⟩ = some (.int .i64 5) := by rw [hW0]; exact old_cell (new_cell _ _ (by simp) _ _ _ _ rfl) _
  have d4 : W0.cell? ⟨w.heap.size + 1 + 1, 4, none⟩ = some (.int .i64 0) := by rw [hW0]; exact old_cell (new_cell _ _ (by simp) _ _ _ _ rfl) _
  have d5 : W0.cell? ⟨w.heap.size + 1 + 1, 5, none⟩ = some (.int .i64 3) := by rw [hW0]; exact old_cell (new_cell _ _ (by simp) _ _ _ _ rfl) _
  have c0 : W0.cell? ⟨w.heap.size + 1 + 1 + 1, 0, none⟩ = some (.int .i64 0) := by rw [hW0]; exact new_cell _ _ (by simp) _ _ _ _ rfl
  have c1 : W0.cell? ⟨w.heap.size + 1 + 1 + 1, 1, none⟩ = some (.int .i64 9) := by rw [hW0]; exact new_cell _ _ (by simp) _ _ _ _ rfl
  have c2 : W0.cell? ⟨w.heap.size + 1 + 1 + 1, 2, none⟩ = some (.slice (some ⟨w.heap.size + 1, 0, none⟩) 1 1) := by rw [hW0]; exact new_cell _ _ (by simp) _ _ _ _ rfl
  have c3 : W0.cell? ⟨w.heap.size + 1 + 1 + 1, 3, none⟩ = some (.slice (some ⟨w.heap.size + 1 + 1, 0, none⟩) 2 2) := by rw [hW0]; exact new_cell _ _ (by simp) _ _ _ _ rfl
  rw [← hW0]
  clear hW0
  obtain ⟨fb, hfb⟩ : ∃ fb, fb = w.heap.size + 1 + 1 + 1 := ⟨_, rfl⟩
  obtain ⟨db, hdb⟩ : ∃ db, db = w.heap.size + 1 + 1 := ⟨_, rfl⟩
  obtain ⟨mb, hmb⟩ : ∃ mb, mb = w.heap.size + 1 := ⟨_, rfl⟩
  rw [← hfb, ← hdb, ← hmb]
  rw [← hfb] at c0 c1 c2 c3
  rw [← hmb] at c2
  rw [← hdb] at c3
  rw [← hdb] at d0 d1 d2 d3 d4 d5
  rw [← hmb] at m0 m1 m2
  have hfp : w.heap.size < fb := by omega
  have hmp : w.heap.size < mb := by omega
  have hdp : w.heap.size < db := by omega
  clear hfb hdb hmb
  have HX : Hid (FvOk W0 (⟨strong nn, .slice (some ⟨mb, 0, none⟩) 1 1, .slice (some ⟨db, 0, none⟩) 2 2⟩ : Fv)) := by
    refine ⟨⟨some ⟨mb, 0, none⟩, 1, rfl, by simp, .inr ⟨mb, 0, rfl, by simp [strong], fun i hi => ?_⟩⟩, ⟨some ⟨db, 0, none⟩, 2, rfl, by simp, .inr ⟨db, 0, rfl, by simp [strong], fun i hi => ?_⟩⟩, fun g e => ?_, fun g e => ?_⟩
    · obtain rfl : i = 0 := by simp [strong] at hi; omega
      exact ⟨m0, m1, m2⟩
    · have : i = 0 ∨ i = 1 := by simp [strong] at hi; omega
      rcases this with rfl | rfl
      · exact ⟨d0, d1, d2⟩
      · exact ⟨d3, d4, d5⟩
    · obtain rfl : mb = g := by simpa [Value.ownBlock] using e
      exact cell_in m0
    · obtain rfl : db = g := by simpa [Value.ownBlock] using e
      exact cell_in d0
  clear m0 m1 m2 d0 d1 d2 d3 d4 d5 HPN
  have hpw : w.heap.size < W0.heap.size := cell_in q0
  have hfw : fb < W0.heap.size := cell_in c0
  have hmw : mb < W0.heap.size := HX.out.2.2.1 mb rfl
  have hdw : db < W0.heap.size := HX.out.2.2.2 db rfl
  have kb : Below W0.heap.size W0 W0 := Below.refl _ _
  have hsz0 : W0.heap.size ≤ W0.heap.size := Nat.le_refl _
  have HX0 := hide HX.out
  refine wp_region_held_drew (S := (fun w' => w'.cell? ⟨w.heap.size, 0, none⟩ = some (.int .i64 nn) ∧ w'.cell? ⟨w.heap.size, 1, none⟩ = some (.int .i64 0) ∧ w'.cell? ⟨w.heap.size, 2, none⟩ = some (.int .i64 0) ∧ w'.cell? ⟨w.heap.size, 3, none⟩ = some (.int .i64 0) ∧ w'.cell? ⟨w.heap.size, 4, none⟩ = some (.int .i64 0) ∧ w'.cell? ⟨w.heap.size, 5, none⟩ = some (.int .i64 0) ∧ w'.cell? ⟨w.heap.size, 6, none⟩ = some (.int .i64 0) ∧ w'.cell? ⟨w.heap.size, 7, none⟩ = some (.int .i64 0) ∧ w'.cell? ⟨w.heap.size, 8, none⟩ = some (.int .i64 0) ∧ w'.cell? ⟨w.heap.size, 9, none⟩ = some (.int .i64 0) ∧ w'.cell? ⟨w.heap.size, 10, none⟩ = some (.string ⟨#[]⟩))) (by kernel_rfl) ⟨q0, q1, q2, q3, q4, q5, q6, q7, q8, q9, q10⟩ (fun hHeld => ?_)
  have HDW : Below W0.heap.size W0 W0.drew := (Below.refl _ _).drew
  replace zq9 := (HDW.frozen (p := ⟨w.heap.size, 9, none⟩) (cell_in q9)).trans zq9
  replace q0 := cell_beh q0 HDW (Nat.le_refl _)
  replace q1 := cell_beh q1 HDW (Nat.le_refl _)
  replace q2 := cell_beh q2 HDW (Nat.le_refl _)
  replace q3 := cell_beh q3 HDW (Nat.le_refl _)
  replace q4 := cell_beh q4 HDW (Nat.le_refl _)
  replace q5 := cell_beh q5 HDW (Nat.le_refl _)
  replace q6 := cell_beh q6 HDW (Nat.le_refl _)
  replace q7 := cell_beh q7 HDW (Nat.le_refl _)
  replace q8 := cell_beh q8 HDW (Nat.le_refl _)
  replace q9 := cell_beh q9 HDW (Nat.le_refl _)
  replace q10 := cell_beh q10 HDW (Nat.le_refl _)
  replace c0 := cell_beh c0 HDW (Nat.le_refl _)
  replace c1 := cell_beh c1 HDW (Nat.le_refl _)
  replace c2 := cell_beh c2 HDW (Nat.le_refl _)
  replace c3 := cell_beh c3 HDW (Nat.le_refl _)
  replace k0 := k0.trans (HDW.mono k0.size)
  replace kb := kb.trans (HDW.mono kb.size)
  clear HDW
  generalize W0.drew = V0 at *
  refine wpAnyH_take (i := 0) (oi := ⟨some 26, _, _, _, _, _⟩) (v := ?v1) rfl (by kernel_rfl) (by kernel_rfl) (by kernel_rfl) (fun _ _ _ h => h) (Or.inl ⟨by rfl, ?h1⟩) (by assumption) ?r1
  case h1 => (intro w hSw; (try dsimp only at hSw); go_simp <;> with_reducible rfl)
  (try simp only [Act.put, List.setIfInBounds_toArray, List.set_cons_zero, List.set_cons_succ])
  refine wpAnyH_take (i := 2) (oi := ⟨some 28, _, _, _, _, _⟩) (v := ?v2) rfl (by kernel_rfl) (by kernel_rfl) (by kernel_rfl) (fun _ _ _ h => h) (Or.inl ⟨by rfl, ?h2⟩) (by assumption) ?r2
  case h2 => (intro w hSw; (try dsimp only at hSw); go_simp <;> with_reducible rfl)
  (try simp only [Act.put, List.setIfInBounds_toArray, List.set_cons_zero, List.set_cons_succ])
  refine wpAnyH_take (i := 4) (oi := ⟨some 30, _, _, _, _, _⟩) (v := ?v3) rfl (by kernel_rfl) (by kernel_rfl) (by kernel_rfl) (fun _ _ _ h => h) (Or.inl ⟨by rfl, ?h3⟩) (by assumption) ?r3
  case h3 => (intro w hSw; (try dsimp only at hSw); go_simp <;> with_reducible rfl)
  (try simp only [Act.put, List.setIfInBounds_toArray, List.set_cons_zero, List.set_cons_succ])
  refine wpAnyH_ready (rs := [1]) (by kernel_rfl) (by simp) ?_
  refine (AllReadyH.cons (o := ⟨some 27, _, _, _, _, _⟩) rfl (fun K hK => ?_) AllReadyH.nil)
  go_simp
  clear hHeld
  have hge0 : W0.heap.size ≤ V0.heap.size := kb.size
  refine (unhide HFL _ k0).mono ?_
  rintro e V1 ⟨u, rfl, lo, hr, hl, ht, hbN⟩
  replace HX := hide (HX.out.below (kb.trans (hbN.mono kb.size)))
  have A3 : Hid (Apart (.slice (some ⟨mb, 0, none⟩) 1 1) u) := hide (apart_low (show mb < V0.heap.size by omega) (own_ge hr.out))
  have A4 : Hid (Apart (.slice (some ⟨db, 0, none⟩) 2 2) u) := hide (apart_low (show db < V0.heap.size by omega) (own_ge hr.out))
  have HR := hide (unshift2 hr)
  have HT := hide ht
  have hbs := hbN.size
  replace zq9 := (hbN.frozen (p := ⟨w.heap.size, 9, none⟩) (cell_in q9)).trans zq9
  replace q0 := cell_beh q0 hbN (Nat.le_refl _)
  replace q1 := cell_beh q1 hbN (Nat.le_refl _)
  replace q2 := cell_beh q2 hbN (Nat.le_refl _)
  replace q3 := cell_beh q3 hbN (Nat.le_refl _)
  replace q4 := cell_beh q4 hbN (Nat.le_refl _)
  replace q5 := cell_beh q5 hbN (Nat.le_refl _)
  replace q6 := cell_beh q6 hbN (Nat.le_refl _)
  replace q7 := cell_beh q7 hbN (Nat.le_refl _)
  replace q8 := cell_beh q8 hbN (Nat.le_refl _)
  replace q9 := cell_beh q9 hbN (Nat.le_refl _)
  replace q10 := cell_beh q10 hbN (Nat.le_refl _)
  replace c0 := cell_beh c0 hbN (Nat.le_refl _)
  replace c1 := cell_beh c1 hbN (Nat.le_refl _)
  replace c2 := cell_beh c2 hbN (Nat.le_refl _)
  replace c3 := cell_beh c3 hbN (Nat.le_refl _)
  replace k0 := k0.trans (hbN.mono k0.size)
  replace kb := kb.trans (hbN.mono kb.size)
  obtain ⟨uo, un, uc, hu⟩ := own_slice hr.out
  subst hu
  clear hr ht hbN HFL
  refine hK.out _ _ ⟨q0, q1, q2, q3, q4, q5, q6, q7, q8, q9, q10⟩ (fun hHeld => ?_)
  clear hK K
  (try simp only [Act.put, List.setIfInBounds_toArray, List.set_cons_zero, List.set_cons_succ])
  refine wpAnyH_ready (rs := [3]) (by kernel_rfl) (by simp) ?_
  refine (AllReadyH.cons (o := ⟨some 29, _, _, _, _, _⟩) rfl (fun K hK => ?_) AllReadyH.nil)
  clear hHeld
  have NEWS : Hid (∀ q uu, (C [(⟨strong nn, .slice (some ⟨mb, 0, none⟩) 1 1, .slice (some ⟨db, 0, none⟩) 2 2⟩ : Fv)])[q]? = some uu → V1.cell? ((⟨fb, 0, none⟩ : Addr).add q) = some uu) := by
    intro q uu hq
    match q, hq with
    | 0, hq => simp [C] at hq; subst hq; rw [add_fl]; exact c0
    | 1, hq => simp [C] at hq; subst hq; rw [add_fl]; exact c1
    | 2, hq => simp [C] at hq; subst hq; rw [add_fl]; exact c2
    | 3, hq => simp [C] at hq; subst hq; rw [add_fl]; exact c3
  have hx1 : lo.length + 1 ≤ maxLen := by unfold maxLen; omega
  have hx2 : (lo.length + 1) * 64 ≤ 140737488355328 := by omega
  refine step_append_lies _ rfl (.tmp 27) (.tmp 28) 22 rfl (V0.heap.size) 41 ifw _ 4 64 Try.underlying22 hifw hF0 hF1 hF2 rfl (by decide) _ _ _ rfl (unhide HR).next ⟨fb, 0, none⟩ 1 1 (C [(⟨strong nn, .slice (some ⟨mb, 0, none⟩) 1 1, .slice (some ⟨db, 0, none⟩) 2 2⟩ : Fv)]) rfl rfl (unhide NEWS) HX.out.one (by decide) hx1 hx2 hbs _ rfl ?_
  intro g cap w4 ho4 hg4 hat _
  have HQ := hide (HR.out.app HX.out (apart_nil _) (apart_nil _) A3.out A4.out ho4 hg4 hat rfl)
  have hb4 : Below (V0.heap.size) V1 w4 := (Below.refl _ _).grown hg4 hbs (own_ge HR.out.next)
  replace HX := hide (HX.out.kept hg4 A3.out A4.out)
  replace q0 := (hb4.cell (p := ⟨w.heap.size, 0, none⟩) (show w.heap.size < V0.heap.size by omega)).trans q0
  replace q1 := (hb4.cell (p := ⟨w.heap.size, 1, none⟩) (show w.heap.size < V0.heap.size by omega)).trans q1
  replace q2 := (hb4.cell (p := ⟨w.heap.size, 2, none⟩) (show w.heap.size < V0.heap.size by omega)).trans q2
  replace q3 := (hb4.cell (p := ⟨w.heap.size, 3, none⟩) (show w.heap.size < V0.heap.size by omega)).trans q3
  replace q4 := (hb4.cell (p := ⟨w.heap.size, 4, none⟩) (show w.heap.size < V0.heap.size by omega)).trans q4
  replace q5 := (hb4.cell (p := ⟨w.heap.size, 5, none⟩) (show w.heap.size < V0.heap.size by omega)).trans q5
  replace q6 := (hb4.cell (p := ⟨w.heap.size, 6, none⟩) (show w.heap.size < V0.heap.size by omega)).trans q6
  replace q7 := (hb4.cell (p := ⟨w.heap.size, 7, none⟩) (show w.heap.size < V0.heap.size by omega)).trans q7
  replace q8 := (hb4.cell (p := ⟨w.heap.size, 8, none⟩) (show w.heap.size < V0.heap.size by omega)).trans q8
  replace q9 := (hb4.cell (p := ⟨w.heap.size, 9, none⟩) (show w.heap.size < V0.heap.size by omega)).trans q9
  replace q10 := (hb4.cell (p := ⟨w.heap.size, 10, none⟩) (show w.heap.size < V0.heap.size by omega)).trans q10
  replace c0 := (hb4.cell (p := ⟨fb, 0, none⟩) (show fb < V0.heap.size by omega)).trans c0
  replace c1 := (hb4.cell (p := ⟨fb, 1, none⟩) (show fb < V0.heap.size by omega)).trans c1
  replace c2 := (hb4.cell (p := ⟨fb, 2, none⟩) (show fb < V0.heap.size by omega)).trans c2
  replace c3 := (hb4.cell (p := ⟨fb, 3, none⟩) (show fb < V0.heap.size by omega)).trans c3
  replace zq9 := (hb4.frozen (p := ⟨w.heap.size, 9, none⟩) (show w.heap.size < V0.heap.size by omega)).trans zq9
  replace k0 := k0.trans (hb4.mono (by have := k0.size; omega))
  replace kb := kb.trans (hb4.mono hge0)
  clear ho4 hg4 hat hb4 HR NEWS A3 A4 hx1 hx2
  refine hK.out _ _ ⟨q0, q1, q2, q3, q4, q5, q6, q7, q8, q9, q10⟩ (fun hHeld => ?_)
  clear hK K
  (try simp only [Act.put, List.setIfInBounds_toArray, List.set_cons_zero, List.set_cons_succ])
  refine wpAnyH_ready (rs := [5]) (by kernel_rfl) (by simp) ?_
  refine (AllReadyH.cons (o := ⟨some 31, _, _, _, _, _⟩) rfl (fun K hK => ?_) AllReadyH.nil)
  go_simp
  clear hHeld
  have HFS : Hid (FsAt w4 (.slice (some ⟨g, 0, none⟩) (lo.length + 1) cap) (lo.map Fv.f ++ [strong nn])) := hide (by have := rows2_fs2 (shift2 HQ.out); rw [List.map_append] at this; exact this)
  refine (run_strong _ nn p0 (by omega) (by rw [List.length_map]; exact hl) (fun f hf => by obtain ⟨x, hx, rfl⟩ := List.mem_map.1 hf; exact ⟨(HT.out x hx).1, (HT.out x hx).2.1⟩) _ _ HFS.out).mono ?_
  rintro e w5 ⟨ga, ca, rfl, hca, hga, ⟨a0, a1, a2, a3, a4, a5, a6, a7, a8, a9, a10, a11, a12⟩, hbN⟩
  replace HX := hide (HX.out.below hbN)
  have hgw : w.heap.size < ga := Nat.lt_of_lt_of_le (cell_in q0) hga
  replace zq9 := (hbN.frozen (p := ⟨w.heap.size, 9, none⟩) (cell_in q9)).trans zq9
  replace q0 := cell_beh q0 hbN (Nat.le_refl _)
  replace q1 := cell_beh q1 hbN (Nat.le_refl _)
  replace q2 := cell_beh q2 hbN (Nat.le_refl _)
  replace q3 := cell_beh q3 hbN (Nat.le_refl _)
  replace q4 := cell_beh q4 hbN (Nat.le_refl _)
  replace q5 := cell_beh q5 hbN (Nat.le_refl _)
  replace q6 := cell_beh q6 hbN (Nat.le_refl _)
  replace q7 := cell_beh q7 hbN (Nat.le_refl _)
  replace q8 := cell_beh q8 hbN (Nat.le_refl _)
  replace q9 := cell_beh q9 hbN (Nat.le_refl _)
  replace q10 := cell_beh q10 hbN (Nat.le_refl _)
  replace c0 := cell_beh c0 hbN (Nat.le_refl _)
  replace c1 := cell_beh c1 hbN (Nat.le_refl _)
  replace c2 := cell_beh c2 hbN (Nat.le_refl _)
  replace c3 := cell_beh c3 hbN (Nat.le_refl _)
  replace k0 := k0.trans (hbN.mono k0.size)
  replace kb := kb.trans (hbN.mono kb.size)
  skip
  clear hbN HFS HQ
  refine hK.out _ _ ⟨q0, q1, q2, q3, q4, q5, q6, q7, q8, q9, q10⟩ (fun hHeld => ?_)
  clear hK K
  (try simp only [Act.put, List.setIfInBounds_toArray, List.set_cons_zero, List.set_cons_succ])
  refine wpAnyH_take (i := 6) (oi := ⟨some 25, _, _, _, _, _⟩) (v := ?v4) rfl (by kernel_rfl) (by kernel_rfl) (by kernel_rfl) (fun _ _ _ h => h) (Or.inl ⟨by rfl, ?h4⟩) (by assumption) ?r4
  case h4 => (intro w hSw; (try dsimp only at hSw); go_simp <;> with_reducible rfl)
  (try simp only [Act.put, List.setIfInBounds_toArray, List.set_cons_zero, List.set_cons_succ])
  refine wpAnyH_take (i := 7) (oi := ⟨some 32, _, _, _, _, _⟩) (v := ?v5) rfl (by kernel_rfl) (by kernel_rfl) (by kernel_rfl) (fun _ _ _ h => h) (Or.inl ⟨by rfl, ?h5⟩) (by assumption) ?r5
  case h5 => (intro w hSw; (try dsimp only at hSw); go_simp <;> with_reducible rfl)
  (try simp only [Act.put, List.setIfInBounds_toArray, List.set_cons_zero, List.set_cons_succ])
  refine wpAnyH_take (i := 8) (oi := ⟨some 33, _, _, _, _, _⟩) (v := ?v6) rfl (by kernel_rfl) (by kernel_rfl) (by kernel_rfl) (fun _ _ _ h => h) (Or.inl ⟨by rfl, ?h6⟩) (by assumption) ?r6
  case h6 => (intro w hSw; (try dsimp only at hSw); go_simp <;> with_reducible rfl)
  (try simp only [Act.put, List.setIfInBounds_toArray, List.set_cons_zero, List.set_cons_succ])
  refine wpAnyH_take (i := 9) (oi := ⟨some 7, _, _, _, _, _⟩) (v := ?v7) rfl (by kernel_rfl) (by kernel_rfl) (by kernel_rfl) (fun _ _ _ h => h) (Or.inl ⟨by rfl, ?h7⟩) (by assumption) ?r7
  case h7 => (intro w hSw; (try dsimp only at hSw); go_simp <;> with_reducible rfl)
  (try simp only [Act.put, List.setIfInBounds_toArray, List.set_cons_zero, List.set_cons_succ])
  refine wpAnyH_take (i := 10) (oi := ⟨some 8, _, _, _, _, _⟩) (v := ?v8) rfl (by kernel_rfl) (by kernel_rfl) (by kernel_rfl) (fun _ _ _ h => h) (Or.inl ⟨by rfl, ?h8⟩) (by assumption) ?r8
  case h8 => (intro w hSw; (try dsimp only at hSw); go_simp <;> with_reducible rfl)
  (try simp only [Act.put, List.setIfInBounds_toArray, List.set_cons_zero, List.set_cons_succ])
  refine wpAnyH_done (by kernel_rfl) ?_ _
  clear hHeld
  go_wp2_with fail
  have HF2 : Hid (FsAt w5 (.slice (some ⟨fb, 0, none⟩) 1 1) ([] ++ [strong nn])) := by
    refine ⟨some ⟨fb, 0, none⟩, 1, rfl, by simp, .inr ⟨fb, 0, rfl, by simp, fun i hi => ?_⟩⟩
    obtain rfl : i = 0 := by simp at hi; omega
    exact ⟨c0, c1, _, _, c2, c3, HX.out.1, HX.out.2.1⟩
  refine (run_strong [] nn p0 (by omega) (by simp) (by simp) _ _ HF2.out).mono ?_
  rintro e w6 ⟨gb, cb, rfl, hcb, hgb, ⟨b0, b1, b2, b3, b4, b5, b6, b7, b8, b9, b10, b11, b12⟩, hbN⟩
  have hgw2 : w.heap.size < gb := Nat.lt_of_lt_of_le (cell_in q0) hgb
  replace zq9 := (hbN.frozen (p := ⟨w.heap.size, 9, none⟩) (cell_in q9)).trans zq9
  replace a0 := cell_beh a0 hbN (Nat.le_refl _)
  replace a1 := cell_beh a1 hbN (Nat.le_refl _)
  replace a2 := cell_beh a2 hbN (Nat.le_refl _)
  replace a3 := cell_beh a3 hbN (Nat.le_refl _)
  replace a4 := cell_beh a4 hbN (Nat.le_refl _)
  replace a5 := cell_beh a5 hbN (Nat.le_refl _)
  replace a6 := cell_beh a6 hbN (Nat.le_refl _)
  replace a7 := cell_beh a7 hbN (Nat.le_refl _)
  replace a8 := cell_beh a8 hbN (Nat.le_refl _)
  replace a9 := cell_beh a9 hbN (Nat.le_refl _)
  replace a10 := cell_beh a10 hbN (Nat.le_refl _)
  replace a11 := cell_beh a11 hbN (Nat.le_refl _)
  replace a12 := cell_beh a12 hbN (Nat.le_refl _)
  replace q0 := cell_beh q0 hbN (Nat.le_refl _)
  replace q1 := cell_beh q1 hbN (Nat.le_refl _)
  replace q2 := cell_beh q2 hbN (Nat.le_refl _)
  replace q3 := cell_beh q3 hbN (Nat.le_refl _)
  replace q4 := cell_beh q4 hbN (Nat.le_refl _)
  replace q5 := cell_beh q5 hbN (Nat.le_refl _)
  replace q6 := cell_beh q6 hbN (Nat.le_refl _)
  replace q7 := cell_beh q7 hbN (Nat.le_refl _)
  replace q8 := cell_beh q8 hbN (Nat.le_refl _)
  replace q9 := cell_beh q9 hbN (Nat.le_refl _)
  replace q10 := cell_beh q10 hbN (Nat.le_refl _)
  replace k0 := k0.trans (hbN.mono k0.size)
  clear hbN HF2 HX c0 c1 c2 c3 hga hgb kb HX0 hsz0 hge0 hbs
  go_wp2_with fail
  replace a0 : (w6.setCell ⟨w.heap.size, 9, none⟩ (.int .i64 7)).cell? ⟨ga, 0, none⟩ = some _ := (World.cell?_setCell_other _ _ _ _ (by simp <;> omega)).trans a0
  replace a1 : (w6.setCell ⟨w.heap.size, 9, none⟩ (.int .i64 7)).cell? ⟨ga, 1, none⟩ = some _ := (World.cell?_setCell_other _ _ _ _ (by simp <;> omega)).trans a1
  replace a2 : (w6.setCell ⟨w.heap.size, 9, none⟩ (.int .i64 7)).cell? ⟨ga, 2, none⟩ = some _ := (World.cell?_setCell_other _ _ _ _ (by simp <;> omega)).trans a2
  replace a3 : (w6.setCell ⟨w.heap.size, 9, none⟩ (.int .i64 7)).cell? ⟨ga, 3, none⟩ = some _ := (World.cell?_setCell_other _ _ _ _ (by simp <;> omega)).trans a3
  replace a4 : (w6.setCell ⟨w.heap.size, 9, none⟩ (.int .i64 7)).cell? ⟨ga, 4, none⟩ = some _ := (World.cell?_setCell_other _ _ _ _ (by simp <;> omega)).trans a4
  replace a5 : (w6.setCell ⟨w.heap.size, 9, none⟩ (.int .i64 7)).cell? ⟨ga, 5, none⟩ = some _ := (World.cell?_setCell_other _ _ _ _ (by simp <;> omega)).trans a5
  replace a6 : (w6.setCell ⟨w.heap.size, 9, none⟩ (.int .i64 7)).cell? ⟨ga, 6, none⟩ = some _ := (World.cell?_setCell_other _ _ _ _ (by simp <;> omega)).trans a6
  replace a7 : (w6.setCell ⟨w.heap.size, 9, none⟩ (.int .i64 7)).cell? ⟨ga, 7, none⟩ = some _ := (World.cell?_setCell_other _ _ _ _ (by simp <;> omega)).trans a7
  replace a8 : (w6.setCell ⟨w.heap.size, 9, none⟩ (.int .i64 7)).cell? ⟨ga, 8, none⟩ = some _ := (World.cell?_setCell_other _ _ _ _ (by simp <;> omega)).trans a8
  replace a9 : (w6.setCell ⟨w.heap.size, 9, none⟩ (.int .i64 7)).cell? ⟨ga, 9, none⟩ = some _ := (World.cell?_setCell_other _ _ _ _ (by simp <;> omega)).trans a9
  replace a10 : (w6.setCell ⟨w.heap.size, 9, none⟩ (.int .i64 7)).cell? ⟨ga, 10, none⟩ = some _ := (World.cell?_setCell_other _ _ _ _ (by simp <;> omega)).trans a10
  replace a11 : (w6.setCell ⟨w.heap.size, 9, none⟩ (.int .i64 7)).cell? ⟨ga, 11, none⟩ = some _ := (World.cell?_setCell_other _ _ _ _ (by simp <;> omega)).trans a11
  replace a12 : (w6.setCell ⟨w.heap.size, 9, none⟩ (.int .i64 7)).cell? ⟨ga, 12, none⟩ = some _ := (World.cell?_setCell_other _ _ _ _ (by simp <;> omega)).trans a12
  replace b0 : (w6.setCell ⟨w.heap.size, 9, none⟩ (.int .i64 7)).cell? ⟨gb, 0, none⟩ = some _ := (World.cell?_setCell_other _ _ _ _ (by simp <;> omega)).trans b0
  replace b1 : (w6.setCell ⟨w.heap.size, 9, none⟩ (.int .i64 7)).cell? ⟨gb, 1, none⟩ = some _ := (World.cell?_setCell_other _ _ _ _ (by simp <;> omega)).trans b1
  replace b2 : (w6.setCell ⟨w.heap.size, 9, none⟩ (.int .i64 7)).cell? ⟨gb, 2, none⟩ = some _ := (World.cell?_setCell_other _ _ _ _ (by simp <;> omega)).trans b2
  replace b3 : (w6.setCell ⟨w.heap.size, 9, none⟩ (.int .i64 7)).cell? ⟨gb, 3, none⟩ = some _ := (World.cell?_setCell_other _ _ _ _ (by simp <;> omega)).trans b3
  replace b4 : (w6.setCell ⟨w.heap.size, 9, none⟩ (.int .i64 7)).cell? ⟨gb, 4, none⟩ = some _ := (World.cell?_setCell_other _ _ _ _ (by simp <;> omega)).trans b4
  replace b5 : (w6.setCell ⟨w.heap.size, 9, none⟩ (.int .i64 7)).cell? ⟨gb, 5, none⟩ = some _ := (World.cell?_setCell_other _ _ _ _ (by simp <;> omega)).trans b5
  replace b6 : (w6.setCell ⟨w.heap.size, 9, none⟩ (.int .i64 7)).cell? ⟨gb, 6, none⟩ = some _ := (World.cell?_setCell_other _ _ _ _ (by simp <;> omega)).trans b6
  replace b7 : (w6.setCell ⟨w.heap.size, 9, none⟩ (.int .i64 7)).cell? ⟨gb, 7, none⟩ = some _ := (World.cell?_setCell_other _ _ _ _ (by simp <;> omega)).trans b7
  replace b8 : (w6.setCell ⟨w.heap.size, 9, none⟩ (.int .i64 7)).cell? ⟨gb, 8, none⟩ = some _ := (World.cell?_setCell_other _ _ _ _ (by simp <;> omega)).trans b8
  replace b9 : (w6.setCell ⟨w.heap.size, 9, none⟩ (.int .i64 7)).cell? ⟨gb, 9, none⟩ = some _ := (World.cell?_setCell_other _ _ _ _ (by simp <;> omega)).trans b9
  replace b10 : (w6.setCell ⟨w.heap.size, 9, none⟩ (.int .i64 7)).cell? ⟨gb, 10, none⟩ = some _ := (World.cell?_setCell_other _ _ _ _ (by simp <;> omega)).trans b10
  replace b11 : (w6.setCell ⟨w.heap.size, 9, none⟩ (.int .i64 7)).cell? ⟨gb, 11, none⟩ = some _ := (World.cell?_setCell_other _ _ _ _ (by simp <;> omega)).trans b11
  replace b12 : (w6.setCell ⟨w.heap.size, 9, none⟩ (.int .i64 7)).cell? ⟨gb, 12, none⟩ = some _ := (World.cell?_setCell_other _ _ _ _ (by simp <;> omega)).trans b12
  replace q0 : (w6.setCell ⟨w.heap.size, 9, none⟩ (.int .i64 7)).cell? ⟨w.heap.size, 0, none⟩ = some _ := (World.cell?_setCell_other _ _ _ _ (by simp <;> omega)).trans q0
  replace q1 : (w6.setCell ⟨w.heap.size, 9, none⟩ (.int .i64 7)).cell? ⟨w.heap.size, 1, none⟩ = some _ := (World.cell?_setCell_other _ _ _ _ (by simp <;> omega)).trans q1
  replace q2 : (w6.setCell ⟨w.heap.size, 9, none⟩ (.int .i64 7)).cell? ⟨w.heap.size, 2, none⟩ = some _ := (World.cell?_setCell_other _ _ _ _ (by simp <;> omega)).trans q2
  replace q3 : (w6.setCell ⟨w.heap.size, 9, none⟩ (.int .i64 7)).cell? ⟨w.heap.size, 3, none⟩ = some _ := (World.cell?_setCell_other _ _ _ _ (by simp <;> omega)).trans q3
  replace q4 : (w6.setCell ⟨w.heap.size, 9, none⟩ (.int .i64 7)).cell? ⟨w.heap.size, 4, none⟩ = some _ := (World.cell?_setCell_other _ _ _ _ (by simp <;> omega)).trans q4
  replace q5 : (w6.setCell ⟨w.heap.size, 9, none⟩ (.int .i64 7)).cell? ⟨w.heap.size, 5, none⟩ = some _ := (World.cell?_setCell_other _ _ _ _ (by simp <;> omega)).trans q5
  replace q6 : (w6.setCell ⟨w.heap.size, 9, none⟩ (.int .i64 7)).cell? ⟨w.heap.size, 6, none⟩ = some _ := (World.cell?_setCell_other _ _ _ _ (by simp <;> omega)).trans q6
  replace q7 : (w6.setCell ⟨w.heap.size, 9, none⟩ (.int .i64 7)).cell? ⟨w.heap.size, 7, none⟩ = some _ := (World.cell?_setCell_other _ _ _ _ (by simp <;> omega)).trans q7
  replace q8 : (w6.setCell ⟨w.heap.size, 9, none⟩ (.int .i64 7)).cell? ⟨w.heap.size, 8, none⟩ = some _ := (World.cell?_setCell_other _ _ _ _ (by simp <;> omega)).trans q8
  replace q10 : (w6.setCell ⟨w.heap.size, 9, none⟩ (.int .i64 7)).cell? ⟨w.heap.size, 10, none⟩ = some _ := (World.cell?_setCell_other _ _ _ _ (by simp <;> omega)).trans q10
  replace q9 : (w6.setCell ⟨w.heap.size, 9, none⟩ (.int .i64 7)).cell? ⟨w.heap.size, 9, none⟩ = some (.int .i64 7) := World.cell?_setCell_same _ _ _ q9
  replace k0 := k0.setCell (p := ⟨w.heap.size, 9, none⟩) (Nat.le_refl _) (.int .i64 7)
  clear zq9
  generalize (w6.setCell ⟨w.heap.size, 9, none⟩ (.int .i64 7)) = W7 at *
  refine (equalSn_any 5 3 nn 0 0 0 0 0 0 0 0 7 ⟨#[]⟩ ga 0 ca gb 0 cb _ a0 a1 a2 a3 a4 a5 a6 a7 a8 a9 a10 a11 a12 b0 b1 b2 b3 b4 b5 b6 b7 b8 b9 b10 b11 b12 hca hcb).mono ?_
  rintro e w8 ⟨rfl, hb8⟩
  replace a0 := cell_beh a0 hb8 (Nat.le_refl _)
  replace a1 := cell_beh a1 hb8 (Nat.le_refl _)
  replace a2 := cell_beh a2 hb8 (Nat.le_refl _)
  replace a3 := cell_beh a3 hb8 (Nat.le_refl _)
  replace a4 := cell_beh a4 hb8 (Nat.le_refl _)
  replace a5 := cell_beh a5 hb8 (Nat.le_refl _)
  replace a6 := cell_beh a6 hb8 (Nat.le_refl _)
  replace a7 := cell_beh a7 hb8 (Nat.le_refl _)
  replace a8 := cell_beh a8 hb8 (Nat.le_refl _)
  replace a9 := cell_beh a9 hb8 (Nat.le_refl _)
  replace a10 := cell_beh a10 hb8 (Nat.le_refl _)
  replace a11 := cell_beh a11 hb8 (Nat.le_refl _)
  replace a12 := cell_beh a12 hb8 (Nat.le_refl _)
  replace q0 := cell_beh q0 hb8 (Nat.le_refl _)
  replace q1 := cell_beh q1 hb8 (Nat.le_refl _)
  replace q2 := cell_beh q2 hb8 (Nat.le_refl _)
  replace q3 := cell_beh q3 hb8 (Nat.le_refl _)
  replace q4 := cell_beh q4 hb8 (Nat.le_refl _)
  replace q5 := cell_beh q5 hb8 (Nat.le_refl _)
  replace q6 := cell_beh q6 hb8 (Nat.le_refl _)
  replace q7 := cell_beh q7 hb8 (Nat.le_refl _)
  replace q8 := cell_beh q8 hb8 (Nat.le_refl _)
  replace q9 := cell_beh q9 hb8 (Nat.le_refl _)
  replace q10 := cell_beh q10 hb8 (Nat.le_refl _)
  replace k0 := k0.trans (hb8.mono k0.size)
  clear hb8 b0 b1 b2 b3 b4 b5 b6 b7 b8 b9 b10 b11 b12
  go_wp2_with fail
  refine (equalSn_any 5 3 nn 0 0 0 0 0 0 0 0 7 ⟨#[]⟩ ga 0 ca w8.heap.size 0 1 _ (old_cell a0 _) (old_cell a1 _) (old_cell a2 _) (old_cell a3 _) (old_cell a4 _) (old_cell a5 _) (old_cell a6 _) (old_cell a7 _) (old_cell a8 _) (old_cell a9 _) (old_cell a10 _) (old_cell a11 _) (old_cell a12 _) (new_cell w8 _ rfl _ _ 0 _ rfl) (new_cell w8 _ rfl _ _ 1 _ rfl) (new_cell w8 _ rfl _ _ 2 _ rfl) (new_cell w8 _ rfl _ _ 3 _ rfl) (new_cell w8 _ rfl _ _ 4 _ rfl) (new_cell w8 _ rfl _ _ 5 _ rfl) (new_cell w8 _ rfl _ _ 6 _ rfl) (new_cell w8 _ rfl _ _ 7 _ rfl) (new_cell w8 _ rfl _ _ 8 _ rfl) (new_cell w8 _ rfl _ _ 9 _ rfl) (new_cell w8 _ rfl _ _ 10 _ rfl) (new_cell w8 _ rfl _ _ 11 _ rfl) (new_cell w8 _ rfl _ _ 12 _ rfl) hca (Nat.le_refl _)).mono ?_
  rintro e w9 ⟨rfl, hb9⟩
  have k9 := k0.alloc k0.size (.cells #[.int .i64 5, .int .i64 3, .int .i64 nn, .int .i64 0, .int .i64 0, .int .i64 0, .int .i64 0, .int .i64 0, .int .i64 0, .int .i64 0, .int .i64 0, .int .i64 7, .string ⟨#[]⟩] 49)
  replace k0 := k9.trans (hb9.mono k9.size)
  clear hb9 k9
  go_wp2_with fail
  go_ret
  exact ⟨rfl, k0⟩

set_option maxRecDepth 100000 in
theorem runsFirst_lifted (os : Os) (started : os.Started) (H : Type) (enc : TypeId × Value → H) :
    ReturnsInHanded {} Try.checked os 5 .any (Rows.runsFirstSpec.pre6 enc Try.prog Try.f5 Rows.runsFirstRow.domain false) (Rows.runsFirstSpec.post enc Try.prog Try.f5 false true false false) := by
  refine returnsInHanded_of_change (C := Try.checked) own started (by kernel_rfl) Try.func5
    (ChangeSpec.witness6 (enc := enc) (C := Try.checked) false ⟨#[], #[.slice none 0 0, .int .i64 0], []⟩ 8 (by kernel_rfl) (by kernel_rfl) (by kernel_rfl) (by kernel_rfl)) ?_
  intro W base args ds gs before hval0 hW hcnd _
  have hval : ∀ (j : Nat) t v, Try.f5.params[j]? = some t → args[j]? = some v → Value.okWide Try.prog W .any base t v := hval0
  have hW' := hW
  obtain ⟨p, q, hA0, hV, rfl, hfz, hnd⟩ := hW
  have hA : DataW.TrodAll enc Try.prog W 0 (fun _ => true) true Try.f5.params.toList args.toList ds p := hA0
  rw [Try.params5] at hA hval
  obtain ⟨v0, vs0, d0, ds0, p0, q0, hargs, rfl, rfl, h0, r0⟩ := trodAll_cons hA
  obtain ⟨v1, vs1, d1, ds1, p1, q1, rfl, rfl, rfl, h1, r1⟩ := trodAll_cons r0
  obtain ⟨rfl, rfl, rfl⟩ := trodAll_nil r1
  obtain rfl : args = #[v0, v1] := by cases args; simp_all
  obtain ⟨rfl, rfl⟩ := trodVars_none hV
  have k0 := h0
  have lt0 : ∀ x ∈ p0, x.block < W.heap.size := by obtain ⟨m, hm⟩ := k0; exact DataW.trod_lt m _ _ _ hm
  obtain ⟨l0, hl0⟩ := open_raws (hval 0 29 v0 rfl rfl) h0
  obtain ⟨x1, rfl, rfl, rfl, wx1⟩ := open_int Try.underlying3 (hval 1 3 v1 rfl rfl) h1
  clear hA0 hval0
  refine (runsFirst_any v0 l0 x1 W hl0 (i64_in wx1).1 (i64_in wx1).2).mono fun e W' ⟨he, bel⟩ => ?_
  subst he
  exact ⟨_, rfl, _, _, _, [], _, [], hW', trodAll_mk1 (shut_bool Try.underlying4 _), (trodAll_cons_mk (Below.trod laidOut (by kernel_rfl) (of_decide_eq_true (by kernel_rfl)) k0 bel lt0) (trodAll_cons_mk (shut_int Try.underlying3 wx1) trodAll_mk0)), rfl, bel.frame _, fun h => by cases h⟩

theorem runsFirst_holds : Rows.RunsFirstSaid :=
  OpenClaim.holds_of_wide 5 Try.f5 rfl rfl rfl rfl rfl rfl rfl ⟨rfl, rfl, rfl, rfl, rfl⟩ rfl rfl rfl rfl rfl (by kernel_rfl) Try.func5 (by kernel_rfl)
    (of_decide_eq_true (by kernel_rfl)) (by unfold Func.isWrapper; first | (rw [if_pos (by decide +kernel)]; kernel_rfl) | (rw [if_neg (by decide +kernel)]; exact ⟨rfl, rfl⟩))
    (fun os started H enc _ => runsFirst_lifted os started H enc)

end Go.Proofs.Ytonhfgdnkkkikac
