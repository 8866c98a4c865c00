/-
  What flow.Check answers: over the matches by slices.ContainsFunc, over what a flow does by mayDo.
-/
import Derived.Test.YtonhfgdnkkkikacFk
namespace Go.Proofs.Ytonhfgdnkkkikac
open Go.RowKit
set_option linter.unusedVariables false
set_option maxRecDepth 100000

set_option maxHeartbeats 1000000 in
theorem noMatch_any (f m v : Int) (w : World) :
    Calls Try.prog 83 #[.agg #[.int .i64 f, .int .i64 m, .int .i64 v]] w fun e w' => e = .returned (.bool (!matchB ⟨f, m, v⟩)) ∧ Below w.heap.size w w' := by
  have HI := hide (isMatch_any f m v)
  generalize matchB ⟨f, m, v⟩ = R at HI ⊢
  go_enter Try.func83, Try.ntmps83
  go_wp2_with fail
  refine (unhide HI _).mono ?_
  rintro e w1 ⟨rfl, hb1⟩
  go_wp2_with fail
  go_ret
  exact ⟨rfl, by simpa using (by first | exact hb1 | exact ((Below.refl _ _).alloc (Nat.le_refl _) _).trans (hb1.mono (by simp)))⟩

set_option maxHeartbeats 2000000 in
theorem indexMs_any (v : Value) (ms : List Mt) (w : World) (hM : MsAt w v ms) (hl : ms.length ≤ 12) :
    Calls Try.prog 106 #[v, .func (.func 83) #[] #[]] w fun e w' => ∃ r : Int, e = .returned (.int .i64 r) ∧ decide (0 ≤ r) = !ms.all matchB ∧ Below w.heap.size w w' := by
  obtain ⟨a, cap, rfl, hn, hL⟩ := hM
  go_enter Try.func106, Try.ntmps106
  go_wp2_with fail
  go_loopw [8] (fun i wr => ∃ k : Nat, k ≤ ms.length ∧ i = .int .i64 k ∧ (∀ j, j < k → matchB (ms.getD j mt0) = true) ∧ Below w.heap.size w wr) (fun i _ => ms.length - (intOf i).toNat)
  case atStart => exact ⟨0, by omega, rfl, fun j h => absurd h (by omega), Below.refl _ _⟩
  case round =>
    obtain ⟨k, hk, rfl, hall, hbel⟩ := hrel
    have HALL := hide hall
    clear hall
    by_cases hlt : k < ms.length
    · obtain ⟨b, off, rfl, hcap, hcell⟩ : ∃ b off, a = some ⟨b, off, none⟩ ∧ ms.length ≤ cap ∧ ∀ i, i < ms.length → w.cell? ⟨b, off + i * 3, none⟩ = some (.int .i64 (ms.getD i mt0).f) ∧ w.cell? ⟨b, off + i * 3 + 1, none⟩ = some (.int .i64 (ms.getD i mt0).m) ∧ w.cell? ⟨b, off + i * 3 + 2, none⟩ = some (.int .i64 (ms.getD i mt0).v) := by
        rcases hL with h0 | h
        · omega
        · exact h
      obtain ⟨g0, g1, g2⟩ := hcell k hlt
      have m0' := cell_below g0 hbel (Nat.le_refl _)
      have m1' := cell_below g1 hbel (Nat.le_refl _)
      have m2' := cell_below g2 hbel (Nat.le_refl _)
      have hsz := hbel.size
      have HX : Hid (matchB (ms.getD k mt0) = true → ∀ x, x < k + 1 → matchB (ms.getD x mt0) = true) := fun h x hx => by
        by_cases e : x = k
        · subst e; exact h
        · exact HALL.out x (by omega)
      have HF : Hid (matchB (ms.getD k mt0) = false → ms.all matchB = false) := fun h => by
        rw [List.all_eq_false]
        exact ⟨ms[k], List.getElem_mem hlt, by simpa [List.getD, List.getElem?_eq_getElem hlt] using h⟩
      have HC : Hid (∀ W : World, Calls Try.prog 83 #[.agg #[.int .i64 (ms.getD k mt0).f, .int .i64 (ms.getD k mt0).m, .int .i64 (ms.getD k mt0).v]] W fun e w' => e = .returned (.bool (!matchB (ms.getD k mt0))) ∧ Below W.heap.size W w') := fun W => noMatch_any _ _ _ W
      clear g0 g1 g2 hcell hL HALL
      generalize (ms.getD k mt0) = M at *
      by_cases hx : matchB M = true
      · have HR := hide (HX.out hx)
        rw [hx] at HC
        clear HX HF hx
        go_wp2_with fail
        refine (unhide HC _).mono ?_
        rintro e w1 ⟨rfl, hb1⟩
        have hb2 := hbel.trans (hb1.mono hsz)
        go_wp2_with fail
        go_roundw
        case rel => exact ⟨k + 1, by omega, by go_num, HR.out, hb2⟩
        case measure => simp [intOf]; omega
      · have hx' : matchB M = false := by simpa using hx
        have HR := hide (HF.out hx')
        rw [hx'] at HC
        clear HX HF hx hx'
        go_wp2_with fail
        refine (unhide HC _).mono ?_
        rintro e w1 ⟨rfl, hb1⟩
        have hb2 := hbel.trans (hb1.mono hsz)
        go_wp2_with fail
        go_ret
        exact ⟨_, rfl, by rw [HR.out]; simp, hb2⟩
    · have HR : Hid (ms.all matchB = true) := by
        refine hide ?_
        rw [List.all_eq_true]
        intro x hx
        obtain ⟨i, hi, rfl⟩ := List.getElem_of_mem hx
        have := HALL.out i (by omega)
        simpa [List.getD, List.getElem?_eq_getElem hi] using this
      clear hL HALL
      go_wp2_with fail
      go_ret
      exact ⟨_, rfl, by rw [HR.out]; simp, hbel⟩

set_option maxHeartbeats 1000000 in
theorem containsMs_any (v : Value) (ms : List Mt) (w : World) (hM : MsAt w v ms) (hl : ms.length ≤ 12) :
    Calls Try.prog 82 #[v, .func (.func 83) #[] #[]] w fun e w' => e = .returned (.bool (!ms.all matchB)) ∧ Below w.heap.size w w' := by
  have HM := hide hM
  obtain ⟨a, cap, rfl, hn, hL⟩ := hM
  clear hL
  go_enter Try.func82, Try.ntmps82
  go_wp2_with fail
  refine (indexMs_any _ ms _ HM.out hl).mono ?_
  rintro e w1 ⟨r, rfl, hr, hb1⟩
  have HRR := hide hr
  clear hr
  go_wp2_with fail
  go_ret
  exact ⟨bool_ret HRR.out, hb1⟩

set_option maxHeartbeats 4000000 in
theorem mayDo_any (f : Fl) (mv v : Value) (w : World) (hD : DsAt w v f.ds) (hl : f.ds.length ≤ 100) :
    Calls Try.prog 85 #[.agg #[.int .i64 f.t, .int .i64 f.p, mv, v]] w fun e w' => e = .returned (.bool ((List.range f.ds.length).all (doB f.t f.ds))) ∧ Below w.heap.size w w' := by
  have HDS := hide hD
  obtain ⟨a, cap, rfl, hn, hL⟩ := hD
  clear hL
  go_enter Try.func85, Try.ntmps85
  go_wp2_with fail
  obtain ⟨W1, hW1⟩ : ∃ W1, W1 = w.alloc (.cells #[.int .i64 f.t, .int .i64 f.p, mv, .slice a f.ds.length cap] 41) := ⟨_, rfl⟩
  have q0 : W1.cell? ⟨w.heap.size, 0, none⟩ = some (.int .i64 f.t) := by rw [hW1]; simp
  have q3 : W1.cell? ⟨w.heap.size, 3, none⟩ = some (.slice a f.ds.length cap) := by rw [hW1]; simp
  have hbW : Below w.heap.size w W1 := by rw [hW1]; exact (Below.refl _ _).alloc (Nat.le_refl _) _
  have HD1 := hide (HDS.out.below hbW (Nat.le_refl _))
  have hz1 : w.heap.size < W1.heap.size := by rw [hW1]; simp
  rw [← hW1]
  clear hW1 HDS
  go_loopw [8] (fun i wr => ∃ k : Nat, k ≤ f.ds.length ∧ i = .int .i64 k ∧ (∀ j, j < k → doB f.t f.ds j = true) ∧ Below W1.heap.size W1 wr) (fun i _ => f.ds.length - (intOf i).toNat)
  case atStart => exact ⟨0, by omega, rfl, fun j h => absurd h (by omega), Below.refl _ _⟩
  case round =>
    obtain ⟨k, hk, rfl, hall, hbel⟩ := hrel
    have HALL := hide hall
    clear hall
    have hbel1 : Below w.heap.size w wr := hbW.trans (hbel.mono hbW.size)
    have c0 := cell_below q0 hbel (Nat.le_refl _)
    have c3 := cell_below q3 hbel (Nat.le_refl _)
    have hszr := hbel.size
    have hszw : w.heap.size < wr.heap.size := by omega
    by_cases hlt : k < f.ds.length
    · obtain ⟨a', cap', hv, hn', hL⟩ := HD1.out
      simp only [Value.slice.injEq] at hv
      obtain ⟨rfl, _, rfl⟩ := hv
      obtain ⟨b, off, rfl, hcap, hcell⟩ : ∃ b off, a = some ⟨b, off, none⟩ ∧ f.ds.length ≤ cap ∧ ∀ i, i < f.ds.length → W1.cell? ⟨b, off + i * 3, none⟩ = some (.int .i64 (f.ds.getD i do0).k) ∧ W1.cell? ⟨b, off + i * 3 + 1, none⟩ = some (.int .i64 (f.ds.getD i do0).a) ∧ W1.cell? ⟨b, off + i * 3 + 2, none⟩ = some (.int .i64 (f.ds.getD i do0).n) := by
        rcases hL with h0 | h
        · omega
        · exact h
      obtain ⟨g0, g1, g2⟩ := hcell k hlt
      have m0' := cell_below g0 hbel (Nat.le_refl _)
      have m1' := cell_below g1 hbel (Nat.le_refl _)
      have m2' := cell_below g2 hbel (Nat.le_refl _)
      have hbb := cell_lt m0'
      have HX : Hid (doB f.t f.ds k = true → ∀ x, x < k + 1 → doB f.t f.ds x = true) := fun h x hx => by
        by_cases e : x = k
        · subst e; exact h
        · exact HALL.out x (by omega)
      have HF : Hid (doB f.t f.ds k = false → (List.range f.ds.length).all (doB f.t f.ds) = false) := fun h => by
        rw [List.all_eq_false]
        exact ⟨k, List.mem_range.2 hlt, by simpa using h⟩
      have HD : Hid (doB f.t f.ds k = doesB (f.ds.getD k do0).k (f.ds.getD k do0).a (f.ds.getD k do0).n f.t ((k : Int) + 1 == (f.ds.length : Int))) := rfl
      clear g0 g1 g2 hcell hL HALL HD1 hn'
      generalize (f.ds.getD k do0).k = dk at *
      generalize (f.ds.getD k do0).a = da at *
      generalize (f.ds.getD k do0).n = dn at *
      have HT : Hid (∀ last, doesB dk da dn f.t last = (doesB dk da dn f.t true && (!(dk == 4) || last))) := fun last => by
        unfold doesB
        by_cases e : dk = 4
        · subst e; simp
        · simp [e]
      have HC := hide (isDoes_any dk da dn f.t)
      generalize doesB dk da dn f.t true = R at HC HT
      have hbA : Below wr.heap.size wr (wr.alloc (.cells #[.int .i64 dk, .int .i64 da, .int .i64 dn] 38)) := (Below.refl _ _).alloc (Nat.le_refl _) _
      have k0 : (wr.alloc (.cells #[.int .i64 dk, .int .i64 da, .int .i64 dn] 38)).cell? ⟨wr.heap.size, 0, none⟩ = some (.int .i64 dk) := by simp
      have k3 := cell_below c3 hbA (Nat.le_refl _)
      have HK0 := hide k0
      have HK3 := hide k3
      clear k0 k3
      have hwl : IntKind.i64.wrap ((f.ds.length : Int) - 1) = (f.ds.length : Int) - 1 := wrapI _ (by omega) (by omega)
      go_wp2_with fail
      refine (unhide HC _).mono ?_
      rintro e w1 ⟨rfl, hb1⟩
      have n0 := cell_below HK0.out hb1 (Nat.le_refl _)
      have n3 := cell_below HK3.out hb1 (Nat.le_refl _)
      have hbA2 := hbA.trans (hb1.mono hbA.size)
      have hbN : Below W1.heap.size W1 w1 := hbel.trans (hbA2.mono hszr)
      have hbN1 : Below w.heap.size w w1 := hbel1.trans (hbA2.mono (by omega))
      clear HK0 HK3 hb1 hbA hbA2 HC c0 c3 m0' m1' m2' q0 q3
      by_cases hR : R = true
      · subst hR
        by_cases e4 : dk = 4
        · by_cases el : k + 1 = f.ds.length
          · have HRR := hide (HX.out (by rw [HD.out, HT.out]; simp; omega))
            have hne : ((k : Int) != (f.ds.length : Int) - 1) = false := by simp; omega
            clear HX HF HD HT
            go_wp2_with fail
            go_roundw
            case rel => exact ⟨k + 1, by omega, by go_num, HRR.out, hbN⟩
            case measure => simp [intOf]; omega
          · have HRR := hide (HF.out (by rw [HD.out, HT.out]; simp [e4]; omega))
            have hne : ((k : Int) != (f.ds.length : Int) - 1) = true := by simp; omega
            clear HX HF HD HT
            go_wp2_with fail
            go_ret
            exact ⟨bool_ret HRR.out.symm, hbN1⟩
        · have HRR := hide (HX.out (by rw [HD.out, HT.out]; simp [e4]))
          clear HX HF HD HT
          go_wp2_with fail
          go_roundw
          case rel => exact ⟨k + 1, by omega, by go_num, HRR.out, hbN⟩
          case measure => simp [intOf]; omega
      · have hR' : R = false := by simpa using hR
        subst hR'
        have HRR := hide (HF.out (by rw [HD.out, HT.out]; simp))
        clear HX HF HD HT hR
        go_wp2_with fail
        go_ret
        exact ⟨bool_ret HRR.out.symm, hbN1⟩
    · have HR : Hid ((List.range f.ds.length).all (doB f.t f.ds) = true) := by
        refine hide ?_
        rw [List.all_eq_true]
        intro j hj
        exact HALL.out j (by have := List.mem_range.1 hj; omega)
      clear HALL
      go_wp2_with fail
      go_ret
      exact ⟨bool_ret HR.out.symm, hbel1⟩

set_option maxHeartbeats 4000000 in
theorem checkFlow_any (f : Fl) (mv dv : Value) (w : World) (hM : MsAt w mv f.ms) (hD : DsAt w dv f.ds) :
    Calls Try.prog 55 #[.agg #[.int .i64 f.t, .int .i64 f.p, mv, dv]] w fun e w' => e = .returned (.int .i64 (flFault f)) ∧ Below w.heap.size w w' := by
  have HMS := hide hM
  have HDS := hide hD
  obtain ⟨ma, mcap, rfl, hmn, hmL⟩ := hM
  obtain ⟨da, dcap, rfl, hdn, hdL⟩ := hD
  clear hmL hdL
  have hA : ∀ o : Obj, Below w.heap.size w (w.alloc o) := fun o => (Below.refl _ _).alloc (Nat.le_refl _) o
  by_cases s1 : 12 < f.ms.length
  · have HV : Hid (flFault f = 1) := flFault_size (.inl s1)
    go_enter Try.func55, Try.ntmps55
    go_wp2_with fail
    go_ret
    exact ⟨int_ret HV.out.symm, hA _⟩
  · by_cases s2 : 100 < f.ds.length
    · have HV : Hid (flFault f = 1) := flFault_size (.inr s2)
      go_enter Try.func55, Try.ntmps55
      go_wp2_with fail
      go_ret
      exact ⟨int_ret HV.out.symm, hA _⟩
    · have hns : ¬ (12 < f.ms.length ∨ 100 < f.ds.length) := by omega
      by_cases s3 : (tableB f.t && prioB f.p) = true
      · obtain ⟨s4, s5⟩ : tableB f.t = true ∧ prioB f.p = true := by simpa using s3
        have t0 : 0 ≤ f.t ∧ f.t ≤ 7 := by simpa [tableB] using s4
        have t1 : 0 ≤ f.p ∧ f.p ≤ 2000 := by simpa [prioB] using s5
        have a1 : decide (f.t < 0) = false := by simp; omega
        have a2 : decide (8 ≤ f.t) = false := by simp; omega
        have a3 : decide (f.p < 0) = false := by simp; omega
        have a4 : decide (2000 < f.p) = false := by simp; omega
        clear s4 s5
        have HW : Hid (∀ o : Obj, MsAt (w.alloc o) (.slice ma f.ms.length mcap) f.ms) := fun o => HMS.out.below (hA o) (Nat.le_refl _)
        go_enter Try.func55, Try.ntmps55
        go_wp2_with fail
        obtain ⟨W1, hW1⟩ : ∃ W1, W1 = w.alloc (.cells #[.int .i64 f.t, .int .i64 f.p, .slice ma f.ms.length mcap, .slice da f.ds.length dcap] 41) := ⟨_, rfl⟩
        have q0 : W1.cell? ⟨w.heap.size, 0, none⟩ = some (.int .i64 f.t) := by rw [hW1]; simp
        have q1 : W1.cell? ⟨w.heap.size, 1, none⟩ = some (.int .i64 f.p) := by rw [hW1]; simp
        have q2 : W1.cell? ⟨w.heap.size, 2, none⟩ = some (.slice ma f.ms.length mcap) := by rw [hW1]; simp
        have q3 : W1.cell? ⟨w.heap.size, 3, none⟩ = some (.slice da f.ds.length dcap) := by rw [hW1]; simp
        have hbW : Below w.heap.size w W1 := by rw [hW1]; exact hA _
        rw [← hW1]
        clear hW1 HW
        have HM1 := hide (HMS.out.below hbW (Nat.le_refl _))
        have HD1 := hide (HDS.out.below hbW (Nat.le_refl _))
        clear HMS HDS hA
        refine (containsMs_any _ f.ms _ HM1.out (by omega)).mono ?_
        rintro e w1 ⟨rfl, hb1⟩
        have HD2 := hide (HD1.out.below hb1 (Nat.le_refl _))
        have r0 := cell_below q0 hb1 (Nat.le_refl _)
        have r1 := cell_below q1 hb1 (Nat.le_refl _)
        have r2 := cell_below q2 hb1 (Nat.le_refl _)
        have r3 := cell_below q3 hb1 (Nat.le_refl _)
        have hbel := hbW.trans (hb1.mono hbW.size)
        clear q0 q1 q2 q3 HM1 HD1 hb1 hbW
        have hs1 := hbel.size
        by_cases sm : f.ms.all matchB = true
        · rw [sm]
          have HC := hide (mayDo_any f (.slice ma f.ms.length mcap) _ w1 HD2.out (by omega))
          have HV : Hid (flFault f = if (List.range f.ds.length).all (doB f.t f.ds) = false then 4 else 0) := by
            show _ = _
            unfold flFault; rw [if_neg hns, if_neg (by simp [s3]), if_neg (by simp [sm])]
          clear HD2 s3 sm
          generalize (List.range f.ds.length).all (doB f.t f.ds) = R at HC HV
          go_wp2_with fail
          refine (unhide HC).mono ?_
          rintro e w2 ⟨rfl, hb2⟩
          have hbel2 := hbel.trans (hb2.mono hs1)
          clear r0 r1 r2 r3
          cases R
          · go_wp2_with fail
            go_ret
            exact ⟨int_ret (by rw [HV.out]; rfl), hbel2⟩
          · go_wp2_with fail
            go_ret
            exact ⟨int_ret (by rw [HV.out]; rfl), hbel2⟩
        · have sm' : f.ms.all matchB = false := by simpa using sm
          rw [sm']
          have HV : Hid (flFault f = 4) := by
            show _ = _
            unfold flFault; rw [if_neg hns, if_neg (by simp [s3]), if_pos sm']
          clear HD2 s3 sm sm'
          go_wp2_with fail
          go_ret
          exact ⟨int_ret HV.out.symm, hbel⟩
      · have s3' : (tableB f.t && prioB f.p) = false := by simpa using s3
        have HV : Hid (flFault f = 2) := flFault_range hns s3'
        have hcase : f.t < 0 ∨ 8 ≤ f.t ∨ f.p < 0 ∨ 2000 < f.p := by simp [tableB, prioB] at s3'; omega
        go_enter Try.func55, Try.ntmps55
        go_wp2_with fail
        all_goals first | (exfalso; omega) | (go_ret; exact ⟨int_ret HV.out.symm, hA _⟩)

set_option maxHeartbeats 4000000 in
theorem fCheck_any (v : Value) (fs : List Fl) (w : World) (hF : FsAt w v fs) (hm : fs.length ≤ 140737488355328) :
    Calls Try.prog 28 #[v] w fun e w' => e = .returned (.int .i64 (fsFault fs)) ∧ Below w.heap.size w w' := by
  obtain ⟨a, cap, rfl, hn, hL⟩ := hF
  by_cases h5 : 5000 < fs.length
  · have HR : Hid (fsFault fs = 1) := by show _ = _; unfold fsFault; rw [if_pos h5]
    clear hL
    go_enter Try.func28, Try.ntmps28
    go_wp2_with fail
    go_ret
    exact ⟨int_ret HR.out.symm, Below.refl _ _⟩
  · have HR : Hid (fsFault fs = fsFault1 fs) := by show _ = _; unfold fsFault; rw [if_neg h5]
    go_enter Try.func28, Try.ntmps28
    go_wp2_with fail
    go_loopw [11] (fun i wr => ∃ k : Nat, k ≤ fs.length ∧ i = .int .i64 k ∧ (∀ j, j < k → flFault (fs.getD j fl0) = 0) ∧ Below w.heap.size w wr) (fun i _ => fs.length - (intOf i).toNat)
    case atStart => exact ⟨0, by omega, rfl, fun j h => absurd h (by omega), Below.refl _ _⟩
    case round =>
      obtain ⟨k, hk, rfl, hall, hbel⟩ := hrel
      have HALL := hide hall
      clear hall
      by_cases hlt : k < fs.length
      · obtain ⟨b, off, rfl, hcap, hcell⟩ : ∃ b off, a = some ⟨b, off, none⟩ ∧ fs.length ≤ cap ∧ ∀ i, i < fs.length → FlAt w b (off + i * 4) (fs.getD i fl0) := by
          rcases hL with h0 | h
          · omega
          · exact h
        have hf := (hcell k hlt).below hbel (Nat.le_refl _)
        have HA : Hid (flFault (fs.getD k fl0) = 0 → ∀ j, j < k + 1 → flFault (fs.getD j fl0) = 0) := fun h j hj => by
          by_cases e : j = k
          · subst e; exact h
          · exact HALL.out j (by omega)
        have HB : Hid (flFault (fs.getD k fl0) ≠ 0 → fsFault fs = flFault (fs.getD k fl0)) := fun h => by rw [HR.out]; exact fs_at fs k hlt HALL.out h
        clear hL hcell HALL HR
        generalize fs.getD k fl0 = f at *
        obtain ⟨f0, f1, mv, dv, f2, f3, hms, hds⟩ := hf
        have HMS := hide hms
        have HDS := hide hds
        obtain ⟨ma, mcap, rfl, hmn, hmL⟩ := hms
        obtain ⟨da, dcap, rfl, hdn, hdL⟩ := hds
        clear hmL hdL
        have hsz := hbel.size
        have hA : ∀ o : Obj, Below wr.heap.size wr (wr.alloc o) := fun o => (Below.refl _ _).alloc (Nat.le_refl _) o
        have HC : Hid (∀ o : Obj, Calls Try.prog 55 #[.agg #[.int .i64 f.t, .int .i64 f.p, .slice ma f.ms.length mcap, .slice da f.ds.length dcap]] (wr.alloc o) fun e w' => e = .returned (.int .i64 (flFault f)) ∧ Below wr.heap.size wr w') := fun o =>
          (checkFlow_any f _ _ (wr.alloc o) (HMS.out.below (hA o) (Nat.le_refl _)) (HDS.out.below (hA o) (Nat.le_refl _))).mono fun e w' ⟨he, hb⟩ => ⟨he, (hA o).trans (hb.mono (hA o).size)⟩
        clear HMS HDS hA
        generalize flFault f = R at *
        go_wp2_with fail
        refine (unhide HC _).mono ?_
        rintro e w1 ⟨rfl, hb1⟩
        have hbel2 := hbel.trans (hb1.mono hsz)
        clear HC f0 f1 f2 f3 hb1
        by_cases hz : R = 0
        · have HV := hide (HA.out hz)
          clear HA HB
          go_wp2_with fail
          go_roundw
          case rel => exact ⟨k + 1, by omega, by go_num, HV.out, hbel2⟩
          case measure => simp [intOf]; omega
        · have HV := hide (HB.out hz)
          clear HA HB
          go_wp2_with fail
          go_ret
          exact ⟨int_ret HV.out.symm, hbel2⟩
      · have HV : Hid (fsFault fs = 0) := by show _ = _; rw [HR.out]; exact fs_all fs (fun j hj => HALL.out j (by omega))
        clear HALL hL HR
        go_wp2_with fail
        go_ret
        exact ⟨int_ret HV.out.symm, hbel⟩

end Go.Proofs.Ytonhfgdnkkkikac
