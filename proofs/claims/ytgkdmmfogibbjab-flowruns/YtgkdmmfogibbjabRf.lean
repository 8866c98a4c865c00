/-
  What the document's FlowsFault answers.
-/
import Derived.Test.YtgkdmmfogibbjabFl
import Derived.Test.YtgkdmmfogibbjabRm
import Derived.Test.YtgkdmmfogibbjabDz
import Derived.Test.YtgkdmmfogibbjabWe
import Derived.Deep.QuietTactic
import Derived.BigQuiet
import Derived.Deep.RegionHeld3
namespace Go.Proofs.Ytgkdmmfogibbjab
open Go.RowKit
set_option linter.unusedVariables false
set_option maxRecDepth 100000

def fieldB (n : Int) : Bool := decide (0 ≤ n ∧ n ≤ 9)
def tableB (n : Int) : Bool := decide (0 ≤ n ∧ n ≤ 7)
def prioB (n : Int) : Bool := decide (0 ≤ n ∧ n ≤ 2000)
def matchB (m : Mt) : Bool := fieldB m.f && wordB m.m && wordB m.v && (mk m.v m.m == m.v)
def doB (t : Int) (ds : List Do) (j : Nat) : Bool := doesB (ds.getD j do0).k (ds.getD j do0).a (ds.getD j do0).n t ((j : Int) + 1 == (ds.length : Int))
/-- P2.1: what is wrong with a flow. -/
def flFault (f : Fl) : Int :=
  if 12 < f.ms.length ∨ 100 < f.ds.length then 1 else if (tableB f.t && prioB f.p) = false then 2 else if f.ms.all matchB = false then 4 else
    if (List.range f.ds.length).all (doB f.t f.ds) = false then 4 else 0
def fsFault1 : List Fl → Int
  | [] => 0
  | f :: r => if flFault f = 0 then fsFault1 r else flFault f
def fsFault (fs : List Fl) : Int := if 5000 < fs.length then 1 else fsFault1 fs

theorem fs_at : ∀ (fs : List Fl) (k : Nat), k < fs.length → (∀ j, j < k → flFault (fs.getD j fl0) = 0) → flFault (fs.getD k fl0) ≠ 0 → fsFault1 fs = flFault (fs.getD k fl0)
  | [], k, h, _, _ => by simp at h
  | f :: r, 0, _, _, hn => by
    simp only [fsFault1]
    rw [if_neg (by simpa using hn)]
    rfl
  | f :: r, k + 1, h, ha, hn => by
    have h0 := ha 0 (by omega)
    simp only [fsFault1]
    rw [if_pos (by simpa using h0)]
    have := fs_at r k (by simpa using h) (fun j hj => by simpa using ha (j + 1) (by omega)) (by simpa using hn)
    simpa using this
theorem fs_all : ∀ (fs : List Fl), (∀ j, j < fs.length → flFault (fs.getD j fl0) = 0) → fsFault1 fs = 0
  | [], _ => rfl
  | f :: r, h => by
    simp only [fsFault1]
    rw [if_pos (by simpa using h 0 (by simp))]
    exact fs_all r (fun j hj => by simpa using h (j + 1) (by simpa using hj))

theorem inTable_any (n : Int) (w : World) : Calls Try.prog 31 #[.int .i64 n, .int .i64 0, .int .i64 7] w fun e w' => e = .returned (.bool (tableB n)) ∧ w' = w := in_any n 0 7 w
theorem inPrio_any (n : Int) (w : World) : Calls Try.prog 31 #[.int .i64 n, .int .i64 0, .int .i64 2000] w fun e w' => e = .returned (.bool (prioB n)) ∧ w' = w := in_any n 0 2000 w
theorem inField_any (n : Int) (w : World) : Calls Try.prog 31 #[.int .i64 n, .int .i64 0, .int .i64 9] w fun e w' => e = .returned (.bool (fieldB n)) ∧ w' = w := in_any n 0 9 w

theorem flFault_size {f : Fl} (h : 12 < f.ms.length ∨ 100 < f.ds.length) : flFault f = 1 := by unfold flFault; rw [if_pos h]
theorem flFault_range {f : Fl} (h : ¬ (12 < f.ms.length ∨ 100 < f.ds.length)) (h2 : (tableB f.t && prioB f.p) = false) : flFault f = 2 := by unfold flFault; rw [if_neg h, if_pos h2]
theorem flFault_match {f : Fl} (h : ¬ (12 < f.ms.length ∨ 100 < f.ds.length)) (h2 : (tableB f.t && prioB f.p) = true) (j : Nat) (hj : j < f.ms.length) (h3 : matchB (f.ms.getD j mt0) = false) : flFault f = 4 := by
  have : f.ms.all matchB = false := by
    rw [List.all_eq_false]
    exact ⟨f.ms[j], List.getElem_mem hj, by simpa [List.getD, List.getElem?_eq_getElem hj] using h3⟩
  unfold flFault; rw [if_neg h, if_neg (by simp [h2]), if_pos this]
theorem all_match {f : Fl} (h : ∀ j, j < f.ms.length → matchB (f.ms.getD j mt0) = true) : f.ms.all matchB = true := by
  rw [List.all_eq_true]
  intro x hx
  obtain ⟨i, hi, rfl⟩ := List.getElem_of_mem hx
  have := h i hi
  simpa [List.getD, List.getElem?_eq_getElem hi] using this
theorem flFault_does {f : Fl} (h : ¬ (12 < f.ms.length ∨ 100 < f.ds.length)) (h2 : (tableB f.t && prioB f.p) = true) (h3 : f.ms.all matchB = true) (j : Nat) (hj : j < f.ds.length) (h4 : doB f.t f.ds j = false) : flFault f = 4 := by
  have : (List.range f.ds.length).all (doB f.t f.ds) = false := by
    rw [List.all_eq_false]
    exact ⟨j, List.mem_range.2 hj, by simpa using h4⟩
  unfold flFault; rw [if_neg h, if_neg (by simp [h2]), if_neg (by simp [h3]), if_pos this]
theorem flFault_ok {f : Fl} (h : ¬ (12 < f.ms.length ∨ 100 < f.ds.length)) (h2 : (tableB f.t && prioB f.p) = true) (h3 : f.ms.all matchB = true) (h4 : ∀ j, j < f.ds.length → doB f.t f.ds j = true) : flFault f = 0 := by
  have : (List.range f.ds.length).all (doB f.t f.ds) = true := by
    rw [List.all_eq_true]
    intro j hj
    exact h4 j (List.mem_range.1 hj)
  unfold flFault; rw [if_neg h, if_neg (by simp [h2]), if_neg (by simp [h3]), if_neg (by simp [this])]

set_option maxRecDepth 100000 in
set_option maxHeartbeats 6000000 in
theorem flowsFault_any (v : Value) (fs : List Fl) (w : World) (hF : FsAt w v fs) (hm : fs.length ≤ 140737488355328) :
    Calls Try.prog 15 #[v] w fun e w' => e = .returned (.int .i64 (fsFault fs)) ∧ Below w.heap.size w w' := by
  obtain ⟨a, cap, rfl, hn, hL⟩ := hF
  by_cases h5 : 5000 < fs.length
  · have HR : Hid (fsFault fs = 1) := by show _ = _; unfold fsFault; rw [if_pos h5]
    clear hL
    go_enter Try.func15, Try.ntmps15
    go_wp2_with fail
    go_ret
    exact ⟨int_ret HR.out.symm, Below.refl _ _⟩
  · have HR : Hid (fsFault fs = fsFault1 fs) := by show _ = _; unfold fsFault; rw [if_neg h5]
    go_enter Try.func15, Try.ntmps15
    go_wp2_with fail
    go_loopw [3] (fun i wr => ∃ k : Nat, k ≤ fs.length ∧ i = .int .i64 k ∧ (∀ j, j < k → flFault (fs.getD j fl0) = 0) ∧ Below w.heap.size w wr) (fun i _ => fs.length - (intOf i).toNat)
    case atStart => exact ⟨0, by omega, rfl, fun j h => absurd h (by omega), Below.refl _ _⟩
    case round =>
      obtain ⟨k, hk, rfl, hall, hbel⟩ := hrel
      have HALL := hide hall
      clear hall
      by_cases hlt : k < fs.length
      · obtain ⟨b, off, rfl, hcap, hcell⟩ : ∃ b off, a = some ⟨b, off, none⟩ ∧ fs.length ≤ cap ∧ ∀ i, i < fs.length → FlAt w b (off + i * 4) (fs.getD i fl0) := by
          rcases hL with h0 | h
          · omega
          · exact h
        have hf := (hcell k hlt).below hbel (Nat.le_refl _)
        have hbw := cell_lt (hcell k hlt).1
        have HA : Hid (flFault (fs.getD k fl0) = 0 → ∀ j, j < k + 1 → flFault (fs.getD j fl0) = 0) := fun h j hj => by
          by_cases e : j = k
          · subst e; exact h
          · exact HALL.out j (by omega)
        have HB : Hid (flFault (fs.getD k fl0) ≠ 0 → fsFault fs = flFault (fs.getD k fl0)) := fun h => by rw [HR.out]; exact fs_at fs k hlt HALL.out h
        clear hL hcell HALL HR
        generalize fs.getD k fl0 = f at *
        obtain ⟨f0, f1, mv, dv, f2, f3, hms, hds⟩ := hf
        have HMS := hide hms
        have HDS := hide hds
        obtain ⟨ma, mcap, rfl, hmn, hmL⟩ := hms
        obtain ⟨da, dcap, rfl, hdn, hdL⟩ := hds
        clear hmL hdL
        have hsz := hbel.size
        have hbelA : ∀ o : Obj, Below w.heap.size w (wr.alloc o) := fun o => hbel.alloc hsz o
        by_cases s1 : 12 < f.ms.length
        · have HV := hide (HB.out (by rw [flFault_size (.inl s1)]; decide))
          have HV1 : Hid (fsFault fs = 1) := by show _ = _; rw [HV.out, flFault_size (.inl s1)]
          clear HA HB HMS HDS HV
          go_wp2_with fail
          go_ret
          exact ⟨int_ret HV1.out.symm, hbelA _⟩
        · by_cases s2 : 100 < f.ds.length
          · have HV := hide (HB.out (by rw [flFault_size (.inr s2)]; decide))
            have HV1 : Hid (fsFault fs = 1) := by show _ = _; rw [HV.out, flFault_size (.inr s2)]
            clear HA HB HMS HDS HV
            go_wp2_with fail
            go_ret
            exact ⟨int_ret HV1.out.symm, hbelA _⟩
          · have hns : ¬ (12 < f.ms.length ∨ 100 < f.ds.length) := by omega
            by_cases s3 : (tableB f.t && prioB f.p) = true
            · obtain ⟨s4, s5⟩ : tableB f.t = true ∧ prioB f.p = true := by simpa using s3
              go_wp2_with fail
              refine (inTable_any f.t _).mono ?_
              rintro e w' ⟨rfl, rfl⟩
              go_wp2_with fail
              refine (inPrio_any f.p _).mono ?_
              rintro e w' ⟨rfl, rfl⟩
              go_wp2_with fail
              obtain ⟨W1, hW1⟩ : ∃ W1, W1 = wr.alloc (.cells #[.int .i64 f.t, .int .i64 f.p, .slice ma f.ms.length mcap, .slice da f.ds.length dcap] 61) := ⟨_, rfl⟩
              have q0 : W1.cell? ⟨wr.heap.size, 0, none⟩ = some (.int .i64 f.t) := by rw [hW1]; simp
              have q2 : W1.cell? ⟨wr.heap.size, 2, none⟩ = some (.slice ma f.ms.length mcap) := by rw [hW1]; simp
              have q3 : W1.cell? ⟨wr.heap.size, 3, none⟩ = some (.slice da f.ds.length dcap) := by rw [hW1]; simp
              have hbW : Below w.heap.size w W1 := by rw [hW1]; exact hbelA _
              have HM1 := hide (HMS.out.below (show Below wr.heap.size wr W1 by rw [hW1]; exact (Below.refl _ _).alloc (Nat.le_refl _) _) (Nat.le_refl _))
              have HD1 := hide (HDS.out.below (show Below wr.heap.size wr W1 by rw [hW1]; exact (Below.refl _ _).alloc (Nat.le_refl _) _) (Nat.le_refl _))
              have hz1 : wr.heap.size < W1.heap.size := by rw [hW1]; simp
              rw [← hW1]
              clear hW1 HMS HDS f0 f1 f2 f3 hbelA hbel hbw
              have hszW := hbW.size
              clear hsz
              generalize wr.heap.size = B1 at *
              go_loopw [5] (fun i wq => ∃ j : Nat, j ≤ f.ms.length ∧ i = .int .i64 j ∧ (∀ x, x < j → matchB (f.ms.getD x mt0) = true) ∧ Below W1.heap.size W1 wq) (fun i _ => f.ms.length - (intOf i).toNat)
              case atStart => exact ⟨0, by omega, rfl, fun j h => absurd h (by omega), Below.refl _ _⟩
              case round =>
                obtain ⟨j, hj, rfl, hma, hbq⟩ := hrel
                have HMA := hide hma
                clear hma
                have c2 := cell_below q2 hbq (Nat.le_refl _)
                have hbq1 : Below w.heap.size w wr := hbW.trans (hbq.mono hszW)
                have hsq : w.heap.size ≤ wr.heap.size := hbq1.size
                by_cases hjl : j < f.ms.length
                · obtain ⟨ma', mcap', hmv, hmn', hmL⟩ := HM1.out
                  simp only [Value.slice.injEq] at hmv
                  obtain ⟨rfl, _, rfl⟩ := hmv
                  obtain ⟨mb, moff, rfl, hmc, hmcell⟩ : ∃ mb moff, ma = some ⟨mb, moff, none⟩ ∧ f.ms.length ≤ mcap ∧ ∀ i, i < f.ms.length → W1.cell? ⟨mb, moff + i * 3, none⟩ = some (.int .i64 (f.ms.getD i mt0).f) ∧ W1.cell? ⟨mb, moff + i * 3 + 1, none⟩ = some (.int .i64 (f.ms.getD i mt0).m) ∧ W1.cell? ⟨mb, moff + i * 3 + 2, none⟩ = some (.int .i64 (f.ms.getD i mt0).v) := by
                    rcases hmL with h0 | h
                    · omega
                    · exact h
                  obtain ⟨g0, g1, g2⟩ := hmcell j hjl
                  have m0' := cell_below g0 hbq (Nat.le_refl _)
                  have m1' := cell_below g1 hbq (Nat.le_refl _)
                  have m2' := cell_below g2 hbq (Nat.le_refl _)
                  have HX : Hid (matchB (f.ms.getD j mt0) = true → ∀ x, x < j + 1 → matchB (f.ms.getD x mt0) = true) := fun h x hx => by
                    by_cases e : x = j
                    · subst e; exact h
                    · exact HMA.out x (by omega)
                  have HMD : Hid (∀ b, (fieldB (f.ms.getD j mt0).f && wordB (f.ms.getD j mt0).m && wordB (f.ms.getD j mt0).v && (mk (f.ms.getD j mt0).v (f.ms.getD j mt0).m == (f.ms.getD j mt0).v)) = b → matchB (f.ms.getD j mt0) = b) := fun b h => h
                  clear g0 g1 g2 hmcell hmL
                  generalize (f.ms.getD j mt0).f = mf at *
                  generalize (f.ms.getD j mt0).m = mm at *
                  generalize (f.ms.getD j mt0).v = mv at *
                  by_cases t1 : fieldB mf = true
                  · have d1 : decide (0 ≤ mf ∧ mf ≤ 9) = true := t1
                    by_cases t2 : wordB mm = true
                    · have d2 : decide (0 ≤ mm ∧ mm ≤ 65535) = true := t2
                      obtain ⟨m0, m1⟩ : 0 ≤ mm ∧ mm ≤ 65535 := by simpa using d2
                      by_cases t3 : wordB mv = true
                      · have d3 : decide (0 ≤ mv ∧ mv ≤ 65535) = true := t3
                        obtain ⟨v0, v1⟩ : 0 ≤ mv ∧ mv ≤ 65535 := by simpa using d3
                        by_cases t4 : (mk mv mm == mv) = true
                        · have HR1 := hide (HX.out (HMD.out true (by rw [t1, t2, t3, t4]; rfl)))
                          have d4 : (mk mv mm != mv) = false := by simpa using t4
                          clear HX HMD t1 t2 t3 t4 HMA
                          go_wp2_with fail
                          go_quiet ((first | (go_at_call 31; exact Calls.quiet_of_same (in_any _ _ _ _)) | (go_at_call 32; exact Calls.quiet_of_same (masked_any _ _ _ v0 v1 m0 m1))))
                          go_wp2
                          go_roundw
                          case rel => exact ⟨j + 1, by omega, by go_num, HR1.out, below_drewN (hbq.alloc hbq.size _) _⟩
                          case measure => simp [intOf]; omega
                        · have t4' : (mk mv mm == mv) = false := by simpa using t4
                          have d4 : (mk mv mm != mv) = true := by simpa using t4
                          have HMF : Hid (matchB (f.ms.getD j mt0) = false) := HMD.out false (by rw [t1, t2, t3, t4']; rfl)
                          clear HX HMD t1 t2 t3 t4 t4'
                          have HV := hide (HB.out (by rw [flFault_match hns s3 j hjl HMF.out]; decide))
                          have HV1 : Hid (fsFault fs = 4) := by show _ = _; rw [HV.out, flFault_match hns s3 j hjl HMF.out]
                          clear HA HB HV HMA HMF HM1 HD1 hns s3 s4 s5
                          go_wp2_with fail
                          go_quiet ((first | (go_at_call 31; exact Calls.quiet_of_same (in_any _ _ _ _)) | (go_at_call 32; exact Calls.quiet_of_same (masked_any _ _ _ v0 v1 m0 m1))))
                          go_wp2
                          go_ret
                          exact ⟨int_ret HV1.out.symm, below_drewN (hbq1.alloc hsq _) _⟩
                      · have t3' : wordB mv = false := by simpa using t3
                        have d3 : decide (0 ≤ mv ∧ mv ≤ 65535) = false := t3'
                        have HMF : Hid (matchB (f.ms.getD j mt0) = false) := HMD.out false (by rw [t1, t2, t3']; rfl)
                        clear HX HMD t1 t2 t3 t3'
                        have HV := hide (HB.out (by rw [flFault_match hns s3 j hjl HMF.out]; decide))
                        have HV1 : Hid (fsFault fs = 4) := by show _ = _; rw [HV.out, flFault_match hns s3 j hjl HMF.out]
                        clear HA HB HV HMA HMF HM1 HD1 hns s3 s4 s5
                        go_wp2_with fail
                        go_quiet ((go_at_call 31; exact Calls.quiet_of_same (in_any _ _ _ _)))
                        go_wp2
                        go_ret
                        exact ⟨int_ret HV1.out.symm, below_drewN (hbq1.alloc hsq _) _⟩
                    · have t2' : wordB mm = false := by simpa using t2
                      have d2 : decide (0 ≤ mm ∧ mm ≤ 65535) = false := t2'
                      have HMF : Hid (matchB (f.ms.getD j mt0) = false) := HMD.out false (by rw [t1, t2']; rfl)
                      clear HX HMD t1 t2 t2'
                      have HV := hide (HB.out (by rw [flFault_match hns s3 j hjl HMF.out]; decide))
                      have HV1 : Hid (fsFault fs = 4) := by show _ = _; rw [HV.out, flFault_match hns s3 j hjl HMF.out]
                      clear HA HB HV HMA HMF HM1 HD1 hns s3 s4 s5
                      go_wp2_with fail
                      go_quiet ((go_at_call 31; exact Calls.quiet_of_same (in_any _ _ _ _)))
                      go_wp2
                      go_ret
                      exact ⟨int_ret HV1.out.symm, below_drewN (hbq1.alloc hsq _) _⟩
                  · have t1' : fieldB mf = false := by simpa using t1
                    have d1 : decide (0 ≤ mf ∧ mf ≤ 9) = false := t1'
                    have HMF : Hid (matchB (f.ms.getD j mt0) = false) := HMD.out false (by rw [t1']; rfl)
                    clear HX HMD t1 t1'
                    have HV := hide (HB.out (by rw [flFault_match hns s3 j hjl HMF.out]; decide))
                    have HV1 : Hid (fsFault fs = 4) := by show _ = _; rw [HV.out, flFault_match hns s3 j hjl HMF.out]
                    clear HA HB HV HMA HMF HM1 HD1 hns s3 s4 s5
                    go_wp2_with fail
                    go_quiet ((go_at_call 31; exact Calls.quiet_of_same (in_any _ _ _ _)))
                    go_wp2
                    go_ret
                    exact ⟨int_ret HV1.out.symm, below_drewN (hbq1.alloc hsq _) _⟩
                · have HAM := hide (all_match (f := f) (fun x hx => HMA.out x (by omega)))
                  obtain ⟨t0, t1⟩ : 0 ≤ f.t ∧ f.t ≤ 7 := by simpa [tableB] using s4
                  clear HMA HM1
                  go_wp2_with fail
                  go_loopw [7] (fun i wq => ∃ j : Nat, j ≤ f.ds.length ∧ i = .int .i64 j ∧ (∀ x, x < j → doB f.t f.ds x = true) ∧ Below W1.heap.size W1 wq) (fun i _ => f.ds.length - (intOf i).toNat)
                  case atStart => exact ⟨0, by omega, rfl, fun j h => absurd h (by omega), hbq⟩
                  case round =>
                    clear hbq hbq1 hsq c2
                    obtain ⟨j, hj, rfl, hda, hbq⟩ := hrel
                    have HDA := hide hda
                    clear hda
                    have c0 := cell_below q0 hbq (Nat.le_refl _)
                    have c3 := cell_below q3 hbq (Nat.le_refl _)
                    have hbq1 : Below w.heap.size w wr := hbW.trans (hbq.mono hszW)
                    have hsq : w.heap.size ≤ wr.heap.size := hbq1.size
                    by_cases hjl2 : j < f.ds.length
                    · obtain ⟨da', dcap', hdv, hdn', hdL⟩ := HD1.out
                      simp only [Value.slice.injEq] at hdv
                      obtain ⟨rfl, _, rfl⟩ := hdv
                      obtain ⟨db, doff, rfl, hdc, hdcell⟩ : ∃ db doff, da = some ⟨db, doff, none⟩ ∧ f.ds.length ≤ dcap ∧ ∀ i, i < f.ds.length → W1.cell? ⟨db, doff + i * 3, none⟩ = some (.int .i64 (f.ds.getD i do0).k) ∧ W1.cell? ⟨db, doff + i * 3 + 1, none⟩ = some (.int .i64 (f.ds.getD i do0).a) ∧ W1.cell? ⟨db, doff + i * 3 + 2, none⟩ = some (.int .i64 (f.ds.getD i do0).n) := by
                        rcases hdL with h0 | h
                        · omega
                        · exact h
                      obtain ⟨g0, g1, g2⟩ := hdcell j hjl2
                      have g0' := cell_below g0 hbq (Nat.le_refl _)
                      have g1' := cell_below g1 hbq (Nat.le_refl _)
                      have g2' := cell_below g2 hbq (Nat.le_refl _)
                      have HX : Hid (doB f.t f.ds j = true → ∀ x, x < j + 1 → doB f.t f.ds x = true) := fun h x hx => by
                        by_cases e : x = j
                        · subst e; exact h
                        · exact HDA.out x (by omega)
                      have HBD : Hid (doB f.t f.ds j = false → fsFault fs = 4) := fun h => by
                        have e := flFault_does hns s3 HAM.out j hjl2 h
                        rw [HB.out (by rw [e]; decide), e]
                      have HDD : Hid (doB f.t f.ds j = doesB (f.ds.getD j do0).k (f.ds.getD j do0).a (f.ds.getD j do0).n f.t ((j : Int) + 1 == (f.ds.length : Int))) := rfl
                      clear g0 g1 g2 hdcell hdL HDA HD1 HAM HA HB hns s3 s4 s5 hdn' hdc hmn hdn
                      generalize (f.ds.getD j do0).k = dk at *
                      generalize (f.ds.getD j do0).a = dA at *
                      generalize (f.ds.getD j do0).n = dn at *
                      have HDY := hide (fun L w' => doesMay_any dk dA dn f.t L w' t0 t1)
                      have hwr : IntKind.i64.wrap ((j : Int) + 1) = (j : Int) + 1 := wrapI _ (by omega) (by omega)
                      by_cases hl : j + 1 = f.ds.length
                      · have hL : ((j : Int) + 1 == (f.ds.length : Int)) = true := by simp; omega
                        rw [hL] at HDD
                        by_cases hd : doesB dk dA dn f.t true = true
                        · have HR1 := hide (HX.out (by rw [HDD.out, hd]))
                          clear HX HBD HDD
                          go_wp2_with fail
                          go_region_held3 (fun w' => w'.cell? ⟨B1, 0, none⟩ = some (.int .i64 f.t) ∧ w'.cell? ⟨B1, 3, none⟩ = some (.slice (some ⟨db, doff, none⟩) f.ds.length dcap) ∧ w'.cell? ⟨db, doff + j * 3, none⟩ = some (.int .i64 dk) ∧ w'.cell? ⟨db, doff + j * 3 + 1, none⟩ = some (.int .i64 dA) ∧ w'.cell? ⟨db, doff + j * 3 + 2, none⟩ = some (.int .i64 dn)) (go_keep)
                            (first | (go_at_call 33; refine (unhide HDY _ _).mono ?_; rintro e w' ⟨rfl, hbX⟩; have y0 := cell_below (show (World.drew wr).cell? ⟨B1, 0, none⟩ = _ by simpa using c0) hbX (Nat.le_refl _); have y3 := cell_below (show (World.drew wr).cell? ⟨B1, 3, none⟩ = _ by simpa using c3) hbX (Nat.le_refl _); have z0 := cell_below (show (World.drew wr).cell? ⟨db, doff + j * 3, none⟩ = _ by simpa using g0') hbX (Nat.le_refl _); have z1 := cell_below (show (World.drew wr).cell? ⟨db, doff + j * 3 + 1, none⟩ = _ by simpa using g1') hbX (Nat.le_refl _); have z2 := cell_below (show (World.drew wr).cell? ⟨db, doff + j * 3 + 2, none⟩ = _ by simpa using g2') hbX (Nat.le_refl _)))
                          go_wp2
                          go_roundw
                          case rel => exact ⟨j + 1, by omega, by go_num, HR1.out, hbq.drew.trans (hbX.mono hbq.size)⟩
                          case measure => simp [intOf]; omega
                        · have hd' : doesB dk dA dn f.t true = false := by simpa using hd
                          have HV1 := hide (HBD.out (by rw [HDD.out, hd']))
                          clear HX HBD HDD hd
                          go_wp2_with fail
                          go_region_held3 (fun w' => w'.cell? ⟨B1, 0, none⟩ = some (.int .i64 f.t) ∧ w'.cell? ⟨B1, 3, none⟩ = some (.slice (some ⟨db, doff, none⟩) f.ds.length dcap) ∧ w'.cell? ⟨db, doff + j * 3, none⟩ = some (.int .i64 dk) ∧ w'.cell? ⟨db, doff + j * 3 + 1, none⟩ = some (.int .i64 dA) ∧ w'.cell? ⟨db, doff + j * 3 + 2, none⟩ = some (.int .i64 dn)) (go_keep)
                            (first | (go_at_call 33; refine (unhide HDY _ _).mono ?_; rintro e w' ⟨rfl, hbX⟩; have y0 := cell_below (show (World.drew wr).cell? ⟨B1, 0, none⟩ = _ by simpa using c0) hbX (Nat.le_refl _); have y3 := cell_below (show (World.drew wr).cell? ⟨B1, 3, none⟩ = _ by simpa using c3) hbX (Nat.le_refl _); have z0 := cell_below (show (World.drew wr).cell? ⟨db, doff + j * 3, none⟩ = _ by simpa using g0') hbX (Nat.le_refl _); have z1 := cell_below (show (World.drew wr).cell? ⟨db, doff + j * 3 + 1, none⟩ = _ by simpa using g1') hbX (Nat.le_refl _); have z2 := cell_below (show (World.drew wr).cell? ⟨db, doff + j * 3 + 2, none⟩ = _ by simpa using g2') hbX (Nat.le_refl _)))
                          go_wp2
                          go_ret
                          exact ⟨int_ret HV1.out.symm, hbq1.drew.trans (hbX.mono hsq)⟩
                      · have hL : ((j : Int) + 1 == (f.ds.length : Int)) = false := by simp; omega
                        rw [hL] at HDD
                        by_cases hd : doesB dk dA dn f.t false = true
                        · have HR1 := hide (HX.out (by rw [HDD.out, hd]))
                          clear HX HBD HDD
                          go_wp2_with fail
                          go_region_held3 (fun w' => w'.cell? ⟨B1, 0, none⟩ = some (.int .i64 f.t) ∧ w'.cell? ⟨B1, 3, none⟩ = some (.slice (some ⟨db, doff, none⟩) f.ds.length dcap) ∧ w'.cell? ⟨db, doff + j * 3, none⟩ = some (.int .i64 dk) ∧ w'.cell? ⟨db, doff + j * 3 + 1, none⟩ = some (.int .i64 dA) ∧ w'.cell? ⟨db, doff + j * 3 + 2, none⟩ = some (.int .i64 dn)) (go_keep)
                            (first | (go_at_call 33; refine (unhide HDY _ _).mono ?_; rintro e w' ⟨rfl, hbX⟩; have y0 := cell_below (show (World.drew wr).cell? ⟨B1, 0, none⟩ = _ by simpa using c0) hbX (Nat.le_refl _); have y3 := cell_below (show (World.drew wr).cell? ⟨B1, 3, none⟩ = _ by simpa using c3) hbX (Nat.le_refl _); have z0 := cell_below (show (World.drew wr).cell? ⟨db, doff + j * 3, none⟩ = _ by simpa using g0') hbX (Nat.le_refl _); have z1 := cell_below (show (World.drew wr).cell? ⟨db, doff + j * 3 + 1, none⟩ = _ by simpa using g1') hbX (Nat.le_refl _); have z2 := cell_below (show (World.drew wr).cell? ⟨db, doff + j * 3 + 2, none⟩ = _ by simpa using g2') hbX (Nat.le_refl _)))
                          go_wp2
                          go_roundw
                          case rel => exact ⟨j + 1, by omega, by go_num, HR1.out, hbq.drew.trans (hbX.mono hbq.size)⟩
                          case measure => simp [intOf]; omega
                        · have hd' : doesB dk dA dn f.t false = false := by simpa using hd
                          have HV1 := hide (HBD.out (by rw [HDD.out, hd']))
                          clear HX HBD HDD hd
                          go_wp2_with fail
                          go_region_held3 (fun w' => w'.cell? ⟨B1, 0, none⟩ = some (.int .i64 f.t) ∧ w'.cell? ⟨B1, 3, none⟩ = some (.slice (some ⟨db, doff, none⟩) f.ds.length dcap) ∧ w'.cell? ⟨db, doff + j * 3, none⟩ = some (.int .i64 dk) ∧ w'.cell? ⟨db, doff + j * 3 + 1, none⟩ = some (.int .i64 dA) ∧ w'.cell? ⟨db, doff + j * 3 + 2, none⟩ = some (.int .i64 dn)) (go_keep)
                            (first | (go_at_call 33; refine (unhide HDY _ _).mono ?_; rintro e w' ⟨rfl, hbX⟩; have y0 := cell_below (show (World.drew wr).cell? ⟨B1, 0, none⟩ = _ by simpa using c0) hbX (Nat.le_refl _); have y3 := cell_below (show (World.drew wr).cell? ⟨B1, 3, none⟩ = _ by simpa using c3) hbX (Nat.le_refl _); have z0 := cell_below (show (World.drew wr).cell? ⟨db, doff + j * 3, none⟩ = _ by simpa using g0') hbX (Nat.le_refl _); have z1 := cell_below (show (World.drew wr).cell? ⟨db, doff + j * 3 + 1, none⟩ = _ by simpa using g1') hbX (Nat.le_refl _); have z2 := cell_below (show (World.drew wr).cell? ⟨db, doff + j * 3 + 2, none⟩ = _ by simpa using g2') hbX (Nat.le_refl _)))
                          go_wp2
                          go_ret
                          exact ⟨int_ret HV1.out.symm, hbq1.drew.trans (hbX.mono hsq)⟩
                    · have HOK := hide (HA.out (flFault_ok hns s3 HAM.out (fun x hx => HDA.out x (by omega))))
                      clear HA HB HDA HD1 HAM hns s3 s4 s5
                      go_wp2_with fail
                      go_roundw
                      case rel => exact ⟨k + 1, by omega, by go_num, HOK.out, hbq1⟩
                      case measure => simp [intOf]; omega
            · have s3' : (tableB f.t && prioB f.p) = false := by simpa using s3
              have HV := hide (HB.out (by rw [flFault_range hns s3']; decide))
              have HV1 : Hid (fsFault fs = 2) := by show _ = _; rw [HV.out, flFault_range hns s3']
              clear HA HB HMS HDS HV s3
              by_cases s4 : tableB f.t = true
              · have s5 : prioB f.p = false := by simpa [s4] using s3'
                clear s3' hns
                go_wp2_with fail
                refine (inTable_any f.t _).mono ?_
                rintro e w' ⟨rfl, rfl⟩
                go_wp2_with fail
                refine (inPrio_any f.p _).mono ?_
                rintro e w' ⟨rfl, rfl⟩
                go_wp2_with fail
                go_ret
                exact ⟨int_ret HV1.out.symm, hbelA _⟩
              · have s4' : tableB f.t = false := by simpa using s4
                clear s3' hns s4
                go_wp2_with fail
                refine (inTable_any f.t _).mono ?_
                rintro e w' ⟨rfl, rfl⟩
                go_wp2_with fail
                go_ret
                exact ⟨int_ret HV1.out.symm, hbelA _⟩
      · have HV : Hid (fsFault fs = 0) := by
          show _ = _
          rw [HR.out]
          exact fs_all fs (fun j hj => HALL.out j (by omega))
        clear hL HALL HR
        go_wp2_with fail
        go_ret
        exact ⟨int_ret HV.out.symm, hbel⟩

end Go.Proofs.Ytgkdmmfogibbjab
