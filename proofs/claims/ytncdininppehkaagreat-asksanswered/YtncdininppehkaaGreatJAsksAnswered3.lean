/- Texts joined: Fr, Fc, Fc2, Fc3, Fn, Xa, Xb, Pp, Wb, Wc, Wd, We, We2, Op. -/
import Derived.Deep.RegionHeld3
import Derived.Deep.QuietTactic
import Derived.BigQuiet
import Derived.Laws.BitsLemmas
import Derived.Deep.RegionLaw
import Derived.Deep.AppendLies
import Derived.Deep.MidRow
import Derived.Laws.AppendOwnNone
import Derived.Lib.AppendStr
import Derived.Test.YtncdininppehkaaGreatJAsksAnswered2
namespace Go.Proofs.YtncdininppehkaaGreat
open Go.RowKit
set_option linter.unusedVariables false
set_option maxRecDepth 100000
theorem and_word (v m : Int) (hv : 0 ≤ v ∧ v ≤ 65535) (hm : wordB m = true) : bits .and .i64 v m = mk v m := by
 unfold wordB at hm
 simp at hm
 obtain ⟨a, rfl⟩ := Int.eq_ofNat_of_zero_le hv.1
 obtain ⟨b, rfl⟩ := Int.eq_ofNat_of_zero_le hm.1
 have ha := ofInt_word a (by omega)
 have hb := ofInt_word b (by omega)
 show IntKind.i64.wrap ((BitVec.ofInt 64 (a : Int) &&& BitVec.ofInt 64 (b : Int)).toNat : Int) = _
 rw [BitVec.toNat_and, ha, hb]
 have hle : a &&& b ≤ a := Nat.and_le_left
 rw [wrapI _ (by omega) (by omega)]
 unfold mk
 rw [Int.toNat_natCast, Int.toNat_natCast]
theorem cells10 (w : World) (t : TypeId) (f0 f1 f2 f3 f4 f5 f6 f7 f8 f9 : Int) : ∀ i, i < 10 → (w.alloc (.cells #[.int .i64 f0, .int .i64 f1, .int .i64 f2, .int .i64 f3, .int .i64 f4, .int .i64 f5, .int .i64 f6, .int .i64 f7, .int .i64 f8, .int .i64 f9] t)).cell? ⟨w.heap.size, i, none⟩ = some (.int .i64 (([f0, f1, f2, f3, f4, f5, f6, f7, f8, f9] : List Int).getD i 0)) := by
 intro i hi
 have hc : i = 0 ∨ i = 1 ∨ i = 2 ∨ i = 3 ∨ i = 4 ∨ i = 5 ∨ i = 6 ∨ i = 7 ∨ i = 8 ∨ i = 9 := by omega
 rcases hc with rfl | rfl | rfl | rfl | rfl | rfl | rfl | rfl | rfl | rfl <;> simp
theorem fitsB_all {F : List Int} {ms : List Mt} (h : ∀ j, j < ms.length → (mk (F.getD (ms.getD j mt0).f.toNat 0) (ms.getD j mt0).m == (ms.getD j mt0).v) = true) : fitsB F ms = true := by
 unfold fitsB
 rw [List.all_eq_true]
 intro x hx
 obtain ⟨i, hi, rfl⟩ := List.getElem_of_mem hx
 have := h i hi
 simpa [List.getD, List.getElem?_eq_getElem hi] using this
theorem fitsB_not {F : List Int} {ms : List Mt} (j : Nat) (hj : j < ms.length) (h : (mk (F.getD (ms.getD j mt0).f.toNat 0) (ms.getD j mt0).m == (ms.getD j mt0).v) = false) : fitsB F ms = false := by
 unfold fitsB
 rw [List.all_eq_false]
 exact ⟨ms[j], List.getElem_mem hj, by simpa [List.getD, List.getElem?_eq_getElem hj] using h⟩
set_option maxHeartbeats 4000000 in
theorem fits_any (f0 f1 f2 f3 f4 f5 f6 f7 f8 f9 : Int) (v : Value) (ms : List Mt) (w : World) (hF : WF [f0, f1, f2, f3, f4, f5, f6, f7, f8, f9]) (hM : MsAt w v ms) (hl : ms.length ≤ 12) (hm : ∀ j, j < ms.length → matchB (ms.getD j mt0) = true) :
  Calls Tryz.prog 176 #[v, .agg #[.int .i64 f0, .int .i64 f1, .int .i64 f2, .int .i64 f3, .int .i64 f4, .int .i64 f5, .int .i64 f6, .int .i64 f7, .int .i64 f8, .int .i64 f9]] w fun e w' => e = .returned (.bool (fitsB [f0, f1, f2, f3, f4, f5, f6, f7, f8, f9] ms)) ∧ Below w.heap.size w w' := by
 have HM := hide hM
 have HMB := hide hm
 have HF := hide hF
 have HCL := hide (cells10 w 39 f0 f1 f2 f3 f4 f5 f6 f7 f8 f9)
 obtain ⟨a, cap, rfl, hn, hL⟩ := hM
 clear hL hm hF
 obtain ⟨F, hFd⟩ : ∃ F : List Int, F = [f0, f1, f2, f3, f4, f5, f6, f7, f8, f9] := ⟨_, rfl⟩
 have HFD := hide hFd
 rw [← hFd] at HF HCL ⊢
 clear hFd
 go_enter Tryz.func176, Tryz.ntmps176
 go_wp2_with fail
 obtain ⟨W1, hW1⟩ : ∃ W1, W1 = w.alloc (.cells #[.int .i64 f0, .int .i64 f1, .int .i64 f2, .int .i64 f3, .int .i64 f4, .int .i64 f5, .int .i64 f6, .int .i64 f7, .int .i64 f8, .int .i64 f9] 39) := ⟨_, rfl⟩
 have hbW : Below w.heap.size w W1 := by rw [hW1]; exact (Below.refl _ _).alloc (Nat.le_refl _) _
 rw [← hW1] at HCL
 have HM1 := hide (HM.out.below hbW (Nat.le_refl _))
 have hz1 : w.heap.size < W1.heap.size := by rw [hW1]; simp
 rw [← hW1]
 clear hW1 HM
 go_loopw [9] (fun i wr => ∃ k : Nat, k ≤ ms.length ∧ i = .int .i64 k ∧ (∀ j, j < k → (mk (F.getD (ms.getD j mt0).f.toNat 0) (ms.getD j mt0).m == (ms.getD j mt0).v) = true) ∧ Below W1.heap.size W1 wr) (fun i _ => ms.length - (intOf i).toNat)
 case atStart => exact ⟨0, by omega, rfl, fun j h => absurd h (by omega), Below.refl _ _⟩
 case round =>
  obtain ⟨k, hk, rfl, hall, hbel⟩ := hrel
  have HALL := hide hall
  clear hall
  have hbel1 : Below w.heap.size w wr := hbW.trans (hbel.mono hbW.size)
  have hszr := hbel.size
  have hszw : w.heap.size < wr.heap.size := by omega
  by_cases hlt : k < ms.length
  ·obtain ⟨a', cap', hv, hn', hL⟩ := HM1.out
   simp only [Value.slice.injEq] at hv
   obtain ⟨rfl, _, rfl⟩ := hv
   obtain ⟨b, off, rfl, hcap, hcell⟩ : ∃ b off, a = some ⟨b, off, none⟩ ∧ ms.length ≤ cap ∧ ∀ i, i < ms.length → W1.cell? ⟨b, off + i * 3, none⟩ = some (.int .i64 (ms.getD i mt0).f) ∧ W1.cell? ⟨b, off + i * 3 + 1, none⟩ = some (.int .i64 (ms.getD i mt0).m) ∧ W1.cell? ⟨b, off + i * 3 + 2, none⟩ = some (.int .i64 (ms.getD i mt0).v) := by
    rcases hL with h0 | h
    ·omega
    ·exact h
   obtain ⟨g0, g1, g2⟩ := hcell k hlt
   have m0' := cell_below g0 hbel (Nat.le_refl _)
   have m1' := cell_below g1 hbel (Nat.le_refl _)
   have m2' := cell_below g2 hbel (Nat.le_refl _)
   have hMk := HMB.out k hlt
   have HT : Hid ((mk (F.getD (ms.getD k mt0).f.toNat 0) (ms.getD k mt0).m == (ms.getD k mt0).v) = true → ∀ x, x < k + 1 → (mk (F.getD (ms.getD x mt0).f.toNat 0) (ms.getD x mt0).m == (ms.getD x mt0).v) = true) := fun h x hx => by
    by_cases e : x = k
    ·subst e; exact h
    ·exact HALL.out x (by omega)
   have HN : Hid ((mk (F.getD (ms.getD k mt0).f.toNat 0) (ms.getD k mt0).m == (ms.getD k mt0).v) = false → fitsB F ms = false) := fun h => fitsB_not k hlt h
   clear g0 g1 g2 hcell hL HALL HM1 hn'
   generalize ms.getD k mt0 = M at *
   obtain ⟨mf, mm, mv⟩ := M
   simp only at m0' m1' m2' HT HN
   simp only [matchB, fieldB, Bool.and_eq_true, decide_eq_true_eq] at hMk
   obtain ⟨⟨⟨⟨f0', f1'⟩, w1⟩, w2⟩, _⟩ := hMk
   obtain ⟨q, rfl⟩ := Int.eq_ofNat_of_zero_le f0'
   rw [Int.toNat_natCast] at HT HN
   have hq : q < 10 := by omega
   have cq := cell_below (HCL.out q hq) hbel (Nat.le_refl _)
   have hbw := and_word _ mm (HF.out.bd q) w1
   have hqz := HF.out.bd q
   generalize F.getD q 0 = x at *
   have hqi : ¬ ((10 : Int) ≤ (q : Int)) := by omega
   by_cases hx : mk x mm = mv
   ·have HR := hide (HT.out (by simpa using hx))
    have hne : (mk x mm != mv) = false := by simpa using hx
    clear HT HN
    go_wp2_with fail
    go_quiet (fail)
    go_wp2
    go_roundw
    case rel => exact ⟨k + 1, by omega, by go_num, HR.out, below_drewN (hbel.alloc hszr _) _⟩
    case measure => simp [intOf]; omega
   ·have HR := hide (HN.out (by simpa using hx))
    have hne : (mk x mm != mv) = true := by simpa using hx
    clear HT HN
    go_wp2_with fail
    go_quiet (fail)
    go_wp2
    go_ret
    exact ⟨bool_ret HR.out.symm, below_drewN (hbel1.alloc (by omega) _) _⟩
  ·have HR := hide (fitsB_all (F := F) (ms := ms) (fun j hj => HALL.out j (by omega)))
   clear HALL
   go_wp2_with fail
   go_ret
   exact ⟨bool_ret HR.out.symm, hbel1⟩
theorem fs_cell {w : World} {fs : List Fl} {a : Option Addr} {n cap k : Nat} (hF : FsAt w (.slice a n cap) fs) (hk : k < fs.length) : ∃ b off, a = some ⟨b, off, none⟩ ∧ n = fs.length ∧ fs.length ≤ cap ∧ ∀ i, i < fs.length → FlAt w b (off + i * 4) (fs.getD i fl0) := by
 obtain ⟨a', cap', hv, hn, h0 | ⟨b, off, h1, h2, h3⟩⟩ := hF
 ·omega
 ·simp only [Value.slice.injEq] at hv
  obtain ⟨rfl, rfl, rfl⟩ := hv
  exact ⟨b, off, h1, rfl, h2, h3⟩
set_option maxHeartbeats 8000000 in
theorem pick_any (f0 f1 f2 f3 f4 f5 f6 f7 f8 f9 : Int) (v : Value) (fs : List Fl) (t : Int) (w0 w : World) (hF : WF [f0, f1, f2, f3, f4, f5, f6, f7, f8, f9]) (hL0 : FsAt w0 v fs) (hb0 : Below w0.heap.size w0 w) (hz : fsFault fs = 0) (hl : fs.length ≤ 5000) :
  Calls Tryz.prog 138 #[v, .int .i64 t, .agg #[.int .i64 f0, .int .i64 f1, .int .i64 f2, .int .i64 f3, .int .i64 f4, .int .i64 f5, .int .i64 f6, .int .i64 f7, .int .i64 f8, .int .i64 f9]] w fun e w' => ∃ u, e = .returned u ∧ DsAt w0 u (dsOf fs (bestTo fs [f0, f1, f2, f3, f4, f5, f6, f7, f8, f9] t fs.length)) ∧ Below w.heap.size w w' := by
 have HL0 := hide hL0
 have HB0 := hide hb0
 have hL := hL0.below hb0 (Nat.le_refl _)
 have HL := hide hL
 clear hL0
 have HZ := hide hz
 have HF := hide hF
 obtain ⟨a, cap, rfl, hn, _⟩ := hL
 clear hz hF
 obtain ⟨F, hFd⟩ : ∃ F : List Int, F = [f0, f1, f2, f3, f4, f5, f6, f7, f8, f9] := ⟨_, rfl⟩
 have HFD := hide hFd
 rw [← hFd] at HF ⊢
 clear hFd
 have HFT : Hid (∀ (u : Value) (ms : List Mt) (W : World), MsAt W u ms → ms.length ≤ 12 → (∀ j, j < ms.length → matchB (ms.getD j mt0) = true) → Calls Tryz.prog 176 #[u, .agg #[.int .i64 f0, .int .i64 f1, .int .i64 f2, .int .i64 f3, .int .i64 f4, .int .i64 f5, .int .i64 f6, .int .i64 f7, .int .i64 f8, .int .i64 f9]] W fun e w' => e = .returned (.bool (fitsB F ms)) ∧ Below W.heap.size W w') := fun u ms W h1 h2 h3 => by
  have := fits_any f0 f1 f2 f3 f4 f5 f6 f7 f8 f9 u ms W (by rw [← HFD.out]; exact HF.out) h1 h2 h3
  rw [HFD.out]; exact this
 go_enter Tryz.func138, Tryz.ntmps138
 go_wp2_with fail
 obtain ⟨W1, hW1⟩ : ∃ W1, W1 = w.alloc (.cells #[.int .i64 f0, .int .i64 f1, .int .i64 f2, .int .i64 f3, .int .i64 f4, .int .i64 f5, .int .i64 f6, .int .i64 f7, .int .i64 f8, .int .i64 f9] 39) := ⟨_, rfl⟩
 have hbW : Below w.heap.size w W1 := by rw [hW1]; exact (Below.refl _ _).alloc (Nat.le_refl _) _
 have c0 : W1.cell? ⟨w.heap.size, 0, none⟩ = some (.int .i64 f0) := by rw [hW1]; simp
 have c1 : W1.cell? ⟨w.heap.size, 1, none⟩ = some (.int .i64 f1) := by rw [hW1]; simp
 have c2 : W1.cell? ⟨w.heap.size, 2, none⟩ = some (.int .i64 f2) := by rw [hW1]; simp
 have c3 : W1.cell? ⟨w.heap.size, 3, none⟩ = some (.int .i64 f3) := by rw [hW1]; simp
 have c4 : W1.cell? ⟨w.heap.size, 4, none⟩ = some (.int .i64 f4) := by rw [hW1]; simp
 have c5 : W1.cell? ⟨w.heap.size, 5, none⟩ = some (.int .i64 f5) := by rw [hW1]; simp
 have c6 : W1.cell? ⟨w.heap.size, 6, none⟩ = some (.int .i64 f6) := by rw [hW1]; simp
 have c7 : W1.cell? ⟨w.heap.size, 7, none⟩ = some (.int .i64 f7) := by rw [hW1]; simp
 have c8 : W1.cell? ⟨w.heap.size, 8, none⟩ = some (.int .i64 f8) := by rw [hW1]; simp
 have c9 : W1.cell? ⟨w.heap.size, 9, none⟩ = some (.int .i64 f9) := by rw [hW1]; simp
 have HL1 := hide (HL.out.below hbW (Nat.le_refl _))
 have hz1 : w.heap.size < W1.heap.size := by rw [hW1]; simp
 rw [← hW1]
 clear hW1 HL
 go_loopw [7, 12] (fun o i wr => ∃ k : Nat, k ≤ fs.length ∧ i = .int .i64 k ∧ o = .int .i64 (bestTo fs F t k) ∧ Below W1.heap.size W1 wr) (fun _ i _ => fs.length - (intOf i).toNat)
 case atStart => exact ⟨0, by omega, rfl, rfl, Below.refl _ _⟩
 case round =>
  obtain ⟨k, hk, rfl, rfl, hbel⟩ := hrel
  have hbel1 : Below w.heap.size w wr := hbW.trans (hbel.mono hbW.size)
  have hszr := hbel.size
  have hszw : w.heap.size < wr.heap.size := by omega
  by_cases hlt : k < fs.length
  ·obtain ⟨b, off, rfl, _, hcap, hcell⟩ := fs_cell HL1.out hlt
   have e0 := cell_below c0 hbel (Nat.le_refl _)
   have e1 := cell_below c1 hbel (Nat.le_refl _)
   have e2 := cell_below c2 hbel (Nat.le_refl _)
   have e3 := cell_below c3 hbel (Nat.le_refl _)
   have e4 := cell_below c4 hbel (Nat.le_refl _)
   have e5 := cell_below c5 hbel (Nat.le_refl _)
   have e6 := cell_below c6 hbel (Nat.le_refl _)
   have e7 := cell_below c7 hbel (Nat.le_refl _)
   have e8 := cell_below c8 hbel (Nat.le_refl _)
   have e9 := cell_below c9 hbel (Nat.le_refl _)
   have hf := (hcell k hlt).below hbel (Nat.le_refl _)
   have hbb := cell_lt hf.1
   have hbi := bestTo_in fs F t k
   have HOK := hide (ok_flow HZ.out hlt)
   have HB : Hid (bestTo fs F t (k + 1) = if fitB F t (fs.getD k fl0) = true ∧ (bestTo fs F t k < 0 ∨ (fs.getD (bestTo fs F t k).toNat fl0).p < (fs.getD k fl0).p) then (k : Int) else bestTo fs F t k) := rfl
   have HBC : Hid (∀ j : Nat, bestTo fs F t k = j → wr.cell? ⟨b, off + j * 4 + 1, none⟩ = some (.int .i64 (fs.getD j fl0).p)) := fun j hj => (((hcell j (by omega)).below hbel (Nat.le_refl _)).2.1)
   generalize bestTo fs F t k = B at *
   generalize fs.getD k fl0 = f at *
   clear hcell HL1
   obtain ⟨p0, p1, mv, dv, p2, p3, hms, hds⟩ := hf
   have HMS := hide hms
   obtain ⟨ma, mcap, rfl, hmn, hmL⟩ := hms
   obtain ⟨da, dcap, rfl, hdn, hdL⟩ := hds
   clear hmL hdL hdn hmn
   have hA : ∀ o : Obj, Below wr.heap.size wr (wr.alloc o) := fun o => (Below.refl _ _).alloc (Nat.le_refl _) o
   by_cases ht : f.t = t
   ·have HC : Hid (∀ o : Obj, Calls Tryz.prog 176 #[.slice ma f.ms.length mcap, .agg #[.int .i64 f0, .int .i64 f1, .int .i64 f2, .int .i64 f3, .int .i64 f4, .int .i64 f5, .int .i64 f6, .int .i64 f7, .int .i64 f8, .int .i64 f9]] (wr.alloc o) fun e w' => e = .returned (.bool (fitsB F f.ms)) ∧ Below (wr.alloc o).heap.size (wr.alloc o) w') := fun o => HFT.out _ f.ms _ (HMS.out.below (hA o) (Nat.le_refl _)) HOK.out.2.1 HOK.out.2.2.2.2.2.2.2.1
    have HFB : Hid (fitB F t f = fitsB F f.ms) := by show _ = _; unfold fitB; simp [ht]
    clear HMS
    generalize fitsB F f.ms = R at *
    go_wp2_with fail
    refine (unhide HC _).mono ?_
    rintro e w1 ⟨rfl, hb1⟩
    have k1 : (wr.alloc (.cells #[.int .i64 t, .int .i64 f.p, .slice ma f.ms.length mcap, .slice da f.ds.length dcap] 90)).cell? ⟨wr.heap.size, 1, none⟩ = some (.int .i64 f.p) := by simp
    have k1' := cell_below k1 hb1 (Nat.le_refl _)
    have hbA2 : Below wr.heap.size wr w1 := (hA _).trans (hb1.mono (hA _).size)
    have hbN : Below W1.heap.size W1 w1 := hbel.trans (hbA2.mono hszr)
    have HBC2 : Hid (∀ j : Nat, B = j → w1.cell? ⟨b, off + j * 4 + 1, none⟩ = some (.int .i64 (fs.getD j fl0).p)) := fun j hj => cell_below (HBC.out j hj) hbA2 (Nat.le_refl _)
    have hsz1 := hbN.size
    clear k1 hb1 hbA2 HBC HC p0 p1 p2 p3 hA e0 e1 e2 e3 e4 e5 e6 e7 e8 e9
    cases R
    ·have HR : Hid (bestTo fs F t (k + 1) = B) := by show _ = _; rw [HB.out, HFB.out]; simp
     clear HB HFB HBC2
     go_wp2_with fail
     go_roundw
     case rel => exact ⟨k + 1, by omega, by go_num, by rw [HR.out], hbN⟩
     case measure => simp [intOf]; omega
    ·by_cases hB : B < 0
     ·have HR : Hid (bestTo fs F t (k + 1) = k) := by show _ = _; rw [HB.out, HFB.out, if_pos ⟨rfl, .inl hB⟩]
      clear HB HFB HBC2
      go_wp2_with fail
      go_quiet (fail)
      go_wp2
      go_roundw
      case rel => exact ⟨k + 1, by omega, by go_num, by rw [HR.out], below_drewN hbN _⟩
      case measure => simp [intOf]; omega
     ·obtain ⟨j, rfl⟩ := Int.eq_ofNat_of_zero_le (show 0 ≤ B by omega)
      have cj := HBC2.out j rfl
      have hjk : (j : Int) < fs.length := by omega
      have HB2 : Hid (bestTo fs F t (k + 1) = if (fs.getD j fl0).p < f.p then (k : Int) else j) := by
       show _ = _
       rw [HB.out, HFB.out]
       simp only [true_and, Int.toNat_natCast]
       by_cases hc : (fs.getD j fl0).p < f.p
       ·rw [if_pos (.inr hc), if_pos hc]
       ·rw [if_neg (by omega), if_neg hc]
      clear HB HFB HBC2
      generalize (fs.getD j fl0).p = P at *
      by_cases hp : P < f.p
      ·have HR : Hid (bestTo fs F t (k + 1) = k) := by show _ = _; rw [HB2.out, if_pos hp]
       clear HB2
       go_wp2_with fail
       go_quiet (fail)
       go_wp2
       go_roundw
       case rel => exact ⟨k + 1, by omega, by go_num, by rw [HR.out], below_drewN hbN _⟩
       case measure => simp [intOf]; omega
      ·have HR : Hid (bestTo fs F t (k + 1) = j) := by show _ = _; rw [HB2.out, if_neg hp]
       clear HB2
       go_wp2_with fail
       go_quiet (fail)
       go_wp2
       go_roundw
       case rel => exact ⟨k + 1, by omega, by go_num, by rw [HR.out], below_drewN hbN _⟩
       case measure => simp [intOf]; omega
   ·have HR : Hid (bestTo fs F t (k + 1) = B) := by
     show _ = _
     have : fitB F t f = false := by unfold fitB; simp [ht]
     rw [HB.out, this]; simp
    clear HB HBC HMS HOK
    go_wp2_with fail
    go_roundw
    case rel => exact ⟨k + 1, by omega, by go_num, by rw [HR.out], hbel.alloc hszr _⟩
    case measure => simp [intOf]; omega
  ·have hbi := bestTo_in fs F t k
   have hkl : k = fs.length := by omega
   subst hkl
   by_cases hB : bestTo fs F t fs.length < 0
   ·have HD : Hid (dsOf fs (bestTo fs F t fs.length) = []) := by show _ = _; unfold dsOf; rw [if_pos hB]
    obtain ⟨B, hBd⟩ : ∃ B, B = bestTo fs F t fs.length := ⟨_, rfl⟩
    rw [← hBd]
    rw [← hBd] at hB
    clear hBd hbi
    go_wp2_with fail
    go_ret
    exact ⟨_, rfl, by rw [HD.out]; exact ⟨none, 0, rfl, fun _ => rfl, .inl rfl⟩, hbel1⟩
   ·obtain ⟨j, hj⟩ := Int.eq_ofNat_of_zero_le (show 0 ≤ bestTo fs F t fs.length by omega)
    have HD : Hid (dsOf fs (bestTo fs F t fs.length) = (fs.getD j fl0).ds) := by show _ = _; unfold dsOf; rw [if_neg hB, hj, Int.toNat_natCast]
    have hjl : j < fs.length := by omega
    obtain ⟨b, off, rfl, _, hcap, hcell⟩ := fs_cell HL0.out hjl
    have hf := hcell j hjl
    have hb0r : Below w0.heap.size w0 wr := HB0.out.trans (hbel1.mono HB0.out.size)
    rw [hj]
    clear hbi hB hj hcell HL1 HL0
    generalize fs.getD j fl0 = f at *
    obtain ⟨p0, p1, mv, dv, p2, p3', hms, hds⟩ := hf
    have p3 := cell_below p3' hb0r (Nat.le_refl _)
    have HDS := hide hds
    obtain ⟨da, dcap, rfl, hdn, hdL⟩ := hds
    clear hdL hms p0 p1 p2 hdn p3' hb0r
    go_wp2_with fail
    go_ret
    exact ⟨_, rfl, by rw [HD.out]; exact HDS.out, hbel1⟩
end Go.Proofs.YtncdininppehkaaGreat

namespace Go.Proofs.YtncdininppehkaaGreat
open Go.RowKit
set_option linter.unusedVariables false
set_option maxRecDepth 100000
set_option maxHeartbeats 8000000 in
theorem changedPut_any (f0 f1 f2 f3 f4 f5 f6 f7 f8 f9 : Int) (q : Nat) (n : Int) (w : World) (hq : q < 10) :
  Calls Tryz.prog 139 #[.agg #[.int .i64 f0, .int .i64 f1, .int .i64 f2, .int .i64 f3, .int .i64 f4, .int .i64 f5, .int .i64 f6, .int .i64 f7, .int .i64 f8, .int .i64 f9], .agg #[.int .i64 1, .int .i64 q, .int .i64 n]] w fun e w' => ∃ g0 g1 g2 g3 g4 g5 g6 g7 g8 g9 : Int, e = .returned (.agg #[.int .i64 g0, .int .i64 g1, .int .i64 g2, .int .i64 g3, .int .i64 g4, .int .i64 g5, .int .i64 g6, .int .i64 g7, .int .i64 g8, .int .i64 g9]) ∧ [g0, g1, g2, g3, g4, g5, g6, g7, g8, g9] = ([f0, f1, f2, f3, f4, f5, f6, f7, f8, f9] : List Int).set q (n) ∧ Below w.heap.size w w' := by
 obtain ⟨L, hL⟩ : ∃ L, L = ([f0, f1, f2, f3, f4, f5, f6, f7, f8, f9] : List Int).set q (n) := ⟨_, rfl⟩
 rw [← hL]
 have HL := hide hL
 clear hL
 have hc : q = 0 ∨ q = 1 ∨ q = 2 ∨ q = 3 ∨ q = 4 ∨ q = 5 ∨ q = 6 ∨ q = 7 ∨ q = 8 ∨ q = 9 := by omega
 rcases hc with rfl | rfl | rfl | rfl | rfl | rfl | rfl | rfl | rfl | rfl
 ·go_enter Tryz.func139, Tryz.ntmps139
  go_wp2_with fail
  refine bodyPost_ret (v := .agg #[.int .i64 n, .int .i64 f1, .int .i64 f2, .int .i64 f3, .int .i64 f4, .int .i64 f5, .int .i64 f6, .int .i64 f7, .int .i64 f8, .int .i64 f9]) ?_ rfl ⟨n, f1, f2, f3, f4, f5, f6, f7, f8, f9, rfl, by rw [HL.out]; rfl, (((Below.refl _ _).alloc (Nat.le_refl _) _).alloc (by simp) _).alloc (by simp; omega) _⟩
  simp [results, Tryz.results139, go_sem]
 ·go_enter Tryz.func139, Tryz.ntmps139
  go_wp2_with fail
  refine bodyPost_ret (v := .agg #[.int .i64 f0, .int .i64 n, .int .i64 f2, .int .i64 f3, .int .i64 f4, .int .i64 f5, .int .i64 f6, .int .i64 f7, .int .i64 f8, .int .i64 f9]) ?_ rfl ⟨f0, n, f2, f3, f4, f5, f6, f7, f8, f9, rfl, by rw [HL.out]; rfl, (((Below.refl _ _).alloc (Nat.le_refl _) _).alloc (by simp) _).alloc (by simp; omega) _⟩
  simp [results, Tryz.results139, go_sem]
 ·go_enter Tryz.func139, Tryz.ntmps139
  go_wp2_with fail
  refine bodyPost_ret (v := .agg #[.int .i64 f0, .int .i64 f1, .int .i64 n, .int .i64 f3, .int .i64 f4, .int .i64 f5, .int .i64 f6, .int .i64 f7, .int .i64 f8, .int .i64 f9]) ?_ rfl ⟨f0, f1, n, f3, f4, f5, f6, f7, f8, f9, rfl, by rw [HL.out]; rfl, (((Below.refl _ _).alloc (Nat.le_refl _) _).alloc (by simp) _).alloc (by simp; omega) _⟩
  simp [results, Tryz.results139, go_sem]
 ·go_enter Tryz.func139, Tryz.ntmps139
  go_wp2_with fail
  refine bodyPost_ret (v := .agg #[.int .i64 f0, .int .i64 f1, .int .i64 f2, .int .i64 n, .int .i64 f4, .int .i64 f5, .int .i64 f6, .int .i64 f7, .int .i64 f8, .int .i64 f9]) ?_ rfl ⟨f0, f1, f2, n, f4, f5, f6, f7, f8, f9, rfl, by rw [HL.out]; rfl, (((Below.refl _ _).alloc (Nat.le_refl _) _).alloc (by simp) _).alloc (by simp; omega) _⟩
  simp [results, Tryz.results139, go_sem]
 ·go_enter Tryz.func139, Tryz.ntmps139
  go_wp2_with fail
  refine bodyPost_ret (v := .agg #[.int .i64 f0, .int .i64 f1, .int .i64 f2, .int .i64 f3, .int .i64 n, .int .i64 f5, .int .i64 f6, .int .i64 f7, .int .i64 f8, .int .i64 f9]) ?_ rfl ⟨f0, f1, f2, f3, n, f5, f6, f7, f8, f9, rfl, by rw [HL.out]; rfl, (((Below.refl _ _).alloc (Nat.le_refl _) _).alloc (by simp) _).alloc (by simp; omega) _⟩
  simp [results, Tryz.results139, go_sem]
 ·go_enter Tryz.func139, Tryz.ntmps139
  go_wp2_with fail
  refine bodyPost_ret (v := .agg #[.int .i64 f0, .int .i64 f1, .int .i64 f2, .int .i64 f3, .int .i64 f4, .int .i64 n, .int .i64 f6, .int .i64 f7, .int .i64 f8, .int .i64 f9]) ?_ rfl ⟨f0, f1, f2, f3, f4, n, f6, f7, f8, f9, rfl, by rw [HL.out]; rfl, (((Below.refl _ _).alloc (Nat.le_refl _) _).alloc (by simp) _).alloc (by simp; omega) _⟩
  simp [results, Tryz.results139, go_sem]
 ·go_enter Tryz.func139, Tryz.ntmps139
  go_wp2_with fail
  refine bodyPost_ret (v := .agg #[.int .i64 f0, .int .i64 f1, .int .i64 f2, .int .i64 f3, .int .i64 f4, .int .i64 f5, .int .i64 n, .int .i64 f7, .int .i64 f8, .int .i64 f9]) ?_ rfl ⟨f0, f1, f2, f3, f4, f5, n, f7, f8, f9, rfl, by rw [HL.out]; rfl, (((Below.refl _ _).alloc (Nat.le_refl _) _).alloc (by simp) _).alloc (by simp; omega) _⟩
  simp [results, Tryz.results139, go_sem]
 ·go_enter Tryz.func139, Tryz.ntmps139
  go_wp2_with fail
  refine bodyPost_ret (v := .agg #[.int .i64 f0, .int .i64 f1, .int .i64 f2, .int .i64 f3, .int .i64 f4, .int .i64 f5, .int .i64 f6, .int .i64 n, .int .i64 f8, .int .i64 f9]) ?_ rfl ⟨f0, f1, f2, f3, f4, f5, f6, n, f8, f9, rfl, by rw [HL.out]; rfl, (((Below.refl _ _).alloc (Nat.le_refl _) _).alloc (by simp) _).alloc (by simp; omega) _⟩
  simp [results, Tryz.results139, go_sem]
 ·go_enter Tryz.func139, Tryz.ntmps139
  go_wp2_with fail
  refine bodyPost_ret (v := .agg #[.int .i64 f0, .int .i64 f1, .int .i64 f2, .int .i64 f3, .int .i64 f4, .int .i64 f5, .int .i64 f6, .int .i64 f7, .int .i64 n, .int .i64 f9]) ?_ rfl ⟨f0, f1, f2, f3, f4, f5, f6, f7, n, f9, rfl, by rw [HL.out]; rfl, (((Below.refl _ _).alloc (Nat.le_refl _) _).alloc (by simp) _).alloc (by simp; omega) _⟩
  simp [results, Tryz.results139, go_sem]
 ·go_enter Tryz.func139, Tryz.ntmps139
  go_wp2_with fail
  refine bodyPost_ret (v := .agg #[.int .i64 f0, .int .i64 f1, .int .i64 f2, .int .i64 f3, .int .i64 f4, .int .i64 f5, .int .i64 f6, .int .i64 f7, .int .i64 f8, .int .i64 n]) ?_ rfl ⟨f0, f1, f2, f3, f4, f5, f6, f7, f8, n, rfl, by rw [HL.out]; rfl, (((Below.refl _ _).alloc (Nat.le_refl _) _).alloc (by simp) _).alloc (by simp; omega) _⟩
  simp [results, Tryz.results139, go_sem]
end Go.Proofs.YtncdininppehkaaGreat

namespace Go.Proofs.YtncdininppehkaaGreat
open Go.RowKit
set_option linter.unusedVariables false
set_option maxRecDepth 100000
set_option maxHeartbeats 8000000 in
theorem changedCopy_any (f0 f1 f2 f3 f4 f5 f6 f7 f8 f9 : Int) (q : Nat) (m : Nat) (w : World) (hq : q < 10) (hm : m < 10) :
  Calls Tryz.prog 139 #[.agg #[.int .i64 f0, .int .i64 f1, .int .i64 f2, .int .i64 f3, .int .i64 f4, .int .i64 f5, .int .i64 f6, .int .i64 f7, .int .i64 f8, .int .i64 f9], .agg #[.int .i64 2, .int .i64 q, .int .i64 m]] w fun e w' => ∃ g0 g1 g2 g3 g4 g5 g6 g7 g8 g9 : Int, e = .returned (.agg #[.int .i64 g0, .int .i64 g1, .int .i64 g2, .int .i64 g3, .int .i64 g4, .int .i64 g5, .int .i64 g6, .int .i64 g7, .int .i64 g8, .int .i64 g9]) ∧ [g0, g1, g2, g3, g4, g5, g6, g7, g8, g9] = ([f0, f1, f2, f3, f4, f5, f6, f7, f8, f9] : List Int).set q (([f0, f1, f2, f3, f4, f5, f6, f7, f8, f9] : List Int).getD m 0) ∧ Below w.heap.size w w' := by
 have hcm := cells10 w 39 f0 f1 f2 f3 f4 f5 f6 f7 f8 f9 m hm
 have HX := hide (rfl : ([f0, f1, f2, f3, f4, f5, f6, f7, f8, f9] : List Int).getD m 0 = ([f0, f1, f2, f3, f4, f5, f6, f7, f8, f9] : List Int).getD m 0)
 obtain ⟨x, hx⟩ : ∃ x, x = ([f0, f1, f2, f3, f4, f5, f6, f7, f8, f9] : List Int).getD m 0 := ⟨_, rfl⟩
 rw [← hx] at hcm
 replace HX := hide hx.symm
 clear hx
 have hmi : (m : Int) < 10 := by omega
 have hxm : ∀ h, (([.int .i64 f0, .int .i64 f1, .int .i64 f2, .int .i64 f3, .int .i64 f4, .int .i64 f5, .int .i64 f6, .int .i64 f7, .int .i64 f8, .int .i64 f9] : List Value)[m]'h) = .int .i64 x := fun h => by
  have h2 := HX.out
  clear hcm HX hmi
  have hc : m = 0 ∨ m = 1 ∨ m = 2 ∨ m = 3 ∨ m = 4 ∨ m = 5 ∨ m = 6 ∨ m = 7 ∨ m = 8 ∨ m = 9 := by omega
  rcases hc with rfl | rfl | rfl | rfl | rfl | rfl | rfl | rfl | rfl | rfl
  all_goals (rw [← h2]; rfl)
 obtain ⟨L, hL⟩ : ∃ L, L = ([f0, f1, f2, f3, f4, f5, f6, f7, f8, f9] : List Int).set q (([f0, f1, f2, f3, f4, f5, f6, f7, f8, f9] : List Int).getD m 0) := ⟨_, rfl⟩
 rw [← hL]
 have HL := hide hL
 clear hL
 have hc : q = 0 ∨ q = 1 ∨ q = 2 ∨ q = 3 ∨ q = 4 ∨ q = 5 ∨ q = 6 ∨ q = 7 ∨ q = 8 ∨ q = 9 := by omega
 rcases hc with rfl | rfl | rfl | rfl | rfl | rfl | rfl | rfl | rfl | rfl
 ·go_enter Tryz.func139, Tryz.ntmps139
  go_wp2_with fail
  go_region
  all_goals go_wp2
  refine bodyPost_ret (v := .agg #[.int .i64 x, .int .i64 f1, .int .i64 f2, .int .i64 f3, .int .i64 f4, .int .i64 f5, .int .i64 f6, .int .i64 f7, .int .i64 f8, .int .i64 f9]) ?_ rfl ⟨x, f1, f2, f3, f4, f5, f6, f7, f8, f9, rfl, by rw [HL.out, HX.out]; rfl, ((((Below.refl _ _).alloc (Nat.le_refl _) _).alloc (by simp) _).alloc (by simp; omega) _).drew⟩
  simp [results, Tryz.results139, go_sem]
 ·go_enter Tryz.func139, Tryz.ntmps139
  go_wp2_with fail
  go_region
  all_goals go_wp2
  refine bodyPost_ret (v := .agg #[.int .i64 f0, .int .i64 x, .int .i64 f2, .int .i64 f3, .int .i64 f4, .int .i64 f5, .int .i64 f6, .int .i64 f7, .int .i64 f8, .int .i64 f9]) ?_ rfl ⟨f0, x, f2, f3, f4, f5, f6, f7, f8, f9, rfl, by rw [HL.out, HX.out]; rfl, ((((Below.refl _ _).alloc (Nat.le_refl _) _).alloc (by simp) _).alloc (by simp; omega) _).drew⟩
  simp [results, Tryz.results139, go_sem]
 ·go_enter Tryz.func139, Tryz.ntmps139
  go_wp2_with fail
  go_region
  all_goals go_wp2
  refine bodyPost_ret (v := .agg #[.int .i64 f0, .int .i64 f1, .int .i64 x, .int .i64 f3, .int .i64 f4, .int .i64 f5, .int .i64 f6, .int .i64 f7, .int .i64 f8, .int .i64 f9]) ?_ rfl ⟨f0, f1, x, f3, f4, f5, f6, f7, f8, f9, rfl, by rw [HL.out, HX.out]; rfl, ((((Below.refl _ _).alloc (Nat.le_refl _) _).alloc (by simp) _).alloc (by simp; omega) _).drew⟩
  simp [results, Tryz.results139, go_sem]
 ·go_enter Tryz.func139, Tryz.ntmps139
  go_wp2_with fail
  go_region
  all_goals go_wp2
  refine bodyPost_ret (v := .agg #[.int .i64 f0, .int .i64 f1, .int .i64 f2, .int .i64 x, .int .i64 f4, .int .i64 f5, .int .i64 f6, .int .i64 f7, .int .i64 f8, .int .i64 f9]) ?_ rfl ⟨f0, f1, f2, x, f4, f5, f6, f7, f8, f9, rfl, by rw [HL.out, HX.out]; rfl, ((((Below.refl _ _).alloc (Nat.le_refl _) _).alloc (by simp) _).alloc (by simp; omega) _).drew⟩
  simp [results, Tryz.results139, go_sem]
 ·go_enter Tryz.func139, Tryz.ntmps139
  go_wp2_with fail
  go_region
  all_goals go_wp2
  refine bodyPost_ret (v := .agg #[.int .i64 f0, .int .i64 f1, .int .i64 f2, .int .i64 f3, .int .i64 x, .int .i64 f5, .int .i64 f6, .int .i64 f7, .int .i64 f8, .int .i64 f9]) ?_ rfl ⟨f0, f1, f2, f3, x, f5, f6, f7, f8, f9, rfl, by rw [HL.out, HX.out]; rfl, ((((Below.refl _ _).alloc (Nat.le_refl _) _).alloc (by simp) _).alloc (by simp; omega) _).drew⟩
  simp [results, Tryz.results139, go_sem]
 ·go_enter Tryz.func139, Tryz.ntmps139
  go_wp2_with fail
  go_region
  all_goals go_wp2
  refine bodyPost_ret (v := .agg #[.int .i64 f0, .int .i64 f1, .int .i64 f2, .int .i64 f3, .int .i64 f4, .int .i64 x, .int .i64 f6, .int .i64 f7, .int .i64 f8, .int .i64 f9]) ?_ rfl ⟨f0, f1, f2, f3, f4, x, f6, f7, f8, f9, rfl, by rw [HL.out, HX.out]; rfl, ((((Below.refl _ _).alloc (Nat.le_refl _) _).alloc (by simp) _).alloc (by simp; omega) _).drew⟩
  simp [results, Tryz.results139, go_sem]
 ·go_enter Tryz.func139, Tryz.ntmps139
  go_wp2_with fail
  go_region
  all_goals go_wp2
  refine bodyPost_ret (v := .agg #[.int .i64 f0, .int .i64 f1, .int .i64 f2, .int .i64 f3, .int .i64 f4, .int .i64 f5, .int .i64 x, .int .i64 f7, .int .i64 f8, .int .i64 f9]) ?_ rfl ⟨f0, f1, f2, f3, f4, f5, x, f7, f8, f9, rfl, by rw [HL.out, HX.out]; rfl, ((((Below.refl _ _).alloc (Nat.le_refl _) _).alloc (by simp) _).alloc (by simp; omega) _).drew⟩
  simp [results, Tryz.results139, go_sem]
 ·go_enter Tryz.func139, Tryz.ntmps139
  go_wp2_with fail
  go_region
  all_goals go_wp2
  refine bodyPost_ret (v := .agg #[.int .i64 f0, .int .i64 f1, .int .i64 f2, .int .i64 f3, .int .i64 f4, .int .i64 f5, .int .i64 f6, .int .i64 x, .int .i64 f8, .int .i64 f9]) ?_ rfl ⟨f0, f1, f2, f3, f4, f5, f6, x, f8, f9, rfl, by rw [HL.out, HX.out]; rfl, ((((Below.refl _ _).alloc (Nat.le_refl _) _).alloc (by simp) _).alloc (by simp; omega) _).drew⟩
  simp [results, Tryz.results139, go_sem]
 ·go_enter Tryz.func139, Tryz.ntmps139
  go_wp2_with fail
  go_region
  all_goals go_wp2
  refine bodyPost_ret (v := .agg #[.int .i64 f0, .int .i64 f1, .int .i64 f2, .int .i64 f3, .int .i64 f4, .int .i64 f5, .int .i64 f6, .int .i64 f7, .int .i64 x, .int .i64 f9]) ?_ rfl ⟨f0, f1, f2, f3, f4, f5, f6, f7, x, f9, rfl, by rw [HL.out, HX.out]; rfl, ((((Below.refl _ _).alloc (Nat.le_refl _) _).alloc (by simp) _).alloc (by simp; omega) _).drew⟩
  simp [results, Tryz.results139, go_sem]
 ·go_enter Tryz.func139, Tryz.ntmps139
  go_wp2_with fail
  go_region
  all_goals go_wp2
  refine bodyPost_ret (v := .agg #[.int .i64 f0, .int .i64 f1, .int .i64 f2, .int .i64 f3, .int .i64 f4, .int .i64 f5, .int .i64 f6, .int .i64 f7, .int .i64 f8, .int .i64 x]) ?_ rfl ⟨f0, f1, f2, f3, f4, f5, f6, f7, f8, x, rfl, by rw [HL.out, HX.out]; rfl, ((((Below.refl _ _).alloc (Nat.le_refl _) _).alloc (by simp) _).alloc (by simp; omega) _).drew⟩
  simp [results, Tryz.results139, go_sem]
end Go.Proofs.YtncdininppehkaaGreat

namespace Go.Proofs.YtncdininppehkaaGreat
open Go.RowKit
set_option linter.unusedVariables false
set_option maxRecDepth 100000
set_option maxHeartbeats 8000000 in
theorem changedLess_any (f0 f1 f2 f3 f4 f5 f6 f7 f8 f9 : Int) (q : Nat) (n : Int) (w : World) (hq : q < 10) (hb : ∀ i, 0 ≤ ([f0, f1, f2, f3, f4, f5, f6, f7, f8, f9] : List Int).getD i 0 ∧ ([f0, f1, f2, f3, f4, f5, f6, f7, f8, f9] : List Int).getD i 0 ≤ 65535) :
  Calls Tryz.prog 139 #[.agg #[.int .i64 f0, .int .i64 f1, .int .i64 f2, .int .i64 f3, .int .i64 f4, .int .i64 f5, .int .i64 f6, .int .i64 f7, .int .i64 f8, .int .i64 f9], .agg #[.int .i64 3, .int .i64 q, .int .i64 n]] w fun e w' => ∃ g0 g1 g2 g3 g4 g5 g6 g7 g8 g9 : Int, e = .returned (.agg #[.int .i64 g0, .int .i64 g1, .int .i64 g2, .int .i64 g3, .int .i64 g4, .int .i64 g5, .int .i64 g6, .int .i64 g7, .int .i64 g8, .int .i64 g9]) ∧ [g0, g1, g2, g3, g4, g5, g6, g7, g8, g9] = ([f0, f1, f2, f3, f4, f5, f6, f7, f8, f9] : List Int).set q (if 0 < ([f0, f1, f2, f3, f4, f5, f6, f7, f8, f9] : List Int).getD q 0 then ([f0, f1, f2, f3, f4, f5, f6, f7, f8, f9] : List Int).getD q 0 - 1 else 0) ∧ Below w.heap.size w w' := by
 obtain ⟨L, hL⟩ : ∃ L, L = ([f0, f1, f2, f3, f4, f5, f6, f7, f8, f9] : List Int).set q (if 0 < ([f0, f1, f2, f3, f4, f5, f6, f7, f8, f9] : List Int).getD q 0 then ([f0, f1, f2, f3, f4, f5, f6, f7, f8, f9] : List Int).getD q 0 - 1 else 0) := ⟨_, rfl⟩
 rw [← hL]
 have HL := hide hL
 clear hL
 have hc : q = 0 ∨ q = 1 ∨ q = 2 ∨ q = 3 ∨ q = 4 ∨ q = 5 ∨ q = 6 ∨ q = 7 ∨ q = 8 ∨ q = 9 := by omega
 rcases hc with rfl | rfl | rfl | rfl | rfl | rfl | rfl | rfl | rfl | rfl
 ·have hq0 := hb 0
  simp at hq0
  by_cases h0 : 0 < f0
  ·have hw : IntKind.i64.wrap (f0 - 1) = f0 - 1 := wrapI _ (by omega) (by omega)
   have hmx : max (f0 - 1) 0 = f0 - 1 := by omega
   go_enter Tryz.func139, Tryz.ntmps139
   go_wp2_with fail
   go_region
   all_goals go_wp2
   refine bodyPost_ret (v := .agg #[.int .i64 (f0 - 1), .int .i64 (f1), .int .i64 (f2), .int .i64 (f3), .int .i64 (f4), .int .i64 (f5), .int .i64 (f6), .int .i64 (f7), .int .i64 (f8), .int .i64 (f9)]) ?_ rfl ⟨f0 - 1, f1, f2, f3, f4, f5, f6, f7, f8, f9, rfl, by rw [HL.out]; simp [h0], ((((Below.refl _ _).alloc (Nat.le_refl _) _).alloc (by simp) _).alloc (by simp; omega) _).drew⟩
   simp [results, Tryz.results139, go_sem]
  ·have he : f0 = 0 := by omega
   subst he
   go_enter Tryz.func139, Tryz.ntmps139
   go_wp2_with fail
   go_region
   all_goals go_wp2
   refine bodyPost_ret (v := .agg #[.int .i64 (0), .int .i64 (f1), .int .i64 (f2), .int .i64 (f3), .int .i64 (f4), .int .i64 (f5), .int .i64 (f6), .int .i64 (f7), .int .i64 (f8), .int .i64 (f9)]) ?_ rfl ⟨0, f1, f2, f3, f4, f5, f6, f7, f8, f9, rfl, by rw [HL.out]; simp, ((((Below.refl _ _).alloc (Nat.le_refl _) _).alloc (by simp) _).alloc (by simp; omega) _).drew⟩
   simp [results, Tryz.results139, go_sem]
 ·have hq0 := hb 1
  simp at hq0
  by_cases h0 : 0 < f1
  ·have hw : IntKind.i64.wrap (f1 - 1) = f1 - 1 := wrapI _ (by omega) (by omega)
   have hmx : max (f1 - 1) 0 = f1 - 1 := by omega
   go_enter Tryz.func139, Tryz.ntmps139
   go_wp2_with fail
   go_region
   all_goals go_wp2
   refine bodyPost_ret (v := .agg #[.int .i64 (f0), .int .i64 (f1 - 1), .int .i64 (f2), .int .i64 (f3), .int .i64 (f4), .int .i64 (f5), .int .i64 (f6), .int .i64 (f7), .int .i64 (f8), .int .i64 (f9)]) ?_ rfl ⟨f0, f1 - 1, f2, f3, f4, f5, f6, f7, f8, f9, rfl, by rw [HL.out]; simp [h0], ((((Below.refl _ _).alloc (Nat.le_refl _) _).alloc (by simp) _).alloc (by simp; omega) _).drew⟩
   simp [results, Tryz.results139, go_sem]
  ·have he : f1 = 0 := by omega
   subst he
   go_enter Tryz.func139, Tryz.ntmps139
   go_wp2_with fail
   go_region
   all_goals go_wp2
   refine bodyPost_ret (v := .agg #[.int .i64 (f0), .int .i64 (0), .int .i64 (f2), .int .i64 (f3), .int .i64 (f4), .int .i64 (f5), .int .i64 (f6), .int .i64 (f7), .int .i64 (f8), .int .i64 (f9)]) ?_ rfl ⟨f0, 0, f2, f3, f4, f5, f6, f7, f8, f9, rfl, by rw [HL.out]; simp, ((((Below.refl _ _).alloc (Nat.le_refl _) _).alloc (by simp) _).alloc (by simp; omega) _).drew⟩
   simp [results, Tryz.results139, go_sem]
 ·have hq0 := hb 2
  simp at hq0
  by_cases h0 : 0 < f2
  ·have hw : IntKind.i64.wrap (f2 - 1) = f2 - 1 := wrapI _ (by omega) (by omega)
   have hmx : max (f2 - 1) 0 = f2 - 1 := by omega
   go_enter Tryz.func139, Tryz.ntmps139
   go_wp2_with fail
   go_region
   all_goals go_wp2
   refine bodyPost_ret (v := .agg #[.int .i64 (f0), .int .i64 (f1), .int .i64 (f2 - 1), .int .i64 (f3), .int .i64 (f4), .int .i64 (f5), .int .i64 (f6), .int .i64 (f7), .int .i64 (f8), .int .i64 (f9)]) ?_ rfl ⟨f0, f1, f2 - 1, f3, f4, f5, f6, f7, f8, f9, rfl, by rw [HL.out]; simp [h0], ((((Below.refl _ _).alloc (Nat.le_refl _) _).alloc (by simp) _).alloc (by simp; omega) _).drew⟩
   simp [results, Tryz.results139, go_sem]
  ·have he : f2 = 0 := by omega
   subst he
   go_enter Tryz.func139, Tryz.ntmps139
   go_wp2_with fail
   go_region
   all_goals go_wp2
   refine bodyPost_ret (v := .agg #[.int .i64 (f0), .int .i64 (f1), .int .i64 (0), .int .i64 (f3), .int .i64 (f4), .int .i64 (f5), .int .i64 (f6), .int .i64 (f7), .int .i64 (f8), .int .i64 (f9)]) ?_ rfl ⟨f0, f1, 0, f3, f4, f5, f6, f7, f8, f9, rfl, by rw [HL.out]; simp, ((((Below.refl _ _).alloc (Nat.le_refl _) _).alloc (by simp) _).alloc (by simp; omega) _).drew⟩
   simp [results, Tryz.results139, go_sem]
 ·have hq0 := hb 3
  simp at hq0
  by_cases h0 : 0 < f3
  ·have hw : IntKind.i64.wrap (f3 - 1) = f3 - 1 := wrapI _ (by omega) (by omega)
   have hmx : max (f3 - 1) 0 = f3 - 1 := by omega
   go_enter Tryz.func139, Tryz.ntmps139
   go_wp2_with fail
   go_region
   all_goals go_wp2
   refine bodyPost_ret (v := .agg #[.int .i64 (f0), .int .i64 (f1), .int .i64 (f2), .int .i64 (f3 - 1), .int .i64 (f4), .int .i64 (f5), .int .i64 (f6), .int .i64 (f7), .int .i64 (f8), .int .i64 (f9)]) ?_ rfl ⟨f0, f1, f2, f3 - 1, f4, f5, f6, f7, f8, f9, rfl, by rw [HL.out]; simp [h0], ((((Below.refl _ _).alloc (Nat.le_refl _) _).alloc (by simp) _).alloc (by simp; omega) _).drew⟩
   simp [results, Tryz.results139, go_sem]
  ·have he : f3 = 0 := by omega
   subst he
   go_enter Tryz.func139, Tryz.ntmps139
   go_wp2_with fail
   go_region
   all_goals go_wp2
   refine bodyPost_ret (v := .agg #[.int .i64 (f0), .int .i64 (f1), .int .i64 (f2), .int .i64 (0), .int .i64 (f4), .int .i64 (f5), .int .i64 (f6), .int .i64 (f7), .int .i64 (f8), .int .i64 (f9)]) ?_ rfl ⟨f0, f1, f2, 0, f4, f5, f6, f7, f8, f9, rfl, by rw [HL.out]; simp, ((((Below.refl _ _).alloc (Nat.le_refl _) _).alloc (by simp) _).alloc (by simp; omega) _).drew⟩
   simp [results, Tryz.results139, go_sem]
 ·have hq0 := hb 4
  simp at hq0
  by_cases h0 : 0 < f4
  ·have hw : IntKind.i64.wrap (f4 - 1) = f4 - 1 := wrapI _ (by omega) (by omega)
   have hmx : max (f4 - 1) 0 = f4 - 1 := by omega
   go_enter Tryz.func139, Tryz.ntmps139
   go_wp2_with fail
   go_region
   all_goals go_wp2
   refine bodyPost_ret (v := .agg #[.int .i64 (f0), .int .i64 (f1), .int .i64 (f2), .int .i64 (f3), .int .i64 (f4 - 1), .int .i64 (f5), .int .i64 (f6), .int .i64 (f7), .int .i64 (f8), .int .i64 (f9)]) ?_ rfl ⟨f0, f1, f2, f3, f4 - 1, f5, f6, f7, f8, f9, rfl, by rw [HL.out]; simp [h0], ((((Below.refl _ _).alloc (Nat.le_refl _) _).alloc (by simp) _).alloc (by simp; omega) _).drew⟩
   simp [results, Tryz.results139, go_sem]
  ·have he : f4 = 0 := by omega
   subst he
   go_enter Tryz.func139, Tryz.ntmps139
   go_wp2_with fail
   go_region
   all_goals go_wp2
   refine bodyPost_ret (v := .agg #[.int .i64 (f0), .int .i64 (f1), .int .i64 (f2), .int .i64 (f3), .int .i64 (0), .int .i64 (f5), .int .i64 (f6), .int .i64 (f7), .int .i64 (f8), .int .i64 (f9)]) ?_ rfl ⟨f0, f1, f2, f3, 0, f5, f6, f7, f8, f9, rfl, by rw [HL.out]; simp, ((((Below.refl _ _).alloc (Nat.le_refl _) _).alloc (by simp) _).alloc (by simp; omega) _).drew⟩
   simp [results, Tryz.results139, go_sem]
 ·have hq0 := hb 5
  simp at hq0
  by_cases h0 : 0 < f5
  ·have hw : IntKind.i64.wrap (f5 - 1) = f5 - 1 := wrapI _ (by omega) (by omega)
   have hmx : max (f5 - 1) 0 = f5 - 1 := by omega
   go_enter Tryz.func139, Tryz.ntmps139
   go_wp2_with fail
   go_region
   all_goals go_wp2
   refine bodyPost_ret (v := .agg #[.int .i64 (f0), .int .i64 (f1), .int .i64 (f2), .int .i64 (f3), .int .i64 (f4), .int .i64 (f5 - 1), .int .i64 (f6), .int .i64 (f7), .int .i64 (f8), .int .i64 (f9)]) ?_ rfl ⟨f0, f1, f2, f3, f4, f5 - 1, f6, f7, f8, f9, rfl, by rw [HL.out]; simp [h0], ((((Below.refl _ _).alloc (Nat.le_refl _) _).alloc (by simp) _).alloc (by simp; omega) _).drew⟩
   simp [results, Tryz.results139, go_sem]
  ·have he : f5 = 0 := by omega
   subst he
   go_enter Tryz.func139, Tryz.ntmps139
   go_wp2_with fail
   go_region
   all_goals go_wp2
   refine bodyPost_ret (v := .agg #[.int .i64 (f0), .int .i64 (f1), .int .i64 (f2), .int .i64 (f3), .int .i64 (f4), .int .i64 (0), .int .i64 (f6), .int .i64 (f7), .int .i64 (f8), .int .i64 (f9)]) ?_ rfl ⟨f0, f1, f2, f3, f4, 0, f6, f7, f8, f9, rfl, by rw [HL.out]; simp, ((((Below.refl _ _).alloc (Nat.le_refl _) _).alloc (by simp) _).alloc (by simp; omega) _).drew⟩
   simp [results, Tryz.results139, go_sem]
 ·have hq0 := hb 6
  simp at hq0
  by_cases h0 : 0 < f6
  ·have hw : IntKind.i64.wrap (f6 - 1) = f6 - 1 := wrapI _ (by omega) (by omega)
   have hmx : max (f6 - 1) 0 = f6 - 1 := by omega
   go_enter Tryz.func139, Tryz.ntmps139
   go_wp2_with fail
   go_region
   all_goals go_wp2
   refine bodyPost_ret (v := .agg #[.int .i64 (f0), .int .i64 (f1), .int .i64 (f2), .int .i64 (f3), .int .i64 (f4), .int .i64 (f5), .int .i64 (f6 - 1), .int .i64 (f7), .int .i64 (f8), .int .i64 (f9)]) ?_ rfl ⟨f0, f1, f2, f3, f4, f5, f6 - 1, f7, f8, f9, rfl, by rw [HL.out]; simp [h0], ((((Below.refl _ _).alloc (Nat.le_refl _) _).alloc (by simp) _).alloc (by simp; omega) _).drew⟩
   simp [results, Tryz.results139, go_sem]
  ·have he : f6 = 0 := by omega
   subst he
   go_enter Tryz.func139, Tryz.ntmps139
   go_wp2_with fail
   go_region
   all_goals go_wp2
   refine bodyPost_ret (v := .agg #[.int .i64 (f0), .int .i64 (f1), .int .i64 (f2), .int .i64 (f3), .int .i64 (f4), .int .i64 (f5), .int .i64 (0), .int .i64 (f7), .int .i64 (f8), .int .i64 (f9)]) ?_ rfl ⟨f0, f1, f2, f3, f4, f5, 0, f7, f8, f9, rfl, by rw [HL.out]; simp, ((((Below.refl _ _).alloc (Nat.le_refl _) _).alloc (by simp) _).alloc (by simp; omega) _).drew⟩
   simp [results, Tryz.results139, go_sem]
 ·have hq0 := hb 7
  simp at hq0
  by_cases h0 : 0 < f7
  ·have hw : IntKind.i64.wrap (f7 - 1) = f7 - 1 := wrapI _ (by omega) (by omega)
   have hmx : max (f7 - 1) 0 = f7 - 1 := by omega
   go_enter Tryz.func139, Tryz.ntmps139
   go_wp2_with fail
   go_region
   all_goals go_wp2
   refine bodyPost_ret (v := .agg #[.int .i64 (f0), .int .i64 (f1), .int .i64 (f2), .int .i64 (f3), .int .i64 (f4), .int .i64 (f5), .int .i64 (f6), .int .i64 (f7 - 1), .int .i64 (f8), .int .i64 (f9)]) ?_ rfl ⟨f0, f1, f2, f3, f4, f5, f6, f7 - 1, f8, f9, rfl, by rw [HL.out]; simp [h0], ((((Below.refl _ _).alloc (Nat.le_refl _) _).alloc (by simp) _).alloc (by simp; omega) _).drew⟩
   simp [results, Tryz.results139, go_sem]
  ·have he : f7 = 0 := by omega
   subst he
   go_enter Tryz.func139, Tryz.ntmps139
   go_wp2_with fail
   go_region
   all_goals go_wp2
   refine bodyPost_ret (v := .agg #[.int .i64 (f0), .int .i64 (f1), .int .i64 (f2), .int .i64 (f3), .int .i64 (f4), .int .i64 (f5), .int .i64 (f6), .int .i64 (0), .int .i64 (f8), .int .i64 (f9)]) ?_ rfl ⟨f0, f1, f2, f3, f4, f5, f6, 0, f8, f9, rfl, by rw [HL.out]; simp, ((((Below.refl _ _).alloc (Nat.le_refl _) _).alloc (by simp) _).alloc (by simp; omega) _).drew⟩
   simp [results, Tryz.results139, go_sem]
 ·have hq0 := hb 8
  simp at hq0
  by_cases h0 : 0 < f8
  ·have hw : IntKind.i64.wrap (f8 - 1) = f8 - 1 := wrapI _ (by omega) (by omega)
   have hmx : max (f8 - 1) 0 = f8 - 1 := by omega
   go_enter Tryz.func139, Tryz.ntmps139
   go_wp2_with fail
   go_region
   all_goals go_wp2
   refine bodyPost_ret (v := .agg #[.int .i64 (f0), .int .i64 (f1), .int .i64 (f2), .int .i64 (f3), .int .i64 (f4), .int .i64 (f5), .int .i64 (f6), .int .i64 (f7), .int .i64 (f8 - 1), .int .i64 (f9)]) ?_ rfl ⟨f0, f1, f2, f3, f4, f5, f6, f7, f8 - 1, f9, rfl, by rw [HL.out]; simp [h0], ((((Below.refl _ _).alloc (Nat.le_refl _) _).alloc (by simp) _).alloc (by simp; omega) _).drew⟩
   simp [results, Tryz.results139, go_sem]
  ·have he : f8 = 0 := by omega
   subst he
   go_enter Tryz.func139, Tryz.ntmps139
   go_wp2_with fail
   go_region
   all_goals go_wp2
   refine bodyPost_ret (v := .agg #[.int .i64 (f0), .int .i64 (f1), .int .i64 (f2), .int .i64 (f3), .int .i64 (f4), .int .i64 (f5), .int .i64 (f6), .int .i64 (f7), .int .i64 (0), .int .i64 (f9)]) ?_ rfl ⟨f0, f1, f2, f3, f4, f5, f6, f7, 0, f9, rfl, by rw [HL.out]; simp, ((((Below.refl _ _).alloc (Nat.le_refl _) _).alloc (by simp) _).alloc (by simp; omega) _).drew⟩
   simp [results, Tryz.results139, go_sem]
 ·have hq0 := hb 9
  simp at hq0
  by_cases h0 : 0 < f9
  ·have hw : IntKind.i64.wrap (f9 - 1) = f9 - 1 := wrapI _ (by omega) (by omega)
   have hmx : max (f9 - 1) 0 = f9 - 1 := by omega
   go_enter Tryz.func139, Tryz.ntmps139
   go_wp2_with fail
   go_region
   all_goals go_wp2
   refine bodyPost_ret (v := .agg #[.int .i64 (f0), .int .i64 (f1), .int .i64 (f2), .int .i64 (f3), .int .i64 (f4), .int .i64 (f5), .int .i64 (f6), .int .i64 (f7), .int .i64 (f8), .int .i64 (f9 - 1)]) ?_ rfl ⟨f0, f1, f2, f3, f4, f5, f6, f7, f8, f9 - 1, rfl, by rw [HL.out]; simp [h0], ((((Below.refl _ _).alloc (Nat.le_refl _) _).alloc (by simp) _).alloc (by simp; omega) _).drew⟩
   simp [results, Tryz.results139, go_sem]
  ·have he : f9 = 0 := by omega
   subst he
   go_enter Tryz.func139, Tryz.ntmps139
   go_wp2_with fail
   go_region
   all_goals go_wp2
   refine bodyPost_ret (v := .agg #[.int .i64 (f0), .int .i64 (f1), .int .i64 (f2), .int .i64 (f3), .int .i64 (f4), .int .i64 (f5), .int .i64 (f6), .int .i64 (f7), .int .i64 (f8), .int .i64 (0)]) ?_ rfl ⟨f0, f1, f2, f3, f4, f5, f6, f7, f8, 0, rfl, by rw [HL.out]; simp, ((((Below.refl _ _).alloc (Nat.le_refl _) _).alloc (by simp) _).alloc (by simp; omega) _).drew⟩
   simp [results, Tryz.results139, go_sem]
end Go.Proofs.YtncdininppehkaaGreat

namespace Go.Proofs.YtncdininppehkaaGreat
open Go.RowKit
set_option linter.unusedVariables false
set_option maxRecDepth 100000
theorem infoSent : (Tryz.prog.info? 145).map (fun i => (i.zero, i.size, i.bytes)) = some (some (.agg #[.int .i64 0, .int .i64 0, .int .i64 0, .int .i64 0, .int .i64 0, .int .i64 0, .int .i64 0, .int .i64 0, .int .i64 0, .int .i64 0, .int .i64 0, .int .i64 0, .string ByteArray.empty]), 13, 112) := by kernel_rfl
theorem pkt_parts {F : List Int} {n : Nat} (h : pktFault F n = 0) : F.all wordB = true ∧ n ≤ 40 := by
 unfold pktFault at h
 split at h
 ·rename_i h1
  split at h
  ·omega
  ·exact ⟨h1, by omega⟩
 ·omega
theorem len10 {F : List Int} (h : F.length = 10) : ∃ f0 f1 f2 f3 f4 f5 f6 f7 f8 f9, F = [f0, f1, f2, f3, f4, f5, f6, f7, f8, f9] := by
 match F, h with
 | [f0, f1, f2, f3, f4, f5, f6, f7, f8, f9], _ => exact ⟨f0, f1, f2, f3, f4, f5, f6, f7, f8, f9, rfl⟩
def PkF (w : World) (b : Nat) (F : List Int) (body : ByteArray) : Prop := PkAt w b F body ∧ ∀ i, w.frozen? ⟨b, i, none⟩ = false
theorem PkF.below {w w' : World} {b B : Nat} {F : List Int} {body : ByteArray} (h : PkF w b F body) (hb : Below B w w') (hB : b < B) : PkF w' b F body :=
 ⟨h.1.below hb hB, fun i => (hb.frozen (p := ⟨b, i, none⟩) hB).trans (h.2 i)⟩
theorem PkF.cells {w : World} {b : Nat} {body : ByteArray} {f0 f1 f2 f3 f4 f5 f6 f7 f8 f9 : Int} (h : PkF w b [f0, f1, f2, f3, f4, f5, f6, f7, f8, f9] body) : w.cell? ⟨b, 0, none⟩ = some (.int .i64 f0) ∧ w.cell? ⟨b, 1, none⟩ = some (.int .i64 f1) ∧ w.cell? ⟨b, 2, none⟩ = some (.int .i64 f2) ∧ w.cell? ⟨b, 3, none⟩ = some (.int .i64 f3) ∧ w.cell? ⟨b, 4, none⟩ = some (.int .i64 f4) ∧ w.cell? ⟨b, 5, none⟩ = some (.int .i64 f5) ∧ w.cell? ⟨b, 6, none⟩ = some (.int .i64 f6) ∧ w.cell? ⟨b, 7, none⟩ = some (.int .i64 f7) ∧ w.cell? ⟨b, 8, none⟩ = some (.int .i64 f8) ∧ w.cell? ⟨b, 9, none⟩ = some (.int .i64 f9) ∧ w.cell? ⟨b, 10, none⟩ = some (.string body) :=
 ⟨h.1.2.1 0 (by omega), h.1.2.1 1 (by omega), h.1.2.1 2 (by omega), h.1.2.1 3 (by omega), h.1.2.1 4 (by omega), h.1.2.1 5 (by omega), h.1.2.1 6 (by omega), h.1.2.1 7 (by omega), h.1.2.1 8 (by omega), h.1.2.1 9 (by omega), h.1.2.2⟩
theorem ownB {w w' : World} {B e size n : Nat} {v : Value} {xs : List Value} (h : w.ownsRow B e size v n xs) (hb : Below w.heap.size w w') : w'.ownsRow B e size v n xs := by
 refine h.kept (w' := w') (row := none) ⟨hb.os, hb.tape, hb.output, hb.size, fun k hk _ => hb.block k hk⟩ ?_
 cases v.ownBlock
 ·exact .inl rfl
 ·exact .inr (by simp)
theorem addf (b j : Nat) : (⟨b, 0, none⟩ : Addr).add j = ⟨b, j, none⟩ := by by_cases h : j = 0 <;> simp [Addr.add, h]
theorem news13 (w : World) (t : TypeId) (dk dn f0 f1 f2 f3 f4 f5 f6 f7 f8 f9 : Int) (body : ByteArray) : ∀ j u, (S body [⟨dk, dn, [f0, f1, f2, f3, f4, f5, f6, f7, f8, f9]⟩])[j]? = some u → (w.alloc (.cells #[.int .i64 dk, .int .i64 dn, .int .i64 f0, .int .i64 f1, .int .i64 f2, .int .i64 f3, .int .i64 f4, .int .i64 f5, .int .i64 f6, .int .i64 f7, .int .i64 f8, .int .i64 f9, .string body] t)).cell? ((⟨w.heap.size, 0, none⟩ : Addr).add j) = some u := by
 intro j u hj
 have hl : j < 13 := by
  rcases Nat.lt_or_ge j 13 with h | h
  ·exact h
  ·rw [List.getElem?_eq_none (by simpa [S] using h)] at hj; simp at hj
 have hc : j = 0 ∨ j = 1 ∨ j = 2 ∨ j = 3 ∨ j = 4 ∨ j = 5 ∨ j = 6 ∨ j = 7 ∨ j = 8 ∨ j = 9 ∨ j = 10 ∨ j = 11 ∨ j = 12 := by omega
 rcases hc with rfl | rfl | rfl | rfl | rfl | rfl | rfl | rfl | rfl | rfl | rfl | rfl | rfl
 all_goals (simp [S] at hj; subst hj; simp [Addr.add])
theorem S_one (body : ByteArray) (l : List Sn) : ∀ u ∈ S body l, u.oneCell' = true := by
 intro u hu
 simp only [S, List.mem_flatMap] at hu
 obtain ⟨x, _, hu⟩ := hu
 simp only [List.mem_cons, List.not_mem_nil, or_false] at hu
 rcases hu with rfl | rfl | rfl | rfl | rfl | rfl | rfl | rfl | rfl | rfl | rfl | rfl | rfl
 all_goals rfl
theorem PkF.set1 {w : World} {b i : Nat} {F : List Int} {body : ByteArray} (h : PkF w b F body) (x : Int) (hi : i < 10) : PkF (w.setCell ⟨b, i, none⟩ (.int .i64 x)) b (F.set i x) body := by
 obtain ⟨⟨hl, hc, hbd⟩, hf⟩ := h
 refine ⟨⟨by simp [hl], fun j hj => ?_, ?_⟩, fun j => by rw [World.frozen?_setCell]; exact hf j⟩
 ·by_cases e : j = i
  ·subst e
   rw [World.cell?_setCell_same _ _ _ (hc j hj)]
   simp [List.getD, hl, hj]
  ·rw [World.cell?_setCell_other _ _ _ _ (by simp), hc j hj]
   have e' : ¬ i = j := fun h => e h.symm
   simp [List.getD, e']
 ·rw [World.cell?_setCell_other _ _ _ _ (by simp)]
  exact hbd
def set10 (w : World) (b : Nat) (g0 g1 g2 g3 g4 g5 g6 g7 g8 g9 : Int) : World :=
 (((((((((w.setCell ⟨b, 0, none⟩ (.int .i64 g0)).setCell ⟨b, 1, none⟩ (.int .i64 g1)).setCell ⟨b, 2, none⟩ (.int .i64 g2)).setCell ⟨b, 3, none⟩ (.int .i64 g3)).setCell ⟨b, 4, none⟩ (.int .i64 g4)).setCell ⟨b, 5, none⟩ (.int .i64 g5)).setCell ⟨b, 6, none⟩ (.int .i64 g6)).setCell ⟨b, 7, none⟩ (.int .i64 g7)).setCell ⟨b, 8, none⟩ (.int .i64 g8)).setCell ⟨b, 9, none⟩ (.int .i64 g9)
theorem PkF.set10 {w : World} {b : Nat} {f0 f1 f2 f3 f4 f5 f6 f7 f8 f9 : Int} {body : ByteArray} (h : PkF w b [f0, f1, f2, f3, f4, f5, f6, f7, f8, f9] body) (g0 g1 g2 g3 g4 g5 g6 g7 g8 g9 : Int) : PkF (set10 w b g0 g1 g2 g3 g4 g5 g6 g7 g8 g9) b [g0, g1, g2, g3, g4, g5, g6, g7, g8, g9] body :=
 (((((((((h.set1 g0 (i := 0) (by omega)).set1 g1 (i := 1) (by omega)).set1 g2 (i := 2) (by omega)).set1 g3 (i := 3) (by omega)).set1 g4 (i := 4) (by omega)).set1 g5 (i := 5) (by omega)).set1 g6 (i := 6) (by omega)).set1 g7 (i := 7) (by omega)).set1 g8 (i := 8) (by omega)).set1 g9 (i := 9) (by omega)
theorem set10_below {w : World} {b : Nat} (g0 g1 g2 g3 g4 g5 g6 g7 g8 g9 : Int) {B : Nat} (hb : B ≤ b) {a : World} (h : Below B a w) : Below B a (set10 w b g0 g1 g2 g3 g4 g5 g6 g7 g8 g9) :=
 (((((((((h.setCell hb _).setCell hb _).setCell hb _).setCell hb _).setCell hb _).setCell hb _).setCell hb _).setCell hb _).setCell hb _).setCell hb _
theorem ownS {w : World} {B e size n : Nat} {v : Value} {xs : List Value} (h : w.ownsRow B e size v n xs) {a : Addr} (ha : a.block < B) (u : Value) : (w.setCell a u).ownsRow B e size v n xs := by
 obtain ⟨h0, h | ⟨g, cap, cur, h1, h2, h3, h4⟩⟩ := h
 ·exact ⟨h0, .inl h⟩
 ·exact ⟨h0, .inr ⟨g, cap, cur, h1, h2, (Below.heap_setCell w a u g (by omega)).trans h3, h4⟩⟩
theorem set10_own {w : World} {b : Nat} (g0 g1 g2 g3 g4 g5 g6 g7 g8 g9 : Int) {B e size n : Nat} {v : Value} {xs : List Value} (h : w.ownsRow B e size v n xs) (hb : b < B) : (set10 w b g0 g1 g2 g3 g4 g5 g6 g7 g8 g9).ownsRow B e size v n xs :=
 ownS (ownS (ownS (ownS (ownS (ownS (ownS (ownS (ownS (ownS h hb _) hb _) hb _) hb _) hb _) hb _) hb _) hb _) hb _) hb _
theorem set10_size (w : World) (b : Nat) (g0 g1 g2 g3 g4 g5 g6 g7 g8 g9 : Int) : (set10 w b g0 g1 g2 g3 g4 g5 g6 g7 g8 g9).heap.size = w.heap.size := by simp [set10]
theorem below_grown1 {w w' : World} {row : Option Nat} {B : Nat} (hg : w.grownBy w' row) (hB : B ≤ w.heap.size) (hr : ∀ k, row = some k → B ≤ k) : Below B w w' := (Below.refl B w).grown hg hB hr
set_option maxHeartbeats 16000000 in
theorem fRun_ok (f0 f1 f2 f3 f4 f5 f6 f7 f8 f9 : Int) (body : ByteArray) (v : Value) (fs : List Fl) (w : World) (hL : FsAt w v fs) (hz : fsFault fs = 0) (hp : pktFault [f0, f1, f2, f3, f4, f5, f6, f7, f8, f9] body.size = 0) (hm : fs.length ≤ 5000) :
  Calls Tryz.prog 96 #[v, pkt f0 f1 f2 f3 f4 f5 f6 f7 f8 f9 body] w fun e w' => ∃ u, e = .returned (.tuple #[u, .int .i64 0]) ∧ w'.ownsRow w.heap.size 145 13 u (ran fs [f0, f1, f2, f3, f4, f5, f6, f7, f8, f9]).length (S body (ran fs [f0, f1, f2, f3, f4, f5, f6, f7, f8, f9])) ∧ Below w.heap.size w w' := by
 obtain ⟨i0, hi, hz0, hz1, hz2⟩ := info_parts infoSent
 obtain ⟨hall, hbs⟩ := pkt_parts hp
 have HWF : Hid (WF [f0, f1, f2, f3, f4, f5, f6, f7, f8, f9]) := wf_of_all rfl hall
 have HL := hide hL
 have HZ := hide hz
 have HP := hide hp
 have hbm : body.size ≤ maxLen := by unfold maxLen; omega
 obtain ⟨a, cap, rfl, hn, _⟩ := hL
 obtain ⟨RES, hRES⟩ : ∃ R, R = ran fs [f0, f1, f2, f3, f4, f5, f6, f7, f8, f9] := ⟨_, rfl⟩
 rw [← hRES]
 have HRES := hide hRES
 clear hRES hall hz hp
 go_enter Tryz.func96, Tryz.ntmps96
 go_wp2_with fail
 obtain ⟨W0, hW0⟩ : ∃ W0, W0 = w.alloc (.cells #[.int .i64 f0, .int .i64 f1, .int .i64 f2, .int .i64 f3, .int .i64 f4, .int .i64 f5, .int .i64 f6, .int .i64 f7, .int .i64 f8, .int .i64 f9, .string body] 41) := ⟨_, rfl⟩
 have c0 : W0.cell? ⟨w.heap.size, 0, none⟩ = some (.int .i64 f0) := by rw [hW0]; simp
 have c1 : W0.cell? ⟨w.heap.size, 1, none⟩ = some (.int .i64 f1) := by rw [hW0]; simp
 have c2 : W0.cell? ⟨w.heap.size, 2, none⟩ = some (.int .i64 f2) := by rw [hW0]; simp
 have c3 : W0.cell? ⟨w.heap.size, 3, none⟩ = some (.int .i64 f3) := by rw [hW0]; simp
 have c4 : W0.cell? ⟨w.heap.size, 4, none⟩ = some (.int .i64 f4) := by rw [hW0]; simp
 have c5 : W0.cell? ⟨w.heap.size, 5, none⟩ = some (.int .i64 f5) := by rw [hW0]; simp
 have c6 : W0.cell? ⟨w.heap.size, 6, none⟩ = some (.int .i64 f6) := by rw [hW0]; simp
 have c7 : W0.cell? ⟨w.heap.size, 7, none⟩ = some (.int .i64 f7) := by rw [hW0]; simp
 have c8 : W0.cell? ⟨w.heap.size, 8, none⟩ = some (.int .i64 f8) := by rw [hW0]; simp
 have c9 : W0.cell? ⟨w.heap.size, 9, none⟩ = some (.int .i64 f9) := by rw [hW0]; simp
 have cb : W0.cell? ⟨w.heap.size, 10, none⟩ = some (.string body) := by rw [hW0]; simp
 have hfr0 : ∀ i, W0.frozen? ⟨w.heap.size, i, none⟩ = false := fun i => by rw [hW0]; simp
 have hb0 : Below w.heap.size w W0 := by rw [hW0]; exact (Below.refl _ _).alloc (Nat.le_refl _) _
 have hz0' : w.heap.size < W0.heap.size := by rw [hW0]; simp
 rw [← hW0]
 clear hW0
 have HFR0 := hide hfr0
 clear hfr0
 refine (fCheck_any _ fs _ (HL.out.below hb0 (Nat.le_refl _)) (by omega)).mono ?_
 rintro e w1 ⟨rfl, hb1⟩
 rw [HZ.out]
 replace c0 := cell_below c0 hb1 (Nat.le_refl _)
 replace c1 := cell_below c1 hb1 (Nat.le_refl _)
 replace c2 := cell_below c2 hb1 (Nat.le_refl _)
 replace c3 := cell_below c3 hb1 (Nat.le_refl _)
 replace c4 := cell_below c4 hb1 (Nat.le_refl _)
 replace c5 := cell_below c5 hb1 (Nat.le_refl _)
 replace c6 := cell_below c6 hb1 (Nat.le_refl _)
 replace c7 := cell_below c7 hb1 (Nat.le_refl _)
 replace c8 := cell_below c8 hb1 (Nat.le_refl _)
 replace c9 := cell_below c9 hb1 (Nat.le_refl _)
 replace cb := cell_below cb hb1 (Nat.le_refl _)
 go_wp2_with fail
 refine (checkPacket_any f0 f1 f2 f3 f4 f5 f6 f7 f8 f9 body _ hbm).mono ?_
 rintro e w2 ⟨rfl, hb2⟩
 rw [HP.out]
 replace c0 := cell_below c0 hb2 (Nat.le_refl _)
 replace c1 := cell_below c1 hb2 (Nat.le_refl _)
 replace c2 := cell_below c2 hb2 (Nat.le_refl _)
 replace c3 := cell_below c3 hb2 (Nat.le_refl _)
 replace c4 := cell_below c4 hb2 (Nat.le_refl _)
 replace c5 := cell_below c5 hb2 (Nat.le_refl _)
 replace c6 := cell_below c6 hb2 (Nat.le_refl _)
 replace c7 := cell_below c7 hb2 (Nat.le_refl _)
 replace c8 := cell_below c8 hb2 (Nat.le_refl _)
 replace c9 := cell_below c9 hb2 (Nat.le_refl _)
 replace cb := cell_below cb hb2 (Nat.le_refl _)
 have hb12 : Below W0.heap.size W0 w2 := hb1.trans (hb2.mono hb1.size)
 have HFR : Hid (∀ i, w2.frozen? ⟨w.heap.size, i, none⟩ = false) := fun i => (hb12.frozen (p := ⟨w.heap.size, i, none⟩) hz0').trans (HFR0.out i)
 have hb02 : Below w.heap.size w w2 := hb0.trans (hb12.mono hb0.size)
 have hs2 : w.heap.size < w2.heap.size := Nat.lt_of_lt_of_le hz0' hb12.size
 clear hb1 hb2 hb12 hb0 hz0' HFR0 W0 w1
 have HPK : Hid (PkF w2 w.heap.size [f0, f1, f2, f3, f4, f5, f6, f7, f8, f9] body) := hide ⟨⟨rfl, fun i hi => by
   have hc : i = 0 ∨ i = 1 ∨ i = 2 ∨ i = 3 ∨ i = 4 ∨ i = 5 ∨ i = 6 ∨ i = 7 ∨ i = 8 ∨ i = 9 := by omega
   rcases hc with rfl | rfl | rfl | rfl | rfl | rfl | rfl | rfl | rfl | rfl
   all_goals assumption, cb⟩, HFR.out⟩
 clear c0 c1 c2 c3 c4 c5 c6 c7 c8 c9 cb HFR HP
 obtain ⟨F0, hF0⟩ : ∃ F0 : List Int, F0 = [f0, f1, f2, f3, f4, f5, f6, f7, f8, f9] := ⟨_, rfl⟩
 rw [← hF0] at HPK HWF HRES
 clear hF0
 go_wp2_with fail
 go_loopw [8, 9] (fun o t wr => ∃ (j : Nat) (s : St), Hid (WF s.F) ∧ (j : Int) ≤ s.t ∧ s.t ≤ 8 ∧ s.out.length ≤ 100 * j ∧ t = .int .i64 s.t ∧ Hid (runN fs (8 - j) s = runN fs 8 ⟨F0, 0, []⟩) ∧ Hid (PkF wr w.heap.size s.F body) ∧ Hid (wr.ownsRow (w.heap.size + 1) 145 13 o s.out.length (S body s.out)) ∧ Below w.heap.size w wr ∧ w.heap.size < wr.heap.size) (fun _ t _ => 8 - (intOf t).toNat)
 case atStart => exact ⟨0, ⟨F0, 0, []⟩, HWF, by simp, by simp, by simp, rfl, hide rfl, HPK, hide (World.ownsRow_nil _ _ _ _), hb02, hs2⟩
 case round =>
  clear HPK hb02 hs2 HWF
  obtain ⟨j, s, HWF, hj1, ht8, hol, rfl, HRN, HPK, HOW, hbel, hsz⟩ := hrel
  obtain ⟨SF, st, so⟩ := s
  simp only at HWF hj1 ht8 hol HRN HPK HOW
  by_cases ht : st < 8
  ·obtain ⟨f0, f1, f2, f3, f4, f5, f6, f7, f8, f9, rfl⟩ := len10 HWF.out.1
   have htd : decide (st < 8) = true := by simpa using ht
   have HTB : Hid (runN fs (8 - j) ⟨[f0, f1, f2, f3, f4, f5, f6, f7, f8, f9], st, so⟩ = runN fs (8 - (j + 1)) (table fs ⟨[f0, f1, f2, f3, f4, f5, f6, f7, f8, f9], st, so⟩)) := by
    show _ = _
    have e : 8 - j = (8 - (j + 1)) + 1 := by omega
    rw [e]
    show (if 7 < st then _ else _) = _
    rw [if_neg (by omega)]
   obtain ⟨c0, c1, c2, c3, c4, c5, c6, c7, c8, c9, cb⟩ := HPK.out.cells
   obtain ⟨oo, oc, rfl, hoc, hog⟩ : ∃ oo oc, u8 = .slice oo so.length oc ∧ so.length ≤ oc ∧ (0 < so.length → ∃ g, oo = some ⟨g, 0, none⟩) := by
    obtain ⟨_, ⟨rfl, h0⟩ | ⟨g, cap, cur, rfl, _, _, hc, _⟩⟩ := HOW.out
    ·exact ⟨none, 0, by rw [h0], by omega, fun h => absurd h (by omega)⟩
    ·exact ⟨_, cap, rfl, hc, fun _ => ⟨g, rfl⟩⟩
   go_wp2_with fail
   refine (pick_any f0 f1 f2 f3 f4 f5 f6 f7 f8 f9 _ fs st w wr HWF.out HL.out hbel HZ.out hm).mono ?_
   rintro e w1 ⟨u, rfl, hds, hb1⟩
   have HPK1 := hide (HPK.out.below hb1 hsz)
   have HOW1 := hide (ownB HOW.out hb1)
   have hbel1 := hbel.trans (hb1.mono hbel.size)
   have hsz1 := Nat.lt_of_lt_of_le hsz hb1.size
   clear HPK HOW hb1 c0 c1 c2 c3 c4 c5 c6 c7 c8 c9 cb hbel hsz
   obtain ⟨ds, hdsd⟩ : ∃ ds, ds = dsOf fs (bestTo fs [f0, f1, f2, f3, f4, f5, f6, f7, f8, f9] st fs.length) := ⟨_, rfl⟩
   have HTD : Hid (table fs ⟨[f0, f1, f2, f3, f4, f5, f6, f7, f8, f9], st, so⟩ = stepTo ⟨[f0, f1, f2, f3, f4, f5, f6, f7, f8, f9], 8, so⟩ ds ds.length) := by show _ = _; rw [hdsd]; rfl
   have HDB : Hid (ds.length ≤ 100 ∧ ∀ k, k < ds.length → doB st ds k = true) := by
    have hbi := bestTo_best fs [f0, f1, f2, f3, f4, f5, f6, f7, f8, f9] st fs.length
    rw [hdsd]
    unfold dsOf
    rcases hbi with ⟨hb, _⟩ | ⟨i, hb, _, hi, hf, _⟩
    ·rw [hb]; exact hide ⟨by simp, fun k hk => by simp at hk⟩
    ·rw [hb, if_neg (by omega), Int.toNat_natCast]
     have hk := ok_flow HZ.out hi
     have hft : (fs.getD i fl0).t = st := by
      unfold fitB at hf
      simp only [Bool.and_eq_true, beq_iff_eq] at hf
      exact hf.1
     exact hide ⟨hk.2.2.1, by rw [← hft]; exact hk.2.2.2.2.2.2.2.2⟩
   rw [← hdsd] at hds
   clear hdsd
   have HDS := hide hds
   obtain ⟨da, dcap, rfl, hdn, _⟩ := hds
   have hdl := HDB.out.1
   have HOK : Hid (∀ k, k ≤ ds.length → Ok st (100 * j + k) (stepTo ⟨[f0, f1, f2, f3, f4, f5, f6, f7, f8, f9], 8, so⟩ ds k)) := fun k hk => Ok.stepTo ⟨HWF.out, by simp; omega, by simp, by simp; omega⟩ HDB.out.2 k hk
   go_wp2_with fail
   rename World => W1
   go_loopw [8, 9, 32] (fun o t i wq => ∃ (k : Nat), k ≤ ds.length ∧ i = .int .i64 k ∧ t = .int .i64 (stepTo ⟨[f0, f1, f2, f3, f4, f5, f6, f7, f8, f9], 8, so⟩ ds k).t ∧ Hid (PkF wq w.heap.size (stepTo ⟨[f0, f1, f2, f3, f4, f5, f6, f7, f8, f9], 8, so⟩ ds k).F body) ∧ Hid (wq.ownsRow (w.heap.size + 1) 145 13 o (stepTo ⟨[f0, f1, f2, f3, f4, f5, f6, f7, f8, f9], 8, so⟩ ds k).out.length (S body (stepTo ⟨[f0, f1, f2, f3, f4, f5, f6, f7, f8, f9], 8, so⟩ ds k).out)) ∧ Below w.heap.size w wq ∧ w.heap.size < wq.heap.size) (fun _ _ i _ => ds.length - (intOf i).toNat)
   case atStart => exact ⟨0, by omega, rfl, rfl, HPK1, HOW1, hbel1, hsz1⟩
   case round =>
    clear HPK1 HOW1 hbel1 hsz1
    obtain ⟨k, hk, rfl, rfl, HPK, HOW, hbel, hsz⟩ := hrel
    by_cases hlt : k < ds.length
    ·have HSTEP : Hid (stepTo ⟨[f0, f1, f2, f3, f4, f5, f6, f7, f8, f9], 8, so⟩ ds (k + 1) = step (stepTo ⟨[f0, f1, f2, f3, f4, f5, f6, f7, f8, f9], 8, so⟩ ds k) (ds.getD k do0)) := rfl
     have HOKk := hide (HOK.out k (by omega))
     have hpd := doB_parts (HDB.out.2 k hlt)
     obtain ⟨db, doff, rfl, hdc, hcell⟩ : ∃ b off, da = some ⟨b, off, none⟩ ∧ ds.length ≤ dcap ∧ ∀ i, i < ds.length → w.cell? ⟨b, off + i * 3, none⟩ = some (.int .i64 (ds.getD i do0).k) ∧ w.cell? ⟨b, off + i * 3 + 1, none⟩ = some (.int .i64 (ds.getD i do0).a) ∧ w.cell? ⟨b, off + i * 3 + 2, none⟩ = some (.int .i64 (ds.getD i do0).n) := by
      obtain ⟨a', cap', hv, hn', hL⟩ := HDS.out
      simp only [Value.slice.injEq] at hv
      obtain ⟨rfl, _, rfl⟩ := hv
      rcases hL with h0 | h
      ·omega
      ·exact h
     obtain ⟨g0, g1, g2⟩ := hcell k hlt
     have m0 := cell_below g0 hbel (Nat.le_refl _)
     have m1 := cell_below g1 hbel (Nat.le_refl _)
     have m2 := cell_below g2 hbel (Nat.le_refl _)
     clear g0 g1 g2 hcell
     generalize stepTo ⟨[f0, f1, f2, f3, f4, f5, f6, f7, f8, f9], 8, so⟩ ds k = s0 at *
     generalize ds.getD k do0 = d at *
     obtain ⟨dk, dA, dn⟩ := d
     obtain ⟨SF, st1, so1⟩ := s0
     simp only at hpd m0 m1 m2 HPK HOW
     obtain ⟨hw0, _, hw8, hwo⟩ := HOKk.out
     simp only at hw0 hw8 hwo
     have HW0 := hide hw0
     obtain ⟨p0, p1, p2, p3, p4, p5, p6, p7, p8, p9, rfl⟩ := len10 hw0.1
     clear hw0
     obtain ⟨c0, c1, c2, c3, c4, c5, c6, c7, c8, c9, cb⟩ := HPK.out.cells
     obtain ⟨oo, oc, rfl, hoc, hog⟩ : ∃ oo oc, u8 = .slice oo so1.length oc ∧ so1.length ≤ oc ∧ (0 < so1.length → ∃ g, oo = some ⟨g, 0, none⟩) := by
      obtain ⟨_, ⟨rfl, h0⟩ | ⟨g, cap, cur, rfl, _, _, hc, _⟩⟩ := HOW.out
      ·exact ⟨none, 0, by rw [h0], by omega, fun h => absurd h (by omega)⟩
      ·exact ⟨_, cap, rfl, hc, fun _ => ⟨g, rfl⟩⟩
     have hA : ∀ o : Obj, Below wr.heap.size wr (wr.alloc o) := fun o => (Below.refl _ _).alloc (Nat.le_refl _) o
     rcases hpd with ⟨rfl, a0, a1, hn1⟩ | ⟨rfl, a0, a1, n0, n1⟩ | ⟨rfl, a0, a1⟩ | ⟨rfl, n0, n1⟩ | ⟨rfl, hn1⟩ | ⟨rfl, n0, n1⟩
     ·obtain ⟨q, rfl⟩ := Int.eq_ofNat_of_zero_le a0
      have HS1 : Hid (stepTo ⟨[f0, f1, f2, f3, f4, f5, f6, f7, f8, f9], 8, so⟩ ds (k + 1) = ⟨([p0, p1, p2, p3, p4, p5, p6, p7, p8, p9] : List Int).set q (dn), st1, so1⟩) := by show _ = _; rw [HSTEP.out]; unfold step doF; simp
      go_wp2_with fail
      refine (changedPut_any p0 p1 p2 p3 p4 p5 p6 p7 p8 p9 q dn _ (by omega)).mono ?_
      rintro e w3 ⟨g0, g1, g2, g3, g4, g5, g6, g7, g8, g9, rfl, hG, hb3⟩
      have HG := hide hG
      clear hG HSTEP
      have hb3' : Below wr.heap.size wr w3 := (hA _).trans (hb3.mono (hA _).size)
      have HPK3 := hide (HPK.out.below hb3' hsz)
      have HOW3 := hide (ownB HOW.out hb3')
      obtain ⟨c0, c1, c2, c3, c4, c5, c6, c7, c8, c9, cb⟩ := HPK3.out.cells
      have z0 := HPK3.out.2 0
      have z1 := HPK3.out.2 1
      have z2 := HPK3.out.2 2
      have z3 := HPK3.out.2 3
      have z4 := HPK3.out.2 4
      have z5 := HPK3.out.2 5
      have z6 := HPK3.out.2 6
      have z7 := HPK3.out.2 7
      have z8 := HPK3.out.2 8
      have z9 := HPK3.out.2 9
      have HPK4 := hide (HPK3.out.set10 g0 g1 g2 g3 g4 g5 g6 g7 g8 g9)
      rw [HG.out] at HPK4
      have HOW4 := hide (set10_own g0 g1 g2 g3 g4 g5 g6 g7 g8 g9 HOW3.out (Nat.lt_succ_self _))
      have hbel4 := set10_below g0 g1 g2 g3 g4 g5 g6 g7 g8 g9 (Nat.le_refl _) (hbel.trans (hb3'.mono hbel.size))
      have hsz4 : w.heap.size < (set10 w3 w.heap.size g0 g1 g2 g3 g4 g5 g6 g7 g8 g9).heap.size := by rw [set10_size]; have := hb3'.size; omega
      have HW4 : Hid (set10 w3 w.heap.size g0 g1 g2 g3 g4 g5 g6 g7 g8 g9 = (((((((((w3.setCell ⟨w.heap.size, 0, none⟩ (.int .i64 g0)).setCell ⟨w.heap.size, 1, none⟩ (.int .i64 g1)).setCell ⟨w.heap.size, 2, none⟩ (.int .i64 g2)).setCell ⟨w.heap.size, 3, none⟩ (.int .i64 g3)).setCell ⟨w.heap.size, 4, none⟩ (.int .i64 g4)).setCell ⟨w.heap.size, 5, none⟩ (.int .i64 g5)).setCell ⟨w.heap.size, 6, none⟩ (.int .i64 g6)).setCell ⟨w.heap.size, 7, none⟩ (.int .i64 g7)).setCell ⟨w.heap.size, 8, none⟩ (.int .i64 g8)).setCell ⟨w.heap.size, 9, none⟩ (.int .i64 g9)) := rfl
      generalize set10 w3 w.heap.size g0 g1 g2 g3 g4 g5 g6 g7 g8 g9 = w4 at *
      go_wp2_with fail
      rw [← HW4.out]
      go_roundw
      case rel => exact ⟨k + 1, by omega, by go_num, by rw [HS1.out], by rw [HS1.out]; exact HPK4, by rw [HS1.out]; exact HOW4, hbel4, hsz4⟩
      case measure => simp [intOf]; omega
     ·obtain ⟨q, rfl⟩ := Int.eq_ofNat_of_zero_le a0
      obtain ⟨m, rfl⟩ := Int.eq_ofNat_of_zero_le n0
      have HS1 : Hid (stepTo ⟨[f0, f1, f2, f3, f4, f5, f6, f7, f8, f9], 8, so⟩ ds (k + 1) = ⟨([p0, p1, p2, p3, p4, p5, p6, p7, p8, p9] : List Int).set q (([p0, p1, p2, p3, p4, p5, p6, p7, p8, p9] : List Int).getD m 0), st1, so1⟩) := by show _ = _; rw [HSTEP.out]; unfold step doF; simp
      go_wp2_with fail
      refine (changedCopy_any p0 p1 p2 p3 p4 p5 p6 p7 p8 p9 q m _ (by omega) (by omega)).mono ?_
      rintro e w3 ⟨g0, g1, g2, g3, g4, g5, g6, g7, g8, g9, rfl, hG, hb3⟩
      have HG := hide hG
      clear hG HSTEP
      have hb3' : Below wr.heap.size wr w3 := (hA _).trans (hb3.mono (hA _).size)
      have HPK3 := hide (HPK.out.below hb3' hsz)
      have HOW3 := hide (ownB HOW.out hb3')
      obtain ⟨c0, c1, c2, c3, c4, c5, c6, c7, c8, c9, cb⟩ := HPK3.out.cells
      have z0 := HPK3.out.2 0
      have z1 := HPK3.out.2 1
      have z2 := HPK3.out.2 2
      have z3 := HPK3.out.2 3
      have z4 := HPK3.out.2 4
      have z5 := HPK3.out.2 5
      have z6 := HPK3.out.2 6
      have z7 := HPK3.out.2 7
      have z8 := HPK3.out.2 8
      have z9 := HPK3.out.2 9
      have HPK4 := hide (HPK3.out.set10 g0 g1 g2 g3 g4 g5 g6 g7 g8 g9)
      rw [HG.out] at HPK4
      have HOW4 := hide (set10_own g0 g1 g2 g3 g4 g5 g6 g7 g8 g9 HOW3.out (Nat.lt_succ_self _))
      have hbel4 := set10_below g0 g1 g2 g3 g4 g5 g6 g7 g8 g9 (Nat.le_refl _) (hbel.trans (hb3'.mono hbel.size))
      have hsz4 : w.heap.size < (set10 w3 w.heap.size g0 g1 g2 g3 g4 g5 g6 g7 g8 g9).heap.size := by rw [set10_size]; have := hb3'.size; omega
      have HW4 : Hid (set10 w3 w.heap.size g0 g1 g2 g3 g4 g5 g6 g7 g8 g9 = (((((((((w3.setCell ⟨w.heap.size, 0, none⟩ (.int .i64 g0)).setCell ⟨w.heap.size, 1, none⟩ (.int .i64 g1)).setCell ⟨w.heap.size, 2, none⟩ (.int .i64 g2)).setCell ⟨w.heap.size, 3, none⟩ (.int .i64 g3)).setCell ⟨w.heap.size, 4, none⟩ (.int .i64 g4)).setCell ⟨w.heap.size, 5, none⟩ (.int .i64 g5)).setCell ⟨w.heap.size, 6, none⟩ (.int .i64 g6)).setCell ⟨w.heap.size, 7, none⟩ (.int .i64 g7)).setCell ⟨w.heap.size, 8, none⟩ (.int .i64 g8)).setCell ⟨w.heap.size, 9, none⟩ (.int .i64 g9)) := rfl
      generalize set10 w3 w.heap.size g0 g1 g2 g3 g4 g5 g6 g7 g8 g9 = w4 at *
      go_wp2_with fail
      rw [← HW4.out]
      go_roundw
      case rel => exact ⟨k + 1, by omega, by go_num, by rw [HS1.out], by rw [HS1.out]; exact HPK4, by rw [HS1.out]; exact HOW4, hbel4, hsz4⟩
      case measure => simp [intOf]; omega
     ·obtain ⟨q, rfl⟩ := Int.eq_ofNat_of_zero_le a0
      have HS1 : Hid (stepTo ⟨[f0, f1, f2, f3, f4, f5, f6, f7, f8, f9], 8, so⟩ ds (k + 1) = ⟨([p0, p1, p2, p3, p4, p5, p6, p7, p8, p9] : List Int).set q (if 0 < ([p0, p1, p2, p3, p4, p5, p6, p7, p8, p9] : List Int).getD q 0 then ([p0, p1, p2, p3, p4, p5, p6, p7, p8, p9] : List Int).getD q 0 - 1 else 0), st1, so1⟩) := by show _ = _; rw [HSTEP.out]; unfold step doF; simp
      go_wp2_with fail
      refine (changedLess_any p0 p1 p2 p3 p4 p5 p6 p7 p8 p9 q dn _ (by omega) (fun i => HW0.out.bd i)).mono ?_
      rintro e w3 ⟨g0, g1, g2, g3, g4, g5, g6, g7, g8, g9, rfl, hG, hb3⟩
      have HG := hide hG
      clear hG HSTEP
      have hb3' : Below wr.heap.size wr w3 := (hA _).trans (hb3.mono (hA _).size)
      have HPK3 := hide (HPK.out.below hb3' hsz)
      have HOW3 := hide (ownB HOW.out hb3')
      obtain ⟨c0, c1, c2, c3, c4, c5, c6, c7, c8, c9, cb⟩ := HPK3.out.cells
      have z0 := HPK3.out.2 0
      have z1 := HPK3.out.2 1
      have z2 := HPK3.out.2 2
      have z3 := HPK3.out.2 3
      have z4 := HPK3.out.2 4
      have z5 := HPK3.out.2 5
      have z6 := HPK3.out.2 6
      have z7 := HPK3.out.2 7
      have z8 := HPK3.out.2 8
      have z9 := HPK3.out.2 9
      have HPK4 := hide (HPK3.out.set10 g0 g1 g2 g3 g4 g5 g6 g7 g8 g9)
      rw [HG.out] at HPK4
      have HOW4 := hide (set10_own g0 g1 g2 g3 g4 g5 g6 g7 g8 g9 HOW3.out (Nat.lt_succ_self _))
      have hbel4 := set10_below g0 g1 g2 g3 g4 g5 g6 g7 g8 g9 (Nat.le_refl _) (hbel.trans (hb3'.mono hbel.size))
      have hsz4 : w.heap.size < (set10 w3 w.heap.size g0 g1 g2 g3 g4 g5 g6 g7 g8 g9).heap.size := by rw [set10_size]; have := hb3'.size; omega
      have HW4 : Hid (set10 w3 w.heap.size g0 g1 g2 g3 g4 g5 g6 g7 g8 g9 = (((((((((w3.setCell ⟨w.heap.size, 0, none⟩ (.int .i64 g0)).setCell ⟨w.heap.size, 1, none⟩ (.int .i64 g1)).setCell ⟨w.heap.size, 2, none⟩ (.int .i64 g2)).setCell ⟨w.heap.size, 3, none⟩ (.int .i64 g3)).setCell ⟨w.heap.size, 4, none⟩ (.int .i64 g4)).setCell ⟨w.heap.size, 5, none⟩ (.int .i64 g5)).setCell ⟨w.heap.size, 6, none⟩ (.int .i64 g6)).setCell ⟨w.heap.size, 7, none⟩ (.int .i64 g7)).setCell ⟨w.heap.size, 8, none⟩ (.int .i64 g8)).setCell ⟨w.heap.size, 9, none⟩ (.int .i64 g9)) := rfl
      generalize set10 w3 w.heap.size g0 g1 g2 g3 g4 g5 g6 g7 g8 g9 = w4 at *
      go_wp2_with fail
      rw [← HW4.out]
      go_roundw
      case rel => exact ⟨k + 1, by omega, by go_num, by rw [HS1.out], by rw [HS1.out]; exact HPK4, by rw [HS1.out]; exact HOW4, hbel4, hsz4⟩
      case measure => simp [intOf]; omega
     ·have HS1 : Hid (stepTo ⟨[f0, f1, f2, f3, f4, f5, f6, f7, f8, f9], 8, so⟩ ds (k + 1) = ⟨[p0, p1, p2, p3, p4, p5, p6, p7, p8, p9], dn, so1⟩) := by show _ = _; rw [HSTEP.out]; unfold step; simp
      go_wp2_with fail
      go_roundw
      case rel => exact ⟨k + 1, by omega, by go_num, by rw [HS1.out], by rw [HS1.out]; exact hide (HPK.out.below (hA _) hsz), by rw [HS1.out]; exact hide (ownB HOW.out (hA _)), hbel.trans ((hA _).mono hbel.size), by simp; omega⟩
      case measure => simp [intOf]; omega
     ·have HS1 : Hid (stepTo ⟨[f0, f1, f2, f3, f4, f5, f6, f7, f8, f9], 8, so⟩ ds (k + 1) = ⟨[p0, p1, p2, p3, p4, p5, p6, p7, p8, p9], st1, so1 ++ [⟨5, dn, [p0, p1, p2, p3, p4, p5, p6, p7, p8, p9]⟩]⟩) := by show _ = _; rw [HSTEP.out]; unfold step; simp
      obtain ⟨W2, hW2⟩ : ∃ W2, W2 = wr.alloc (.cells #[.int .i64 5, .int .i64 dA, .int .i64 dn] 98) := ⟨_, rfl⟩
      obtain ⟨W3, hW3⟩ : ∃ W3, W3 = W2.alloc (.cells #[.int .i64 5, .int .i64 dn, .int .i64 p0, .int .i64 p1, .int .i64 p2, .int .i64 p3, .int .i64 p4, .int .i64 p5, .int .i64 p6, .int .i64 p7, .int .i64 p8, .int .i64 p9, .string body] 145) := ⟨_, rfl⟩
      have hb3 : Below wr.heap.size wr W3 := by rw [hW3, hW2]; exact (hA _).alloc (by simp) _
      have hsz3 : wr.heap.size < W3.heap.size := by rw [hW3, hW2]; simp; omega
      have HOW3 := hide (ownB HOW.out hb3)
      have HPK3 := hide (HPK.out.below hb3 hsz)
      have HNW := hide (news13 W2 145 5 dn p0 p1 p2 p3 p4 p5 p6 p7 p8 p9 body)
      have eW2 : W2.heap.size = wr.heap.size + 1 := by rw [hW2]; simp
      rw [← hW3, eW2] at HNW
      have HW3 : Hid ((wr.alloc (.cells #[.int .i64 5, .int .i64 dA, .int .i64 dn] 98)).alloc (.cells #[.int .i64 5, .int .i64 dn, .int .i64 p0, .int .i64 p1, .int .i64 p2, .int .i64 p3, .int .i64 p4, .int .i64 p5, .int .i64 p6, .int .i64 p7, .int .i64 p8, .int .i64 p9, .string body] 145) = W3) := by show _ = _; rw [hW3, hW2]
      clear hW2 hW3 HPK HOW HSTEP
      go_wp2_with (at_builtin; rw [HW3.out]; refine wpList_append_own _ rfl _ _ 141 rfl (w.heap.size + 1) 145 i0 _ 13 112 Tryz.underlying141 hi hz0 hz1 hz2 rfl (by decide) _ _ _ rfl (unhide HOW3) ⟨wr.heap.size + 1, 0, none⟩ 1 1 (S body [⟨5, dn, [p0, p1, p2, p3, p4, p5, p6, p7, p8, p9]⟩]) rfl rfl ?a1 ?a2 ?a3 ?a4 ?a5 ?_)
      case a1 => exact fun j u hj => by have := HNW.out j u hj; rwa [addf] at this
      case a2 => exact S_one _ _
      case a3 => unfold maxLen; omega
      case a4 => omega
      case a5 => omega
      intro v4 w4 ho4 hg4 _
      have hb4 : Below (w.heap.size + 1) W3 w4 := below_grown1 hg4 (by omega) (own_ge HOW3.out)
      have HPK4 := hide (HPK3.out.below hb4 (by omega))
      have hbel4 : Below w.heap.size w w4 := (hbel.trans (hb3.mono hbel.size)).trans (hb4.mono (Nat.le_succ _))
      have hsz4 := hb4.size
      have HOW4 : Hid (w4.ownsRow (w.heap.size + 1) 145 13 v4 (so1 ++ ([⟨5, dn, [p0, p1, p2, p3, p4, p5, p6, p7, p8, p9]⟩] : List Sn)).length (S body (so1 ++ ([⟨5, dn, [p0, p1, p2, p3, p4, p5, p6, p7, p8, p9]⟩] : List Sn)))) := by
       refine hide ?_
       rw [S_append, List.length_append]; exact ho4
      obtain ⟨vo4, vc4, rfl⟩ : ∃ a c, v4 = .slice a (so1.length + 1) c := by
       obtain ⟨_, ⟨rfl, h0⟩ | ⟨g, cap, cur, rfl, _⟩⟩ := ho4
       ·omega
       ·exact ⟨_, _, rfl⟩
      clear ho4 hg4 HOW3 HPK3 hb3 hb4 HNW HW3 m0 m1 m2 c0 c1 c2 c3 c4 c5 c6 c7 c8 c9 cb
      go_wp2_with fail
      go_roundw
      case rel => exact ⟨k + 1, by omega, by go_num, by rw [HS1.out], by rw [HS1.out]; exact HPK4, by rw [HS1.out]; exact HOW4, hbel4, by omega⟩
      case measure => simp [intOf]; omega
     ·have HS1 : Hid (stepTo ⟨[f0, f1, f2, f3, f4, f5, f6, f7, f8, f9], 8, so⟩ ds (k + 1) = ⟨[p0, p1, p2, p3, p4, p5, p6, p7, p8, p9], st1, so1 ++ [⟨6, dn, [p0, p1, p2, p3, p4, p5, p6, p7, p8, p9]⟩]⟩) := by show _ = _; rw [HSTEP.out]; unfold step; simp
      obtain ⟨W2, hW2⟩ : ∃ W2, W2 = wr.alloc (.cells #[.int .i64 6, .int .i64 dA, .int .i64 dn] 98) := ⟨_, rfl⟩
      obtain ⟨W3, hW3⟩ : ∃ W3, W3 = W2.alloc (.cells #[.int .i64 6, .int .i64 dn, .int .i64 p0, .int .i64 p1, .int .i64 p2, .int .i64 p3, .int .i64 p4, .int .i64 p5, .int .i64 p6, .int .i64 p7, .int .i64 p8, .int .i64 p9, .string body] 145) := ⟨_, rfl⟩
      have hb3 : Below wr.heap.size wr W3 := by rw [hW3, hW2]; exact (hA _).alloc (by simp) _
      have hsz3 : wr.heap.size < W3.heap.size := by rw [hW3, hW2]; simp; omega
      have HOW3 := hide (ownB HOW.out hb3)
      have HPK3 := hide (HPK.out.below hb3 hsz)
      have HNW := hide (news13 W2 145 6 dn p0 p1 p2 p3 p4 p5 p6 p7 p8 p9 body)
      have eW2 : W2.heap.size = wr.heap.size + 1 := by rw [hW2]; simp
      rw [← hW3, eW2] at HNW
      have HW3 : Hid ((wr.alloc (.cells #[.int .i64 6, .int .i64 dA, .int .i64 dn] 98)).alloc (.cells #[.int .i64 6, .int .i64 dn, .int .i64 p0, .int .i64 p1, .int .i64 p2, .int .i64 p3, .int .i64 p4, .int .i64 p5, .int .i64 p6, .int .i64 p7, .int .i64 p8, .int .i64 p9, .string body] 145) = W3) := by show _ = _; rw [hW3, hW2]
      clear hW2 hW3 HPK HOW HSTEP
      go_wp2_with (at_builtin; rw [HW3.out]; refine wpList_append_own _ rfl _ _ 141 rfl (w.heap.size + 1) 145 i0 _ 13 112 Tryz.underlying141 hi hz0 hz1 hz2 rfl (by decide) _ _ _ rfl (unhide HOW3) ⟨wr.heap.size + 1, 0, none⟩ 1 1 (S body [⟨6, dn, [p0, p1, p2, p3, p4, p5, p6, p7, p8, p9]⟩]) rfl rfl ?a1 ?a2 ?a3 ?a4 ?a5 ?_)
      case a1 => exact fun j u hj => by have := HNW.out j u hj; rwa [addf] at this
      case a2 => exact S_one _ _
      case a3 => unfold maxLen; omega
      case a4 => omega
      case a5 => omega
      intro v4 w4 ho4 hg4 _
      have hb4 : Below (w.heap.size + 1) W3 w4 := below_grown1 hg4 (by omega) (own_ge HOW3.out)
      have HPK4 := hide (HPK3.out.below hb4 (by omega))
      have hbel4 : Below w.heap.size w w4 := (hbel.trans (hb3.mono hbel.size)).trans (hb4.mono (Nat.le_succ _))
      have hsz4 := hb4.size
      have HOW4 : Hid (w4.ownsRow (w.heap.size + 1) 145 13 v4 (so1 ++ ([⟨6, dn, [p0, p1, p2, p3, p4, p5, p6, p7, p8, p9]⟩] : List Sn)).length (S body (so1 ++ ([⟨6, dn, [p0, p1, p2, p3, p4, p5, p6, p7, p8, p9]⟩] : List Sn)))) := by
       refine hide ?_
       rw [S_append, List.length_append]; exact ho4
      obtain ⟨vo4, vc4, rfl⟩ : ∃ a c, v4 = .slice a (so1.length + 1) c := by
       obtain ⟨_, ⟨rfl, h0⟩ | ⟨g, cap, cur, rfl, _⟩⟩ := ho4
       ·omega
       ·exact ⟨_, _, rfl⟩
      clear ho4 hg4 HOW3 HPK3 hb3 hb4 HNW HW3 m0 m1 m2 c0 c1 c2 c3 c4 c5 c6 c7 c8 c9 cb
      go_wp2_with fail
      go_roundw
      case rel => exact ⟨k + 1, by omega, by go_num, by rw [HS1.out], by rw [HS1.out]; exact HPK4, by rw [HS1.out]; exact HOW4, hbel4, by omega⟩
      case measure => simp [intOf]; omega
    ·have hkl : k = ds.length := by omega
     subst hkl
     have hok := HOK.out ds.length (Nat.le_refl _)
     rw [← HTD.out] at hok HPK HOW
     rw [← HTD.out]
     rw [HTB.out] at HRN
     clear HOK HTD HTB HDS HDB
     generalize table fs ⟨[f0, f1, f2, f3, f4, f5, f6, f7, f8, f9], st, so⟩ = s1 at *
     obtain ⟨hw0, hw7, hw8, hwo⟩ := hok
     have HW0 := hide hw0
     clear hw0
     go_wp2_with fail
     go_roundw
     case rel => exact ⟨j + 1, s1, HW0, by omega, hw8, by omega, rfl, HRN, HPK, HOW, hbel, hsz⟩
     case measure => simp [intOf]; omega
  ·have htd : decide (st < 8) = false := by simpa using ht
   have HEND : Hid (so = RES) := by
    show _ = _
    have h1 := HRN.out
    rw [runN_end fs _ (by show 7 < st; omega)] at h1
    rw [HRES.out]
    unfold ran
    rw [← h1]
   go_wp2_with fail
   go_ret2
   exact ⟨_, rfl, by rw [← HEND.out]; exact own_less HOW.out (Nat.le_succ _), hbel⟩
end Go.Proofs.YtncdininppehkaaGreat

namespace Go.Proofs.YtncdininppehkaaGreat
open Go.RowKit
set_option linter.unusedVariables false
set_option maxRecDepth 100000
structure Ar where
 n : Int
 f : List Int
def ar0 : Ar := ⟨0, []⟩
def snz : Sn := ⟨0, 0, []⟩
def arC (body : ByteArray) (x : Ar) : List Value := [.int .i64 x.n, .int .i64 (x.f.getD 0 0), .int .i64 (x.f.getD 1 0), .int .i64 (x.f.getD 2 0), .int .i64 (x.f.getD 3 0), .int .i64 (x.f.getD 4 0), .int .i64 (x.f.getD 5 0), .int .i64 (x.f.getD 6 0), .string body]
def AR (body : ByteArray) (l : List Ar) : List Value := l.flatMap (arC body)
def snC (body : ByteArray) (x : Sn) : List Value := [.int .i64 x.k, .int .i64 x.n, .int .i64 (x.F.getD 0 0), .int .i64 (x.F.getD 1 0), .int .i64 (x.F.getD 2 0), .int .i64 (x.F.getD 3 0), .int .i64 (x.F.getD 4 0), .int .i64 (x.F.getD 5 0), .int .i64 (x.F.getD 6 0), .int .i64 (x.F.getD 7 0), .int .i64 (x.F.getD 8 0), .int .i64 (x.F.getD 9 0), .string body]
def ff (F : List Int) (n : Nat) : Int := fault (F.getD 1 0) (F.getD 2 0) (F.getD 3 0) (F.getD 4 0) (F.getD 5 0) (F.getD 6 0) (F.getD 7 0) n
def frOf (F : List Int) : List Int := [F.getD 1 0, F.getD 2 0, F.getD 3 0, F.getD 4 0, F.getD 5 0, F.getD 6 0, F.getD 7 0]
def arOf (s : Sn) : Ar := ⟨s.n, frOf s.F⟩
def outB (s : Sn) : Bool := s.k == 5
def badB (n : Nat) (s : Sn) : Bool := outB s && !(ff s.F n == 0)
def atL0 (l : List Sn) : List Ar := (l.filter outB).map arOf
def atE (n : Nat) (l : List Sn) : Int := match l.find? (badB n) with
 | none => 0
 | some s => ff s.F n
def atL (n : Nat) (l : List Sn) : List Ar := if atE n l = 0 then atL0 l else []
theorem flat_get {α : Type} (C : α → List Value) (sz : Nat) (hC : ∀ x, (C x).length = sz) (d : α) : ∀ (l : List α) (i j : Nat), i < l.length → j < sz → (l.flatMap C)[i * sz + j]? = (C (l.getD i d))[j]?
 | [], i, j, hi, _ => by simp at hi
 | x :: r, 0, j, _, hj => by
  rw [List.flatMap_cons, Nat.zero_mul, Nat.zero_add, List.getElem?_append_left (by rw [hC]; exact hj)]
  rfl
 | x :: r, i + 1, j, hi, hj => by
  rw [List.flatMap_cons, List.getElem?_append_right (by rw [hC, Nat.succ_mul]; omega), hC, List.getD_cons_succ, ← flat_get C sz hC d r i j (by simpa using hi) hj]
  congr 1
  rw [Nat.succ_mul]; omega
theorem own_range {α : Type} {C : α → List Value} {sz : Nat} (hC : ∀ x, (C x).length = sz) (d : α) {w : World} {B g cap e : Nat} {l : List α} (h : w.ownsRow B e sz (.slice (some ⟨g, 0, none⟩) l.length cap) l.length (l.flatMap C)) {i : Nat} (hi : i < l.length) : w.rangeAt g (i * sz) (C (l.getD i d)) := fun j v hj => by
 have hjs : j < sz := by
  have := (List.getElem?_eq_some_iff.1 hj).1
  rwa [hC] at this
 have hl : i * sz + j < l.length * sz := by
  have : (i + 1) * sz ≤ l.length * sz := Nat.mul_le_mul_right _ hi
  rw [Nat.succ_mul] at this; omega
 rw [h.cellAt _ hl, flat_get C sz hC d l i j hi hjs]
 exact hj
theorem own_formA {w : World} {B e sz n : Nat} {u : Value} {xs : List Value} (h : w.ownsRow B e sz u n xs) : ∃ oo oc, u = .slice oo n oc ∧ n ≤ oc ∧ (0 < n → ∃ g, oo = some ⟨g, 0, none⟩ ∧ B ≤ g ∧ g < w.heap.size) := by
 have h' := h
 obtain ⟨_, ⟨rfl, h0⟩ | ⟨g, cap, cur, rfl, hB, _, hc, _⟩⟩ := h
 ·exact ⟨none, 0, by rw [h0], by omega, fun h => absurd h (by omega)⟩
 ·exact ⟨_, cap, rfl, hc, fun _ => ⟨g, rfl, hB, own_in h' rfl⟩⟩
theorem take_next {α : Type} (d : α) {l : List α} {k : Nat} (h : k < l.length) : l.take (k + 1) = l.take k ++ [l.getD k d] := by
 rw [List.take_succ_eq_append_getElem h]
 congr 2
 simp [List.getD, List.getElem?_eq_getElem h]
theorem atL0_next {l : List Sn} {k : Nat} (h : k < l.length) : atL0 (l.take (k + 1)) = atL0 (l.take k) ++ (if outB (l.getD k snz) = true then [arOf (l.getD k snz)] else []) := by
 unfold atL0
 rw [take_next snz h, List.filter_append, List.map_append]
 congr 1
 generalize l.getD k snz = x
 cases hx : outB x <;> simp [hx]
theorem bad_next {n : Nat} {l : List Sn} {k : Nat} (h : k < l.length) (h0 : (l.take k).find? (badB n) = none) (h1 : badB n (l.getD k snz) = false) : (l.take (k + 1)).find? (badB n) = none := by
 rw [take_next snz h, List.find?_append, h0]
 generalize l.getD k snz = x at *
 simp [h1]
theorem bad_at {n : Nat} {l : List Sn} {k : Nat} (h : k < l.length) (h0 : (l.take k).find? (badB n) = none) (h1 : badB n (l.getD k snz) = true) : atE n l = ff (l.getD k snz).F n ∧ atE n l ≠ 0 := by
 have e0 : l = l.take k ++ l.getD k snz :: l.drop (k + 1) := by
  rw [← List.singleton_append, ← List.append_assoc, ← take_next snz h, List.take_append_drop]
 have e : (l.take k ++ l.getD k snz :: l.drop (k + 1)).find? (badB n) = some (l.getD k snz) := by
  rw [List.find?_append, h0, List.find?_cons_of_pos h1]; rfl
 rw [← e0] at e
 unfold atE
 rw [e]
 refine ⟨rfl, fun h => ?_⟩
 simp only at h
 unfold badB at h1
 rw [h] at h1
 simp at h1
theorem atL0_le (l : List Sn) : (atL0 l).length ≤ l.length := by
 unfold atL0; rw [List.length_map]; exact List.length_filter_le _ _
theorem infoAr : (Tryz.prog.info? 56).map (fun i => (i.zero, i.size, i.bytes)) = some (some (.agg #[.int .i64 0, .int .i64 0, .int .i64 0, .int .i64 0, .int .i64 0, .int .i64 0, .int .i64 0, .int .i64 0, .string ByteArray.empty]), 9, 80) := by kernel_rfl
theorem sizeSent : (Tryz.prog.info? 145).map (·.size) = some 13 := by kernel_rfl
end Go.Proofs.YtncdininppehkaaGreat

namespace Go.Proofs.YtncdininppehkaaGreat
open Go.RowKit
set_option linter.unusedVariables false
set_option maxRecDepth 100000
set_option maxHeartbeats 4000000 in
theorem atPorts_any (sv : Value) (l : List Sn) (body : ByteArray) (B : Nat) (w : World) (hL : w.ownsRow B 145 13 sv l.length (S body l)) (hb : body.size ≤ maxLen) (hl : l.length ≤ 1000000) :
  Calls Tryz.prog 140 #[sv] w fun e w' => ∃ u, e = .returned (.tuple #[u, .int .i64 (atE body.size l)]) ∧ w'.ownsRow w.heap.size 56 9 u (atL body.size l).length (AR body (atL body.size l)) ∧ Below w.heap.size w w' := by
 obtain ⟨i0, hi, hz0, hz1, hz2⟩ := info_parts infoAr
 have HL := hide hL
 obtain ⟨o, c, rfl, hc, hg⟩ := own_formA hL
 clear hL
 go_enter Tryz.func140, Tryz.ntmps140
 go_wp2_with fail
 go_loopw [4, 11] (fun u i wr => ∃ k : Nat, k ≤ l.length ∧ i = .int .i64 k ∧ Hid (wr.ownsRow w.heap.size 56 9 u (atL0 (l.take k)).length (AR body (atL0 (l.take k)))) ∧ Hid ((l.take k).find? (badB body.size) = none) ∧ Below w.heap.size w wr) (fun _ i _ => l.length - (intOf i).toNat)
 case atStart => exact ⟨0, by omega, rfl, hide (by simpa [atL0, AR] using World.ownsRow_nil w w.heap.size 56 9), hide rfl, Below.refl _ _⟩
 case round =>
  obtain ⟨k, hk, rfl, HO, HBAD, hbr⟩ := hrel
  by_cases hlt : k < l.length
  ·obtain ⟨g, rfl, hgB, hgw⟩ := hg (by omega)
   have R0 := hide (range_below (own_range (C := snC body) (fun _ => rfl) snz HL.out hlt) hbr hgw)
   have HN := hide (atL0_next hlt)
   have HB1 := hide (bad_next (n := body.size) hlt HBAD.out)
   have HB2 := hide (bad_at (n := body.size) hlt HBAD.out)
   have hlen : (atL0 (l.take k)).length ≤ k := Nat.le_trans (atL0_le _) (by rw [List.length_take]; omega)
   obtain ⟨oo, oc, rfl⟩ := own_slc HO.out
   obtain ⟨N, hN⟩ : ∃ N, N = (atL0 (l.take k)).length := ⟨_, rfl⟩
   rw [← hN] at HO hlen ⊢
   have HNN := hide hN
   clear hN HBAD
   generalize l.getD k snz = x at *
   have q1 : (0 : Int) ≤ (k : Int) := by omega
   have q2 : (k : Int) < (l.length : Int) := by omega
   have HFR := hide (fun W => pFrame_any (x.F.getD 0 0) (x.F.getD 1 0) (x.F.getD 2 0) (x.F.getD 3 0) (x.F.getD 4 0) (x.F.getD 5 0) (x.F.getD 6 0) (x.F.getD 7 0) (x.F.getD 8 0) (x.F.getD 9 0) body W hb)
   have HCX : Hid (arC body (arOf x) = [.int .i64 x.n, .int .i64 (x.F.getD 1 0), .int .i64 (x.F.getD 2 0), .int .i64 (x.F.getD 3 0), .int .i64 (x.F.getD 4 0), .int .i64 (x.F.getD 5 0), .int .i64 (x.F.getD 6 0), .int .i64 (x.F.getD 7 0), .string body]) := rfl
   have HK : Hid (outB x = (x.k == 5)) := rfl
   have HE : Hid (badB body.size x = (outB x && !(fault (x.F.getD 1 0) (x.F.getD 2 0) (x.F.getD 3 0) (x.F.getD 4 0) (x.F.getD 5 0) (x.F.getD 6 0) (x.F.getD 7 0) body.size == 0))) := rfl
   have HE2 : Hid (ff x.F body.size = fault (x.F.getD 1 0) (x.F.getD 2 0) (x.F.getD 3 0) (x.F.getD 4 0) (x.F.getD 5 0) (x.F.getD 6 0) (x.F.getD 7 0) body.size) := rfl
   have HXC : Hid (snC body x = [.int .i64 x.k, .int .i64 x.n, .int .i64 (x.F.getD 0 0), .int .i64 (x.F.getD 1 0), .int .i64 (x.F.getD 2 0), .int .i64 (x.F.getD 3 0), .int .i64 (x.F.getD 4 0), .int .i64 (x.F.getD 5 0), .int .i64 (x.F.getD 6 0), .int .i64 (x.F.getD 7 0), .int .i64 (x.F.getD 8 0), .int .i64 (x.F.getD 9 0), .string body]) := rfl
   rw [HXC.out] at R0
   generalize fault (x.F.getD 1 0) (x.F.getD 2 0) (x.F.getD 3 0) (x.F.getD 4 0) (x.F.getD 5 0) (x.F.getD 6 0) (x.F.getD 7 0) body.size = E at *
   generalize x.F.getD 0 0 = y0 at *
   generalize x.F.getD 1 0 = y1 at *
   generalize x.F.getD 2 0 = y2 at *
   generalize x.F.getD 3 0 = y3 at *
   generalize x.F.getD 4 0 = y4 at *
   generalize x.F.getD 5 0 = y5 at *
   generalize x.F.getD 6 0 = y6 at *
   generalize x.F.getD 7 0 = y7 at *
   generalize x.F.getD 8 0 = y8 at *
   generalize x.F.getD 9 0 = y9 at *
   generalize x.n = xn at *
   generalize x.k = xk at *
   by_cases h5 : xk = 5
   ·subst h5
    have hx5 : outB x = true := by rw [HK.out]; rfl
    rw [hx5] at HE HN
    obtain ⟨W1, hW1⟩ : ∃ W1, W1 = wr.alloc (.cells #[.int .i64 5, .int .i64 xn, .int .i64 y0, .int .i64 y1, .int .i64 y2, .int .i64 y3, .int .i64 y4, .int .i64 y5, .int .i64 y6, .int .i64 y7, .int .i64 y8, .int .i64 y9, .string body] 145) := ⟨_, rfl⟩
    have hb1 : Below wr.heap.size wr W1 := by rw [hW1]; exact (Below.refl _ _).alloc (Nat.le_refl _) _
    have d1 : W1.cell? ⟨wr.heap.size, 1, none⟩ = some (.int .i64 xn) := by rw [hW1]; exact new_cell wr _ rfl _ _ _ _ rfl
    go_wp2_with (refine wpList_load_mid rfl 145 (.tmp 13) rfl g (k * 13) ?_ _ _ R0.out Tryz.underlying145 rfl sizeSent ?_; · rfl)
    rw [← hW1]
    clear hW1
    refine (unhide HFR _).mono ?_
    rintro e w2 ⟨rfl, hb2⟩
    replace d1 := cb d1 hb2
    have hb12 : Below wr.heap.size wr w2 := hb1.trans (hb2.mono hb1.size)
    have HO1 := hide (own_below HO.out hb12)
    have hB2 := hbr.trans (hb12.mono hbr.size)
    have hs2 := hB2.size
    clear HO hb1 hb2 hbr HFR R0
    have hwr := cell_in d1
    by_cases hE : E = 0
    ·subst hE
     rw [if_pos rfl]
     obtain ⟨W3, hW3⟩ : ∃ W3, W3 = (w2.alloc (.cells #[.int .i64 y1, .int .i64 y2, .int .i64 y3, .int .i64 y4, .int .i64 y5, .int .i64 y6, .int .i64 y7, .string body] 37)).alloc (.cells #[.int .i64 xn, .int .i64 y1, .int .i64 y2, .int .i64 y3, .int .i64 y4, .int .i64 y5, .int .i64 y6, .int .i64 y7, .string body] 56) := ⟨_, rfl⟩
     have hb3 : Below w2.heap.size w2 W3 := by rw [hW3]; exact ((Below.refl _ _).alloc (Nat.le_refl _) _).alloc (by simp) _
     have NEWS : Hid (∀ j u, [.int .i64 xn, .int .i64 y1, .int .i64 y2, .int .i64 y3, .int .i64 y4, .int .i64 y5, .int .i64 y6, .int .i64 y7, .string body][j]? = some u → W3.cell? ((⟨w2.heap.size + 1, 0, none⟩ : Addr).add j) = some u) := by
      rw [hW3]
      have := range_new (w2.alloc (.cells #[.int .i64 y1, .int .i64 y2, .int .i64 y3, .int .i64 y4, .int .i64 y5, .int .i64 y6, .int .i64 y7, .string body] 37)) [.int .i64 xn, .int .i64 y1, .int .i64 y2, .int .i64 y3, .int .i64 y4, .int .i64 y5, .int .i64 y6, .int .i64 y7, .string body] 56
      refine hide (fun j u hj => ?_)
      have h := this j u hj
      rw [Nat.zero_add] at h
      rw [addf]
      simpa using h
     have HO2 := hide (own_below HO1.out hb3)
     have hs3 : w.heap.size ≤ W3.heap.size := Nat.le_trans hs2 hb3.size
     have HW3 : Hid ((w2.alloc (.cells #[.int .i64 y1, .int .i64 y2, .int .i64 y3, .int .i64 y4, .int .i64 y5, .int .i64 y6, .int .i64 y7, .string body] 37)).alloc (.cells #[.int .i64 xn, .int .i64 y1, .int .i64 y2, .int .i64 y3, .int .i64 y4, .int .i64 y5, .int .i64 y6, .int .i64 y7, .string body] 56) = W3) := hW3.symm
     clear hW3
     go_wp2_with (at_builtin; rw [unhide HW3]; refine wpList_append_own _ rfl _ _ 51 rfl w.heap.size 56 i0 _ 9 80 Tryz.underlying51 hi hz0 hz1 hz2 rfl (by decide) _ _ _ rfl (unhide HO2) ⟨w2.heap.size + 1, 0, none⟩ 1 1 [.int .i64 xn, .int .i64 y1, .int .i64 y2, .int .i64 y3, .int .i64 y4, .int .i64 y5, .int .i64 y6, .int .i64 y7, .string body] rfl rfl (unhide NEWS) (all_one rfl) ?a1 ?a2 ?a3 ?_)
     case a1 => unfold maxLen; omega
     case a2 => omega
     case a3 => exact hs3
     intro v4 w4 ho4 hg4 _
     have hb4 : Below w.heap.size w w4 := (hB2.trans (hb3.mono hs2)).grown hg4 hs3 (own_ge HO2.out)
     have HE4 : Hid (w4.ownsRow w.heap.size 56 9 v4 (atL0 (l.take (k + 1))).length (AR body (atL0 (l.take (k + 1))))) := by
      refine hide ?_
      rw [HN.out, if_pos trivial, List.length_append, ← HNN.out]
      unfold AR
      rw [List.flatMap_append]
      simp only [List.flatMap_cons, List.flatMap_nil, List.append_nil, HCX.out, List.length_singleton]
      exact ho4
     have HBD : Hid ((l.take (k + 1)).find? (badB body.size) = none) := HB1.out (by rw [HE.out]; rfl)
     clear ho4 hg4 HO2 NEWS HO1 HW3 hb3 HN HB1 HB2 HE HCX HXC HK d1
     go_wp2_with fail
     go_roundw
     case rel => exact ⟨k + 1, by omega, by go_num, HE4, HBD, hb4⟩
     case measure => simp [intOf]; omega
    ·rw [if_neg hE]
     have hEb : (E != 0) = true := by simpa using hE
     have hEE := HB2.out (by rw [HE.out]; simpa using hE)
     have HE1 : Hid (atE body.size l = E) := hEE.1.trans HE2.out
     have HE3 : Hid (atL body.size l = []) := by unfold atL; rw [if_neg hEE.2]; exact hide rfl
     clear hEE
     go_wp2_with fail
     rw [HE1.out, HE3.out]
     go_ret2
     exact ⟨_, rfl, World.ownsRow_nil _ _ _ _, hB2.alloc hs2 _⟩
   ·have h5b : (xk != 5) = true := by simpa using h5
    have hx5 : outB x = false := by rw [HK.out]; simpa using h5
    rw [hx5] at HE HN
    obtain ⟨W1, hW1⟩ : ∃ W1, W1 = wr.alloc (.cells #[.int .i64 xk, .int .i64 xn, .int .i64 y0, .int .i64 y1, .int .i64 y2, .int .i64 y3, .int .i64 y4, .int .i64 y5, .int .i64 y6, .int .i64 y7, .int .i64 y8, .int .i64 y9, .string body] 145) := ⟨_, rfl⟩
    have hb1 : Below wr.heap.size wr W1 := by rw [hW1]; exact (Below.refl _ _).alloc (Nat.le_refl _) _
    have HE4 : Hid (W1.ownsRow w.heap.size 56 9 (.slice oo N oc) (atL0 (l.take (k + 1))).length (AR body (atL0 (l.take (k + 1))))) := by
     refine hide ?_
     rw [HN.out, if_neg (by simp), List.append_nil, ← HNN.out]
     exact own_below HO.out hb1
    have HBD : Hid ((l.take (k + 1)).find? (badB body.size) = none) := HB1.out (by rw [HE.out]; rfl)
    go_wp2_with (refine wpList_load_mid rfl 145 (.tmp 13) rfl g (k * 13) ?_ _ _ R0.out Tryz.underlying145 rfl sizeSent ?_; · rfl)
    rw [← hW1]
    go_roundw
    case rel => exact ⟨k + 1, by omega, by go_num, HE4, HBD, hbr.trans (hb1.mono hbr.size)⟩
    case measure => simp [intOf]; omega
  ·have hke : k = l.length := by omega
   subst hke
   rw [List.take_length] at HO HBAD
   have hE0 : atE body.size l = 0 := by unfold atE; rw [HBAD.out]
   have hA0 : atL body.size l = atL0 l := by unfold atL; rw [if_pos hE0]
   have HE0 := hide hE0
   have HA0 := hide hA0
   clear hE0 hA0
   obtain ⟨oo, oc, rfl⟩ := own_slc HO.out
   have hkk : ¬ ((l.length : Int) < (l.length : Int)) := by omega
   go_wp2_with fail
   rw [HE0.out, HA0.out]
   go_ret2
   exact ⟨_, rfl, HO.out, hbr⟩
end Go.Proofs.YtncdininppehkaaGreat

namespace Go.Proofs.YtncdininppehkaaGreat
open Go.RowKit
set_option linter.unusedVariables false
set_option maxRecDepth 100000
def pkE (dst src kind ips ipd ttl port : Int) (n : Nat) (i net t : Int) : Int :=
 if fault dst src kind ips ipd ttl port n = 0 then pktFault [i, dst, src, kind, ips, ipd, ttl, port, net, t] n else fault dst src kind ips ipd ttl port n
abbrev pkZ : Value := pkt 0 0 0 0 0 0 0 0 0 0 ⟨#[]⟩
set_option maxHeartbeats 4000000 in
theorem pPacket_any (dst src kind ips ipd ttl port : Int) (body : ByteArray) (i net t : Int) (w : World) (hb : body.size ≤ maxLen) :
  Calls Tryz.prog 12 #[fr dst src kind ips ipd ttl port body, .int .i64 i, .int .i64 net, .int .i64 t] w fun e w' => e = .returned (.tuple #[if pkE dst src kind ips ipd ttl port body.size i net t = 0 then pkt i dst src kind ips ipd ttl port net t body else pkZ, .int .i64 (pkE dst src kind ips ipd ttl port body.size i net t)]) ∧ Below w.heap.size w w' := by
 have HE : Hid (pkE dst src kind ips ipd ttl port body.size i net t = if fault dst src kind ips ipd ttl port body.size = 0 then pktFault [i, dst, src, kind, ips, ipd, ttl, port, net, t] body.size else fault dst src kind ips ipd ttl port body.size) := rfl
 generalize pkE dst src kind ips ipd ttl port body.size i net t = E at *
 have H1 := hide (fun W => check_any dst src kind ips ipd ttl port body W hb)
 have H2 := hide (fun W => checkPacket_any i dst src kind ips ipd ttl port net t body W hb)
 generalize fault dst src kind ips ipd ttl port body.size = G at *
 generalize pktFault [i, dst, src, kind, ips, ipd, ttl, port, net, t] body.size = K at *
 go_enter Tryz.func12, Tryz.ntmps12
 go_wp2_with fail
 obtain ⟨W0, hW0⟩ : ∃ W0, W0 = (w.alloc (.cells #[.int .i64 dst, .int .i64 src, .int .i64 kind, .int .i64 ips, .int .i64 ipd, .int .i64 ttl, .int .i64 port, .string body] 37)).alloc (.cells #[.int .i64 0, .int .i64 0, .int .i64 0, .int .i64 0, .int .i64 0, .int .i64 0, .int .i64 0, .int .i64 0, .int .i64 0, .int .i64 0, .string ⟨#[]⟩] 41) := ⟨_, rfl⟩
 have hb0 : Below w.heap.size w W0 := by rw [hW0]; exact ((Below.refl _ w).alloc (Nat.le_refl _) _).alloc (by simp) _
 have hz0 : W0.heap.size = w.heap.size + 1 + 1 := by rw [hW0]; simp
 have c0 : W0.cell? ⟨w.heap.size, 0, none⟩ = some (.int .i64 dst) := by rw [hW0]; exact old_cell (new_cell w _ rfl _ _ _ _ rfl) _
 have c1 : W0.cell? ⟨w.heap.size, 1, none⟩ = some (.int .i64 src) := by rw [hW0]; exact old_cell (new_cell w _ rfl _ _ _ _ rfl) _
 have c2 : W0.cell? ⟨w.heap.size, 2, none⟩ = some (.int .i64 kind) := by rw [hW0]; exact old_cell (new_cell w _ rfl _ _ _ _ rfl) _
 have c3 : W0.cell? ⟨w.heap.size, 3, none⟩ = some (.int .i64 ips) := by rw [hW0]; exact old_cell (new_cell w _ rfl _ _ _ _ rfl) _
 have c4 : W0.cell? ⟨w.heap.size, 4, none⟩ = some (.int .i64 ipd) := by rw [hW0]; exact old_cell (new_cell w _ rfl _ _ _ _ rfl) _
 have c5 : W0.cell? ⟨w.heap.size, 5, none⟩ = some (.int .i64 ttl) := by rw [hW0]; exact old_cell (new_cell w _ rfl _ _ _ _ rfl) _
 have c6 : W0.cell? ⟨w.heap.size, 6, none⟩ = some (.int .i64 port) := by rw [hW0]; exact old_cell (new_cell w _ rfl _ _ _ _ rfl) _
 have c7 : W0.cell? ⟨w.heap.size, 7, none⟩ = some (.string body) := by rw [hW0]; exact old_cell (new_cell w _ rfl _ _ _ _ rfl) _
 have r0 : W0.cell? ⟨w.heap.size + 1, 0, none⟩ = some (.int .i64 0) := by rw [hW0]; exact new_cell _ _ (by simp) _ _ _ _ rfl
 have r1 : W0.cell? ⟨w.heap.size + 1, 1, none⟩ = some (.int .i64 0) := by rw [hW0]; exact new_cell _ _ (by simp) _ _ _ _ rfl
 have r2 : W0.cell? ⟨w.heap.size + 1, 2, none⟩ = some (.int .i64 0) := by rw [hW0]; exact new_cell _ _ (by simp) _ _ _ _ rfl
 have r3 : W0.cell? ⟨w.heap.size + 1, 3, none⟩ = some (.int .i64 0) := by rw [hW0]; exact new_cell _ _ (by simp) _ _ _ _ rfl
 have r4 : W0.cell? ⟨w.heap.size + 1, 4, none⟩ = some (.int .i64 0) := by rw [hW0]; exact new_cell _ _ (by simp) _ _ _ _ rfl
 have r5 : W0.cell? ⟨w.heap.size + 1, 5, none⟩ = some (.int .i64 0) := by rw [hW0]; exact new_cell _ _ (by simp) _ _ _ _ rfl
 have r6 : W0.cell? ⟨w.heap.size + 1, 6, none⟩ = some (.int .i64 0) := by rw [hW0]; exact new_cell _ _ (by simp) _ _ _ _ rfl
 have r7 : W0.cell? ⟨w.heap.size + 1, 7, none⟩ = some (.int .i64 0) := by rw [hW0]; exact new_cell _ _ (by simp) _ _ _ _ rfl
 have r8 : W0.cell? ⟨w.heap.size + 1, 8, none⟩ = some (.int .i64 0) := by rw [hW0]; exact new_cell _ _ (by simp) _ _ _ _ rfl
 have r9 : W0.cell? ⟨w.heap.size + 1, 9, none⟩ = some (.int .i64 0) := by rw [hW0]; exact new_cell _ _ (by simp) _ _ _ _ rfl
 have r10 : W0.cell? ⟨w.heap.size + 1, 10, none⟩ = some (.string ⟨#[]⟩) := by rw [hW0]; exact new_cell _ _ (by simp) _ _ _ _ rfl
 have z : ∀ j, W0.frozen? ⟨w.heap.size + 1, j, none⟩ = false := by rw [hW0]; simp
 rw [← hW0]
 clear hW0
 refine (unhide H1 _).mono ?_
 rintro e w1 ⟨rfl, hb1⟩
 have k1 := hb0.trans (hb1.mono hb0.size)
 have hz1 : w.heap.size + 1 + 1 ≤ w1.heap.size := by have := hb1.size; omega
 replace c0 := cb c0 hb1
 replace c1 := cb c1 hb1
 replace c2 := cb c2 hb1
 replace c3 := cb c3 hb1
 replace c4 := cb c4 hb1
 replace c5 := cb c5 hb1
 replace c6 := cb c6 hb1
 replace c7 := cb c7 hb1
 replace r0 := cb r0 hb1
 replace r1 := cb r1 hb1
 replace r2 := cb r2 hb1
 replace r3 := cb r3 hb1
 replace r4 := cb r4 hb1
 replace r5 := cb r5 hb1
 replace r6 := cb r6 hb1
 replace r7 := cb r7 hb1
 replace r8 := cb r8 hb1
 replace r9 := cb r9 hb1
 replace r10 := cb r10 hb1
 replace z : ∀ j, w1.frozen? ⟨w.heap.size + 1, j, none⟩ = false := fun j => (hb1.frozen (p := ⟨w.heap.size + 1, j, none⟩) (by show w.heap.size + 1 < W0.heap.size; omega)).trans (z j)
 clear hb1 hb0 hz0 H1
 by_cases hG : ¬ G = 0
 ·have hE : E = G := by rw [HE.out, if_neg hG]
  subst hE
  clear HE H2
  go_wp2_with fail
  have hS : (((((((((((w1.setCell ⟨w.heap.size + 1, 0, none⟩ (.int .i64 0)).setCell ⟨w.heap.size + 1, 1, none⟩ (.int .i64 0)).setCell ⟨w.heap.size + 1, 2, none⟩ (.int .i64 0)).setCell ⟨w.heap.size + 1, 3, none⟩ (.int .i64 0)).setCell ⟨w.heap.size + 1, 4, none⟩ (.int .i64 0)).setCell ⟨w.heap.size + 1, 5, none⟩ (.int .i64 0)).setCell ⟨w.heap.size + 1, 6, none⟩ (.int .i64 0)).setCell ⟨w.heap.size + 1, 7, none⟩ (.int .i64 0)).setCell ⟨w.heap.size + 1, 8, none⟩ (.int .i64 0)).setCell ⟨w.heap.size + 1, 9, none⟩ (.int .i64 0)).setCell ⟨w.heap.size + 1, 10, none⟩ (.string ⟨#[]⟩)) = w1.setCells (w.heap.size + 1) 0 [Value.int .i64 0, .int .i64 0, .int .i64 0, .int .i64 0, .int .i64 0, .int .i64 0, .int .i64 0, .int .i64 0, .int .i64 0, .int .i64 0, .string ⟨#[]⟩] := rfl
  have HB : Hid (Below w.heap.size w (((((((((((w1.setCell ⟨w.heap.size + 1, 0, none⟩ (.int .i64 0)).setCell ⟨w.heap.size + 1, 1, none⟩ (.int .i64 0)).setCell ⟨w.heap.size + 1, 2, none⟩ (.int .i64 0)).setCell ⟨w.heap.size + 1, 3, none⟩ (.int .i64 0)).setCell ⟨w.heap.size + 1, 4, none⟩ (.int .i64 0)).setCell ⟨w.heap.size + 1, 5, none⟩ (.int .i64 0)).setCell ⟨w.heap.size + 1, 6, none⟩ (.int .i64 0)).setCell ⟨w.heap.size + 1, 7, none⟩ (.int .i64 0)).setCell ⟨w.heap.size + 1, 8, none⟩ (.int .i64 0)).setCell ⟨w.heap.size + 1, 9, none⟩ (.int .i64 0)).setCell ⟨w.heap.size + 1, 10, none⟩ (.string ⟨#[]⟩))) := by rw [hS]; exact fill_below (Nat.le_succ _) _ _ _ (k1)
  have HI : Hid (∀ j, j < 11 → (w1.cell? ⟨w.heap.size + 1, j, none⟩).isSome = true) := fun j hj => by
   have hc : j = 0 ∨ j = 1 ∨ j = 2 ∨ j = 3 ∨ j = 4 ∨ j = 5 ∨ j = 6 ∨ j = 7 ∨ j = 8 ∨ j = 9 ∨ j = 10 := by omega
   rcases hc with rfl | rfl | rfl | rfl | rfl | rfl | rfl | rfl | rfl | rfl | rfl
   ·rw [r0]; rfl
   ·rw [r1]; rfl
   ·rw [r2]; rfl
   ·rw [r3]; rfl
   ·rw [r4]; rfl
   ·rw [r5]; rfl
   ·rw [r6]; rfl
   ·rw [r7]; rfl
   ·rw [r8]; rfl
   ·rw [r9]; rfl
   ·rw [r10]; rfl
  have u0 : (((((((((((w1.setCell ⟨w.heap.size + 1, 0, none⟩ (.int .i64 0)).setCell ⟨w.heap.size + 1, 1, none⟩ (.int .i64 0)).setCell ⟨w.heap.size + 1, 2, none⟩ (.int .i64 0)).setCell ⟨w.heap.size + 1, 3, none⟩ (.int .i64 0)).setCell ⟨w.heap.size + 1, 4, none⟩ (.int .i64 0)).setCell ⟨w.heap.size + 1, 5, none⟩ (.int .i64 0)).setCell ⟨w.heap.size + 1, 6, none⟩ (.int .i64 0)).setCell ⟨w.heap.size + 1, 7, none⟩ (.int .i64 0)).setCell ⟨w.heap.size + 1, 8, none⟩ (.int .i64 0)).setCell ⟨w.heap.size + 1, 9, none⟩ (.int .i64 0)).setCell ⟨w.heap.size + 1, 10, none⟩ (.string ⟨#[]⟩)).cell? ⟨w.heap.size + 1, 0, none⟩ = some (.int .i64 0) := by rw [hS]; exact fill_at (vs := [Value.int .i64 0, .int .i64 0, .int .i64 0, .int .i64 0, .int .i64 0, .int .i64 0, .int .i64 0, .int .i64 0, .int .i64 0, .int .i64 0, .string ⟨#[]⟩]) HI.out rfl
  have u1 : (((((((((((w1.setCell ⟨w.heap.size + 1, 0, none⟩ (.int .i64 0)).setCell ⟨w.heap.size + 1, 1, none⟩ (.int .i64 0)).setCell ⟨w.heap.size + 1, 2, none⟩ (.int .i64 0)).setCell ⟨w.heap.size + 1, 3, none⟩ (.int .i64 0)).setCell ⟨w.heap.size + 1, 4, none⟩ (.int .i64 0)).setCell ⟨w.heap.size + 1, 5, none⟩ (.int .i64 0)).setCell ⟨w.heap.size + 1, 6, none⟩ (.int .i64 0)).setCell ⟨w.heap.size + 1, 7, none⟩ (.int .i64 0)).setCell ⟨w.heap.size + 1, 8, none⟩ (.int .i64 0)).setCell ⟨w.heap.size + 1, 9, none⟩ (.int .i64 0)).setCell ⟨w.heap.size + 1, 10, none⟩ (.string ⟨#[]⟩)).cell? ⟨w.heap.size + 1, 1, none⟩ = some (.int .i64 0) := by rw [hS]; exact fill_at (vs := [Value.int .i64 0, .int .i64 0, .int .i64 0, .int .i64 0, .int .i64 0, .int .i64 0, .int .i64 0, .int .i64 0, .int .i64 0, .int .i64 0, .string ⟨#[]⟩]) HI.out rfl
  have u2 : (((((((((((w1.setCell ⟨w.heap.size + 1, 0, none⟩ (.int .i64 0)).setCell ⟨w.heap.size + 1, 1, none⟩ (.int .i64 0)).setCell ⟨w.heap.size + 1, 2, none⟩ (.int .i64 0)).setCell ⟨w.heap.size + 1, 3, none⟩ (.int .i64 0)).setCell ⟨w.heap.size + 1, 4, none⟩ (.int .i64 0)).setCell ⟨w.heap.size + 1, 5, none⟩ (.int .i64 0)).setCell ⟨w.heap.size + 1, 6, none⟩ (.int .i64 0)).setCell ⟨w.heap.size + 1, 7, none⟩ (.int .i64 0)).setCell ⟨w.heap.size + 1, 8, none⟩ (.int .i64 0)).setCell ⟨w.heap.size + 1, 9, none⟩ (.int .i64 0)).setCell ⟨w.heap.size + 1, 10, none⟩ (.string ⟨#[]⟩)).cell? ⟨w.heap.size + 1, 2, none⟩ = some (.int .i64 0) := by rw [hS]; exact fill_at (vs := [Value.int .i64 0, .int .i64 0, .int .i64 0, .int .i64 0, .int .i64 0, .int .i64 0, .int .i64 0, .int .i64 0, .int .i64 0, .int .i64 0, .string ⟨#[]⟩]) HI.out rfl
  have u3 : (((((((((((w1.setCell ⟨w.heap.size + 1, 0, none⟩ (.int .i64 0)).setCell ⟨w.heap.size + 1, 1, none⟩ (.int .i64 0)).setCell ⟨w.heap.size + 1, 2, none⟩ (.int .i64 0)).setCell ⟨w.heap.size + 1, 3, none⟩ (.int .i64 0)).setCell ⟨w.heap.size + 1, 4, none⟩ (.int .i64 0)).setCell ⟨w.heap.size + 1, 5, none⟩ (.int .i64 0)).setCell ⟨w.heap.size + 1, 6, none⟩ (.int .i64 0)).setCell ⟨w.heap.size + 1, 7, none⟩ (.int .i64 0)).setCell ⟨w.heap.size + 1, 8, none⟩ (.int .i64 0)).setCell ⟨w.heap.size + 1, 9, none⟩ (.int .i64 0)).setCell ⟨w.heap.size + 1, 10, none⟩ (.string ⟨#[]⟩)).cell? ⟨w.heap.size + 1, 3, none⟩ = some (.int .i64 0) := by rw [hS]; exact fill_at (vs := [Value.int .i64 0, .int .i64 0, .int .i64 0, .int .i64 0, .int .i64 0, .int .i64 0, .int .i64 0, .int .i64 0, .int .i64 0, .int .i64 0, .string ⟨#[]⟩]) HI.out rfl
  have u4 : (((((((((((w1.setCell ⟨w.heap.size + 1, 0, none⟩ (.int .i64 0)).setCell ⟨w.heap.size + 1, 1, none⟩ (.int .i64 0)).setCell ⟨w.heap.size + 1, 2, none⟩ (.int .i64 0)).setCell ⟨w.heap.size + 1, 3, none⟩ (.int .i64 0)).setCell ⟨w.heap.size + 1, 4, none⟩ (.int .i64 0)).setCell ⟨w.heap.size + 1, 5, none⟩ (.int .i64 0)).setCell ⟨w.heap.size + 1, 6, none⟩ (.int .i64 0)).setCell ⟨w.heap.size + 1, 7, none⟩ (.int .i64 0)).setCell ⟨w.heap.size + 1, 8, none⟩ (.int .i64 0)).setCell ⟨w.heap.size + 1, 9, none⟩ (.int .i64 0)).setCell ⟨w.heap.size + 1, 10, none⟩ (.string ⟨#[]⟩)).cell? ⟨w.heap.size + 1, 4, none⟩ = some (.int .i64 0) := by rw [hS]; exact fill_at (vs := [Value.int .i64 0, .int .i64 0, .int .i64 0, .int .i64 0, .int .i64 0, .int .i64 0, .int .i64 0, .int .i64 0, .int .i64 0, .int .i64 0, .string ⟨#[]⟩]) HI.out rfl
  have u5 : (((((((((((w1.setCell ⟨w.heap.size + 1, 0, none⟩ (.int .i64 0)).setCell ⟨w.heap.size + 1, 1, none⟩ (.int .i64 0)).setCell ⟨w.heap.size + 1, 2, none⟩ (.int .i64 0)).setCell ⟨w.heap.size + 1, 3, none⟩ (.int .i64 0)).setCell ⟨w.heap.size + 1, 4, none⟩ (.int .i64 0)).setCell ⟨w.heap.size + 1, 5, none⟩ (.int .i64 0)).setCell ⟨w.heap.size + 1, 6, none⟩ (.int .i64 0)).setCell ⟨w.heap.size + 1, 7, none⟩ (.int .i64 0)).setCell ⟨w.heap.size + 1, 8, none⟩ (.int .i64 0)).setCell ⟨w.heap.size + 1, 9, none⟩ (.int .i64 0)).setCell ⟨w.heap.size + 1, 10, none⟩ (.string ⟨#[]⟩)).cell? ⟨w.heap.size + 1, 5, none⟩ = some (.int .i64 0) := by rw [hS]; exact fill_at (vs := [Value.int .i64 0, .int .i64 0, .int .i64 0, .int .i64 0, .int .i64 0, .int .i64 0, .int .i64 0, .int .i64 0, .int .i64 0, .int .i64 0, .string ⟨#[]⟩]) HI.out rfl
  have u6 : (((((((((((w1.setCell ⟨w.heap.size + 1, 0, none⟩ (.int .i64 0)).setCell ⟨w.heap.size + 1, 1, none⟩ (.int .i64 0)).setCell ⟨w.heap.size + 1, 2, none⟩ (.int .i64 0)).setCell ⟨w.heap.size + 1, 3, none⟩ (.int .i64 0)).setCell ⟨w.heap.size + 1, 4, none⟩ (.int .i64 0)).setCell ⟨w.heap.size + 1, 5, none⟩ (.int .i64 0)).setCell ⟨w.heap.size + 1, 6, none⟩ (.int .i64 0)).setCell ⟨w.heap.size + 1, 7, none⟩ (.int .i64 0)).setCell ⟨w.heap.size + 1, 8, none⟩ (.int .i64 0)).setCell ⟨w.heap.size + 1, 9, none⟩ (.int .i64 0)).setCell ⟨w.heap.size + 1, 10, none⟩ (.string ⟨#[]⟩)).cell? ⟨w.heap.size + 1, 6, none⟩ = some (.int .i64 0) := by rw [hS]; exact fill_at (vs := [Value.int .i64 0, .int .i64 0, .int .i64 0, .int .i64 0, .int .i64 0, .int .i64 0, .int .i64 0, .int .i64 0, .int .i64 0, .int .i64 0, .string ⟨#[]⟩]) HI.out rfl
  have u7 : (((((((((((w1.setCell ⟨w.heap.size + 1, 0, none⟩ (.int .i64 0)).setCell ⟨w.heap.size + 1, 1, none⟩ (.int .i64 0)).setCell ⟨w.heap.size + 1, 2, none⟩ (.int .i64 0)).setCell ⟨w.heap.size + 1, 3, none⟩ (.int .i64 0)).setCell ⟨w.heap.size + 1, 4, none⟩ (.int .i64 0)).setCell ⟨w.heap.size + 1, 5, none⟩ (.int .i64 0)).setCell ⟨w.heap.size + 1, 6, none⟩ (.int .i64 0)).setCell ⟨w.heap.size + 1, 7, none⟩ (.int .i64 0)).setCell ⟨w.heap.size + 1, 8, none⟩ (.int .i64 0)).setCell ⟨w.heap.size + 1, 9, none⟩ (.int .i64 0)).setCell ⟨w.heap.size + 1, 10, none⟩ (.string ⟨#[]⟩)).cell? ⟨w.heap.size + 1, 7, none⟩ = some (.int .i64 0) := by rw [hS]; exact fill_at (vs := [Value.int .i64 0, .int .i64 0, .int .i64 0, .int .i64 0, .int .i64 0, .int .i64 0, .int .i64 0, .int .i64 0, .int .i64 0, .int .i64 0, .string ⟨#[]⟩]) HI.out rfl
  have u8 : (((((((((((w1.setCell ⟨w.heap.size + 1, 0, none⟩ (.int .i64 0)).setCell ⟨w.heap.size + 1, 1, none⟩ (.int .i64 0)).setCell ⟨w.heap.size + 1, 2, none⟩ (.int .i64 0)).setCell ⟨w.heap.size + 1, 3, none⟩ (.int .i64 0)).setCell ⟨w.heap.size + 1, 4, none⟩ (.int .i64 0)).setCell ⟨w.heap.size + 1, 5, none⟩ (.int .i64 0)).setCell ⟨w.heap.size + 1, 6, none⟩ (.int .i64 0)).setCell ⟨w.heap.size + 1, 7, none⟩ (.int .i64 0)).setCell ⟨w.heap.size + 1, 8, none⟩ (.int .i64 0)).setCell ⟨w.heap.size + 1, 9, none⟩ (.int .i64 0)).setCell ⟨w.heap.size + 1, 10, none⟩ (.string ⟨#[]⟩)).cell? ⟨w.heap.size + 1, 8, none⟩ = some (.int .i64 0) := by rw [hS]; exact fill_at (vs := [Value.int .i64 0, .int .i64 0, .int .i64 0, .int .i64 0, .int .i64 0, .int .i64 0, .int .i64 0, .int .i64 0, .int .i64 0, .int .i64 0, .string ⟨#[]⟩]) HI.out rfl
  have u9 : (((((((((((w1.setCell ⟨w.heap.size + 1, 0, none⟩ (.int .i64 0)).setCell ⟨w.heap.size + 1, 1, none⟩ (.int .i64 0)).setCell ⟨w.heap.size + 1, 2, none⟩ (.int .i64 0)).setCell ⟨w.heap.size + 1, 3, none⟩ (.int .i64 0)).setCell ⟨w.heap.size + 1, 4, none⟩ (.int .i64 0)).setCell ⟨w.heap.size + 1, 5, none⟩ (.int .i64 0)).setCell ⟨w.heap.size + 1, 6, none⟩ (.int .i64 0)).setCell ⟨w.heap.size + 1, 7, none⟩ (.int .i64 0)).setCell ⟨w.heap.size + 1, 8, none⟩ (.int .i64 0)).setCell ⟨w.heap.size + 1, 9, none⟩ (.int .i64 0)).setCell ⟨w.heap.size + 1, 10, none⟩ (.string ⟨#[]⟩)).cell? ⟨w.heap.size + 1, 9, none⟩ = some (.int .i64 0) := by rw [hS]; exact fill_at (vs := [Value.int .i64 0, .int .i64 0, .int .i64 0, .int .i64 0, .int .i64 0, .int .i64 0, .int .i64 0, .int .i64 0, .int .i64 0, .int .i64 0, .string ⟨#[]⟩]) HI.out rfl
  have u10 : (((((((((((w1.setCell ⟨w.heap.size + 1, 0, none⟩ (.int .i64 0)).setCell ⟨w.heap.size + 1, 1, none⟩ (.int .i64 0)).setCell ⟨w.heap.size + 1, 2, none⟩ (.int .i64 0)).setCell ⟨w.heap.size + 1, 3, none⟩ (.int .i64 0)).setCell ⟨w.heap.size + 1, 4, none⟩ (.int .i64 0)).setCell ⟨w.heap.size + 1, 5, none⟩ (.int .i64 0)).setCell ⟨w.heap.size + 1, 6, none⟩ (.int .i64 0)).setCell ⟨w.heap.size + 1, 7, none⟩ (.int .i64 0)).setCell ⟨w.heap.size + 1, 8, none⟩ (.int .i64 0)).setCell ⟨w.heap.size + 1, 9, none⟩ (.int .i64 0)).setCell ⟨w.heap.size + 1, 10, none⟩ (.string ⟨#[]⟩)).cell? ⟨w.heap.size + 1, 10, none⟩ = some (.string ⟨#[]⟩) := by rw [hS]; exact fill_at (vs := [Value.int .i64 0, .int .i64 0, .int .i64 0, .int .i64 0, .int .i64 0, .int .i64 0, .int .i64 0, .int .i64 0, .int .i64 0, .int .i64 0, .string ⟨#[]⟩]) HI.out rfl
  refine bodyPost_ret (v := .tuple #[.agg #[.int .i64 0, .int .i64 0, .int .i64 0, .int .i64 0, .int .i64 0, .int .i64 0, .int .i64 0, .int .i64 0, .int .i64 0, .int .i64 0, .string ⟨#[]⟩], .int .i64 E]) ?_ rfl ⟨by first | rfl | rw [if_neg hG], HB.out⟩
  clear HB HI hS r0 r1 r2 r3 r4 r5 r6 r7 r8 r9 r10
  generalize (((((((((((w1.setCell ⟨w.heap.size + 1, 0, none⟩ (.int .i64 0)).setCell ⟨w.heap.size + 1, 1, none⟩ (.int .i64 0)).setCell ⟨w.heap.size + 1, 2, none⟩ (.int .i64 0)).setCell ⟨w.heap.size + 1, 3, none⟩ (.int .i64 0)).setCell ⟨w.heap.size + 1, 4, none⟩ (.int .i64 0)).setCell ⟨w.heap.size + 1, 5, none⟩ (.int .i64 0)).setCell ⟨w.heap.size + 1, 6, none⟩ (.int .i64 0)).setCell ⟨w.heap.size + 1, 7, none⟩ (.int .i64 0)).setCell ⟨w.heap.size + 1, 8, none⟩ (.int .i64 0)).setCell ⟨w.heap.size + 1, 9, none⟩ (.int .i64 0)).setCell ⟨w.heap.size + 1, 10, none⟩ (.string ⟨#[]⟩)) = W at *
  simp [results, Tryz.results12, go_sem, u0, u1, u2, u3, u4, u5, u6, u7, u8, u9, u10]
 ·have hG0 : G = 0 := by omega
  have hE : E = K := by rw [HE.out, if_pos hG0]
  subst hE
  subst hG0
  clear HE hG
  have hq1 : w.heap.size < w1.heap.size := by omega
  have hq2 : ¬ w.heap.size = w1.heap.size := by omega
  go_wp2_with fail
  obtain ⟨W2, hW2⟩ : ∃ W2, W2 = (w1.alloc (.cells #[.int .i64 i, .int .i64 dst, .int .i64 src, .int .i64 kind, .int .i64 ips, .int .i64 ipd, .int .i64 ttl, .int .i64 port, .int .i64 net, .int .i64 t] 39)).alloc (.cells #[.int .i64 i, .int .i64 dst, .int .i64 src, .int .i64 kind, .int .i64 ips, .int .i64 ipd, .int .i64 ttl, .int .i64 port, .int .i64 net, .int .i64 t, .string body] 41) := ⟨_, rfl⟩
  have k2 : Below w.heap.size w W2 := by rw [hW2]; exact (k1.alloc (by omega) _).alloc (by simp; omega) _
  have hz2 : W2.heap.size = w1.heap.size + 1 + 1 := by rw [hW2]; simp
  have p0 : W2.cell? ⟨w1.heap.size + 1, 0, none⟩ = some (.int .i64 i) := by rw [hW2]; exact new_cell _ _ (by simp) _ _ _ _ rfl
  have p1 : W2.cell? ⟨w1.heap.size + 1, 1, none⟩ = some (.int .i64 dst) := by rw [hW2]; exact new_cell _ _ (by simp) _ _ _ _ rfl
  have p2 : W2.cell? ⟨w1.heap.size + 1, 2, none⟩ = some (.int .i64 src) := by rw [hW2]; exact new_cell _ _ (by simp) _ _ _ _ rfl
  have p3 : W2.cell? ⟨w1.heap.size + 1, 3, none⟩ = some (.int .i64 kind) := by rw [hW2]; exact new_cell _ _ (by simp) _ _ _ _ rfl
  have p4 : W2.cell? ⟨w1.heap.size + 1, 4, none⟩ = some (.int .i64 ips) := by rw [hW2]; exact new_cell _ _ (by simp) _ _ _ _ rfl
  have p5 : W2.cell? ⟨w1.heap.size + 1, 5, none⟩ = some (.int .i64 ipd) := by rw [hW2]; exact new_cell _ _ (by simp) _ _ _ _ rfl
  have p6 : W2.cell? ⟨w1.heap.size + 1, 6, none⟩ = some (.int .i64 ttl) := by rw [hW2]; exact new_cell _ _ (by simp) _ _ _ _ rfl
  have p7 : W2.cell? ⟨w1.heap.size + 1, 7, none⟩ = some (.int .i64 port) := by rw [hW2]; exact new_cell _ _ (by simp) _ _ _ _ rfl
  have p8 : W2.cell? ⟨w1.heap.size + 1, 8, none⟩ = some (.int .i64 net) := by rw [hW2]; exact new_cell _ _ (by simp) _ _ _ _ rfl
  have p9 : W2.cell? ⟨w1.heap.size + 1, 9, none⟩ = some (.int .i64 t) := by rw [hW2]; exact new_cell _ _ (by simp) _ _ _ _ rfl
  have p10 : W2.cell? ⟨w1.heap.size + 1, 10, none⟩ = some (.string body) := by rw [hW2]; exact new_cell _ _ (by simp) _ _ _ _ rfl
  replace r0 : W2.cell? ⟨w.heap.size + 1, 0, none⟩ = some (.int .i64 0) := by rw [hW2]; exact old_cell (old_cell r0 _) _
  replace r1 : W2.cell? ⟨w.heap.size + 1, 1, none⟩ = some (.int .i64 0) := by rw [hW2]; exact old_cell (old_cell r1 _) _
  replace r2 : W2.cell? ⟨w.heap.size + 1, 2, none⟩ = some (.int .i64 0) := by rw [hW2]; exact old_cell (old_cell r2 _) _
  replace r3 : W2.cell? ⟨w.heap.size + 1, 3, none⟩ = some (.int .i64 0) := by rw [hW2]; exact old_cell (old_cell r3 _) _
  replace r4 : W2.cell? ⟨w.heap.size + 1, 4, none⟩ = some (.int .i64 0) := by rw [hW2]; exact old_cell (old_cell r4 _) _
  replace r5 : W2.cell? ⟨w.heap.size + 1, 5, none⟩ = some (.int .i64 0) := by rw [hW2]; exact old_cell (old_cell r5 _) _
  replace r6 : W2.cell? ⟨w.heap.size + 1, 6, none⟩ = some (.int .i64 0) := by rw [hW2]; exact old_cell (old_cell r6 _) _
  replace r7 : W2.cell? ⟨w.heap.size + 1, 7, none⟩ = some (.int .i64 0) := by rw [hW2]; exact old_cell (old_cell r7 _) _
  replace r8 : W2.cell? ⟨w.heap.size + 1, 8, none⟩ = some (.int .i64 0) := by rw [hW2]; exact old_cell (old_cell r8 _) _
  replace r9 : W2.cell? ⟨w.heap.size + 1, 9, none⟩ = some (.int .i64 0) := by rw [hW2]; exact old_cell (old_cell r9 _) _
  replace r10 : W2.cell? ⟨w.heap.size + 1, 10, none⟩ = some (.string ⟨#[]⟩) := by rw [hW2]; exact old_cell (old_cell r10 _) _
  replace z : ∀ j, W2.frozen? ⟨w.heap.size + 1, j, none⟩ = false := fun j => by rw [hW2, (((Below.refl w1.heap.size w1).alloc (Nat.le_refl _) _).alloc (by simp) _).frozen (p := ⟨w.heap.size + 1, j, none⟩) (by show w.heap.size + 1 < w1.heap.size; omega)]; exact z j
  rw [← hW2]
  clear hW2 k1 c0 c1 c2 c3 c4 c5 c6 c7
  refine (unhide H2 _).mono ?_
  rintro e w3 ⟨rfl, hb3⟩
  have k3 := k2.trans (hb3.mono k2.size)
  replace p0 := cb p0 hb3
  replace r0 := cb r0 hb3
  replace p1 := cb p1 hb3
  replace r1 := cb r1 hb3
  replace p2 := cb p2 hb3
  replace r2 := cb r2 hb3
  replace p3 := cb p3 hb3
  replace r3 := cb r3 hb3
  replace p4 := cb p4 hb3
  replace r4 := cb r4 hb3
  replace p5 := cb p5 hb3
  replace r5 := cb r5 hb3
  replace p6 := cb p6 hb3
  replace r6 := cb r6 hb3
  replace p7 := cb p7 hb3
  replace r7 := cb r7 hb3
  replace p8 := cb p8 hb3
  replace r8 := cb r8 hb3
  replace p9 := cb p9 hb3
  replace r9 := cb r9 hb3
  replace p10 := cb p10 hb3
  replace r10 := cb r10 hb3
  replace z : ∀ j, w3.frozen? ⟨w.heap.size + 1, j, none⟩ = false := fun j => (hb3.frozen (p := ⟨w.heap.size + 1, j, none⟩) (by show w.heap.size + 1 < W2.heap.size; omega)).trans (z j)
  have hne : ¬ w1.heap.size + 1 = w.heap.size + 1 := by omega
  clear hb3 k2 H2
  by_cases hK : ¬ E = 0
  ·clear p0 p1 p2 p3 p4 p5 p6 p7 p8 p9 p10
   go_wp2_with fail
   have hS : (((((((((((w3.setCell ⟨w.heap.size + 1, 0, none⟩ (.int .i64 0)).setCell ⟨w.heap.size + 1, 1, none⟩ (.int .i64 0)).setCell ⟨w.heap.size + 1, 2, none⟩ (.int .i64 0)).setCell ⟨w.heap.size + 1, 3, none⟩ (.int .i64 0)).setCell ⟨w.heap.size + 1, 4, none⟩ (.int .i64 0)).setCell ⟨w.heap.size + 1, 5, none⟩ (.int .i64 0)).setCell ⟨w.heap.size + 1, 6, none⟩ (.int .i64 0)).setCell ⟨w.heap.size + 1, 7, none⟩ (.int .i64 0)).setCell ⟨w.heap.size + 1, 8, none⟩ (.int .i64 0)).setCell ⟨w.heap.size + 1, 9, none⟩ (.int .i64 0)).setCell ⟨w.heap.size + 1, 10, none⟩ (.string ⟨#[]⟩)) = w3.setCells (w.heap.size + 1) 0 [Value.int .i64 0, .int .i64 0, .int .i64 0, .int .i64 0, .int .i64 0, .int .i64 0, .int .i64 0, .int .i64 0, .int .i64 0, .int .i64 0, .string ⟨#[]⟩] := rfl
   have HB : Hid (Below w.heap.size w (((((((((((w3.setCell ⟨w.heap.size + 1, 0, none⟩ (.int .i64 0)).setCell ⟨w.heap.size + 1, 1, none⟩ (.int .i64 0)).setCell ⟨w.heap.size + 1, 2, none⟩ (.int .i64 0)).setCell ⟨w.heap.size + 1, 3, none⟩ (.int .i64 0)).setCell ⟨w.heap.size + 1, 4, none⟩ (.int .i64 0)).setCell ⟨w.heap.size + 1, 5, none⟩ (.int .i64 0)).setCell ⟨w.heap.size + 1, 6, none⟩ (.int .i64 0)).setCell ⟨w.heap.size + 1, 7, none⟩ (.int .i64 0)).setCell ⟨w.heap.size + 1, 8, none⟩ (.int .i64 0)).setCell ⟨w.heap.size + 1, 9, none⟩ (.int .i64 0)).setCell ⟨w.heap.size + 1, 10, none⟩ (.string ⟨#[]⟩))) := by rw [hS]; exact fill_below (Nat.le_succ _) _ _ _ (k3)
   have HI : Hid (∀ j, j < 11 → (w3.cell? ⟨w.heap.size + 1, j, none⟩).isSome = true) := fun j hj => by
    have hc : j = 0 ∨ j = 1 ∨ j = 2 ∨ j = 3 ∨ j = 4 ∨ j = 5 ∨ j = 6 ∨ j = 7 ∨ j = 8 ∨ j = 9 ∨ j = 10 := by omega
    rcases hc with rfl | rfl | rfl | rfl | rfl | rfl | rfl | rfl | rfl | rfl | rfl
    ·rw [r0]; rfl
    ·rw [r1]; rfl
    ·rw [r2]; rfl
    ·rw [r3]; rfl
    ·rw [r4]; rfl
    ·rw [r5]; rfl
    ·rw [r6]; rfl
    ·rw [r7]; rfl
    ·rw [r8]; rfl
    ·rw [r9]; rfl
    ·rw [r10]; rfl
   have u0 : (((((((((((w3.setCell ⟨w.heap.size + 1, 0, none⟩ (.int .i64 0)).setCell ⟨w.heap.size + 1, 1, none⟩ (.int .i64 0)).setCell ⟨w.heap.size + 1, 2, none⟩ (.int .i64 0)).setCell ⟨w.heap.size + 1, 3, none⟩ (.int .i64 0)).setCell ⟨w.heap.size + 1, 4, none⟩ (.int .i64 0)).setCell ⟨w.heap.size + 1, 5, none⟩ (.int .i64 0)).setCell ⟨w.heap.size + 1, 6, none⟩ (.int .i64 0)).setCell ⟨w.heap.size + 1, 7, none⟩ (.int .i64 0)).setCell ⟨w.heap.size + 1, 8, none⟩ (.int .i64 0)).setCell ⟨w.heap.size + 1, 9, none⟩ (.int .i64 0)).setCell ⟨w.heap.size + 1, 10, none⟩ (.string ⟨#[]⟩)).cell? ⟨w.heap.size + 1, 0, none⟩ = some (.int .i64 0) := by rw [hS]; exact fill_at (vs := [Value.int .i64 0, .int .i64 0, .int .i64 0, .int .i64 0, .int .i64 0, .int .i64 0, .int .i64 0, .int .i64 0, .int .i64 0, .int .i64 0, .string ⟨#[]⟩]) HI.out rfl
   have u1 : (((((((((((w3.setCell ⟨w.heap.size + 1, 0, none⟩ (.int .i64 0)).setCell ⟨w.heap.size + 1, 1, none⟩ (.int .i64 0)).setCell ⟨w.heap.size + 1, 2, none⟩ (.int .i64 0)).setCell ⟨w.heap.size + 1, 3, none⟩ (.int .i64 0)).setCell ⟨w.heap.size + 1, 4, none⟩ (.int .i64 0)).setCell ⟨w.heap.size + 1, 5, none⟩ (.int .i64 0)).setCell ⟨w.heap.size + 1, 6, none⟩ (.int .i64 0)).setCell ⟨w.heap.size + 1, 7, none⟩ (.int .i64 0)).setCell ⟨w.heap.size + 1, 8, none⟩ (.int .i64 0)).setCell ⟨w.heap.size + 1, 9, none⟩ (.int .i64 0)).setCell ⟨w.heap.size + 1, 10, none⟩ (.string ⟨#[]⟩)).cell? ⟨w.heap.size + 1, 1, none⟩ = some (.int .i64 0) := by rw [hS]; exact fill_at (vs := [Value.int .i64 0, .int .i64 0, .int .i64 0, .int .i64 0, .int .i64 0, .int .i64 0, .int .i64 0, .int .i64 0, .int .i64 0, .int .i64 0, .string ⟨#[]⟩]) HI.out rfl
   have u2 : (((((((((((w3.setCell ⟨w.heap.size + 1, 0, none⟩ (.int .i64 0)).setCell ⟨w.heap.size + 1, 1, none⟩ (.int .i64 0)).setCell ⟨w.heap.size + 1, 2, none⟩ (.int .i64 0)).setCell ⟨w.heap.size + 1, 3, none⟩ (.int .i64 0)).setCell ⟨w.heap.size + 1, 4, none⟩ (.int .i64 0)).setCell ⟨w.heap.size + 1, 5, none⟩ (.int .i64 0)).setCell ⟨w.heap.size + 1, 6, none⟩ (.int .i64 0)).setCell ⟨w.heap.size + 1, 7, none⟩ (.int .i64 0)).setCell ⟨w.heap.size + 1, 8, none⟩ (.int .i64 0)).setCell ⟨w.heap.size + 1, 9, none⟩ (.int .i64 0)).setCell ⟨w.heap.size + 1, 10, none⟩ (.string ⟨#[]⟩)).cell? ⟨w.heap.size + 1, 2, none⟩ = some (.int .i64 0) := by rw [hS]; exact fill_at (vs := [Value.int .i64 0, .int .i64 0, .int .i64 0, .int .i64 0, .int .i64 0, .int .i64 0, .int .i64 0, .int .i64 0, .int .i64 0, .int .i64 0, .string ⟨#[]⟩]) HI.out rfl
   have u3 : (((((((((((w3.setCell ⟨w.heap.size + 1, 0, none⟩ (.int .i64 0)).setCell ⟨w.heap.size + 1, 1, none⟩ (.int .i64 0)).setCell ⟨w.heap.size + 1, 2, none⟩ (.int .i64 0)).setCell ⟨w.heap.size + 1, 3, none⟩ (.int .i64 0)).setCell ⟨w.heap.size + 1, 4, none⟩ (.int .i64 0)).setCell ⟨w.heap.size + 1, 5, none⟩ (.int .i64 0)).setCell ⟨w.heap.size + 1, 6, none⟩ (.int .i64 0)).setCell ⟨w.heap.size + 1, 7, none⟩ (.int .i64 0)).setCell ⟨w.heap.size + 1, 8, none⟩ (.int .i64 0)).setCell ⟨w.heap.size + 1, 9, none⟩ (.int .i64 0)).setCell ⟨w.heap.size + 1, 10, none⟩ (.string ⟨#[]⟩)).cell? ⟨w.heap.size + 1, 3, none⟩ = some (.int .i64 0) := by rw [hS]; exact fill_at (vs := [Value.int .i64 0, .int .i64 0, .int .i64 0, .int .i64 0, .int .i64 0, .int .i64 0, .int .i64 0, .int .i64 0, .int .i64 0, .int .i64 0, .string ⟨#[]⟩]) HI.out rfl
   have u4 : (((((((((((w3.setCell ⟨w.heap.size + 1, 0, none⟩ (.int .i64 0)).setCell ⟨w.heap.size + 1, 1, none⟩ (.int .i64 0)).setCell ⟨w.heap.size + 1, 2, none⟩ (.int .i64 0)).setCell ⟨w.heap.size + 1, 3, none⟩ (.int .i64 0)).setCell ⟨w.heap.size + 1, 4, none⟩ (.int .i64 0)).setCell ⟨w.heap.size + 1, 5, none⟩ (.int .i64 0)).setCell ⟨w.heap.size + 1, 6, none⟩ (.int .i64 0)).setCell ⟨w.heap.size + 1, 7, none⟩ (.int .i64 0)).setCell ⟨w.heap.size + 1, 8, none⟩ (.int .i64 0)).setCell ⟨w.heap.size + 1, 9, none⟩ (.int .i64 0)).setCell ⟨w.heap.size + 1, 10, none⟩ (.string ⟨#[]⟩)).cell? ⟨w.heap.size + 1, 4, none⟩ = some (.int .i64 0) := by rw [hS]; exact fill_at (vs := [Value.int .i64 0, .int .i64 0, .int .i64 0, .int .i64 0, .int .i64 0, .int .i64 0, .int .i64 0, .int .i64 0, .int .i64 0, .int .i64 0, .string ⟨#[]⟩]) HI.out rfl
   have u5 : (((((((((((w3.setCell ⟨w.heap.size + 1, 0, none⟩ (.int .i64 0)).setCell ⟨w.heap.size + 1, 1, none⟩ (.int .i64 0)).setCell ⟨w.heap.size + 1, 2, none⟩ (.int .i64 0)).setCell ⟨w.heap.size + 1, 3, none⟩ (.int .i64 0)).setCell ⟨w.heap.size + 1, 4, none⟩ (.int .i64 0)).setCell ⟨w.heap.size + 1, 5, none⟩ (.int .i64 0)).setCell ⟨w.heap.size + 1, 6, none⟩ (.int .i64 0)).setCell ⟨w.heap.size + 1, 7, none⟩ (.int .i64 0)).setCell ⟨w.heap.size + 1, 8, none⟩ (.int .i64 0)).setCell ⟨w.heap.size + 1, 9, none⟩ (.int .i64 0)).setCell ⟨w.heap.size + 1, 10, none⟩ (.string ⟨#[]⟩)).cell? ⟨w.heap.size + 1, 5, none⟩ = some (.int .i64 0) := by rw [hS]; exact fill_at (vs := [Value.int .i64 0, .int .i64 0, .int .i64 0, .int .i64 0, .int .i64 0, .int .i64 0, .int .i64 0, .int .i64 0, .int .i64 0, .int .i64 0, .string ⟨#[]⟩]) HI.out rfl
   have u6 : (((((((((((w3.setCell ⟨w.heap.size + 1, 0, none⟩ (.int .i64 0)).setCell ⟨w.heap.size + 1, 1, none⟩ (.int .i64 0)).setCell ⟨w.heap.size + 1, 2, none⟩ (.int .i64 0)).setCell ⟨w.heap.size + 1, 3, none⟩ (.int .i64 0)).setCell ⟨w.heap.size + 1, 4, none⟩ (.int .i64 0)).setCell ⟨w.heap.size + 1, 5, none⟩ (.int .i64 0)).setCell ⟨w.heap.size + 1, 6, none⟩ (.int .i64 0)).setCell ⟨w.heap.size + 1, 7, none⟩ (.int .i64 0)).setCell ⟨w.heap.size + 1, 8, none⟩ (.int .i64 0)).setCell ⟨w.heap.size + 1, 9, none⟩ (.int .i64 0)).setCell ⟨w.heap.size + 1, 10, none⟩ (.string ⟨#[]⟩)).cell? ⟨w.heap.size + 1, 6, none⟩ = some (.int .i64 0) := by rw [hS]; exact fill_at (vs := [Value.int .i64 0, .int .i64 0, .int .i64 0, .int .i64 0, .int .i64 0, .int .i64 0, .int .i64 0, .int .i64 0, .int .i64 0, .int .i64 0, .string ⟨#[]⟩]) HI.out rfl
   have u7 : (((((((((((w3.setCell ⟨w.heap.size + 1, 0, none⟩ (.int .i64 0)).setCell ⟨w.heap.size + 1, 1, none⟩ (.int .i64 0)).setCell ⟨w.heap.size + 1, 2, none⟩ (.int .i64 0)).setCell ⟨w.heap.size + 1, 3, none⟩ (.int .i64 0)).setCell ⟨w.heap.size + 1, 4, none⟩ (.int .i64 0)).setCell ⟨w.heap.size + 1, 5, none⟩ (.int .i64 0)).setCell ⟨w.heap.size + 1, 6, none⟩ (.int .i64 0)).setCell ⟨w.heap.size + 1, 7, none⟩ (.int .i64 0)).setCell ⟨w.heap.size + 1, 8, none⟩ (.int .i64 0)).setCell ⟨w.heap.size + 1, 9, none⟩ (.int .i64 0)).setCell ⟨w.heap.size + 1, 10, none⟩ (.string ⟨#[]⟩)).cell? ⟨w.heap.size + 1, 7, none⟩ = some (.int .i64 0) := by rw [hS]; exact fill_at (vs := [Value.int .i64 0, .int .i64 0, .int .i64 0, .int .i64 0, .int .i64 0, .int .i64 0, .int .i64 0, .int .i64 0, .int .i64 0, .int .i64 0, .string ⟨#[]⟩]) HI.out rfl
   have u8 : (((((((((((w3.setCell ⟨w.heap.size + 1, 0, none⟩ (.int .i64 0)).setCell ⟨w.heap.size + 1, 1, none⟩ (.int .i64 0)).setCell ⟨w.heap.size + 1, 2, none⟩ (.int .i64 0)).setCell ⟨w.heap.size + 1, 3, none⟩ (.int .i64 0)).setCell ⟨w.heap.size + 1, 4, none⟩ (.int .i64 0)).setCell ⟨w.heap.size + 1, 5, none⟩ (.int .i64 0)).setCell ⟨w.heap.size + 1, 6, none⟩ (.int .i64 0)).setCell ⟨w.heap.size + 1, 7, none⟩ (.int .i64 0)).setCell ⟨w.heap.size + 1, 8, none⟩ (.int .i64 0)).setCell ⟨w.heap.size + 1, 9, none⟩ (.int .i64 0)).setCell ⟨w.heap.size + 1, 10, none⟩ (.string ⟨#[]⟩)).cell? ⟨w.heap.size + 1, 8, none⟩ = some (.int .i64 0) := by rw [hS]; exact fill_at (vs := [Value.int .i64 0, .int .i64 0, .int .i64 0, .int .i64 0, .int .i64 0, .int .i64 0, .int .i64 0, .int .i64 0, .int .i64 0, .int .i64 0, .string ⟨#[]⟩]) HI.out rfl
   have u9 : (((((((((((w3.setCell ⟨w.heap.size + 1, 0, none⟩ (.int .i64 0)).setCell ⟨w.heap.size + 1, 1, none⟩ (.int .i64 0)).setCell ⟨w.heap.size + 1, 2, none⟩ (.int .i64 0)).setCell ⟨w.heap.size + 1, 3, none⟩ (.int .i64 0)).setCell ⟨w.heap.size + 1, 4, none⟩ (.int .i64 0)).setCell ⟨w.heap.size + 1, 5, none⟩ (.int .i64 0)).setCell ⟨w.heap.size + 1, 6, none⟩ (.int .i64 0)).setCell ⟨w.heap.size + 1, 7, none⟩ (.int .i64 0)).setCell ⟨w.heap.size + 1, 8, none⟩ (.int .i64 0)).setCell ⟨w.heap.size + 1, 9, none⟩ (.int .i64 0)).setCell ⟨w.heap.size + 1, 10, none⟩ (.string ⟨#[]⟩)).cell? ⟨w.heap.size + 1, 9, none⟩ = some (.int .i64 0) := by rw [hS]; exact fill_at (vs := [Value.int .i64 0, .int .i64 0, .int .i64 0, .int .i64 0, .int .i64 0, .int .i64 0, .int .i64 0, .int .i64 0, .int .i64 0, .int .i64 0, .string ⟨#[]⟩]) HI.out rfl
   have u10 : (((((((((((w3.setCell ⟨w.heap.size + 1, 0, none⟩ (.int .i64 0)).setCell ⟨w.heap.size + 1, 1, none⟩ (.int .i64 0)).setCell ⟨w.heap.size + 1, 2, none⟩ (.int .i64 0)).setCell ⟨w.heap.size + 1, 3, none⟩ (.int .i64 0)).setCell ⟨w.heap.size + 1, 4, none⟩ (.int .i64 0)).setCell ⟨w.heap.size + 1, 5, none⟩ (.int .i64 0)).setCell ⟨w.heap.size + 1, 6, none⟩ (.int .i64 0)).setCell ⟨w.heap.size + 1, 7, none⟩ (.int .i64 0)).setCell ⟨w.heap.size + 1, 8, none⟩ (.int .i64 0)).setCell ⟨w.heap.size + 1, 9, none⟩ (.int .i64 0)).setCell ⟨w.heap.size + 1, 10, none⟩ (.string ⟨#[]⟩)).cell? ⟨w.heap.size + 1, 10, none⟩ = some (.string ⟨#[]⟩) := by rw [hS]; exact fill_at (vs := [Value.int .i64 0, .int .i64 0, .int .i64 0, .int .i64 0, .int .i64 0, .int .i64 0, .int .i64 0, .int .i64 0, .int .i64 0, .int .i64 0, .string ⟨#[]⟩]) HI.out rfl
   refine bodyPost_ret (v := .tuple #[.agg #[.int .i64 0, .int .i64 0, .int .i64 0, .int .i64 0, .int .i64 0, .int .i64 0, .int .i64 0, .int .i64 0, .int .i64 0, .int .i64 0, .string ⟨#[]⟩], .int .i64 E]) ?_ rfl ⟨by first | rfl | rw [if_neg hK], HB.out⟩
   clear HB HI hS r0 r1 r2 r3 r4 r5 r6 r7 r8 r9 r10
   generalize (((((((((((w3.setCell ⟨w.heap.size + 1, 0, none⟩ (.int .i64 0)).setCell ⟨w.heap.size + 1, 1, none⟩ (.int .i64 0)).setCell ⟨w.heap.size + 1, 2, none⟩ (.int .i64 0)).setCell ⟨w.heap.size + 1, 3, none⟩ (.int .i64 0)).setCell ⟨w.heap.size + 1, 4, none⟩ (.int .i64 0)).setCell ⟨w.heap.size + 1, 5, none⟩ (.int .i64 0)).setCell ⟨w.heap.size + 1, 6, none⟩ (.int .i64 0)).setCell ⟨w.heap.size + 1, 7, none⟩ (.int .i64 0)).setCell ⟨w.heap.size + 1, 8, none⟩ (.int .i64 0)).setCell ⟨w.heap.size + 1, 9, none⟩ (.int .i64 0)).setCell ⟨w.heap.size + 1, 10, none⟩ (.string ⟨#[]⟩)) = W at *
   simp [results, Tryz.results12, go_sem, u0, u1, u2, u3, u4, u5, u6, u7, u8, u9, u10]
  ·have hK0 : E = 0 := by omega
   subst hK0
   clear hK
   go_wp2_with fail
   have hS : (((((((((((w3.setCell ⟨w.heap.size + 1, 0, none⟩ (.int .i64 i)).setCell ⟨w.heap.size + 1, 1, none⟩ (.int .i64 dst)).setCell ⟨w.heap.size + 1, 2, none⟩ (.int .i64 src)).setCell ⟨w.heap.size + 1, 3, none⟩ (.int .i64 kind)).setCell ⟨w.heap.size + 1, 4, none⟩ (.int .i64 ips)).setCell ⟨w.heap.size + 1, 5, none⟩ (.int .i64 ipd)).setCell ⟨w.heap.size + 1, 6, none⟩ (.int .i64 ttl)).setCell ⟨w.heap.size + 1, 7, none⟩ (.int .i64 port)).setCell ⟨w.heap.size + 1, 8, none⟩ (.int .i64 net)).setCell ⟨w.heap.size + 1, 9, none⟩ (.int .i64 t)).setCell ⟨w.heap.size + 1, 10, none⟩ (.string body)) = w3.setCells (w.heap.size + 1) 0 [Value.int .i64 i, .int .i64 dst, .int .i64 src, .int .i64 kind, .int .i64 ips, .int .i64 ipd, .int .i64 ttl, .int .i64 port, .int .i64 net, .int .i64 t, .string body] := rfl
   have HB : Hid (Below w.heap.size w (((((((((((w3.setCell ⟨w.heap.size + 1, 0, none⟩ (.int .i64 i)).setCell ⟨w.heap.size + 1, 1, none⟩ (.int .i64 dst)).setCell ⟨w.heap.size + 1, 2, none⟩ (.int .i64 src)).setCell ⟨w.heap.size + 1, 3, none⟩ (.int .i64 kind)).setCell ⟨w.heap.size + 1, 4, none⟩ (.int .i64 ips)).setCell ⟨w.heap.size + 1, 5, none⟩ (.int .i64 ipd)).setCell ⟨w.heap.size + 1, 6, none⟩ (.int .i64 ttl)).setCell ⟨w.heap.size + 1, 7, none⟩ (.int .i64 port)).setCell ⟨w.heap.size + 1, 8, none⟩ (.int .i64 net)).setCell ⟨w.heap.size + 1, 9, none⟩ (.int .i64 t)).setCell ⟨w.heap.size + 1, 10, none⟩ (.string body))) := by rw [hS]; exact fill_below (Nat.le_succ _) _ _ _ (k3)
   have HI : Hid (∀ j, j < 11 → (w3.cell? ⟨w.heap.size + 1, j, none⟩).isSome = true) := fun j hj => by
    have hc : j = 0 ∨ j = 1 ∨ j = 2 ∨ j = 3 ∨ j = 4 ∨ j = 5 ∨ j = 6 ∨ j = 7 ∨ j = 8 ∨ j = 9 ∨ j = 10 := by omega
    rcases hc with rfl | rfl | rfl | rfl | rfl | rfl | rfl | rfl | rfl | rfl | rfl
    ·rw [r0]; rfl
    ·rw [r1]; rfl
    ·rw [r2]; rfl
    ·rw [r3]; rfl
    ·rw [r4]; rfl
    ·rw [r5]; rfl
    ·rw [r6]; rfl
    ·rw [r7]; rfl
    ·rw [r8]; rfl
    ·rw [r9]; rfl
    ·rw [r10]; rfl
   have u0 : (((((((((((w3.setCell ⟨w.heap.size + 1, 0, none⟩ (.int .i64 i)).setCell ⟨w.heap.size + 1, 1, none⟩ (.int .i64 dst)).setCell ⟨w.heap.size + 1, 2, none⟩ (.int .i64 src)).setCell ⟨w.heap.size + 1, 3, none⟩ (.int .i64 kind)).setCell ⟨w.heap.size + 1, 4, none⟩ (.int .i64 ips)).setCell ⟨w.heap.size + 1, 5, none⟩ (.int .i64 ipd)).setCell ⟨w.heap.size + 1, 6, none⟩ (.int .i64 ttl)).setCell ⟨w.heap.size + 1, 7, none⟩ (.int .i64 port)).setCell ⟨w.heap.size + 1, 8, none⟩ (.int .i64 net)).setCell ⟨w.heap.size + 1, 9, none⟩ (.int .i64 t)).setCell ⟨w.heap.size + 1, 10, none⟩ (.string body)).cell? ⟨w.heap.size + 1, 0, none⟩ = some (.int .i64 i) := by rw [hS]; exact fill_at (vs := [Value.int .i64 i, .int .i64 dst, .int .i64 src, .int .i64 kind, .int .i64 ips, .int .i64 ipd, .int .i64 ttl, .int .i64 port, .int .i64 net, .int .i64 t, .string body]) HI.out rfl
   have u1 : (((((((((((w3.setCell ⟨w.heap.size + 1, 0, none⟩ (.int .i64 i)).setCell ⟨w.heap.size + 1, 1, none⟩ (.int .i64 dst)).setCell ⟨w.heap.size + 1, 2, none⟩ (.int .i64 src)).setCell ⟨w.heap.size + 1, 3, none⟩ (.int .i64 kind)).setCell ⟨w.heap.size + 1, 4, none⟩ (.int .i64 ips)).setCell ⟨w.heap.size + 1, 5, none⟩ (.int .i64 ipd)).setCell ⟨w.heap.size + 1, 6, none⟩ (.int .i64 ttl)).setCell ⟨w.heap.size + 1, 7, none⟩ (.int .i64 port)).setCell ⟨w.heap.size + 1, 8, none⟩ (.int .i64 net)).setCell ⟨w.heap.size + 1, 9, none⟩ (.int .i64 t)).setCell ⟨w.heap.size + 1, 10, none⟩ (.string body)).cell? ⟨w.heap.size + 1, 1, none⟩ = some (.int .i64 dst) := by rw [hS]; exact fill_at (vs := [Value.int .i64 i, .int .i64 dst, .int .i64 src, .int .i64 kind, .int .i64 ips, .int .i64 ipd, .int .i64 ttl, .int .i64 port, .int .i64 net, .int .i64 t, .string body]) HI.out rfl
   have u2 : (((((((((((w3.setCell ⟨w.heap.size + 1, 0, none⟩ (.int .i64 i)).setCell ⟨w.heap.size + 1, 1, none⟩ (.int .i64 dst)).setCell ⟨w.heap.size + 1, 2, none⟩ (.int .i64 src)).setCell ⟨w.heap.size + 1, 3, none⟩ (.int .i64 kind)).setCell ⟨w.heap.size + 1, 4, none⟩ (.int .i64 ips)).setCell ⟨w.heap.size + 1, 5, none⟩ (.int .i64 ipd)).setCell ⟨w.heap.size + 1, 6, none⟩ (.int .i64 ttl)).setCell ⟨w.heap.size + 1, 7, none⟩ (.int .i64 port)).setCell ⟨w.heap.size + 1, 8, none⟩ (.int .i64 net)).setCell ⟨w.heap.size + 1, 9, none⟩ (.int .i64 t)).setCell ⟨w.heap.size + 1, 10, none⟩ (.string body)).cell? ⟨w.heap.size + 1, 2, none⟩ = some (.int .i64 src) := by rw [hS]; exact fill_at (vs := [Value.int .i64 i, .int .i64 dst, .int .i64 src, .int .i64 kind, .int .i64 ips, .int .i64 ipd, .int .i64 ttl, .int .i64 port, .int .i64 net, .int .i64 t, .string body]) HI.out rfl
   have u3 : (((((((((((w3.setCell ⟨w.heap.size + 1, 0, none⟩ (.int .i64 i)).setCell ⟨w.heap.size + 1, 1, none⟩ (.int .i64 dst)).setCell ⟨w.heap.size + 1, 2, none⟩ (.int .i64 src)).setCell ⟨w.heap.size + 1, 3, none⟩ (.int .i64 kind)).setCell ⟨w.heap.size + 1, 4, none⟩ (.int .i64 ips)).setCell ⟨w.heap.size + 1, 5, none⟩ (.int .i64 ipd)).setCell ⟨w.heap.size + 1, 6, none⟩ (.int .i64 ttl)).setCell ⟨w.heap.size + 1, 7, none⟩ (.int .i64 port)).setCell ⟨w.heap.size + 1, 8, none⟩ (.int .i64 net)).setCell ⟨w.heap.size + 1, 9, none⟩ (.int .i64 t)).setCell ⟨w.heap.size + 1, 10, none⟩ (.string body)).cell? ⟨w.heap.size + 1, 3, none⟩ = some (.int .i64 kind) := by rw [hS]; exact fill_at (vs := [Value.int .i64 i, .int .i64 dst, .int .i64 src, .int .i64 kind, .int .i64 ips, .int .i64 ipd, .int .i64 ttl, .int .i64 port, .int .i64 net, .int .i64 t, .string body]) HI.out rfl
   have u4 : (((((((((((w3.setCell ⟨w.heap.size + 1, 0, none⟩ (.int .i64 i)).setCell ⟨w.heap.size + 1, 1, none⟩ (.int .i64 dst)).setCell ⟨w.heap.size + 1, 2, none⟩ (.int .i64 src)).setCell ⟨w.heap.size + 1, 3, none⟩ (.int .i64 kind)).setCell ⟨w.heap.size + 1, 4, none⟩ (.int .i64 ips)).setCell ⟨w.heap.size + 1, 5, none⟩ (.int .i64 ipd)).setCell ⟨w.heap.size + 1, 6, none⟩ (.int .i64 ttl)).setCell ⟨w.heap.size + 1, 7, none⟩ (.int .i64 port)).setCell ⟨w.heap.size + 1, 8, none⟩ (.int .i64 net)).setCell ⟨w.heap.size + 1, 9, none⟩ (.int .i64 t)).setCell ⟨w.heap.size + 1, 10, none⟩ (.string body)).cell? ⟨w.heap.size + 1, 4, none⟩ = some (.int .i64 ips) := by rw [hS]; exact fill_at (vs := [Value.int .i64 i, .int .i64 dst, .int .i64 src, .int .i64 kind, .int .i64 ips, .int .i64 ipd, .int .i64 ttl, .int .i64 port, .int .i64 net, .int .i64 t, .string body]) HI.out rfl
   have u5 : (((((((((((w3.setCell ⟨w.heap.size + 1, 0, none⟩ (.int .i64 i)).setCell ⟨w.heap.size + 1, 1, none⟩ (.int .i64 dst)).setCell ⟨w.heap.size + 1, 2, none⟩ (.int .i64 src)).setCell ⟨w.heap.size + 1, 3, none⟩ (.int .i64 kind)).setCell ⟨w.heap.size + 1, 4, none⟩ (.int .i64 ips)).setCell ⟨w.heap.size + 1, 5, none⟩ (.int .i64 ipd)).setCell ⟨w.heap.size + 1, 6, none⟩ (.int .i64 ttl)).setCell ⟨w.heap.size + 1, 7, none⟩ (.int .i64 port)).setCell ⟨w.heap.size + 1, 8, none⟩ (.int .i64 net)).setCell ⟨w.heap.size + 1, 9, none⟩ (.int .i64 t)).setCell ⟨w.heap.size + 1, 10, none⟩ (.string body)).cell? ⟨w.heap.size + 1, 5, none⟩ = some (.int .i64 ipd) := by rw [hS]; exact fill_at (vs := [Value.int .i64 i, .int .i64 dst, .int .i64 src, .int .i64 kind, .int .i64 ips, .int .i64 ipd, .int .i64 ttl, .int .i64 port, .int .i64 net, .int .i64 t, .string body]) HI.out rfl
   have u6 : (((((((((((w3.setCell ⟨w.heap.size + 1, 0, none⟩ (.int .i64 i)).setCell ⟨w.heap.size + 1, 1, none⟩ (.int .i64 dst)).setCell ⟨w.heap.size + 1, 2, none⟩ (.int .i64 src)).setCell ⟨w.heap.size + 1, 3, none⟩ (.int .i64 kind)).setCell ⟨w.heap.size + 1, 4, none⟩ (.int .i64 ips)).setCell ⟨w.heap.size + 1, 5, none⟩ (.int .i64 ipd)).setCell ⟨w.heap.size + 1, 6, none⟩ (.int .i64 ttl)).setCell ⟨w.heap.size + 1, 7, none⟩ (.int .i64 port)).setCell ⟨w.heap.size + 1, 8, none⟩ (.int .i64 net)).setCell ⟨w.heap.size + 1, 9, none⟩ (.int .i64 t)).setCell ⟨w.heap.size + 1, 10, none⟩ (.string body)).cell? ⟨w.heap.size + 1, 6, none⟩ = some (.int .i64 ttl) := by rw [hS]; exact fill_at (vs := [Value.int .i64 i, .int .i64 dst, .int .i64 src, .int .i64 kind, .int .i64 ips, .int .i64 ipd, .int .i64 ttl, .int .i64 port, .int .i64 net, .int .i64 t, .string body]) HI.out rfl
   have u7 : (((((((((((w3.setCell ⟨w.heap.size + 1, 0, none⟩ (.int .i64 i)).setCell ⟨w.heap.size + 1, 1, none⟩ (.int .i64 dst)).setCell ⟨w.heap.size + 1, 2, none⟩ (.int .i64 src)).setCell ⟨w.heap.size + 1, 3, none⟩ (.int .i64 kind)).setCell ⟨w.heap.size + 1, 4, none⟩ (.int .i64 ips)).setCell ⟨w.heap.size + 1, 5, none⟩ (.int .i64 ipd)).setCell ⟨w.heap.size + 1, 6, none⟩ (.int .i64 ttl)).setCell ⟨w.heap.size + 1, 7, none⟩ (.int .i64 port)).setCell ⟨w.heap.size + 1, 8, none⟩ (.int .i64 net)).setCell ⟨w.heap.size + 1, 9, none⟩ (.int .i64 t)).setCell ⟨w.heap.size + 1, 10, none⟩ (.string body)).cell? ⟨w.heap.size + 1, 7, none⟩ = some (.int .i64 port) := by rw [hS]; exact fill_at (vs := [Value.int .i64 i, .int .i64 dst, .int .i64 src, .int .i64 kind, .int .i64 ips, .int .i64 ipd, .int .i64 ttl, .int .i64 port, .int .i64 net, .int .i64 t, .string body]) HI.out rfl
   have u8 : (((((((((((w3.setCell ⟨w.heap.size + 1, 0, none⟩ (.int .i64 i)).setCell ⟨w.heap.size + 1, 1, none⟩ (.int .i64 dst)).setCell ⟨w.heap.size + 1, 2, none⟩ (.int .i64 src)).setCell ⟨w.heap.size + 1, 3, none⟩ (.int .i64 kind)).setCell ⟨w.heap.size + 1, 4, none⟩ (.int .i64 ips)).setCell ⟨w.heap.size + 1, 5, none⟩ (.int .i64 ipd)).setCell ⟨w.heap.size + 1, 6, none⟩ (.int .i64 ttl)).setCell ⟨w.heap.size + 1, 7, none⟩ (.int .i64 port)).setCell ⟨w.heap.size + 1, 8, none⟩ (.int .i64 net)).setCell ⟨w.heap.size + 1, 9, none⟩ (.int .i64 t)).setCell ⟨w.heap.size + 1, 10, none⟩ (.string body)).cell? ⟨w.heap.size + 1, 8, none⟩ = some (.int .i64 net) := by rw [hS]; exact fill_at (vs := [Value.int .i64 i, .int .i64 dst, .int .i64 src, .int .i64 kind, .int .i64 ips, .int .i64 ipd, .int .i64 ttl, .int .i64 port, .int .i64 net, .int .i64 t, .string body]) HI.out rfl
   have u9 : (((((((((((w3.setCell ⟨w.heap.size + 1, 0, none⟩ (.int .i64 i)).setCell ⟨w.heap.size + 1, 1, none⟩ (.int .i64 dst)).setCell ⟨w.heap.size + 1, 2, none⟩ (.int .i64 src)).setCell ⟨w.heap.size + 1, 3, none⟩ (.int .i64 kind)).setCell ⟨w.heap.size + 1, 4, none⟩ (.int .i64 ips)).setCell ⟨w.heap.size + 1, 5, none⟩ (.int .i64 ipd)).setCell ⟨w.heap.size + 1, 6, none⟩ (.int .i64 ttl)).setCell ⟨w.heap.size + 1, 7, none⟩ (.int .i64 port)).setCell ⟨w.heap.size + 1, 8, none⟩ (.int .i64 net)).setCell ⟨w.heap.size + 1, 9, none⟩ (.int .i64 t)).setCell ⟨w.heap.size + 1, 10, none⟩ (.string body)).cell? ⟨w.heap.size + 1, 9, none⟩ = some (.int .i64 t) := by rw [hS]; exact fill_at (vs := [Value.int .i64 i, .int .i64 dst, .int .i64 src, .int .i64 kind, .int .i64 ips, .int .i64 ipd, .int .i64 ttl, .int .i64 port, .int .i64 net, .int .i64 t, .string body]) HI.out rfl
   have u10 : (((((((((((w3.setCell ⟨w.heap.size + 1, 0, none⟩ (.int .i64 i)).setCell ⟨w.heap.size + 1, 1, none⟩ (.int .i64 dst)).setCell ⟨w.heap.size + 1, 2, none⟩ (.int .i64 src)).setCell ⟨w.heap.size + 1, 3, none⟩ (.int .i64 kind)).setCell ⟨w.heap.size + 1, 4, none⟩ (.int .i64 ips)).setCell ⟨w.heap.size + 1, 5, none⟩ (.int .i64 ipd)).setCell ⟨w.heap.size + 1, 6, none⟩ (.int .i64 ttl)).setCell ⟨w.heap.size + 1, 7, none⟩ (.int .i64 port)).setCell ⟨w.heap.size + 1, 8, none⟩ (.int .i64 net)).setCell ⟨w.heap.size + 1, 9, none⟩ (.int .i64 t)).setCell ⟨w.heap.size + 1, 10, none⟩ (.string body)).cell? ⟨w.heap.size + 1, 10, none⟩ = some (.string body) := by rw [hS]; exact fill_at (vs := [Value.int .i64 i, .int .i64 dst, .int .i64 src, .int .i64 kind, .int .i64 ips, .int .i64 ipd, .int .i64 ttl, .int .i64 port, .int .i64 net, .int .i64 t, .string body]) HI.out rfl
   refine bodyPost_ret (v := .tuple #[.agg #[.int .i64 i, .int .i64 dst, .int .i64 src, .int .i64 kind, .int .i64 ips, .int .i64 ipd, .int .i64 ttl, .int .i64 port, .int .i64 net, .int .i64 t, .string body], .int .i64 0]) ?_ rfl ⟨rfl, HB.out⟩
   clear HB HI hS r0 r1 r2 r3 r4 r5 r6 r7 r8 r9 r10
   generalize (((((((((((w3.setCell ⟨w.heap.size + 1, 0, none⟩ (.int .i64 i)).setCell ⟨w.heap.size + 1, 1, none⟩ (.int .i64 dst)).setCell ⟨w.heap.size + 1, 2, none⟩ (.int .i64 src)).setCell ⟨w.heap.size + 1, 3, none⟩ (.int .i64 kind)).setCell ⟨w.heap.size + 1, 4, none⟩ (.int .i64 ips)).setCell ⟨w.heap.size + 1, 5, none⟩ (.int .i64 ipd)).setCell ⟨w.heap.size + 1, 6, none⟩ (.int .i64 ttl)).setCell ⟨w.heap.size + 1, 7, none⟩ (.int .i64 port)).setCell ⟨w.heap.size + 1, 8, none⟩ (.int .i64 net)).setCell ⟨w.heap.size + 1, 9, none⟩ (.int .i64 t)).setCell ⟨w.heap.size + 1, 10, none⟩ (.string body)) = W at *
   simp [results, Tryz.results12, go_sem, u0, u1, u2, u3, u4, u5, u6, u7, u8, u9, u10]
end Go.Proofs.YtncdininppehkaaGreat

namespace Go.Proofs.YtncdininppehkaaGreat
open Go.RowKit
set_option linter.unusedVariables false
set_option maxRecDepth 100000
set_option maxHeartbeats 1000000 in
theorem sum_any (b off len cap : Nat) (xs : List Int) (w : World) (hl : xs.length = len) (hx : Bs xs) (hs : len ≤ 100) (hlc : len ≤ cap)
  (hcell : ∀ i, i < len → w.cell? ⟨b, off + i, none⟩ = some (.int .u8 (xs.getD i 0))) :
  Calls Tryz.prog 208 #[.slice (some ⟨b, off, none⟩) len cap] w fun e w' => e = .returned (.int .i64 (sm xs)) ∧ w' = w := by
 go_enter Tryz.func208, Tryz.ntmps208
 go_wp2
 go_loop [3, 8] (fun t i => ∃ k : Nat, k ≤ len ∧ i = .int .i64 k ∧ t = .int .i64 (tot xs k)) (fun _ i => len - (intOf i).toNat)
 case atStart => exact ⟨0, Nat.zero_le _, rfl, rfl⟩
 case round =>
  obtain ⟨k, hk, rfl, rfl⟩ := hrel
  have ht := tot_bd hx k
  by_cases hlt : k < len
  ·have hc := hcell k hlt
   have hb := hx.at k
   have HT : Hid (tot xs (k + 1) = tot xs k + wt k (xs.getD k 0)) := rfl
   clear hcell
   generalize xs.getD k 0 = c at hc hb HT
   obtain ⟨hb0, hb1⟩ := hb
   obtain ⟨ht0, ht1⟩ := ht
   rcases Nat.mod_two_eq_zero_or_one k with hm | hm
   ·have hm' : ((k : Int) % 2 == 0) = true := by simp; omega
    go_wp2
    go_round
    case rel => exact ⟨k + 1, by omega, by go_num, by rw [HT.out]; unfold wt; rw [if_pos hm]; go_num⟩
    case measure => simp [intOf]; omega
   ·have hm' : ((k : Int) % 2 == 0) = false := by simp; omega
    go_wp2
    go_round
    case rel => exact ⟨k + 1, by omega, by go_num, by rw [HT.out]; unfold wt; rw [if_neg (by omega)]⟩
    case measure => simp [intOf]; omega
  ·have hkl : k = xs.length := by omega
   have HS : Hid (sm xs = 65535 - norm (tot xs k)) := by show _ = _; unfold sm; rw [hkl]
   have hT2 : tot xs k ≤ 6528000 := by omega
   obtain ⟨ht0, ht1⟩ := ht
   clear hcell hkl ht1 hx
   generalize tot xs k = T at *
   go_wp2
   go_loop [3] (fun t => ∃ S : Int, 0 ≤ S ∧ S ≤ 6528000 ∧ t = .int .i64 S ∧ norm S = norm T) (fun t => (intOf t).toNat)
   case atStart => exact ⟨T, ht0, hT2, rfl, rfl⟩
   case round =>
    obtain ⟨S, hS0, hS1, rfl, hN⟩ := hrel
    have HN : Hid (norm S = norm T) := hN
    clear hN
    by_cases hgt : 65535 < S
    ·go_wp2
     go_round
     case rel => exact ⟨S % 65536 + S / 65536, by omega, by omega, by go_num, by rw [norm_carry S hgt]; exact HN.out⟩
     case measure => simp [intOf]; omega
    ·go_wp2
     go_ret
     exact ⟨int_ret (by rw [HS.out, ← HN.out, norm_small S hS0 (by omega)]), rfl⟩
theorem infoByte : (Tryz.prog.info? 5).map (fun i => (i.zero, i.size, i.bytes)) = some (some (.int .u8 0), 1, 1) := by kernel_rfl
set_option maxHeartbeats 1000000 in
theorem appendWord_any (B : Nat) (v : Value) (xs : List Int) (x : Int) (w : World) (hown : w.ownsRow B 5 1 v xs.length (U xs)) (hx0 : 0 ≤ x) (hx1 : x ≤ 65535) (hl : xs.length ≤ 1000) (hB : B ≤ w.heap.size) :
  Calls Tryz.prog 200 #[v, .int .i64 x] w fun e w' => ∃ v', e = .returned v' ∧ w'.ownsRow B 5 1 v' (xs ++ word x).length (U (xs ++ word x)) ∧ Below B w w' := by
 obtain ⟨i0, hi, hz0, hz1, hz2⟩ := info_parts infoByte
 go_enter Tryz.func200, Tryz.ntmps200
 go_wp2_with (at_builtin; refine wpList_append_own _ rfl _ _ 214 rfl B 5 i0 (.int .u8 0) 1 1 Tryz.underlying214 hi hz0 hz1 hz2 rfl (by decide) _ _ _ rfl (hown.alloc _) ⟨w.heap.size, 0, none⟩ 2 2 (U (word x)) rfl rfl ?c1 ?c2 ?c3 ?c4 ?c5 ?_)
 case c1 =>
  intro j u hj
  match j, hj with
  | 0, hj => simp [U, word] at hj; subst hj; simp [Addr.add]
  | 1, hj => simp [U, word] at hj; subst hj; simp [Addr.add]
 case c2 => exact U_one _
 case c3 => unfold maxLen; omega
 case c4 => omega
 case c5 => simp; omega
 intro v' w1 hown' hgrow _
 have hbel : Below B w w1 := ((Below.refl B w).alloc hB _).grown hgrow (by simp; omega) (own_ge hown)
 have hown2 : w1.ownsRow B 5 1 v' (xs ++ word x).length (U (xs ++ word x)) := by rw [U_append, List.length_append]; exact hown'
 clear hown' hgrow hown
 go_wp2
 go_ret
 exact ⟨v', rfl, hown2, hbel⟩
end Go.Proofs.YtncdininppehkaaGreat

namespace Go.Proofs.YtncdininppehkaaGreat
open Go.RowKit
set_option linter.unusedVariables false
set_option maxRecDepth 100000
theorem wrap_i64_small (n : Int) (h0 : 0 ≤ n) (h1 : n < 2 ^ 16) : IntKind.i64.wrap n = n := by
 simp [IntKind.wrap, IntKind.bits, IntKind.signed]
 split <;> omega
theorem or_word (p q : Int) (h0 : 0 ≤ p) (h1 : p ≤ 255) (h2 : 0 ≤ q) (h3 : q ≤ 255) : bits .or .i64 (p * 256) q = p * 256 + q :=
 bits_join .i64 16 (by decide) wrap_i64_small 8 (p * 256) q (by omega) (by omega) (by omega) h2 (by omega) (by omega)
def Lies (w : World) (b off : Nat) (xs : List Int) : Prop := ∀ i, i < xs.length → w.cell? ⟨b, off + i, none⟩ = some (.int .u8 (xs.getD i 0))
def bt (xs : List Int) (i : Nat) : Int := xs.getD i 0
def wd (xs : List Int) (i : Nat) : Int := xs.getD i 0 * 256 + xs.getD (i + 1) 0
set_option maxHeartbeats 1000000 in
theorem wordAt_any (b off len cap : Nat) (xs : List Int) (i : Int) (w : World) (hl : xs.length = len) (hx : Bs xs) (hm : len ≤ 140737488355328) (hlc : len ≤ cap) (hL : Lies w b off xs) (h0 : 0 ≤ i) (h1 : i + 1 < len) :
  Calls Tryz.prog 202 #[.slice (some ⟨b, off, none⟩) len cap, .int .i64 i] w fun e w' => e = .returned (.int .i64 (wd xs i.toNat)) ∧ ∃ n, w' = w.drewN n := by
 have c0 := hL i.toNat (by omega)
 have c1 := hL (i + 1).toNat (by omega)
 have b0 := hx.at i.toNat
 have b1 := hx.at (i + 1).toNat
 have HW : Hid (wd xs i.toNat = xs.getD i.toNat 0 * 256 + xs.getD (i + 1).toNat 0) := by show _ = _; unfold wd; rw [show (i + 1).toNat = i.toNat + 1 by omega]
 generalize xs.getD i.toNat 0 = p at c0 b0 HW
 generalize xs.getD (i + 1).toNat 0 = q at c1 b1 HW
 obtain ⟨p0, p1⟩ := b0
 obtain ⟨q0, q1⟩ := b1
 have hor := or_word p q p0 p1 q0 q1
 clear hL hx hl
 have h2 : i < len := by omega
 go_enter Tryz.func202, Tryz.ntmps202
 go_wp2
 go_quiet (fail)
 go_wp2
 go_ret
 exact ⟨int_ret HW.out.symm, _, rfl⟩
theorem Lies.drewN {w : World} {b off : Nat} {xs : List Int} (h : Lies w b off xs) (n : Nat) : Lies (w.drewN n) b off xs := fun i hi => by
 have := h i hi
 simpa using this
theorem Lies.take {w : World} {b off : Nat} {xs : List Int} (h : Lies w b off xs) (k : Nat) : Lies w b off (xs.take k) := fun i hi => by
 have hk : i < k ∧ i < xs.length := by rw [List.length_take] at hi; omega
 rw [h i hk.2]
 simp [hk.1]
set_option maxHeartbeats 1000000 in
theorem bodySize_any (b off len cap : Nat) (xs : List Int) (w : World) (hl : xs.length = len) (hx : Bs xs) (hm : len ≤ 140737488355328) (hlc : len ≤ cap) (hL : Lies w b off xs) (h1 : 16 ≤ len) :
  Calls Tryz.prog 213 #[.slice (some ⟨b, off, none⟩) len cap] w fun e w' => e = .returned (.int .i64 (wd xs 12)) ∧ ∃ n, w' = w.drewN n := by
 go_enter Tryz.func213, Tryz.ntmps213
 go_wp2_with fail
 refine (wordAt_any b off len cap xs 12 _ hl hx hm hlc hL (by omega) (by omega)).mono ?_
 rintro e w' ⟨rfl, n, rfl⟩
 go_wp2_with fail
 go_ret
 exact ⟨rfl, n, rfl⟩
def chk (xs : List Int) : Int :=
 if xs.length < 16 then 5 else if 40 < wd xs 12 then 1 else if (xs.length : Int) < 16 + wd xs 12 then 5 else if 16 + wd xs 12 < (xs.length : Int) then 4 else
  if wd xs (14 + (wd xs 12).toNat) ≠ sm (xs.take (14 + (wd xs 12).toNat)) then 10 else 0
theorem wd_bd {xs : List Int} (hx : Bs xs) (i : Nat) : 0 ≤ wd xs i ∧ wd xs i ≤ 65535 := by
 have h1 := hx.at i
 have h2 := hx.at (i + 1)
 unfold wd; omega
set_option maxHeartbeats 1000000 in
theorem checkBytes_short (a : Option Addr) (len cap : Nat) (w : World) (h : len < 16) :
  Calls Tryz.prog 209 #[.slice a len cap] w fun e w' => e = .returned (.int .i64 5) ∧ w' = w := by
 go_enter Tryz.func209, Tryz.ntmps209
 go_wp2
 go_ret
 exact ⟨rfl, rfl⟩
set_option maxHeartbeats 1000000 in
theorem checkBytes_any (b off len cap : Nat) (xs : List Int) (w : World) (hl : xs.length = len) (hx : Bs xs) (hm : len ≤ 140737488355328) (hlc : len ≤ cap) (hL : Lies w b off xs) (h1 : 16 ≤ len) :
  Calls Tryz.prog 209 #[.slice (some ⟨b, off, none⟩) len cap] w fun e w' => e = .returned (.int .i64 (chk xs)) ∧ ∃ n, w' = w.drewN n := by
 have hw := wd_bd hx 12
 have HCK : Hid (chk xs = if 40 < wd xs 12 then 1 else if (len : Int) < 16 + wd xs 12 then 5 else if 16 + wd xs 12 < (len : Int) then 4 else
  if wd xs (14 + (wd xs 12).toNat) ≠ sm (xs.take (14 + (wd xs 12).toNat)) then 10 else 0) := by
  show _ = _
  unfold chk
  rw [if_neg (by omega), hl]
 have HB := hide (fun w' (h : Lies w' b off xs) => bodySize_any b off len cap xs w' hl hx hm hlc h h1)
 obtain ⟨n, hn⟩ := Int.eq_ofNat_of_zero_le hw.1
 have hnb : n ≤ 65535 := by omega
 rw [hn] at HCK HB
 rw [Int.toNat_natCast] at HCK
 clear hw
 go_enter Tryz.func209, Tryz.ntmps209
 go_wp2_with fail
 refine (unhide HB _ hL).mono ?_
 rintro e w' ⟨rfl, m, rfl⟩
 have hL1 := hL.drewN m
 clear HB hL hn
 by_cases c1 : 40 < n
 ·go_wp2
  go_ret
  exact ⟨int_ret (by rw [HCK.out, if_pos (by omega)]), m, rfl⟩
 ·by_cases c2 : len < 16 + n
  ·go_wp2
   go_ret
   exact ⟨int_ret (by rw [HCK.out, if_neg (by omega), if_pos (by omega)]), m, rfl⟩
  ·by_cases c3 : 16 + n < len
   ·go_wp2
    go_ret
    exact ⟨int_ret (by rw [HCK.out, if_neg (by omega), if_neg (by omega), if_pos (by omega)]), m, rfl⟩
   ·have hT : (xs.take (14 + n)).length = 14 + n := by simp; omega
    have HT := hide hT
    clear hT
    have hT1 : 14 + n ≤ cap := by omega
    obtain ⟨w1, hw1⟩ : ∃ w1, w1 = w.drewN m := ⟨_, rfl⟩
    rw [← hw1] at hL1 ⊢
    have HW1 := hide hw1
    clear hw1
    go_wp2_with fail
    go_quiet ((first | (go_at_call 202; exact Calls.quiet_of (wordAt_any b off len cap xs _ _ hl hx hm hlc (hL1.drewN _) (by omega) (by omega))) | (go_at_call 208; exact Calls.quiet_of_same (sum_any b off (14 + n) cap (xs.take (14 + n)) _ HT.out (hx.take _) (by omega) hT1 (fun i hi => ((hL1.take (14 + n)).drewN _) i (by rw [HT.out]; exact hi))))))
    have hck : chk xs = if wd xs (14 + n) ≠ sm (xs.take (14 + n)) then 10 else 0 := by rw [HCK.out, if_neg (by omega), if_neg (by omega), if_neg (by omega)]
    have HK := hide hck
    clear hck HCK
    generalize wd xs (14 + n) = p at *
    generalize sm (xs.take (14 + n)) = q at *
    by_cases hpq : p = q
    ·have hne : (p != q) = false := by simpa using hpq
     go_wp2
     go_ret
     exact ⟨int_ret (by rw [HK.out, if_neg (by simpa using hpq)]), m + nq, by rw [HW1.out, World.drewN_drewN]⟩
    ·have hne : (p != q) = true := by simpa using hpq
     go_wp2
     go_ret
     exact ⟨int_ret (by rw [HK.out, if_pos hpq]), m + nq, by rw [HW1.out, World.drewN_drewN]⟩
end Go.Proofs.YtncdininppehkaaGreat

namespace Go.Proofs.YtncdininppehkaaGreat
open Go.RowKit
set_option linter.unusedVariables false
set_option maxRecDepth 100000
theorem Lies.lt {w : World} {b off : Nat} {xs : List Int} (h : Lies w b off xs) (h0 : 0 < xs.length) : b < w.heap.size := by
 have := h 0 h0
 rcases Nat.lt_or_ge b w.heap.size with h' | h'
 ·exact h'
 ·simp [World.cell?, Array.getElem?_eq_none h'] at this
theorem Lies.below {w w' : World} {b off B : Nat} {xs : List Int} (h : Lies w b off xs) (hb : Below B w w') (hB : b < B) : Lies w' b off xs := fun i hi => (hb.cell (p := ⟨b, off + i, none⟩) hB).trans (h i hi)
theorem lies_drewN (w : World) (b off : Nat) (xs : List Int) (n : Nat) : Lies (w.drewN n) b off xs ↔ Lies w b off xs := by
 constructor
 ·intro h i hi; have := h i hi; simpa using this
 ·intro h; exact h.drewN n
theorem lies_drew (w : World) (b off : Nat) (xs : List Int) : Lies w.drew b off xs ↔ Lies w b off xs := by
 constructor
 ·intro h i hi; have := h i hi; simpa using this
 ·intro h i hi; have := h i hi; simpa using this
theorem lies_alloc (w : World) (o : Obj) (b off : Nat) (xs : List Int) (h : b < w.heap.size) : Lies (w.alloc o) b off xs ↔ Lies w b off xs := by
 have hb : Below w.heap.size w (w.alloc o) := (Below.refl _ w).alloc (Nat.le_refl _) o
 constructor
 ·intro hL i hi; rw [← hb.cell (p := ⟨b, off + i, none⟩) h]; exact hL i hi
 ·intro hL; exact hL.below hb h
theorem cell_set_ne (w : World) (a : Addr) (v : Value) (b o : Nat) (h : ¬ b = a.block) : (w.setCell a v).cell? ⟨b, o, none⟩ = w.cell? ⟨b, o, none⟩ :=
 World.cell?_of_block (w := w) (Below.heap_setCell w a v b h)
theorem lies_set_ne (w : World) (a : Addr) (v : Value) (b off : Nat) (xs : List Int) (h : ¬ b = a.block) : Lies (w.setCell a v) b off xs ↔ Lies w b off xs := by
 constructor
 ·intro hL i hi; rw [← cell_set_ne w a v b _ h]; exact hL i hi
 ·intro hL i hi; rw [cell_set_ne w a v b _ h]; exact hL i hi
def bodyOf (xs : List Int) (n : Nat) : ByteArray := strOfNums ((xs.drop 14).take n)
theorem bodyOf_size (xs : List Int) (n : Nat) (h : 14 + n ≤ xs.length) : (bodyOf xs n).size = n := by
 unfold bodyOf; rw [strOfNums_size]; simp; omega
theorem conv_body (b off cap n : Nat) (xs : List Int) (hn : 14 + n ≤ xs.length) (w : World) (hL : Lies w b off xs) :
  (convert 214 9 (.slice (some ⟨b, off + 14, none⟩) n cap)).run Tryz.prog w = .ok (.string (bodyOf xs n)) w :=
 run_convert_bytes_arg w 214 5 Tryz.underlying214 Tryz.underlying5 b (off + 14) n cap ((xs.drop 14).take n) (by simp; omega) (fun i hi => by
  rw [show off + 14 + i = off + (14 + i) by omega, hL (14 + i) (by omega)]
  simp [hi]) 9 Tryz.underlying9
abbrev told (xs : List Int) (n : Nat) : Value := fr (wd xs 0) (wd xs 2) (bt xs 4) (wd xs 6) (wd xs 8) (bt xs 5) (wd xs 10) (bodyOf xs n)
set_option maxHeartbeats 2000000 in
theorem parse_any (b off len cap n : Nat) (xs : List Int) (w : World) (hl : xs.length = len) (hx : Bs xs) (hm : len ≤ 140737488355328) (hlc : len ≤ cap) (hL : Lies w b off xs) (hn : wd xs 12 = n) (h1 : 16 + n = len) (h40 : n ≤ 40) :
  Calls Tryz.prog 210 #[.slice (some ⟨b, off, none⟩) len cap] w fun e w' => e = .returned (told xs n) ∧ Below w.heap.size w w' := by
 have hb := hL.lt (by omega)
 have hL0 : ∀ o : Obj, Lies (w.alloc o) b off xs := fun o => hL.below ((Below.refl _ w).alloc (Nat.le_refl _) o) hb
 have c4 : ∀ w', Lies w' b off xs → w'.cell? ⟨b, off + 4, none⟩ = some (.int .u8 (xs.getD 4 0)) := fun w' h => h 4 (by omega)
 have c5 : ∀ w', Lies w' b off xs → w'.cell? ⟨b, off + 5, none⟩ = some (.int .u8 (xs.getD 5 0)) := fun w' h => h 5 (by omega)
 have b4 := hx.at 4
 have b5 := hx.at 5
 have HW := hide (fun (w' : World) (h : Lies w' b off xs) (i : Int) (h0 : 0 ≤ i) (h1 : i + 1 < len) => wordAt_any b off len cap xs i w' hl hx hm hlc h h0 h1)
 have HB := hide (fun (w' : World) (h : Lies w' b off xs) => bodySize_any b off len cap xs w' hl hx hm hlc h (by omega))
 rw [hn] at HB
 have hcv := fun (c : Nat) (w' : World) (h : Lies w' b off xs) => conv_body b off c n xs (by omega) w' h
 clear hL hx hn
 have n14 : ¬ cap = 14 := by omega
 have hbn : ¬ b = w.heap.size := by omega
 have HT : Hid (told xs n = fr (wd xs 0) (wd xs 2) (xs.getD 4 0) (wd xs 6) (wd xs 8) (xs.getD 5 0) (wd xs 10) (bodyOf xs n)) := rfl
 generalize xs.getD 4 0 = x4 at *
 generalize xs.getD 5 0 = x5 at *
 obtain ⟨b40, b41⟩ := b4
 obtain ⟨b50, b51⟩ := b5
 have k0 : (4 : Int) < (len : Int) := by omega
 have k1 : (5 : Int) < (len : Int) := by omega
 have k2 : (14 : Int) ≤ 14 + (n : Int) := by omega
 have k3 : 14 + (n : Int) ≤ (cap : Int) := by omega
 have k4 : (0 : Int) ≤ 14 + (n : Int) := by omega
 have k5 : IntKind.i64.wrap (14 + (n : Int)) = 14 + (n : Int) := wrap_i64_small _ (by omega) (by omega)
 have k6 : (14 + (n : Int)).toNat - 14 = n := by omega
 have k7 : IntKind.i64.wrap x4 = x4 := wrap_i64_small _ (by omega) (by omega)
 have k8 : IntKind.i64.wrap x5 = x5 := wrap_i64_small _ (by omega) (by omega)
 go_enter Tryz.func210, Tryz.ntmps210
 go_wp2_with fail
 go_region_held3 (fun w' => Lies w' b off xs ∧ w'.cell? ⟨b, off + 4, none⟩ = some (.int .u8 x4) ∧ w'.cell? ⟨b, off + 5, none⟩ = some (.int .u8 x5)) (first | (simp [*, lies_drewN, lies_drew]; done) | (simp [*, lies_set_ne]; done))
  (first | (go_at_call 202; refine (unhide HW _ (by first | assumption | (simp [*]; done)) _ (by omega) (by omega)).mono ?_; rintro e w' ⟨rfl, m, rfl⟩) | (go_at_call 213; refine (unhide HB _ (by first | assumption | (simp [*]; done))).mono ?_; rintro e w' ⟨rfl, m, rfl⟩))
 go_wp2
 refine bodyPost_ret (v := fr (wd xs 0) (wd xs 2) x4 (wd xs 6) (wd xs 8) x5 (wd xs 10) (bodyOf xs n)) ?_ rfl ⟨by rw [HT.out], ?_⟩
 ·simp [results, Tryz.results210, go_sem]
 ·refine Below.setCell (Below.setCell (Below.setCell (Below.setCell (Below.setCell (Below.setCell (Below.setCell (Below.setCell ?_ ?_ _) ?_ _) ?_ _) ?_ _) ?_ _) ?_ _) ?_ _) ?_ _
  ·exact below_drewN ((Below.refl _ _).alloc (Nat.le_refl _) _) _
  all_goals exact Nat.le_refl _
end Go.Proofs.YtncdininppehkaaGreat

namespace Go.Proofs.YtncdininppehkaaGreat
open Go.RowKit
set_option linter.unusedVariables false
set_option maxRecDepth 100000
theorem fault_zero {dst src kind ips ipd ttl port : Int} {n : Nat} (h : fault dst src kind ips ipd ttl port n = 0) :
  (1 ≤ kind ∧ kind ≤ 3) ∧ (0 ≤ dst ∧ dst ≤ 65535) ∧ (0 ≤ src ∧ src ≤ 65535) ∧ (0 ≤ ips ∧ ips ≤ 65535) ∧ (0 ≤ ipd ∧ ipd ≤ 65535) ∧ (0 ≤ port ∧ port ≤ 65535) ∧ (0 ≤ ttl ∧ ttl ≤ 255) ∧ n ≤ 40 := by
 unfold fault at h
 by_cases hk : kindB kind = true
 ·rw [if_pos hk] at h
  by_cases hb : boundsB dst src ips ipd ttl port = true
  ·rw [if_pos hb] at h
   by_cases hn : 40 < n
   ·rw [if_pos hn] at h; omega
   ·unfold boundsB wordB lifeB at hb
    unfold kindB at hk
    simp at hb hk
    omega
  ·rw [if_neg hb] at h; omega
 ·rw [if_neg hk] at h; omega
theorem enc0_bs {dst src kind ips ipd ttl port : Int} {body : ByteArray} (hf : fault dst src kind ips ipd ttl port body.size = 0) : Bs (enc0 dst src kind ips ipd ttl port body) := by
 obtain ⟨⟨hk0, hk1⟩, ⟨hd0, hd1⟩, ⟨hs0, hs1⟩, ⟨hi0, hi1⟩, ⟨hj0, hj1⟩, ⟨hp0, hp1⟩, ⟨ht0, ht1⟩, hn⟩ := fault_zero hf
 unfold enc0
 exact (((((((word_bs _ hd0 hd1).append (word_bs _ hs0 hs1)).append (fun n h => by simp at h; rcases h with rfl | rfl <;> omega)).append (word_bs _ hi0 hi1)).append (word_bs _ hj0 hj1)).append (word_bs _ hp0 hp1)).append (word_bs _ (by omega) (by omega))).append (nums_bs body)
theorem strCells_U (s : ByteArray) : Lib.strCells s = U (nums s) := by simp [Lib.strCells, U, nums]
theorem own_app {w : World} {B m : Nat} {v : Value} {xs ys : List Int} (h : w.ownsRow B 5 1 v (xs.length + m) (U xs ++ U ys)) (hm : ys.length = m) : w.ownsRow B 5 1 v (xs ++ ys).length (U (xs ++ ys)) := by
 rw [U_append, List.length_append, hm]; exact h
theorem own_cells {w : World} {B : Nat} {v : Value} {xs : List Int} (h : w.ownsRow B 5 1 v xs.length (U xs)) (hne : 0 < xs.length) :
  ∃ g cap, v = .slice (some ⟨g, 0, none⟩) xs.length cap ∧ (B ≤ g ∧ g < w.heap.size) ∧ xs.length ≤ cap ∧ ∀ i, i < xs.length → w.cell? ⟨g, 0 + i, none⟩ = some (.int .u8 (xs.getD i 0)) := by
 have hc := h
 obtain ⟨_, ⟨_, h0⟩ | ⟨g, cap, cur, rfl, hg, hgc, hcap, _⟩⟩ := h
 ·omega
 ·refine ⟨g, cap, rfl, ⟨hg, lt_of_block hgc⟩, hcap, fun i hi => ?_⟩
  have := hc.cells (g := g) rfl i (.int .u8 (xs.getD i 0)) (by simp [U, List.getD, hi])
  have hp : (⟨g, 0, none⟩ : Addr).add i = ⟨g, 0 + i, none⟩ := by unfold Addr.add; split <;> simp_all
  rw [← hp]; exact this
set_option maxHeartbeats 1000000 in
theorem encode_no (dst src kind ips ipd ttl port : Int) (body : ByteArray) (w : World) (hb : body.size ≤ maxLen) (hf : fault dst src kind ips ipd ttl port body.size ≠ 0) :
  Calls Tryz.prog 199 #[fr dst src kind ips ipd ttl port body] w fun e w' => e = .returned (.tuple #[.slice none 0 0, .int .i64 (fault dst src kind ips ipd ttl port body.size)]) ∧ Below w.heap.size w w' := by
 have hf' : (fault dst src kind ips ipd ttl port body.size != 0) = true := by simpa using hf
 go_enter Tryz.func199, Tryz.ntmps199
 go_wp2_with fail
 refine (check_any _ _ _ _ _ _ _ _ _ hb).mono ?_
 rintro e w1 ⟨rfl, hb1⟩
 go_wp2_with fail
 go_ret2
 exact ⟨rfl, ((Below.refl _ _).alloc (Nat.le_refl _) _).trans (hb1.mono (by simp))⟩
set_option maxHeartbeats 2000000 in
theorem encode_yes (dst src kind ips ipd ttl port : Int) (body : ByteArray) (w : World) (hf : fault dst src kind ips ipd ttl port body.size = 0) :
  Calls Tryz.prog 199 #[fr dst src kind ips ipd ttl port body] w fun e w' => ∃ v, e = .returned (.tuple #[v, .int .i64 0]) ∧
   w'.ownsRow w.heap.size 5 1 v (enc dst src kind ips ipd ttl port body).length (U (enc dst src kind ips ipd ttl port body)) ∧ Below w.heap.size w w' := by
 obtain ⟨⟨hk0, hk1⟩, ⟨hd0, hd1⟩, ⟨hs0, hs1⟩, ⟨hi0, hi1⟩, ⟨hj0, hj1⟩, ⟨hp0, hp1⟩, ⟨ht0, ht1⟩, hn⟩ := fault_zero hf
 have hbm : body.size ≤ maxLen := by unfold maxLen; omega
 obtain ⟨i0, hi, hz0, hz1, hz2⟩ := info_parts infoByte
 go_enter Tryz.func199, Tryz.ntmps199
 go_wp2_with fail
 refine (check_any _ _ _ _ _ _ _ _ _ hbm).mono ?_
 rintro e w1 ⟨rfl, hb1⟩
 have hB1 : w.heap.size + 1 ≤ w1.heap.size := by have := hb1.size; simpa using this
 have hb1' := hb1.mono (B' := w.heap.size + 1) (by simp)
 clear hb1
 obtain ⟨hc1, _⟩ := bcell2 hb1'
 go_wp2_with fail
 refine (appendWord_any (w.heap.size + 1) (.slice none 0 0) [] dst _ (World.ownsRow_nil _ _ _ _) hd0 hd1 (by simp) hB1).mono ?_
 rintro e w2 ⟨v2, rfl, ho2, hb2⟩
 have hb2' := hb1'.trans hb2
 have hB2 := Nat.le_trans hB1 hb2.size
 clear hb2 hc1
 obtain ⟨hc2, _⟩ := bcell2 hb2'
 go_wp2_with fail
 refine (appendWord_any (w.heap.size + 1) v2 _ src _ ho2 hs0 hs1 (by simp [word]) hB2).mono ?_
 rintro e w3 ⟨v3, rfl, ho3, hb3⟩
 have hb3' := hb2'.trans hb3
 have hB3 := Nat.le_trans hB2 hb3.size
 clear hb3 hc2 ho2 hb1' hb2'
 obtain ⟨hc3, _⟩ := bcell2 hb3'
 go_wp2_with (at_builtin; refine wpList_append_own _ rfl _ _ 214 rfl (w.heap.size + 1) 5 i0 (.int .u8 0) 1 1 Tryz.underlying214 hi hz0 hz1 hz2 rfl (by decide) _ _ _ rfl (ho3.alloc _) ⟨w3.heap.size, 0, none⟩ 2 2 (U [kind, ttl]) rfl rfl ?c1 ?c2 ?c3 ?c4 ?c5 ?_)
 case c1 =>
  intro j u hj
  match j, hj with
  | 0, hj => simp [U] at hj; subst hj; simp [Addr.add]
  | 1, hj => simp [U] at hj; subst hj; simp [Addr.add]
 case c2 => exact U_one _
 case c3 => simp [word, maxLen]
 case c4 => simp [word]
 case c5 => simp; omega
 intro v4 w4 ho4 hg4 _
 have hb4 : Below (w.heap.size + 1) w3 w4 := ((Below.refl _ w3).alloc hB3 _).grown hg4 (by simp; omega) (own_ge ho3)
 have hb4' := hb3'.trans hb4
 have hB4 := Nat.le_trans hB3 hb4.size
 have ho4' := own_app ho4 rfl
 clear hb4 hc3 ho3 hb3' ho4 hg4
 obtain ⟨hc4, _⟩ := bcell2 hb4'
 go_wp2_with fail
 refine (appendWord_any (w.heap.size + 1) v4 _ ips _ ho4' hi0 hi1 (by simp [word]) hB4).mono ?_
 rintro e w5 ⟨v5, rfl, ho5, hb5⟩
 have hb5' := hb4'.trans hb5
 have hB5 := Nat.le_trans hB4 hb5.size
 clear hb5 hc4 ho4' hb4'
 obtain ⟨hc5, _⟩ := bcell2 hb5'
 go_wp2_with fail
 refine (appendWord_any (w.heap.size + 1) v5 _ ipd _ ho5 hj0 hj1 (by simp [word]) hB5).mono ?_
 rintro e w6 ⟨v6, rfl, ho6, hb6⟩
 have hb6' := hb5'.trans hb6
 have hB6 := Nat.le_trans hB5 hb6.size
 clear hb6 hc5 ho5 hb5'
 obtain ⟨hc6, _⟩ := bcell2 hb6'
 go_wp2_with fail
 refine (appendWord_any (w.heap.size + 1) v6 _ port _ ho6 hp0 hp1 (by simp [word]) hB6).mono ?_
 rintro e w7 ⟨v7, rfl, ho7, hb7⟩
 have hb7' := hb6'.trans hb7
 have hB7 := Nat.le_trans hB6 hb7.size
 clear hb7 hc6 ho6 hb6'
 obtain ⟨hc7, _⟩ := bcell2 hb7'
 go_wp2_with fail
 refine (appendWord_any (w.heap.size + 1) v7 _ (body.size : Int) _ ho7 (by omega) (by omega) (by simp [word]) hB7).mono ?_
 rintro e w8 ⟨v8, rfl, ho8, hb8⟩
 have hb8' := hb7'.trans hb8
 have hB8 := Nat.le_trans hB7 hb8.size
 clear hb8 hc7 ho7 hb7'
 obtain ⟨hc8, _⟩ := bcell2 hb8'
 go_wp2_with (at_builtin; refine Lib.wpList_append_own_string _ rfl _ _ 214 9 rfl (w.heap.size + 1) 5 i0 Tryz.underlying214 Tryz.underlying9 hi hz0 hz1 hz2 _ _ _ rfl ho8 body rfl ?d1 ?d2 ?d3 ?_)
 case d1 => simp [word, maxLen]; omega
 case d2 => simp [word]; omega
 case d3 => exact hB8
 intro v9 w9 ho9 hg9 _
 have hb9 : Below (w.heap.size + 1) w8 w9 := (Below.refl _ w8).grown hg9 hB8 (own_ge ho8)
 have hb9' := hb8'.trans hb9
 have hB9 := Nat.le_trans hB8 hb9.size
 rw [strCells_U] at ho9
 have ho9' := own_app ho9 (nums_length body)
 clear hb9 hc8 ho8 hb8' ho9 hg9
 obtain ⟨xs, hxs⟩ : ∃ xs, xs = enc0 dst src kind ips ipd ttl port body := ⟨_, rfl⟩
 have ho : w9.ownsRow (w.heap.size + 1) 5 1 v9 xs.length (U xs) := by rw [hxs]; exact ho9'
 have hxl : xs.length = 14 + body.size := by rw [hxs]; exact enc0_length _ _ _ _ _ _ _ _
 have hbs : Bs xs := by rw [hxs]; exact enc0_bs hf
 have HE : Hid (enc dst src kind ips ipd ttl port body = xs ++ word (sm xs)) := by show _ = _; rw [hxs]; rfl
 clear ho9' hxs
 have hxl1 : 14 ≤ xs.length := by omega
 have hxl2 : xs.length ≤ 54 := by omega
 clear hxl
 obtain ⟨hsm0, hsm1⟩ := sm_bd hbs
 obtain ⟨g, cap, rfl, hg, hcap, hcell⟩ := own_cells ho (by omega)
 go_wp2_with fail
 refine (sum_any g 0 xs.length cap xs _ rfl hbs (by omega) hcap hcell).mono ?_
 rintro e w' ⟨rfl, rfl⟩
 clear hcell
 go_wp2_with fail
 refine (appendWord_any (w.heap.size + 1) _ xs (sm xs) _ ho hsm0 hsm1 (by omega) hB9).mono ?_
 rintro e w10 ⟨v10, rfl, ho10, hb10⟩
 have hb10' := hb9'.trans hb10
 clear ho hb9' hb10
 go_wp2_with fail
 go_ret2
 refine ⟨v10, rfl, ?_, ((Below.refl _ _).alloc (Nat.le_refl _) _).trans (hb10'.mono (by omega))⟩
 rw [HE.out]
 exact own_less ho10 (by omega)
end Go.Proofs.YtncdininppehkaaGreat

namespace Go.Proofs.YtncdininppehkaaGreat
open Go.RowKit
set_option linter.unusedVariables false
set_option maxRecDepth 100000
def IsB (w : World) (a : Option Addr) (len cap : Nat) (xs : List Int) : Prop :=
 xs.length = len ∧ Bs xs ∧ len ≤ 140737488355328 ∧ (len = 0 ∨ ∃ b off, a = some ⟨b, off, none⟩ ∧ len ≤ cap ∧ Lies w b off xs)
theorem IsB.below {w w' : World} {a : Option Addr} {len cap : Nat} {xs : List Int} {B : Nat} (h : IsB w a len cap xs) (hb : Below B w w') (hB : w.heap.size ≤ B) : IsB w' a len cap xs := by
 obtain ⟨h1, h2, h3, h0 | ⟨b, off, ha, hc, hL⟩⟩ := h
 ·exact ⟨h1, h2, h3, .inl h0⟩
 ·by_cases h0 : len = 0
  ·exact ⟨h1, h2, h3, .inl h0⟩
  ·exact ⟨h1, h2, h3, .inr ⟨b, off, ha, hc, hL.below hb (Nat.lt_of_lt_of_le (hL.lt (by omega)) hB)⟩⟩
theorem below_set8 {B : Nat} {a w : World} (h : Below B a w) (g : Nat) (hg : B ≤ g) (v0 v1 v2 v3 v4 v5 v6 v7 : Value) :
  Below B a ((((((((w.setCell ⟨g, 0, none⟩ v0).setCell ⟨g, 1, none⟩ v1).setCell ⟨g, 2, none⟩ v2).setCell ⟨g, 3, none⟩ v3).setCell ⟨g, 4, none⟩ v4).setCell ⟨g, 5, none⟩ v5).setCell ⟨g, 6, none⟩ v6).setCell ⟨g, 7, none⟩ v7) :=
 Below.setCell (Below.setCell (Below.setCell (Below.setCell (Below.setCell (Below.setCell (Below.setCell (Below.setCell h hg _) hg _) hg _) hg _) hg _) hg _) hg _) hg _
abbrev zeroF : Value := fr 0 0 0 0 0 0 0 ⟨#[]⟩
def toldFault (xs : List Int) : Int := fault (wd xs 0) (wd xs 2) (bt xs 4) (wd xs 6) (wd xs 8) (bt xs 5) (wd xs 10) (wd xs 12).toNat
def decE (xs : List Int) : Int := if chk xs = 0 then toldFault xs else chk xs
def decV (xs : List Int) : Value := if decE xs = 0 then told xs (wd xs 12).toNat else zeroF
theorem chk_zero {xs : List Int} (hx : Bs xs) (h : chk xs = 0) : 16 ≤ xs.length ∧ wd xs 12 ≤ 40 ∧ 16 + (wd xs 12).toNat = xs.length ∧ wd xs (14 + (wd xs 12).toNat) = sm (xs.take (14 + (wd xs 12).toNat)) := by
 have hw := wd_bd hx 12
 unfold chk at h
 by_cases c0 : xs.length < 16
 ·rw [if_pos c0] at h; omega
 ·rw [if_neg c0] at h
  by_cases c1 : 40 < wd xs 12
  ·rw [if_pos c1] at h; omega
  ·rw [if_neg c1] at h
   by_cases c2 : (xs.length : Int) < 16 + wd xs 12
   ·rw [if_pos c2] at h; omega
   ·rw [if_neg c2] at h
    by_cases c3 : 16 + wd xs 12 < (xs.length : Int)
    ·rw [if_pos c3] at h; omega
    ·rw [if_neg c3] at h
     by_cases c4 : wd xs (14 + (wd xs 12).toNat) = sm (xs.take (14 + (wd xs 12).toNat))
     ·exact ⟨by omega, by omega, by omega, c4⟩
     ·rw [if_pos c4] at h; omega
set_option maxHeartbeats 1000000 in
theorem decode_any (a : Option Addr) (len cap : Nat) (xs : List Int) (w : World) (hI : IsB w a len cap xs) :
  Calls Tryz.prog 201 #[.slice a len cap] w fun e w' => e = .returned (.tuple #[decV xs, .int .i64 (decE xs)]) ∧ Below w.heap.size w w' := by
 obtain ⟨hl, hx, hm, hI⟩ := hI
 by_cases h16 : len < 16
 ·have hE : decE xs = 5 := by
   have hc : chk xs = 5 := by unfold chk; rw [if_pos (by omega)]
   unfold decE; rw [hc]; rfl
  have hV : decV xs = zeroF := by unfold decV; rw [hE]; rfl
  have HR : Hid (Ending.returned (.tuple #[decV xs, .int .i64 (decE xs)]) = .returned (.tuple #[zeroF, .int .i64 5])) := by show _ = _; rw [hE, hV]
  clear hE hV hI
  go_enter Tryz.func201, Tryz.ntmps201
  go_wp2_with fail
  refine (checkBytes_short a len cap _ h16).mono ?_
  rintro e w' ⟨rfl, rfl⟩
  go_wp2_with fail
  refine bodyPost_ret (v := .tuple #[zeroF, .int .i64 5]) ?_ rfl ⟨HR.out.symm, ?_⟩
  ·simp [results, Tryz.results201, go_sem]
  ·exact (Below.refl _ _).alloc (Nat.le_refl _) _
 ·have h16' : 16 ≤ len := by omega
  obtain ⟨b, off, rfl, hlc, hL⟩ : ∃ b off, a = some ⟨b, off, none⟩ ∧ len ≤ cap ∧ Lies w b off xs := by
   rcases hI with h0 | h
   ·omega
   ·exact h
  clear hI h16
  have hbw := hL.lt (by omega)
  have hL0 : ∀ o : Obj, Lies (w.alloc o) b off xs := fun o => hL.below ((Below.refl _ w).alloc (Nat.le_refl _) o) hbw
  by_cases hc : chk xs = 0
  ·obtain ⟨_, hw40, hlen, _⟩ := chk_zero hx hc
   have HC := hide (fun w' h => checkBytes_any b off len cap xs w' hl hx hm hlc h h16')
   obtain ⟨n, hn⟩ := Int.eq_ofNat_of_zero_le (wd_bd hx 12).1
   have hn40 : n ≤ 40 := by omega
   have hn16 : 16 + n = len := by rw [hn, Int.toNat_natCast] at hlen; omega
   have HP := hide (fun w' h => parse_any b off len cap n xs w' hl hx hm hlc h hn hn16 hn40)
   have hbs := bodyOf_size xs n (by omega)
   have hE : decE xs = fault (wd xs 0) (wd xs 2) (bt xs 4) (wd xs 6) (wd xs 8) (bt xs 5) (wd xs 10) (bodyOf xs n).size := by unfold decE toldFault; rw [if_pos hc, hn, Int.toNat_natCast, hbs]
   have hV : decV xs = if decE xs = 0 then told xs n else zeroF := by unfold decV; rw [hn, Int.toNat_natCast]
   have HK := hide (fun w' => check_any (wd xs 0) (wd xs 2) (bt xs 4) (wd xs 6) (wd xs 8) (bt xs 5) (wd xs 10) (bodyOf xs n) w' (by rw [hbs]; unfold maxLen; omega))
   rw [hc] at HC
   rw [← hE] at HK
   clear hE hn hbs hL hlen hw40 hc
   go_enter Tryz.func201, Tryz.ntmps201
   go_wp2_with fail
   refine (unhide HC _ (hL0 _)).mono ?_
   rintro e w' ⟨rfl, m, rfl⟩
   go_wp2_with fail
   refine (unhide HP _ ((hL0 _).drewN m)).mono ?_
   rintro e w2 ⟨rfl, hb2⟩
   have hz2 : w.heap.size < w2.heap.size := by have := hb2.size; simp at this; omega
   have hz2' : ¬ w.heap.size = w2.heap.size := by omega
   have hb2' := hb2.mono (B' := w.heap.size + 1) (by simp)
   obtain ⟨hc2, hf2⟩ := bcell2 hb2'
   go_wp2_with fail
   refine (unhide HK _).mono ?_
   rintro e w3 ⟨rfl, hb3⟩
   have hb3' := hb3.mono (B' := w2.heap.size + 1) (by simp)
   obtain ⟨hc3, hf3⟩ := bcell2 hb3'
   have hbel : Below w.heap.size w w3 := ((below_drewN ((Below.refl w.heap.size w).alloc (Nat.le_refl _) _) m).trans (hb2'.mono (by omega))).trans (((Below.refl _ w2).alloc (by omega) _).trans (hb3'.mono (by omega)))
   clear hb2 hb3 HC HP HK hb2' hb3' hL0
   have HV := hide hV
   clear hV
   by_cases hz : decE xs = 0
   ·have hV0 : decV xs = told xs n := by rw [HV.out, if_pos hz]
    have HR : Hid (Ending.returned (.tuple #[decV xs, .int .i64 (decE xs)]) = .returned (.tuple #[told xs n, .int .i64 0])) := by show _ = _; rw [hV0, hz]
    clear hV0 HV
    go_wp2_with fail
    refine bodyPost_ret (v := .tuple #[told xs n, .int .i64 0]) ?_ rfl ⟨HR.out.symm, ?_⟩
    ·simp [results, Tryz.results201, go_sem, hc3, hc2, hz2, Nat.lt_succ_of_lt hz2]
    ·exact below_set8 hbel _ (Nat.le_refl _) _ _ _ _ _ _ _ _
   ·have hV0 : decV xs = zeroF := by rw [HV.out, if_neg hz]
    have HR : Hid (Ending.returned (.tuple #[decV xs, .int .i64 (decE xs)]) = .returned (.tuple #[zeroF, .int .i64 (decE xs)])) := by show _ = _; rw [hV0]
    have hne : (decE xs != 0) = true := by simpa using hz
    clear hV0 HV hz
    go_wp2_with fail
    refine bodyPost_ret (v := .tuple #[zeroF, .int .i64 (decE xs)]) ?_ rfl ⟨HR.out.symm, ?_⟩
    ·simp [results, Tryz.results201, go_sem, hc3, hc2, hz2, Nat.lt_succ_of_lt hz2]
    ·exact below_set8 hbel _ (Nat.le_refl _) _ _ _ _ _ _ _ _
  ·have hE : decE xs = chk xs := by unfold decE; rw [if_neg hc]
   have hV : decV xs = zeroF := by unfold decV; rw [hE, if_neg hc]
   have HR : Hid (Ending.returned (.tuple #[decV xs, .int .i64 (decE xs)]) = .returned (.tuple #[zeroF, .int .i64 (chk xs)])) := by show _ = _; rw [hE, hV]
   have HC := hide (fun w' h => checkBytes_any b off len cap xs w' hl hx hm hlc h h16')
   have hne : (chk xs != 0) = true := by simpa using hc
   clear hE hV hc hL
   generalize chk xs = c at *
   go_enter Tryz.func201, Tryz.ntmps201
   go_wp2_with fail
   refine (unhide HC _ (hL0 _)).mono ?_
   rintro e w' ⟨rfl, m, rfl⟩
   go_wp2_with fail
   refine bodyPost_ret (v := .tuple #[zeroF, .int .i64 c]) ?_ rfl ⟨HR.out.symm, ?_⟩
   ·simp [results, Tryz.results201, go_sem]
   ·exact below_set8 (below_drewN ((Below.refl _ _).alloc (Nat.le_refl _) _) _) _ (Nat.le_refl _) _ _ _ _ _ _ _ _
end Go.Proofs.YtncdininppehkaaGreat

namespace Go.Proofs.YtncdininppehkaaGreat
set_option linter.unusedVariables false
set_option maxRecDepth 100000
open Go.ChangeShapes Go.WideShapes Go.ChangeAt Go.RowKit
theorem cellsFrame : Tryz.prog.cellsOf 37 = 8 := by kernel_rfl
theorem array8 {α : Type} {cs : Array α} (h : cs.size = 8) : ∃ c0 c1 c2 c3 c4 c5 c6 c7, cs = #[c0, c1, c2, c3, c4, c5, c6, c7] := by
 obtain ⟨l⟩ := cs
 match l, h with
 | [c0, c1, c2, c3, c4, c5, c6, c7], _ => exact ⟨c0, c1, c2, c3, c4, c5, c6, c7, rfl⟩
theorem open_frame {H : Type} {enc : TypeId × Value → H} {w : World} {base b0 : Nat} {spare : Nat → Bool} {held : Bool} {r : Reach} {v : Value} {d : DataW H} {p : List MemPlace}
  (hv : Value.okWide Tryz.prog w r b0 37 v) (h : DataW.Trod enc Tryz.prog w base spare held 37 v d p) :
  ∃ dst src kind ips ipd ttl port : Int, ∃ body : ByteArray, v = fr dst src kind ips ipd ttl port body ∧ body.size ≤ maxLen ∧ (Lit.int .i64 dst).wf = true ∧ (Lit.int .i64 src).wf = true ∧ (Lit.int .i64 kind).wf = true
   ∧ (Lit.int .i64 ips).wf = true ∧ (Lit.int .i64 ipd).wf = true ∧ (Lit.int .i64 ttl).wf = true ∧ (Lit.int .i64 port).wf = true := by
 obtain ⟨cs, rfl, hsz⟩ := okWide_struct Tryz.underlying37 hv
 obtain ⟨c0, c1, c2, c3, c4, c5, c6, c7, rfl⟩ := array8 (hsz.trans cellsFrame)
 obtain ⟨fuel, hf⟩ := h
 obtain ⟨xs, n, _, _, _, hlen, hf⟩ := DataW.trod_struct Tryz.underlying37 hf
 have h8 : xs.length = 8 := by simpa using hlen
 have g0 := hf 0 _ rfl
 have g1 := hf 1 _ rfl
 have g2 := hf 2 _ rfl
 have g3 := hf 3 _ rfl
 have g4 := hf 4 _ rfl
 have g5 := hf 5 _ rfl
 have g6 := hf 6 _ rfl
 have g7 := hf 7 _ rfl
 simp only [Value.cells] at g0 g1 g2 g3 g4 g5 g6 g7
 obtain ⟨k0, rfl, w0⟩ := int_cell (i := 0) (by omega) g0
 obtain ⟨k1, rfl, w1⟩ := int_cell (i := 1) (by omega) g1
 obtain ⟨k2, rfl, w2⟩ := int_cell (i := 2) (by omega) g2
 obtain ⟨k3, rfl, w3⟩ := int_cell (i := 3) (by omega) g3
 obtain ⟨k4, rfl, w4⟩ := int_cell (i := 4) (by omega) g4
 obtain ⟨k5, rfl, w5⟩ := int_cell (i := 5) (by omega) g5
 obtain ⟨k6, rfl, w6⟩ := int_cell (i := 6) (by omega) g6
 obtain ⟨s, rfl, hs⟩ := string_cell (i := 7) (by omega) g7
 exact ⟨k0, k1, k2, k3, k4, k5, k6, s, rfl, hs, w0, w1, w2, w3, w4, w5, w6⟩
end Go.Proofs.YtncdininppehkaaGreat
