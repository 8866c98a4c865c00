/-
  What flow.fits, flow.pick and flow.changed answer.
-/
import Derived.Test.YtonhfgdnkkkikacRn
import Derived.Test.YtonhfgdnkkkikacFk2
import Derived.Deep.RegionHeld3
import Derived.Deep.QuietTactic
import Derived.BigQuiet
import Derived.Laws.BitsLemmas
namespace Go.Proofs.Ytonhfgdnkkkikac
open Go.RowKit
set_option linter.unusedVariables false
set_option maxRecDepth 100000

theorem and_word (v m : Int) (hv : 0 ≤ v ∧ v ≤ 65535) (hm : wordB m = true) : bits .and .i64 v m = mk v m := by
  unfold wordB at hm
  simp at hm
  obtain ⟨a, rfl⟩ := Int.eq_ofNat_of_zero_le hv.1
  obtain ⟨b, rfl⟩ := Int.eq_ofNat_of_zero_le hm.1
  have ha := ofInt_word a (by omega)
  have hb := ofInt_word b (by omega)
  show IntKind.i64.wrap ((BitVec.ofInt 64 (a : Int) &&& BitVec.ofInt 64 (b : Int)).toNat : Int) = _
  rw [BitVec.toNat_and, ha, hb]
  have hle : a &&& b ≤ a := Nat.and_le_left
  rw [wrapI _ (by omega) (by omega)]
  unfold mk
  rw [Int.toNat_natCast, Int.toNat_natCast]

theorem cells10 (w : World) (t : TypeId) (f0 f1 f2 f3 f4 f5 f6 f7 f8 f9 : Int) : ∀ i, i < 10 → (w.alloc (.cells #[.int .i64 f0, .int .i64 f1, .int .i64 f2, .int .i64 f3, .int .i64 f4, .int .i64 f5, .int .i64 f6, .int .i64 f7, .int .i64 f8, .int .i64 f9] t)).cell? ⟨w.heap.size, i, none⟩ = some (.int .i64 (([f0, f1, f2, f3, f4, f5, f6, f7, f8, f9] : List Int).getD i 0)) := by
  intro i hi
  have hc : i = 0 ∨ i = 1 ∨ i = 2 ∨ i = 3 ∨ i = 4 ∨ i = 5 ∨ i = 6 ∨ i = 7 ∨ i = 8 ∨ i = 9 := by omega
  rcases hc with rfl | rfl | rfl | rfl | rfl | rfl | rfl | rfl | rfl | rfl <;> simp

theorem fitsB_all {F : List Int} {ms : List Mt} (h : ∀ j, j < ms.length → (mk (F.getD (ms.getD j mt0).f.toNat 0) (ms.getD j mt0).m == (ms.getD j mt0).v) = true) : fitsB F ms = true := by
  unfold fitsB
  rw [List.all_eq_true]
  intro x hx
  obtain ⟨i, hi, rfl⟩ := List.getElem_of_mem hx
  have := h i hi
  simpa [List.getD, List.getElem?_eq_getElem hi] using this
theorem fitsB_not {F : List Int} {ms : List Mt} (j : Nat) (hj : j < ms.length) (h : (mk (F.getD (ms.getD j mt0).f.toNat 0) (ms.getD j mt0).m == (ms.getD j mt0).v) = false) : fitsB F ms = false := by
  unfold fitsB
  rw [List.all_eq_false]
  exact ⟨ms[j], List.getElem_mem hj, by simpa [List.getD, List.getElem?_eq_getElem hj] using h⟩

set_option maxHeartbeats 4000000 in
theorem fits_any (f0 f1 f2 f3 f4 f5 f6 f7 f8 f9 : Int) (v : Value) (ms : List Mt) (w : World) (hF : WF [f0, f1, f2, f3, f4, f5, f6, f7, f8, f9]) (hM : MsAt w v ms) (hl : ms.length ≤ 12) (hm : ∀ j, j < ms.length → matchB (ms.getD j mt0) = true) :
    Calls Try.prog 57 #[v, .agg #[.int .i64 f0, .int .i64 f1, .int .i64 f2, .int .i64 f3, .int .i64 f4, .int .i64 f5, .int .i64 f6, .int .i64 f7, .int .i64 f8, .int .i64 f9]] w fun e w' => e = .returned (.bool (fitsB [f0, f1, f2, f3, f4, f5, f6, f7, f8, f9] ms)) ∧ Below w.heap.size w w' := by
  have HM := hide hM
  have HMB := hide hm
  have HF := hide hF
  have HCL := hide (cells10 w 30 f0 f1 f2 f3 f4 f5 f6 f7 f8 f9)
  obtain ⟨a, cap, rfl, hn, hL⟩ := hM
  clear hL hm hF
  obtain ⟨F, hFd⟩ : ∃ F : List Int, F = [f0, f1, f2, f3, f4, f5, f6, f7, f8, f9] := ⟨_, rfl⟩
  have HFD := hide hFd
  rw [← hFd] at HF HCL ⊢
  clear hFd
  go_enter Try.func57, Try.ntmps57
  go_wp2_with fail
  obtain ⟨W1, hW1⟩ : ∃ W1, W1 = w.alloc (.cells #[.int .i64 f0, .int .i64 f1, .int .i64 f2, .int .i64 f3, .int .i64 f4, .int .i64 f5, .int .i64 f6, .int .i64 f7, .int .i64 f8, .int .i64 f9] 30) := ⟨_, rfl⟩
  have hbW : Below w.heap.size w W1 := by rw [hW1]; exact (Below.refl _ _).alloc (Nat.le_refl _) _
  rw [← hW1] at HCL
  have HM1 := hide (HM.out.below hbW (Nat.le_refl _))
  have hz1 : w.heap.size < W1.heap.size := by rw [hW1]; simp
  rw [← hW1]
  clear hW1 HM
  go_loopw [9] (fun i wr => ∃ k : Nat, k ≤ ms.length ∧ i = .int .i64 k ∧ (∀ j, j < k → (mk (F.getD (ms.getD j mt0).f.toNat 0) (ms.getD j mt0).m == (ms.getD j mt0).v) = true) ∧ Below W1.heap.size W1 wr) (fun i _ => ms.length - (intOf i).toNat)
  case atStart => exact ⟨0, by omega, rfl, fun j h => absurd h (by omega), Below.refl _ _⟩
  case round =>
    obtain ⟨k, hk, rfl, hall, hbel⟩ := hrel
    have HALL := hide hall
    clear hall
    have hbel1 : Below w.heap.size w wr := hbW.trans (hbel.mono hbW.size)
    have hszr := hbel.size
    have hszw : w.heap.size < wr.heap.size := by omega
    by_cases hlt : k < ms.length
    · obtain ⟨a', cap', hv, hn', hL⟩ := HM1.out
      simp only [Value.slice.injEq] at hv
      obtain ⟨rfl, _, rfl⟩ := hv
      obtain ⟨b, off, rfl, hcap, hcell⟩ : ∃ b off, a = some ⟨b, off, none⟩ ∧ ms.length ≤ cap ∧ ∀ i, i < ms.length → W1.cell? ⟨b, off + i * 3, none⟩ = some (.int .i64 (ms.getD i mt0).f) ∧ W1.cell? ⟨b, off + i * 3 + 1, none⟩ = some (.int .i64 (ms.getD i mt0).m) ∧ W1.cell? ⟨b, off + i * 3 + 2, none⟩ = some (.int .i64 (ms.getD i mt0).v) := by
        rcases hL with h0 | h
        · omega
        · exact h
      obtain ⟨g0, g1, g2⟩ := hcell k hlt
      have m0' := cell_below g0 hbel (Nat.le_refl _)
      have m1' := cell_below g1 hbel (Nat.le_refl _)
      have m2' := cell_below g2 hbel (Nat.le_refl _)
      have hMk := HMB.out k hlt
      have HT : Hid ((mk (F.getD (ms.getD k mt0).f.toNat 0) (ms.getD k mt0).m == (ms.getD k mt0).v) = true → ∀ x, x < k + 1 → (mk (F.getD (ms.getD x mt0).f.toNat 0) (ms.getD x mt0).m == (ms.getD x mt0).v) = true) := fun h x hx => by
        by_cases e : x = k
        · subst e; exact h
        · exact HALL.out x (by omega)
      have HN : Hid ((mk (F.getD (ms.getD k mt0).f.toNat 0) (ms.getD k mt0).m == (ms.getD k mt0).v) = false → fitsB F ms = false) := fun h => fitsB_not k hlt h
      clear g0 g1 g2 hcell hL HALL HM1 hn'
      generalize ms.getD k mt0 = M at *
      obtain ⟨mf, mm, mv⟩ := M
      simp only at m0' m1' m2' HT HN
      simp only [matchB, fieldB, Bool.and_eq_true, decide_eq_true_eq] at hMk
      obtain ⟨⟨⟨⟨f0', f1'⟩, w1⟩, w2⟩, _⟩ := hMk
      obtain ⟨q, rfl⟩ := Int.eq_ofNat_of_zero_le f0'
      rw [Int.toNat_natCast] at HT HN
      have hq : q < 10 := by omega
      have cq := cell_below (HCL.out q hq) hbel (Nat.le_refl _)
      have hbw := and_word _ mm (HF.out.bd q) w1
      have hqz := HF.out.bd q
      generalize F.getD q 0 = x at *
      have hqi : ¬ ((10 : Int) ≤ (q : Int)) := by omega
      by_cases hx : mk x mm = mv
      · have HR := hide (HT.out (by simpa using hx))
        have hne : (mk x mm != mv) = false := by simpa using hx
        clear HT HN
        go_wp2_with fail
        go_quiet (fail)
        go_wp2
        go_roundw
        case rel => exact ⟨k + 1, by omega, by go_num, HR.out, below_drewN (hbel.alloc hszr _) _⟩
        case measure => simp [intOf]; omega
      · have HR := hide (HN.out (by simpa using hx))
        have hne : (mk x mm != mv) = true := by simpa using hx
        clear HT HN
        go_wp2_with fail
        go_quiet (fail)
        go_wp2
        go_ret
        exact ⟨bool_ret HR.out.symm, below_drewN (hbel1.alloc (by omega) _) _⟩
    · have HR := hide (fitsB_all (F := F) (ms := ms) (fun j hj => HALL.out j (by omega)))
      clear HALL
      go_wp2_with fail
      go_ret
      exact ⟨bool_ret HR.out.symm, hbel1⟩

theorem fs_cell {w : World} {fs : List Fl} {a : Option Addr} {n cap k : Nat} (hF : FsAt w (.slice a n cap) fs) (hk : k < fs.length) : ∃ b off, a = some ⟨b, off, none⟩ ∧ n = fs.length ∧ fs.length ≤ cap ∧ ∀ i, i < fs.length → FlAt w b (off + i * 4) (fs.getD i fl0) := by
  obtain ⟨a', cap', hv, hn, h0 | ⟨b, off, h1, h2, h3⟩⟩ := hF
  · omega
  · simp only [Value.slice.injEq] at hv
    obtain ⟨rfl, rfl, rfl⟩ := hv
    exact ⟨b, off, h1, rfl, h2, h3⟩

set_option maxHeartbeats 8000000 in
theorem pick_any (f0 f1 f2 f3 f4 f5 f6 f7 f8 f9 : Int) (v : Value) (fs : List Fl) (t : Int) (w0 w : World) (hF : WF [f0, f1, f2, f3, f4, f5, f6, f7, f8, f9]) (hL0 : FsAt w0 v fs) (hb0 : Below w0.heap.size w0 w) (hz : fsFault fs = 0) (hl : fs.length ≤ 5000) :
    Calls Try.prog 30 #[v, .int .i64 t, .agg #[.int .i64 f0, .int .i64 f1, .int .i64 f2, .int .i64 f3, .int .i64 f4, .int .i64 f5, .int .i64 f6, .int .i64 f7, .int .i64 f8, .int .i64 f9]] w fun e w' => ∃ u, e = .returned u ∧ DsAt w0 u (dsOf fs (bestTo fs [f0, f1, f2, f3, f4, f5, f6, f7, f8, f9] t fs.length)) ∧ Below w.heap.size w w' := by
  have HL0 := hide hL0
  have HB0 := hide hb0
  have hL := hL0.below hb0 (Nat.le_refl _)
  have HL := hide hL
  clear hL0
  have HZ := hide hz
  have HF := hide hF
  obtain ⟨a, cap, rfl, hn, _⟩ := hL
  clear hz hF
  obtain ⟨F, hFd⟩ : ∃ F : List Int, F = [f0, f1, f2, f3, f4, f5, f6, f7, f8, f9] := ⟨_, rfl⟩
  have HFD := hide hFd
  rw [← hFd] at HF ⊢
  clear hFd
  have HFT : Hid (∀ (u : Value) (ms : List Mt) (W : World), MsAt W u ms → ms.length ≤ 12 → (∀ j, j < ms.length → matchB (ms.getD j mt0) = true) → Calls Try.prog 57 #[u, .agg #[.int .i64 f0, .int .i64 f1, .int .i64 f2, .int .i64 f3, .int .i64 f4, .int .i64 f5, .int .i64 f6, .int .i64 f7, .int .i64 f8, .int .i64 f9]] W fun e w' => e = .returned (.bool (fitsB F ms)) ∧ Below W.heap.size W w') := fun u ms W h1 h2 h3 => by
    have := fits_any f0 f1 f2 f3 f4 f5 f6 f7 f8 f9 u ms W (by rw [← HFD.out]; exact HF.out) h1 h2 h3
    rw [HFD.out]; exact this
  go_enter Try.func30, Try.ntmps30
  go_wp2_with fail
  obtain ⟨W1, hW1⟩ : ∃ W1, W1 = w.alloc (.cells #[.int .i64 f0, .int .i64 f1, .int .i64 f2, .int .i64 f3, .int .i64 f4, .int .i64 f5, .int .i64 f6, .int .i64 f7, .int .i64 f8, .int .i64 f9] 30) := ⟨_, rfl⟩
  have hbW : Below w.heap.size w W1 := by rw [hW1]; exact (Below.refl _ _).alloc (Nat.le_refl _) _
  have c0 : W1.cell? ⟨w.heap.size, 0, none⟩ = some (.int .i64 f0) := by rw [hW1]; simp
  have c1 : W1.cell? ⟨w.heap.size, 1, none⟩ = some (.int .i64 f1) := by rw [hW1]; simp
  have c2 : W1.cell? ⟨w.heap.size, 2, none⟩ = some (.int .i64 f2) := by rw [hW1]; simp
  have c3 : W1.cell? ⟨w.heap.size, 3, none⟩ = some (.int .i64 f3) := by rw [hW1]; simp
  have c4 : W1.cell? ⟨w.heap.size, 4, none⟩ = some (.int .i64 f4) := by rw [hW1]; simp
  have c5 : W1.cell? ⟨w.heap.size, 5, none⟩ = some (.int .i64 f5) := by rw [hW1]; simp
  have c6 : W1.cell? ⟨w.heap.size, 6, none⟩ = some (.int .i64 f6) := by rw [hW1]; simp
  have c7 : W1.cell? ⟨w.heap.size, 7, none⟩ = some (.int .i64 f7) := by rw [hW1]; simp
  have c8 : W1.cell? ⟨w.heap.size, 8, none⟩ = some (.int .i64 f8) := by rw [hW1]; simp
  have c9 : W1.cell? ⟨w.heap.size, 9, none⟩ = some (.int .i64 f9) := by rw [hW1]; simp
  have HL1 := hide (HL.out.below hbW (Nat.le_refl _))
  have hz1 : w.heap.size < W1.heap.size := by rw [hW1]; simp
  rw [← hW1]
  clear hW1 HL
  go_loopw [7, 12] (fun o i wr => ∃ k : Nat, k ≤ fs.length ∧ i = .int .i64 k ∧ o = .int .i64 (bestTo fs F t k) ∧ Below W1.heap.size W1 wr) (fun _ i _ => fs.length - (intOf i).toNat)
  case atStart => exact ⟨0, by omega, rfl, rfl, Below.refl _ _⟩
  case round =>
    obtain ⟨k, hk, rfl, rfl, hbel⟩ := hrel
    have hbel1 : Below w.heap.size w wr := hbW.trans (hbel.mono hbW.size)
    have hszr := hbel.size
    have hszw : w.heap.size < wr.heap.size := by omega
    by_cases hlt : k < fs.length
    · obtain ⟨b, off, rfl, _, hcap, hcell⟩ := fs_cell HL1.out hlt
      have e0 := cell_below c0 hbel (Nat.le_refl _)
      have e1 := cell_below c1 hbel (Nat.le_refl _)
      have e2 := cell_below c2 hbel (Nat.le_refl _)
      have e3 := cell_below c3 hbel (Nat.le_refl _)
      have e4 := cell_below c4 hbel (Nat.le_refl _)
      have e5 := cell_below c5 hbel (Nat.le_refl _)
      have e6 := cell_below c6 hbel (Nat.le_refl _)
      have e7 := cell_below c7 hbel (Nat.le_refl _)
      have e8 := cell_below c8 hbel (Nat.le_refl _)
      have e9 := cell_below c9 hbel (Nat.le_refl _)
      have hf := (hcell k hlt).below hbel (Nat.le_refl _)
      have hbb := cell_lt hf.1
      have hbi := bestTo_in fs F t k
      have HOK := hide (ok_flow HZ.out hlt)
      have HB : Hid (bestTo fs F t (k + 1) = if fitB F t (fs.getD k fl0) = true ∧ (bestTo fs F t k < 0 ∨ (fs.getD (bestTo fs F t k).toNat fl0).p < (fs.getD k fl0).p) then (k : Int) else bestTo fs F t k) := rfl
      have HBC : Hid (∀ j : Nat, bestTo fs F t k = j → wr.cell? ⟨b, off + j * 4 + 1, none⟩ = some (.int .i64 (fs.getD j fl0).p)) := fun j hj => (((hcell j (by omega)).below hbel (Nat.le_refl _)).2.1)
      generalize bestTo fs F t k = B at *
      generalize fs.getD k fl0 = f at *
      clear hcell HL1
      obtain ⟨p0, p1, mv, dv, p2, p3, hms, hds⟩ := hf
      have HMS := hide hms
      obtain ⟨ma, mcap, rfl, hmn, hmL⟩ := hms
      obtain ⟨da, dcap, rfl, hdn, hdL⟩ := hds
      clear hmL hdL hdn hmn
      have hA : ∀ o : Obj, Below wr.heap.size wr (wr.alloc o) := fun o => (Below.refl _ _).alloc (Nat.le_refl _) o
      by_cases ht : f.t = t
      · have HC : Hid (∀ o : Obj, Calls Try.prog 57 #[.slice ma f.ms.length mcap, .agg #[.int .i64 f0, .int .i64 f1, .int .i64 f2, .int .i64 f3, .int .i64 f4, .int .i64 f5, .int .i64 f6, .int .i64 f7, .int .i64 f8, .int .i64 f9]] (wr.alloc o) fun e w' => e = .returned (.bool (fitsB F f.ms)) ∧ Below (wr.alloc o).heap.size (wr.alloc o) w') := fun o => HFT.out _ f.ms _ (HMS.out.below (hA o) (Nat.le_refl _)) HOK.out.2.1 HOK.out.2.2.2.2.2.2.2.1
        have HFB : Hid (fitB F t f = fitsB F f.ms) := by show _ = _; unfold fitB; simp [ht]
        clear HMS
        generalize fitsB F f.ms = R at *
        go_wp2_with fail
        refine (unhide HC _).mono ?_
        rintro e w1 ⟨rfl, hb1⟩
        have k1 : (wr.alloc (.cells #[.int .i64 t, .int .i64 f.p, .slice ma f.ms.length mcap, .slice da f.ds.length dcap] 41)).cell? ⟨wr.heap.size, 1, none⟩ = some (.int .i64 f.p) := by simp
        have k1' := cell_below k1 hb1 (Nat.le_refl _)
        have hbA2 : Below wr.heap.size wr w1 := (hA _).trans (hb1.mono (hA _).size)
        have hbN : Below W1.heap.size W1 w1 := hbel.trans (hbA2.mono hszr)
        have HBC2 : Hid (∀ j : Nat, B = j → w1.cell? ⟨b, off + j * 4 + 1, none⟩ = some (.int .i64 (fs.getD j fl0).p)) := fun j hj => cell_below (HBC.out j hj) hbA2 (Nat.le_refl _)
        have hsz1 := hbN.size
        clear k1 hb1 hbA2 HBC HC p0 p1 p2 p3 hA e0 e1 e2 e3 e4 e5 e6 e7 e8 e9
        cases R
        · have HR : Hid (bestTo fs F t (k + 1) = B) := by show _ = _; rw [HB.out, HFB.out]; simp
          clear HB HFB HBC2
          go_wp2_with fail
          go_roundw
          case rel => exact ⟨k + 1, by omega, by go_num, by rw [HR.out], hbN⟩
          case measure => simp [intOf]; omega
        · by_cases hB : B < 0
          · have HR : Hid (bestTo fs F t (k + 1) = k) := by show _ = _; rw [HB.out, HFB.out, if_pos ⟨rfl, .inl hB⟩]
            clear HB HFB HBC2
            go_wp2_with fail
            go_quiet (fail)
            go_wp2
            go_roundw
            case rel => exact ⟨k + 1, by omega, by go_num, by rw [HR.out], below_drewN hbN _⟩
            case measure => simp [intOf]; omega
          · obtain ⟨j, rfl⟩ := Int.eq_ofNat_of_zero_le (show 0 ≤ B by omega)
            have cj := HBC2.out j rfl
            have hjk : (j : Int) < fs.length := by omega
            have HB2 : Hid (bestTo fs F t (k + 1) = if (fs.getD j fl0).p < f.p then (k : Int) else j) := by
              show _ = _
              rw [HB.out, HFB.out]
              simp only [true_and, Int.toNat_natCast]
              by_cases hc : (fs.getD j fl0).p < f.p
              · rw [if_pos (.inr hc), if_pos hc]
              · rw [if_neg (by omega), if_neg hc]
            clear HB HFB HBC2
            generalize (fs.getD j fl0).p = P at *
            by_cases hp : P < f.p
            · have HR : Hid (bestTo fs F t (k + 1) = k) := by show _ = _; rw [HB2.out, if_pos hp]
              clear HB2
              go_wp2_with fail
              go_quiet (fail)
              go_wp2
              go_roundw
              case rel => exact ⟨k + 1, by omega, by go_num, by rw [HR.out], below_drewN hbN _⟩
              case measure => simp [intOf]; omega
            · have HR : Hid (bestTo fs F t (k + 1) = j) := by show _ = _; rw [HB2.out, if_neg hp]
              clear HB2
              go_wp2_with fail
              go_quiet (fail)
              go_wp2
              go_roundw
              case rel => exact ⟨k + 1, by omega, by go_num, by rw [HR.out], below_drewN hbN _⟩
              case measure => simp [intOf]; omega
      · have HR : Hid (bestTo fs F t (k + 1) = B) := by
          show _ = _
          have : fitB F t f = false := by unfold fitB; simp [ht]
          rw [HB.out, this]; simp
        clear HB HBC HMS HOK
        go_wp2_with fail
        go_roundw
        case rel => exact ⟨k + 1, by omega, by go_num, by rw [HR.out], hbel.alloc hszr _⟩
        case measure => simp [intOf]; omega
    · have hbi := bestTo_in fs F t k
      have hkl : k = fs.length := by omega
      subst hkl
      by_cases hB : bestTo fs F t fs.length < 0
      · have HD : Hid (dsOf fs (bestTo fs F t fs.length) = []) := by show _ = _; unfold dsOf; rw [if_pos hB]
        obtain ⟨B, hBd⟩ : ∃ B, B = bestTo fs F t fs.length := ⟨_, rfl⟩
        rw [← hBd]
        rw [← hBd] at hB
        clear hBd hbi
        go_wp2_with fail
        go_ret
        exact ⟨_, rfl, by rw [HD.out]; exact ⟨none, 0, rfl, fun _ => rfl, .inl rfl⟩, hbel1⟩
      · obtain ⟨j, hj⟩ := Int.eq_ofNat_of_zero_le (show 0 ≤ bestTo fs F t fs.length by omega)
        have HD : Hid (dsOf fs (bestTo fs F t fs.length) = (fs.getD j fl0).ds) := by show _ = _; unfold dsOf; rw [if_neg hB, hj, Int.toNat_natCast]
        have hjl : j < fs.length := by omega
        obtain ⟨b, off, rfl, _, hcap, hcell⟩ := fs_cell HL0.out hjl
        have hf := hcell j hjl
        have hb0r : Below w0.heap.size w0 wr := HB0.out.trans (hbel1.mono HB0.out.size)
        rw [hj]
        clear hbi hB hj hcell HL1 HL0
        generalize fs.getD j fl0 = f at *
        obtain ⟨p0, p1, mv, dv, p2, p3', hms, hds⟩ := hf
        have p3 := cell_below p3' hb0r (Nat.le_refl _)
        have HDS := hide hds
        obtain ⟨da, dcap, rfl, hdn, hdL⟩ := hds
        clear hdL hms p0 p1 p2 hdn p3' hb0r
        go_wp2_with fail
        go_ret
        exact ⟨_, rfl, by rw [HD.out]; exact HDS.out, hbel1⟩

end Go.Proofs.Ytonhfgdnkkkikac
