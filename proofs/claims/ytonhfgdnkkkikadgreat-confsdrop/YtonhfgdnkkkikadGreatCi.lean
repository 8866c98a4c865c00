/-
  slices.IndexFunc and slices.ContainsFunc at switches and ports, by conf's own closures.
-/
import Derived.Test.YtonhfgdnkkkikadGreatCn
import Derived.Deep.RegionHeld3
import Derived.Deep.QuietTactic
import Derived.BigQuiet
namespace Go.Proofs.YtonhfgdnkkkikadGreat
open Go.RowKit
set_option linter.unusedVariables false
set_option maxRecDepth 100000

/-- The first place of what is looked for; -1: there is none. -/
def idx {α : Type} (p : α → Bool) (l : List α) : Int := match l.findIdx? p with
  | some k => (k : Int)
  | none => -1
theorem idx_at {α : Type} {p : α → Bool} (d : α) {l : List α} {k : Nat} (hk : k < l.length) (h1 : ∀ j, j < k → p (l.getD j d) = false) (h2 : p (l.getD k d) = true) : idx p l = k := by
  have e : l.findIdx? p = some k := by
    rw [List.findIdx?_eq_some_iff_getElem]
    refine ⟨hk, by simpa [List.getD, List.getElem?_eq_getElem hk] using h2, fun j hj => ?_⟩
    have := h1 j hj
    simpa [List.getD, List.getElem?_eq_getElem (show j < l.length by omega)] using this
  unfold idx
  rw [e]
theorem idx_no {α : Type} {p : α → Bool} (d : α) {l : List α} (h1 : ∀ j, j < l.length → p (l.getD j d) = false) : idx p l = -1 := by
  have e : l.findIdx? p = none := by
    rw [List.findIdx?_eq_none_iff]
    intro x hx
    obtain ⟨j, hj, rfl⟩ := List.getElem_of_mem hx
    have := h1 j hj
    simpa [List.getD, List.getElem?_eq_getElem hj] using this
  unfold idx
  rw [e]
theorem idx_any {α : Type} (p : α → Bool) (l : List α) : decide (0 ≤ idx p l) = l.any p := by
  unfold idx
  cases h : l.findIdx? p with
  | none =>
    rw [List.findIdx?_eq_none_iff] at h
    simp only [Int.reduceNeg, Int.reduceLE, decide_false]
    symm
    rw [List.any_eq_false]
    intro x hx
    simp [h x hx]
  | some k =>
    rw [List.findIdx?_eq_some_iff_getElem] at h
    obtain ⟨hk, h1, _⟩ := h
    have h2 : l.any p = true := by
      rw [List.any_eq_true]
      exact ⟨_, List.getElem_mem hk, h1⟩
    rw [h2]
    simp
theorem idx_bd {α : Type} (p : α → Bool) (l : List α) : -1 ≤ idx p l ∧ idx p l < l.length := by
  unfold idx
  cases h : l.findIdx? p with
  | none => exact ⟨by simp, by simp <;> omega⟩
  | some k =>
    rw [List.findIdx?_eq_some_iff_getElem] at h
    obtain ⟨hk, _⟩ := h
    exact ⟨by simp <;> omega, by simpa using hk⟩

/-- What is asked of the closure. -/
def AsksId (w : World) (b0 : Nat) (p : Sw → Bool) : Prop := ∀ (W : World) (x : Sw), Below w.heap.size w W → Calls Tryz.prog 82 #[.agg #[.int .i64 x.i, .int .i64 x.t, .int .i64 x.g], .pointer (some ⟨b0, 0, none⟩)] W fun e w' => e = .returned (.bool (p x)) ∧ Below W.heap.size W w'
set_option maxHeartbeats 2000000 in
theorem idxId_any (l : List Sw) (p : Sw → Bool) (v : Value) (b0 : Nat) (w : World) (hF : SwsAt w v l) (hT : AsksId w b0 p) (hl : l.length * 24 ≤ 140737488355328) :
    Calls Tryz.prog 58 #[v, .func (.func 82) #[] #[.pointer (some ⟨b0, 0, none⟩)]] w fun e w' => e = .returned (.int .i64 (idx p l)) ∧ Below w.heap.size w w' := by
  have HF := hide hF
  have HT := hide hT
  obtain ⟨a, cap, rfl⟩ := hF.slice
  clear hF hT
  go_enter Tryz.func58, Tryz.ntmps58
  go_wp2_with fail
  go_loopw [8] (fun i wr => ∃ k : Nat, k ≤ l.length ∧ i = .int .i64 k ∧ Hid (∀ j, j < k → p (l.getD j sw0) = false) ∧ Below w.heap.size w wr) (fun i _ => l.length - (intOf i).toNat)
  case atStart => exact ⟨0, by omega, rfl, hide (fun j h => absurd h (by omega)), Below.refl _ _⟩
  case round =>
    obtain ⟨k, hk, rfl, HALL, hbr⟩ := hrel
    by_cases hlt : k < l.length
    · obtain ⟨b, off, cap', e1, hcap, -, g0, g1, g2⟩ := sw_at (RowAt.below HF.out hbr (Nat.le_refl _)) hlt
      simp only [Value.slice.injEq, true_and] at e1
      obtain ⟨rfl, rfl⟩ := e1
      have HST : Hid (∀ W : World, Below w.heap.size w W → Calls Tryz.prog 82 #[.agg #[.int .i64 (l.getD k sw0).i, .int .i64 (l.getD k sw0).t, .int .i64 (l.getD k sw0).g], .pointer (some ⟨b0, 0, none⟩)] W fun e w' => e = .returned (.bool (p (l.getD k sw0))) ∧ Below W.heap.size W w') := fun W hW => HT.out W _ hW
      have HNX : Hid (p (l.getD k sw0) = false → ∀ j, j < k + 1 → p (l.getD j sw0) = false) := fun h j hj => by
        by_cases e : j = k
        · subst e; exact h
        · exact HALL.out j (by omega)
      have HFD : Hid (p (l.getD k sw0) = true → idx p l = k) := fun h => idx_at sw0 hlt HALL.out h
      generalize p (l.getD k sw0) = R at *
      generalize (l.getD k sw0).i = y0 at *
      generalize (l.getD k sw0).t = y1 at *
      generalize (l.getD k sw0).g = y2 at *
      have q1 : (0 : Int) ≤ (k : Int) := by omega
      have q2 : (k : Int) < (l.length : Int) := by omega
      clear HALL
      go_wp2_with fail
      refine (unhide HST _ ?_).mono ?_
      · first | exact hbr | exact hbr.drew | exact ⟨hbr.os, hbr.tape, hbr.output, hbr.size, hbr.block⟩
      rintro e w1 ⟨rfl, hb1⟩
      have HB1 : Hid (Below w.heap.size w w1) := hbr.trans (hb1.mono hbr.size)
      clear hb1 hbr HST g0 g1 g2
      cases R
      · have HN := hide (HNX.out rfl)
        clear HNX HFD
        go_wp2_with fail
        go_roundw
        case rel => exact ⟨k + 1, by omega, by go_num, HN, HB1.out⟩
        case measure => simp [intOf]; omega
      · have HN := hide (HFD.out rfl)
        clear HNX HFD
        go_wp2_with fail
        go_ret
        exact ⟨int_ret HN.out.symm, HB1.out⟩
    · have HN : Hid (idx p l = -1) := idx_no sw0 fun i hi => HALL.out i (by omega)
      have HB1 := hide hbr
      clear HALL hbr
      go_wp2_with fail
      go_ret
      exact ⟨int_ret HN.out.symm, HB1.out⟩
set_option maxHeartbeats 1000000 in
theorem hasId_any (l : List Sw) (p : Sw → Bool) (v : Value) (b0 : Nat) (w : World) (hF : SwsAt w v l) (hT : AsksId w b0 p) (hl : l.length * 24 ≤ 140737488355328) :
    Calls Tryz.prog 81 #[v, .func (.func 82) #[] #[.pointer (some ⟨b0, 0, none⟩)]] w fun e w' => e = .returned (.bool (l.any p)) ∧ Below w.heap.size w w' := by
  have HI := hide (idxId_any l p v b0 w hF hT hl)
  have HA := hide (idx_any p l)
  obtain ⟨a, cap, rfl⟩ := hF.slice
  clear hF hT
  generalize idx p l = I at *
  go_enter Tryz.func81, Tryz.ntmps81
  go_wp2_with fail
  refine (unhide HI).mono ?_
  rintro e w1 ⟨rfl, hb1⟩
  go_wp2_with fail
  go_ret
  exact ⟨bool_ret HA.out, hb1⟩

/-- What is asked of the closure. -/
def AsksGate (w : World) (b0 b1 : Nat) (p : Sw → Bool) : Prop := ∀ (W : World) (x : Sw), Below w.heap.size w W → Calls Tryz.prog 83 #[.agg #[.int .i64 x.i, .int .i64 x.t, .int .i64 x.g], .pointer (some ⟨b0, 0, none⟩), .pointer (some ⟨b1, 0, none⟩)] W fun e w' => e = .returned (.bool (p x)) ∧ Below W.heap.size W w'
set_option maxHeartbeats 2000000 in
theorem idxGate_any (l : List Sw) (p : Sw → Bool) (v : Value) (b0 b1 : Nat) (w : World) (hF : SwsAt w v l) (hT : AsksGate w b0 b1 p) (hl : l.length * 24 ≤ 140737488355328) :
    Calls Tryz.prog 58 #[v, .func (.func 83) #[] #[.pointer (some ⟨b0, 0, none⟩), .pointer (some ⟨b1, 0, none⟩)]] w fun e w' => e = .returned (.int .i64 (idx p l)) ∧ Below w.heap.size w w' := by
  have HF := hide hF
  have HT := hide hT
  obtain ⟨a, cap, rfl⟩ := hF.slice
  clear hF hT
  go_enter Tryz.func58, Tryz.ntmps58
  go_wp2_with fail
  go_loopw [8] (fun i wr => ∃ k : Nat, k ≤ l.length ∧ i = .int .i64 k ∧ Hid (∀ j, j < k → p (l.getD j sw0) = false) ∧ Below w.heap.size w wr) (fun i _ => l.length - (intOf i).toNat)
  case atStart => exact ⟨0, by omega, rfl, hide (fun j h => absurd h (by omega)), Below.refl _ _⟩
  case round =>
    obtain ⟨k, hk, rfl, HALL, hbr⟩ := hrel
    by_cases hlt : k < l.length
    · obtain ⟨b, off, cap', e1, hcap, -, g0, g1, g2⟩ := sw_at (RowAt.below HF.out hbr (Nat.le_refl _)) hlt
      simp only [Value.slice.injEq, true_and] at e1
      obtain ⟨rfl, rfl⟩ := e1
      have HST : Hid (∀ W : World, Below w.heap.size w W → Calls Tryz.prog 83 #[.agg #[.int .i64 (l.getD k sw0).i, .int .i64 (l.getD k sw0).t, .int .i64 (l.getD k sw0).g], .pointer (some ⟨b0, 0, none⟩), .pointer (some ⟨b1, 0, none⟩)] W fun e w' => e = .returned (.bool (p (l.getD k sw0))) ∧ Below W.heap.size W w') := fun W hW => HT.out W _ hW
      have HNX : Hid (p (l.getD k sw0) = false → ∀ j, j < k + 1 → p (l.getD j sw0) = false) := fun h j hj => by
        by_cases e : j = k
        · subst e; exact h
        · exact HALL.out j (by omega)
      have HFD : Hid (p (l.getD k sw0) = true → idx p l = k) := fun h => idx_at sw0 hlt HALL.out h
      generalize p (l.getD k sw0) = R at *
      generalize (l.getD k sw0).i = y0 at *
      generalize (l.getD k sw0).t = y1 at *
      generalize (l.getD k sw0).g = y2 at *
      have q1 : (0 : Int) ≤ (k : Int) := by omega
      have q2 : (k : Int) < (l.length : Int) := by omega
      clear HALL
      go_wp2_with fail
      refine (unhide HST _ ?_).mono ?_
      · first | exact hbr | exact hbr.drew | exact ⟨hbr.os, hbr.tape, hbr.output, hbr.size, hbr.block⟩
      rintro e w1 ⟨rfl, hb1⟩
      have HB1 : Hid (Below w.heap.size w w1) := hbr.trans (hb1.mono hbr.size)
      clear hb1 hbr HST g0 g1 g2
      cases R
      · have HN := hide (HNX.out rfl)
        clear HNX HFD
        go_wp2_with fail
        go_roundw
        case rel => exact ⟨k + 1, by omega, by go_num, HN, HB1.out⟩
        case measure => simp [intOf]; omega
      · have HN := hide (HFD.out rfl)
        clear HNX HFD
        go_wp2_with fail
        go_ret
        exact ⟨int_ret HN.out.symm, HB1.out⟩
    · have HN : Hid (idx p l = -1) := idx_no sw0 fun i hi => HALL.out i (by omega)
      have HB1 := hide hbr
      clear HALL hbr
      go_wp2_with fail
      go_ret
      exact ⟨int_ret HN.out.symm, HB1.out⟩
set_option maxHeartbeats 1000000 in
theorem hasGate_any (l : List Sw) (p : Sw → Bool) (v : Value) (b0 b1 : Nat) (w : World) (hF : SwsAt w v l) (hT : AsksGate w b0 b1 p) (hl : l.length * 24 ≤ 140737488355328) :
    Calls Tryz.prog 81 #[v, .func (.func 83) #[] #[.pointer (some ⟨b0, 0, none⟩), .pointer (some ⟨b1, 0, none⟩)]] w fun e w' => e = .returned (.bool (l.any p)) ∧ Below w.heap.size w w' := by
  have HI := hide (idxGate_any l p v b0 b1 w hF hT hl)
  have HA := hide (idx_any p l)
  obtain ⟨a, cap, rfl⟩ := hF.slice
  clear hF hT
  generalize idx p l = I at *
  go_enter Tryz.func81, Tryz.ntmps81
  go_wp2_with fail
  refine (unhide HI).mono ?_
  rintro e w1 ⟨rfl, hb1⟩
  go_wp2_with fail
  go_ret
  exact ⟨bool_ret HA.out, hb1⟩

/-- What is asked of the closure. -/
def AsksOf (w : World) (b0 b1 : Nat) (p : Sw → Bool) : Prop := ∀ (W : World) (x : Sw), Below w.heap.size w W → Calls Tryz.prog 85 #[.agg #[.int .i64 x.i, .int .i64 x.t, .int .i64 x.g], .pointer (some ⟨b0, 0, none⟩), .pointer (some ⟨b1, 0, none⟩)] W fun e w' => e = .returned (.bool (p x)) ∧ Below W.heap.size W w'
set_option maxHeartbeats 2000000 in
theorem idxOf_any (l : List Sw) (p : Sw → Bool) (v : Value) (b0 b1 : Nat) (w : World) (hF : SwsAt w v l) (hT : AsksOf w b0 b1 p) (hl : l.length * 24 ≤ 140737488355328) :
    Calls Tryz.prog 58 #[v, .func (.func 85) #[] #[.pointer (some ⟨b0, 0, none⟩), .pointer (some ⟨b1, 0, none⟩)]] w fun e w' => e = .returned (.int .i64 (idx p l)) ∧ Below w.heap.size w w' := by
  have HF := hide hF
  have HT := hide hT
  obtain ⟨a, cap, rfl⟩ := hF.slice
  clear hF hT
  go_enter Tryz.func58, Tryz.ntmps58
  go_wp2_with fail
  go_loopw [8] (fun i wr => ∃ k : Nat, k ≤ l.length ∧ i = .int .i64 k ∧ Hid (∀ j, j < k → p (l.getD j sw0) = false) ∧ Below w.heap.size w wr) (fun i _ => l.length - (intOf i).toNat)
  case atStart => exact ⟨0, by omega, rfl, hide (fun j h => absurd h (by omega)), Below.refl _ _⟩
  case round =>
    obtain ⟨k, hk, rfl, HALL, hbr⟩ := hrel
    by_cases hlt : k < l.length
    · obtain ⟨b, off, cap', e1, hcap, -, g0, g1, g2⟩ := sw_at (RowAt.below HF.out hbr (Nat.le_refl _)) hlt
      simp only [Value.slice.injEq, true_and] at e1
      obtain ⟨rfl, rfl⟩ := e1
      have HST : Hid (∀ W : World, Below w.heap.size w W → Calls Tryz.prog 85 #[.agg #[.int .i64 (l.getD k sw0).i, .int .i64 (l.getD k sw0).t, .int .i64 (l.getD k sw0).g], .pointer (some ⟨b0, 0, none⟩), .pointer (some ⟨b1, 0, none⟩)] W fun e w' => e = .returned (.bool (p (l.getD k sw0))) ∧ Below W.heap.size W w') := fun W hW => HT.out W _ hW
      have HNX : Hid (p (l.getD k sw0) = false → ∀ j, j < k + 1 → p (l.getD j sw0) = false) := fun h j hj => by
        by_cases e : j = k
        · subst e; exact h
        · exact HALL.out j (by omega)
      have HFD : Hid (p (l.getD k sw0) = true → idx p l = k) := fun h => idx_at sw0 hlt HALL.out h
      generalize p (l.getD k sw0) = R at *
      generalize (l.getD k sw0).i = y0 at *
      generalize (l.getD k sw0).t = y1 at *
      generalize (l.getD k sw0).g = y2 at *
      have q1 : (0 : Int) ≤ (k : Int) := by omega
      have q2 : (k : Int) < (l.length : Int) := by omega
      clear HALL
      go_wp2_with fail
      refine (unhide HST _ ?_).mono ?_
      · first | exact hbr | exact hbr.drew | exact ⟨hbr.os, hbr.tape, hbr.output, hbr.size, hbr.block⟩
      rintro e w1 ⟨rfl, hb1⟩
      have HB1 : Hid (Below w.heap.size w w1) := hbr.trans (hb1.mono hbr.size)
      clear hb1 hbr HST g0 g1 g2
      cases R
      · have HN := hide (HNX.out rfl)
        clear HNX HFD
        go_wp2_with fail
        go_roundw
        case rel => exact ⟨k + 1, by omega, by go_num, HN, HB1.out⟩
        case measure => simp [intOf]; omega
      · have HN := hide (HFD.out rfl)
        clear HNX HFD
        go_wp2_with fail
        go_ret
        exact ⟨int_ret HN.out.symm, HB1.out⟩
    · have HN : Hid (idx p l = -1) := idx_no sw0 fun i hi => HALL.out i (by omega)
      have HB1 := hide hbr
      clear HALL hbr
      go_wp2_with fail
      go_ret
      exact ⟨int_ret HN.out.symm, HB1.out⟩
set_option maxHeartbeats 1000000 in
theorem hasOf_any (l : List Sw) (p : Sw → Bool) (v : Value) (b0 b1 : Nat) (w : World) (hF : SwsAt w v l) (hT : AsksOf w b0 b1 p) (hl : l.length * 24 ≤ 140737488355328) :
    Calls Tryz.prog 81 #[v, .func (.func 85) #[] #[.pointer (some ⟨b0, 0, none⟩), .pointer (some ⟨b1, 0, none⟩)]] w fun e w' => e = .returned (.bool (l.any p)) ∧ Below w.heap.size w w' := by
  have HI := hide (idxOf_any l p v b0 b1 w hF hT hl)
  have HA := hide (idx_any p l)
  obtain ⟨a, cap, rfl⟩ := hF.slice
  clear hF hT
  generalize idx p l = I at *
  go_enter Tryz.func81, Tryz.ntmps81
  go_wp2_with fail
  refine (unhide HI).mono ?_
  rintro e w1 ⟨rfl, hb1⟩
  go_wp2_with fail
  go_ret
  exact ⟨bool_ret HA.out, hb1⟩

/-- What is asked of the closure. -/
def AsksSame (w : World) (b0 : Nat) (p : Pr → Bool) : Prop := ∀ (W : World) (x : Pr), Below w.heap.size w W → Calls Tryz.prog 60 #[.agg #[.int .i64 x.i, .int .i64 x.s, .int .i64 x.m, .int .i64 x.p, .int .i64 x.c], .pointer (some ⟨b0, 0, none⟩)] W fun e w' => e = .returned (.bool (p x)) ∧ Below W.heap.size W w'
set_option maxHeartbeats 2000000 in
theorem idxSame_any (l : List Pr) (p : Pr → Bool) (v : Value) (b0 : Nat) (w : World) (hF : PrsAt w v l) (hT : AsksSame w b0 p) (hl : l.length * 40 ≤ 140737488355328) :
    Calls Tryz.prog 63 #[v, .func (.func 60) #[] #[.pointer (some ⟨b0, 0, none⟩)]] w fun e w' => e = .returned (.int .i64 (idx p l)) ∧ Below w.heap.size w w' := by
  have HF := hide hF
  have HT := hide hT
  obtain ⟨a, cap, rfl⟩ := hF.slice
  clear hF hT
  go_enter Tryz.func63, Tryz.ntmps63
  go_wp2_with fail
  go_loopw [8] (fun i wr => ∃ k : Nat, k ≤ l.length ∧ i = .int .i64 k ∧ Hid (∀ j, j < k → p (l.getD j pr0) = false) ∧ Below w.heap.size w wr) (fun i _ => l.length - (intOf i).toNat)
  case atStart => exact ⟨0, by omega, rfl, hide (fun j h => absurd h (by omega)), Below.refl _ _⟩
  case round =>
    obtain ⟨k, hk, rfl, HALL, hbr⟩ := hrel
    by_cases hlt : k < l.length
    · obtain ⟨b, off, cap', e1, hcap, -, g0, g1, g2, g3, g4⟩ := pr_at (RowAt.below HF.out hbr (Nat.le_refl _)) hlt
      simp only [Value.slice.injEq, true_and] at e1
      obtain ⟨rfl, rfl⟩ := e1
      have HST : Hid (∀ W : World, Below w.heap.size w W → Calls Tryz.prog 60 #[.agg #[.int .i64 (l.getD k pr0).i, .int .i64 (l.getD k pr0).s, .int .i64 (l.getD k pr0).m, .int .i64 (l.getD k pr0).p, .int .i64 (l.getD k pr0).c], .pointer (some ⟨b0, 0, none⟩)] W fun e w' => e = .returned (.bool (p (l.getD k pr0))) ∧ Below W.heap.size W w') := fun W hW => HT.out W _ hW
      have HNX : Hid (p (l.getD k pr0) = false → ∀ j, j < k + 1 → p (l.getD j pr0) = false) := fun h j hj => by
        by_cases e : j = k
        · subst e; exact h
        · exact HALL.out j (by omega)
      have HFD : Hid (p (l.getD k pr0) = true → idx p l = k) := fun h => idx_at pr0 hlt HALL.out h
      generalize p (l.getD k pr0) = R at *
      generalize (l.getD k pr0).i = y0 at *
      generalize (l.getD k pr0).s = y1 at *
      generalize (l.getD k pr0).m = y2 at *
      generalize (l.getD k pr0).p = y3 at *
      generalize (l.getD k pr0).c = y4 at *
      have q1 : (0 : Int) ≤ (k : Int) := by omega
      have q2 : (k : Int) < (l.length : Int) := by omega
      clear HALL
      go_wp2_with fail
      refine (unhide HST _ ?_).mono ?_
      · first | exact hbr | exact hbr.drew | exact ⟨hbr.os, hbr.tape, hbr.output, hbr.size, hbr.block⟩
      rintro e w1 ⟨rfl, hb1⟩
      have HB1 : Hid (Below w.heap.size w w1) := hbr.trans (hb1.mono hbr.size)
      clear hb1 hbr HST g0 g1 g2 g3 g4
      cases R
      · have HN := hide (HNX.out rfl)
        clear HNX HFD
        go_wp2_with fail
        go_roundw
        case rel => exact ⟨k + 1, by omega, by go_num, HN, HB1.out⟩
        case measure => simp [intOf]; omega
      · have HN := hide (HFD.out rfl)
        clear HNX HFD
        go_wp2_with fail
        go_ret
        exact ⟨int_ret HN.out.symm, HB1.out⟩
    · have HN : Hid (idx p l = -1) := idx_no pr0 fun i hi => HALL.out i (by omega)
      have HB1 := hide hbr
      clear HALL hbr
      go_wp2_with fail
      go_ret
      exact ⟨int_ret HN.out.symm, HB1.out⟩
set_option maxHeartbeats 1000000 in
theorem hasSame_any (l : List Pr) (p : Pr → Bool) (v : Value) (b0 : Nat) (w : World) (hF : PrsAt w v l) (hT : AsksSame w b0 p) (hl : l.length * 40 ≤ 140737488355328) :
    Calls Tryz.prog 86 #[v, .func (.func 60) #[] #[.pointer (some ⟨b0, 0, none⟩)]] w fun e w' => e = .returned (.bool (l.any p)) ∧ Below w.heap.size w w' := by
  have HI := hide (idxSame_any l p v b0 w hF hT hl)
  have HA := hide (idx_any p l)
  obtain ⟨a, cap, rfl⟩ := hF.slice
  clear hF hT
  generalize idx p l = I at *
  go_enter Tryz.func86, Tryz.ntmps86
  go_wp2_with fail
  refine (unhide HI).mono ?_
  rintro e w1 ⟨rfl, hb1⟩
  go_wp2_with fail
  go_ret
  exact ⟨bool_ret HA.out, hb1⟩

/-- What is asked of the closure. -/
def AsksIp (w : World) (b0 b1 b2 : Nat) (p : Pr → Bool) : Prop := ∀ (W : World) (x : Pr), Below w.heap.size w W → Calls Tryz.prog 84 #[.agg #[.int .i64 x.i, .int .i64 x.s, .int .i64 x.m, .int .i64 x.p, .int .i64 x.c], .pointer (some ⟨b0, 0, none⟩), .pointer (some ⟨b1, 0, none⟩), .pointer (some ⟨b2, 0, none⟩)] W fun e w' => e = .returned (.bool (p x)) ∧ Below W.heap.size W w'
set_option maxHeartbeats 2000000 in
theorem idxIp_any (l : List Pr) (p : Pr → Bool) (v : Value) (b0 b1 b2 : Nat) (w : World) (hF : PrsAt w v l) (hT : AsksIp w b0 b1 b2 p) (hl : l.length * 40 ≤ 140737488355328) :
    Calls Tryz.prog 63 #[v, .func (.func 84) #[] #[.pointer (some ⟨b0, 0, none⟩), .pointer (some ⟨b1, 0, none⟩), .pointer (some ⟨b2, 0, none⟩)]] w fun e w' => e = .returned (.int .i64 (idx p l)) ∧ Below w.heap.size w w' := by
  have HF := hide hF
  have HT := hide hT
  obtain ⟨a, cap, rfl⟩ := hF.slice
  clear hF hT
  go_enter Tryz.func63, Tryz.ntmps63
  go_wp2_with fail
  go_loopw [8] (fun i wr => ∃ k : Nat, k ≤ l.length ∧ i = .int .i64 k ∧ Hid (∀ j, j < k → p (l.getD j pr0) = false) ∧ Below w.heap.size w wr) (fun i _ => l.length - (intOf i).toNat)
  case atStart => exact ⟨0, by omega, rfl, hide (fun j h => absurd h (by omega)), Below.refl _ _⟩
  case round =>
    obtain ⟨k, hk, rfl, HALL, hbr⟩ := hrel
    by_cases hlt : k < l.length
    · obtain ⟨b, off, cap', e1, hcap, -, g0, g1, g2, g3, g4⟩ := pr_at (RowAt.below HF.out hbr (Nat.le_refl _)) hlt
      simp only [Value.slice.injEq, true_and] at e1
      obtain ⟨rfl, rfl⟩ := e1
      have HST : Hid (∀ W : World, Below w.heap.size w W → Calls Tryz.prog 84 #[.agg #[.int .i64 (l.getD k pr0).i, .int .i64 (l.getD k pr0).s, .int .i64 (l.getD k pr0).m, .int .i64 (l.getD k pr0).p, .int .i64 (l.getD k pr0).c], .pointer (some ⟨b0, 0, none⟩), .pointer (some ⟨b1, 0, none⟩), .pointer (some ⟨b2, 0, none⟩)] W fun e w' => e = .returned (.bool (p (l.getD k pr0))) ∧ Below W.heap.size W w') := fun W hW => HT.out W _ hW
      have HNX : Hid (p (l.getD k pr0) = false → ∀ j, j < k + 1 → p (l.getD j pr0) = false) := fun h j hj => by
        by_cases e : j = k
        · subst e; exact h
        · exact HALL.out j (by omega)
      have HFD : Hid (p (l.getD k pr0) = true → idx p l = k) := fun h => idx_at pr0 hlt HALL.out h
      generalize p (l.getD k pr0) = R at *
      generalize (l.getD k pr0).i = y0 at *
      generalize (l.getD k pr0).s = y1 at *
      generalize (l.getD k pr0).m = y2 at *
      generalize (l.getD k pr0).p = y3 at *
      generalize (l.getD k pr0).c = y4 at *
      have q1 : (0 : Int) ≤ (k : Int) := by omega
      have q2 : (k : Int) < (l.length : Int) := by omega
      clear HALL
      go_wp2_with fail
      refine (unhide HST _ ?_).mono ?_
      · first | exact hbr | exact hbr.drew | exact ⟨hbr.os, hbr.tape, hbr.output, hbr.size, hbr.block⟩
      rintro e w1 ⟨rfl, hb1⟩
      have HB1 : Hid (Below w.heap.size w w1) := hbr.trans (hb1.mono hbr.size)
      clear hb1 hbr HST g0 g1 g2 g3 g4
      cases R
      · have HN := hide (HNX.out rfl)
        clear HNX HFD
        go_wp2_with fail
        go_roundw
        case rel => exact ⟨k + 1, by omega, by go_num, HN, HB1.out⟩
        case measure => simp [intOf]; omega
      · have HN := hide (HFD.out rfl)
        clear HNX HFD
        go_wp2_with fail
        go_ret
        exact ⟨int_ret HN.out.symm, HB1.out⟩
    · have HN : Hid (idx p l = -1) := idx_no pr0 fun i hi => HALL.out i (by omega)
      have HB1 := hide hbr
      clear HALL hbr
      go_wp2_with fail
      go_ret
      exact ⟨int_ret HN.out.symm, HB1.out⟩
set_option maxHeartbeats 1000000 in
theorem hasIp_any (l : List Pr) (p : Pr → Bool) (v : Value) (b0 b1 b2 : Nat) (w : World) (hF : PrsAt w v l) (hT : AsksIp w b0 b1 b2 p) (hl : l.length * 40 ≤ 140737488355328) :
    Calls Tryz.prog 86 #[v, .func (.func 84) #[] #[.pointer (some ⟨b0, 0, none⟩), .pointer (some ⟨b1, 0, none⟩), .pointer (some ⟨b2, 0, none⟩)]] w fun e w' => e = .returned (.bool (l.any p)) ∧ Below w.heap.size w w' := by
  have HI := hide (idxIp_any l p v b0 b1 b2 w hF hT hl)
  have HA := hide (idx_any p l)
  obtain ⟨a, cap, rfl⟩ := hF.slice
  clear hF hT
  generalize idx p l = I at *
  go_enter Tryz.func86, Tryz.ntmps86
  go_wp2_with fail
  refine (unhide HI).mono ?_
  rintro e w1 ⟨rfl, hb1⟩
  go_wp2_with fail
  go_ret
  exact ⟨bool_ret HA.out, hb1⟩

end Go.Proofs.YtonhfgdnkkkikadGreat
