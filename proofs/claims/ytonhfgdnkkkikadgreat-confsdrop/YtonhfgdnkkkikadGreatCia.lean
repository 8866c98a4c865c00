/-
  slices.IndexFunc at ports, by conf.portAt's closure.
-/
import Derived.Test.YtonhfgdnkkkikadGreatCi
namespace Go.Proofs.YtonhfgdnkkkikadGreat
open Go.RowKit
set_option linter.unusedVariables false
set_option maxRecDepth 100000

/-- What is asked of the closure. -/
def AsksAt (w : World) (b0 : Nat) (p : Pr → Bool) : Prop := ∀ (W : World) (x : Pr), Below w.heap.size w W → Calls Tryz.prog 64 #[.agg #[.int .i64 x.i, .int .i64 x.s, .int .i64 x.m, .int .i64 x.p, .int .i64 x.c], .pointer (some ⟨b0, 0, none⟩)] W fun e w' => e = .returned (.bool (p x)) ∧ Below W.heap.size W w'
set_option maxHeartbeats 2000000 in
theorem idxAt_any (l : List Pr) (p : Pr → Bool) (v : Value) (b0 : Nat) (w : World) (hF : PrsAt w v l) (hT : AsksAt w b0 p) (hl : l.length * 40 ≤ 140737488355328) :
    Calls Tryz.prog 63 #[v, .func (.func 64) #[] #[.pointer (some ⟨b0, 0, none⟩)]] w fun e w' => e = .returned (.int .i64 (idx p l)) ∧ Below w.heap.size w w' := by
  have HF := hide hF
  have HT := hide hT
  obtain ⟨a, cap, rfl⟩ := hF.slice
  clear hF hT
  go_enter Tryz.func63, Tryz.ntmps63
  go_wp2_with fail
  go_loopw [8] (fun i wr => ∃ k : Nat, k ≤ l.length ∧ i = .int .i64 k ∧ Hid (∀ j, j < k → p (l.getD j pr0) = false) ∧ Below w.heap.size w wr) (fun i _ => l.length - (intOf i).toNat)
  case atStart => exact ⟨0, by omega, rfl, hide (fun j h => absurd h (by omega)), Below.refl _ _⟩
  case round =>
    obtain ⟨k, hk, rfl, HALL, hbr⟩ := hrel
    by_cases hlt : k < l.length
    · obtain ⟨b, off, cap', e1, hcap, -, g0, g1, g2, g3, g4⟩ := pr_at (RowAt.below HF.out hbr (Nat.le_refl _)) hlt
      simp only [Value.slice.injEq, true_and] at e1
      obtain ⟨rfl, rfl⟩ := e1
      have HST : Hid (∀ W : World, Below w.heap.size w W → Calls Tryz.prog 64 #[.agg #[.int .i64 (l.getD k pr0).i, .int .i64 (l.getD k pr0).s, .int .i64 (l.getD k pr0).m, .int .i64 (l.getD k pr0).p, .int .i64 (l.getD k pr0).c], .pointer (some ⟨b0, 0, none⟩)] W fun e w' => e = .returned (.bool (p (l.getD k pr0))) ∧ Below W.heap.size W w') := fun W hW => HT.out W _ hW
      have HNX : Hid (p (l.getD k pr0) = false → ∀ j, j < k + 1 → p (l.getD j pr0) = false) := fun h j hj => by
        by_cases e : j = k
        · subst e; exact h
        · exact HALL.out j (by omega)
      have HFD : Hid (p (l.getD k pr0) = true → idx p l = k) := fun h => idx_at pr0 hlt HALL.out h
      generalize p (l.getD k pr0) = R at *
      generalize (l.getD k pr0).i = y0 at *
      generalize (l.getD k pr0).s = y1 at *
      generalize (l.getD k pr0).m = y2 at *
      generalize (l.getD k pr0).p = y3 at *
      generalize (l.getD k pr0).c = y4 at *
      have q1 : (0 : Int) ≤ (k : Int) := by omega
      have q2 : (k : Int) < (l.length : Int) := by omega
      clear HALL
      go_wp2_with fail
      refine (unhide HST _ ?_).mono ?_
      · first | exact hbr | exact hbr.drew | exact ⟨hbr.os, hbr.tape, hbr.output, hbr.size, hbr.block⟩
      rintro e w1 ⟨rfl, hb1⟩
      have HB1 : Hid (Below w.heap.size w w1) := hbr.trans (hb1.mono hbr.size)
      clear hb1 hbr HST g0 g1 g2 g3 g4
      cases R
      · have HN := hide (HNX.out rfl)
        clear HNX HFD
        go_wp2_with fail
        go_roundw
        case rel => exact ⟨k + 1, by omega, by go_num, HN, HB1.out⟩
        case measure => simp [intOf]; omega
      · have HN := hide (HFD.out rfl)
        clear HNX HFD
        go_wp2_with fail
        go_ret
        exact ⟨int_ret HN.out.symm, HB1.out⟩
    · have HN : Hid (idx p l = -1) := idx_no pr0 fun i hi => HALL.out i (by omega)
      have HB1 := hide hbr
      clear HALL hbr
      go_wp2_with fail
      go_ret
      exact ⟨int_ret HN.out.symm, HB1.out⟩
end Go.Proofs.YtonhfgdnkkkikadGreat
