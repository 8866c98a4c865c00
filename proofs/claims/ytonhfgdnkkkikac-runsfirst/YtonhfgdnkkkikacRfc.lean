/-
  What the document's FlowCopy answers.
-/
import Derived.Test.YtonhfgdnkkkikacTwo
import Derived.Deep.RegionHeld3
import Derived.Deep.QuietTactic
import Derived.BigQuiet
import Derived.Deep.RegionLaw
namespace Go.Proofs.Ytonhfgdnkkkikac
open Go.RowKit
set_option linter.unusedVariables false
set_option maxRecDepth 100000

def M (l : List Mt) : List Value := l.flatMap fun x => [.int .i64 x.f, .int .i64 x.m, .int .i64 x.v]
def D (l : List Do) : List Value := l.flatMap fun x => [.int .i64 x.k, .int .i64 x.a, .int .i64 x.n]
theorem infoMatch : (Try.prog.info? 35).map (fun i => (i.zero, i.size, i.bytes)) = some (some (.agg #[.int .i64 0, .int .i64 0, .int .i64 0]), 3, 24) := by kernel_rfl
theorem infoDoes : (Try.prog.info? 38).map (fun i => (i.zero, i.size, i.bytes)) = some (some (.agg #[.int .i64 0, .int .i64 0, .int .i64 0]), 3, 24) := by kernel_rfl

theorem M_take (ms : List Mt) (k : Nat) (h : k < ms.length) : M (ms.take (k + 1)) = M (ms.take k) ++ [.int .i64 (ms.getD k mt0).f, .int .i64 (ms.getD k mt0).m, .int .i64 (ms.getD k mt0).v] := by
  unfold M
  rw [List.take_succ_eq_append_getElem h, List.flatMap_append]
  simp only [List.flatMap_cons, List.flatMap_nil, List.append_nil, List.getD, List.getElem?_eq_getElem h, Option.getD_some]
theorem D_take (ds : List Do) (k : Nat) (h : k < ds.length) : D (ds.take (k + 1)) = D (ds.take k) ++ [.int .i64 (ds.getD k do0).k, .int .i64 (ds.getD k do0).a, .int .i64 (ds.getD k do0).n] := by
  unfold D
  rw [List.take_succ_eq_append_getElem h, List.flatMap_append]
  simp only [List.flatMap_cons, List.flatMap_nil, List.append_nil, List.getD, List.getElem?_eq_getElem h, Option.getD_some]
theorem cell_set_blk {w : World} {b o b' o' : Nat} {v : Value} (h : b' ≠ b) : (w.setCell ⟨b', o', none⟩ v).cell? ⟨b, o, none⟩ = w.cell? ⟨b, o, none⟩ := World.cell?_setCell_other _ _ _ _ (fun e => h (by simpa using congrArg Addr.block e))
theorem own_lt {w : World} {B e size n : Nat} {v : Value} {xs : List Value} (h : w.ownsRow B e size v n xs) {g : Nat} (hg : v.ownBlock = some g) : g < w.heap.size := by
  obtain ⟨_, ⟨rfl, _⟩ | ⟨g', cap', cur, rfl, hB, hb, _⟩⟩ := h
  · simp [Value.ownBlock] at hg
  · simp [Value.ownBlock] at hg
    subst hg
    exact lt_of_block hb
theorem own_slice {w : World} {B e size n : Nat} {v : Value} {xs : List Value} (h : w.ownsRow B e size v n xs) : ∃ o m c, v = .slice o m c := by
  obtain ⟨_, ⟨rfl, _⟩ | ⟨g', cap', cur, rfl, _⟩⟩ := h
  · exact ⟨_, _, _, rfl⟩
  · exact ⟨_, _, _, rfl⟩
theorem sep_app {w : World} {B e size n H g : Nat} {u v : Value} {xs : List Value} (h : w.ownsRow B e size u n xs) (hs : u.ownBlock = none ∨ u.ownBlock ≠ v.ownBlock) (ha : v.ownBlock = some g ∨ g = H) (hH : w.heap.size ≤ H) : u.ownBlock = none ∨ u.ownBlock ≠ some g := by
  rcases hs with hs | hs
  · exact .inl hs
  · refine .inr fun e => ?_
    rcases ha with ha | ha
    · exact hs (e.trans ha.symm)
    · have := own_lt h e
      omega
theorem one3 (x y z : Int) : ∀ u ∈ [Value.int .i64 x, .int .i64 y, .int .i64 z], u.oneCell' = true := by
  intro u hu
  simp at hu
  rcases hu with rfl | rfl | rfl <;> rfl

set_option maxRecDepth 100000 in
set_option maxHeartbeats 8000000 in
theorem flowCopy_any (a : Fl) (amv adv : Value) (w : World) (hma : MsAt w amv a.ms) (hda : DsAt w adv a.ds) (la1 : a.ms.length ≤ 2000000) (la2 : a.ds.length ≤ 2000000) :
    Calls Try.prog 54 #[.agg #[.int .i64 a.t, .int .i64 a.p, amv, adv]] w fun e w' => ∃ mv dv, e = .returned (.agg #[.int .i64 a.t, .int .i64 a.p, mv, dv]) ∧
      w'.ownsRow w.heap.size 35 3 mv a.ms.length (M a.ms) ∧ w'.ownsRow w.heap.size 38 3 dv a.ds.length (D a.ds) ∧ Below w.heap.size w w' := by
  obtain ⟨im, him, hm0, hm1, hm2⟩ := info_parts infoMatch
  obtain ⟨id, hid, hd0, hd1, hd2⟩ := info_parts infoDoes
  have HMA := hide hma
  have HDA := hide hda
  obtain ⟨ama, amc, rfl, -, -⟩ := hma
  obtain ⟨ada, adc, rfl, -, -⟩ := hda
  go_enter Try.func54, Try.ntmps54
  go_wp2_with fail
  obtain ⟨w1, hw1⟩ : ∃ w1, w1 = ((w.alloc (.cells #[.int .i64 a.t, .int .i64 a.p, .slice ama a.ms.length amc, .slice ada a.ds.length adc] 41)).alloc (.cells #[.int .i64 0, .int .i64 0, .slice none 0 0, .slice none 0 0] 41)).alloc
    (.cells #[.int .i64 a.t, .int .i64 a.p, .slice none 0 0, .slice none 0 0] 41) := ⟨_, rfl⟩
  have qq : ∀ (W : World) (o : Obj) (k j : Nat) (v : Value), W.cell? ⟨k, j, none⟩ = some v → (W.alloc o).cell? ⟨k, j, none⟩ = some v := fun W o k j v h => cell_below h ((Below.refl _ _).alloc (Nat.le_refl _) _) (Nat.le_refl _)
  have qa2 : w1.cell? ⟨w.heap.size, 2, none⟩ = some (.slice ama a.ms.length amc) := by rw [hw1]; exact qq _ _ _ _ _ (qq _ _ _ _ _ (cell_of_row _ _ _ _ _ _ (MapKept.heap_alloc w _).1))
  have qa3 : w1.cell? ⟨w.heap.size, 3, none⟩ = some (.slice ada a.ds.length adc) := by rw [hw1]; exact qq _ _ _ _ _ (qq _ _ _ _ _ (cell_of_row _ _ _ _ _ _ (MapKept.heap_alloc w _).1))
  clear qq
  have hz1w : w1.heap.size = w.heap.size + 3 := by rw [hw1]; simp
  have hbel1 : Below w.heap.size w w1 := by
    rw [hw1]
    exact (((Below.refl _ _).alloc (Nat.le_refl _) _).alloc (by simp) _).alloc (by simp; omega) _
  obtain ⟨xb, hxb⟩ : ∃ xb, xb = w.heap.size + 1 + 1 := ⟨_, rfl⟩
  have hb1 : w1.heap[xb]? = some (.cells #[.int .i64 a.t, .int .i64 a.p, .slice none 0 0, .slice none 0 0] 41) := by
    rw [hxb, hw1]
    have := (MapKept.heap_alloc ((w.alloc (.cells #[.int .i64 a.t, .int .i64 a.p, .slice ama a.ms.length amc, .slice ada a.ds.length adc] 41)).alloc (.cells #[.int .i64 0, .int .i64 0, .slice none 0 0, .slice none 0 0] 41)) (.cells #[.int .i64 a.t, .int .i64 a.p, .slice none 0 0, .slice none 0 0] 41)).1
    simpa only [World.size_alloc] using this
  have hrb : w1.heap[w.heap.size + 1]? = some (.cells #[.int .i64 0, .int .i64 0, .slice none 0 0, .slice none 0 0] 41) := by
    rw [hw1, (MapKept.heap_alloc _ _).2 _ (by simp)]
    have := (MapKept.heap_alloc (w.alloc (.cells #[.int .i64 a.t, .int .i64 a.p, .slice ama a.ms.length amc, .slice ada a.ds.length adc] 41)) (.cells #[.int .i64 0, .int .i64 0, .slice none 0 0, .slice none 0 0] 41)).1
    simpa only [World.size_alloc] using this
  have p0 : w1.cell? ⟨xb, 0, none⟩ = some (.int .i64 a.t) := cell_of_row _ _ _ _ _ _ hb1
  have p1 : w1.cell? ⟨xb, 1, none⟩ = some (.int .i64 a.p) := cell_of_row _ _ _ _ _ _ hb1
  have p2 : w1.cell? ⟨xb, 2, none⟩ = some (.slice none 0 0) := cell_of_row _ _ _ _ _ _ hb1
  have p3 : w1.cell? ⟨xb, 3, none⟩ = some (.slice none 0 0) := cell_of_row _ _ _ _ _ _ hb1
  have z2 : w1.frozen? ⟨xb, 2, none⟩ = false := frozen_of_row _ _ _ _ _ hb1
  have z3 : w1.frozen? ⟨xb, 3, none⟩ = false := frozen_of_row _ _ _ _ _ hb1
  rw [← hw1, ← hxb]
  have HXB := hide hxb
  clear hw1 hb1
  have hxlt : w.heap.size + 2 = xb := by omega
  have HRB := hide hrb
  clear hxb hrb
  go_loopw [4] (fun i wr => ∃ (k : Nat) (v : Value), k ≤ a.ms.length ∧ i = .int .i64 k ∧ wr.cell? ⟨xb, 0, none⟩ = some (.int .i64 a.t) ∧ wr.cell? ⟨xb, 1, none⟩ = some (.int .i64 a.p) ∧ wr.cell? ⟨xb, 2, none⟩ = some v ∧ wr.cell? ⟨xb, 3, none⟩ = some (.slice none 0 0) ∧
    wr.frozen? ⟨xb, 2, none⟩ = false ∧ wr.frozen? ⟨xb, 3, none⟩ = false ∧ Hid (wr.ownsRow (xb + 1) 35 3 v k (M (a.ms.take k))) ∧ Below xb w1 wr) (fun i _ => a.ms.length - (intOf i).toNat)
  case atStart => exact ⟨0, _, by omega, rfl, p0, p1, p2, p3, z2, z3, hide ⟨by simp [M], .inl ⟨rfl, rfl⟩⟩, Below.refl _ _⟩
  case round =>
    clear p0 p1 p2 p3 z2 z3
    obtain ⟨k, v, hk, rfl, p0, p1, p2, p3, z2, z3, HO, hbr⟩ := hrel
    have cc : wr.cell? ⟨w.heap.size, 2, none⟩ = some (.slice ama a.ms.length amc) := (hbr.cell (p := ⟨w.heap.size, 2, none⟩) (show w.heap.size < xb by omega)).trans qa2
    have hsz : xb + 1 ≤ wr.heap.size := by have := hbr.size; omega
    by_cases hlt : k < a.ms.length
    · obtain ⟨ma', mcap', hmv, hmn', hmL⟩ := HMA.out.below (hbel1.trans (hbr.mono (by omega))) (Nat.le_refl _)
      simp only [Value.slice.injEq] at hmv
      obtain ⟨rfl, _, rfl⟩ := hmv
      obtain ⟨mb, moff, rfl, hmc, hmcell⟩ : ∃ mb moff, ama = some ⟨mb, moff, none⟩ ∧ a.ms.length ≤ amc ∧ mb < w.heap.size ∧ wr.cell? ⟨mb, moff + k * 3, none⟩ = some (.int .i64 (a.ms.getD k mt0).f) ∧ wr.cell? ⟨mb, moff + k * 3 + 1, none⟩ = some (.int .i64 (a.ms.getD k mt0).m) ∧ wr.cell? ⟨mb, moff + k * 3 + 2, none⟩ = some (.int .i64 (a.ms.getD k mt0).v) := by
        rcases hmL with h0 | ⟨b1, o1, h1, h2, h3⟩
        · omega
        · refine ⟨b1, o1, h1, h2, ?_, h3 k hlt⟩
          obtain ⟨a1, c1, e1, _, e0 | ⟨b2, o2, e2, _, e3⟩⟩ := HMA.out
          · omega
          · simp only [Value.slice.injEq] at e1
            have := e1.1
            rw [h1, e2] at this
            simp at this
            rw [this.1]
            exact cell_lt (e3 k hlt).1
      obtain ⟨hmb, m0, m1, m2⟩ := hmcell
      have HN : Hid (M (a.ms.take k) ++ [.int .i64 (a.ms.getD k mt0).f, .int .i64 (a.ms.getD k mt0).m, .int .i64 (a.ms.getD k mt0).v] = M (a.ms.take (k + 1))) := (M_take a.ms k hlt).symm
      clear hmL hmn' HMA HDA
      generalize (a.ms.getD k mt0).f = mf at *
      generalize (a.ms.getD k mt0).m = mm at *
      generalize (a.ms.getD k mt0).v = mv at *
      have own1 := hide ((HO.out.alloc (.cells #[.int .i64 mf, .int .i64 mm, .int .i64 mv] 35)).drew)
      have NEWS1 : Hid (∀ j u, [Value.int .i64 mf, .int .i64 mm, .int .i64 mv][j]? = some u → (wr.alloc (.cells #[.int .i64 mf, .int .i64 mm, .int .i64 mv] 35)).drew.cell? ((⟨wr.heap.size, 0, none⟩ : Addr).add j) = some u) := by
        intro j u hj
        match j, hj with
        | 0, hj => simp at hj; subst hj; simp [Addr.add]
        | 1, hj => simp at hj; subst hj; simp [Addr.add]
        | 2, hj => simp at hj; subst hj; simp [Addr.add]
      have base1 : xb + 1 ≤ (wr.alloc (.cells #[.int .i64 mf, .int .i64 mm, .int .i64 mv] 35)).drew.heap.size := by simp; omega
      have bel1 : Below (xb + 1) wr (wr.alloc (.cells #[.int .i64 mf, .int .i64 mm, .int .i64 mv] 35)).drew := ((Below.refl _ wr).alloc (by omega) _).drew
      have hx1 : k + 1 ≤ maxLen := by unfold maxLen; omega
      have hx2 : (k + 1) * 24 ≤ 140737488355328 := by omega
      have hne1 : xb ≠ w.heap.size := by omega
      have hne2 : xb ≠ mb := by omega
      have hxw : xb < wr.heap.size := by omega
      have hmw : mb < wr.heap.size := by omega
      have hnw : w.heap.size < wr.heap.size := by omega
      have p2a : (wr.alloc (.cells #[.int .i64 mf, .int .i64 mm, .int .i64 mv] 35)).drew.cell? ⟨xb, 2, none⟩ = some v := (bel1.cell (p := ⟨xb, 2, none⟩) (show xb < xb + 1 by omega)).trans p2
      go_wp2_with fail
      go_region_law
        (first | (refine step_append_lies _ rfl (.tmp 19) (.tmp 25) 36 rfl (xb + 1) 35 im _ 3 24 Try.underlying36 him hm0 hm1 hm2 rfl (by decide) _ _ _ rfl (unhide own1) ⟨wr.heap.size, 0, none⟩ 1 1 [.int .i64 mf, .int .i64 mm, .int .i64 mv] rfl rfl (unhide NEWS1) (one3 _ _ _) (by decide) hx1 hx2 base1 _ rfl ?_; intro g cap w4 ho4 hg4 hat _; have hb4 := bel1.grown hg4 base1 (own_ge (unhide own1)); have q0 := (hb4.cell (p := ⟨w.heap.size, 2, none⟩) (show w.heap.size < xb + 1 by omega)).trans cc; have q1 := (hb4.cell (p := ⟨mb, moff + k * 3, none⟩) (show mb < xb + 1 by omega)).trans m0; have q2 := (hb4.cell (p := ⟨mb, moff + k * 3 + 1, none⟩) (show mb < xb + 1 by omega)).trans m1; have q3 := (hb4.cell (p := ⟨mb, moff + k * 3 + 2, none⟩) (show mb < xb + 1 by omega)).trans m2; have q4 := (hb4.cell (p := ⟨xb, 2, none⟩) (show xb < xb + 1 by omega)).trans p2; have q5 := (hb4.frozen (p := ⟨xb, 2, none⟩) (show xb < xb + 1 by omega)).trans z2))
      all_goals
        have HO4 := hide (ownsRow_setCell_below (ho4) (a := ⟨xb, 2, none⟩) (show xb < xb + 1 by omega) (.slice (some ⟨g, 0, none⟩) (k + 1) cap))
        have hb5 : Below xb w1 (w4.setCell ⟨xb, 2, none⟩ (.slice (some ⟨g, 0, none⟩) (k + 1) cap)) := (hbr.trans (hb4.mono (Nat.le_succ _))).setCell (Nat.le_refl _) _
        have r0 := (World.cell?_setCell_other w4 ⟨xb, 2, none⟩ ⟨xb, 0, none⟩ (.slice (some ⟨g, 0, none⟩) (k + 1) cap) (by simp)).trans ((hb4.cell (p := ⟨xb, 0, none⟩) (show xb < xb + 1 by omega)).trans p0)
        have r1 := (World.cell?_setCell_other w4 ⟨xb, 2, none⟩ ⟨xb, 1, none⟩ (.slice (some ⟨g, 0, none⟩) (k + 1) cap) (by simp)).trans ((hb4.cell (p := ⟨xb, 1, none⟩) (show xb < xb + 1 by omega)).trans p1)
        have r2 := World.cell?_setCell_same w4 _ (.slice (some ⟨g, 0, none⟩) (k + 1) cap) q4
        have r3 := (World.cell?_setCell_other w4 ⟨xb, 2, none⟩ ⟨xb, 3, none⟩ (.slice (some ⟨g, 0, none⟩) (k + 1) cap) (by simp)).trans ((hb4.cell (p := ⟨xb, 3, none⟩) (show xb < xb + 1 by omega)).trans p3)
        have r4 : (w4.setCell ⟨xb, 2, none⟩ (.slice (some ⟨g, 0, none⟩) (k + 1) cap)).frozen? ⟨xb, 2, none⟩ = false := by rw [World.frozen?_setCell]; exact q5
        have r5 : (w4.setCell ⟨xb, 2, none⟩ (.slice (some ⟨g, 0, none⟩) (k + 1) cap)).frozen? ⟨xb, 3, none⟩ = false := by rw [World.frozen?_setCell]; exact (hb4.frozen (p := ⟨xb, 3, none⟩) (show xb < xb + 1 by omega)).trans z3
        have HE : Hid ((w4.setCell ⟨xb, 2, none⟩ (.slice (some ⟨g, 0, none⟩) (k + 1) cap)).ownsRow (xb + 1) 35 3 (.slice (some ⟨g, 0, none⟩) (k + 1) cap) (k + 1) (M (a.ms.take (k + 1)))) := by
          show World.ownsRow _ _ _ _ _ _ _
          rw [← HN.out]; exact HO4.out
        clear HO4 HN ho4 hg4 hat q0 q1 q2 q3 q4 q5 cc m0 m1 m2 own1 NEWS1 base1 bel1 hx1 hx2 HO hbr hb4 p0 p1 p2 p2a p3 z2 z3 hne1 hne2 hmb hmw
        generalize (w4.setCell ⟨xb, 2, none⟩ (.slice (some ⟨g, 0, none⟩) (k + 1) cap)) = w5 at *
        go_wp2_with fail
        go_roundw
        case rel => exact ⟨k + 1, _, by omega, by go_num, r0, r1, r2, r3, r4, r5, HE, hb5⟩
        case measure => simp [intOf]; omega
    · have hkl : k = a.ms.length := by omega
      subst hkl
      have HO1 : Hid (wr.ownsRow (xb + 1) 35 3 v a.ms.length (M a.ms)) := by
        have := HO.out
        rw [List.take_length] at this
        exact hide this
      clear HO
      go_wp2_with fail
      clear cc
      rename World => W1
      have sep0 : Hid (v.ownBlock = none ∨ v.ownBlock ≠ (Value.slice none 0 0).ownBlock) := by
        cases h : v.ownBlock with
        | none => exact hide (.inl rfl)
        | some g => exact hide (.inr (by simp [Value.ownBlock]))
      go_loopw [5] (fun i wr => ∃ (k : Nat) (v2 : Value), k ≤ a.ds.length ∧ i = .int .i64 k ∧ wr.cell? ⟨xb, 0, none⟩ = some (.int .i64 a.t) ∧ wr.cell? ⟨xb, 1, none⟩ = some (.int .i64 a.p) ∧ wr.cell? ⟨xb, 3, none⟩ = some v2 ∧ wr.cell? ⟨xb, 2, none⟩ = some v ∧
        wr.frozen? ⟨xb, 3, none⟩ = false ∧ wr.frozen? ⟨xb, 2, none⟩ = false ∧ Hid (wr.ownsRow (xb + 1) 38 3 v2 k (D (a.ds.take k))) ∧ Hid (wr.ownsRow (xb + 1) 35 3 v a.ms.length (M a.ms)) ∧ Hid (v.ownBlock = none ∨ v.ownBlock ≠ v2.ownBlock) ∧ Below xb w1 wr) (fun i _ => a.ds.length - (intOf i).toNat)
      case atStart => exact ⟨0, _, by omega, rfl, p0, p1, p3, p2, z3, z2, hide ⟨by simp [D], .inl ⟨rfl, rfl⟩⟩, HO1, sep0, hbr⟩
      case round =>
        clear p0 p1 p3 p2 z3 z2 HO1 sep0 hbr
        obtain ⟨k, v2, hk, rfl, p0, p1, p3, p2, z3, z2, HO, HO1, HSEP, hbr⟩ := hrel
        have cc : wr.cell? ⟨w.heap.size, 3, none⟩ = some (.slice ada a.ds.length adc) := (hbr.cell (p := ⟨w.heap.size, 3, none⟩) (show w.heap.size < xb by omega)).trans qa3
        have hsz : xb + 1 ≤ wr.heap.size := by have := hbr.size; omega
        by_cases hlt : k < a.ds.length
        · obtain ⟨ma', mcap', hmv, hmn', hmL⟩ := HDA.out.below (hbel1.trans (hbr.mono (by omega))) (Nat.le_refl _)
          simp only [Value.slice.injEq] at hmv
          obtain ⟨rfl, _, rfl⟩ := hmv
          obtain ⟨mb, moff, rfl, hmc, hmcell⟩ : ∃ mb moff, ada = some ⟨mb, moff, none⟩ ∧ a.ds.length ≤ adc ∧ mb < w.heap.size ∧ wr.cell? ⟨mb, moff + k * 3, none⟩ = some (.int .i64 (a.ds.getD k do0).k) ∧ wr.cell? ⟨mb, moff + k * 3 + 1, none⟩ = some (.int .i64 (a.ds.getD k do0).a) ∧ wr.cell? ⟨mb, moff + k * 3 + 2, none⟩ = some (.int .i64 (a.ds.getD k do0).n) := by
            rcases hmL with h0 | ⟨b1, o1, h1, h2, h3⟩
            · omega
            · refine ⟨b1, o1, h1, h2, ?_, h3 k hlt⟩
              obtain ⟨a1, c1, e1, _, e0 | ⟨b2, o2, e2, _, e3⟩⟩ := HDA.out
              · omega
              · simp only [Value.slice.injEq] at e1
                have := e1.1
                rw [h1, e2] at this
                simp at this
                rw [this.1]
                exact cell_lt (e3 k hlt).1
          obtain ⟨hmb, m0, m1, m2⟩ := hmcell
          have HN : Hid (D (a.ds.take k) ++ [.int .i64 (a.ds.getD k do0).k, .int .i64 (a.ds.getD k do0).a, .int .i64 (a.ds.getD k do0).n] = D (a.ds.take (k + 1))) := (D_take a.ds k hlt).symm
          clear hmL hmn' HDA
          generalize (a.ds.getD k do0).k = mf at *
          generalize (a.ds.getD k do0).a = mm at *
          generalize (a.ds.getD k do0).n = mv at *
          have own1 := hide ((HO.out.alloc (.cells #[.int .i64 mf, .int .i64 mm, .int .i64 mv] 38)).drew)
          have NEWS1 : Hid (∀ j u, [Value.int .i64 mf, .int .i64 mm, .int .i64 mv][j]? = some u → (wr.alloc (.cells #[.int .i64 mf, .int .i64 mm, .int .i64 mv] 38)).drew.cell? ((⟨wr.heap.size, 0, none⟩ : Addr).add j) = some u) := by
            intro j u hj
            match j, hj with
            | 0, hj => simp at hj; subst hj; simp [Addr.add]
            | 1, hj => simp at hj; subst hj; simp [Addr.add]
            | 2, hj => simp at hj; subst hj; simp [Addr.add]
          have base1 : xb + 1 ≤ (wr.alloc (.cells #[.int .i64 mf, .int .i64 mm, .int .i64 mv] 38)).drew.heap.size := by simp; omega
          have bel1 : Below (xb + 1) wr (wr.alloc (.cells #[.int .i64 mf, .int .i64 mm, .int .i64 mv] 38)).drew := ((Below.refl _ wr).alloc (by omega) _).drew
          have hx1 : k + 1 ≤ maxLen := by unfold maxLen; omega
          have hx2 : (k + 1) * 24 ≤ 140737488355328 := by omega
          have hne1 : xb ≠ w.heap.size := by omega
          have hne2 : xb ≠ mb := by omega
          have hxw : xb < wr.heap.size := by omega
          have hmw : mb < wr.heap.size := by omega
          have hnw : w.heap.size < wr.heap.size := by omega
          have p3a : (wr.alloc (.cells #[.int .i64 mf, .int .i64 mm, .int .i64 mv] 38)).drew.cell? ⟨xb, 3, none⟩ = some v2 := (bel1.cell (p := ⟨xb, 3, none⟩) (show xb < xb + 1 by omega)).trans p3
          go_wp2_with fail
          go_region_law
            (first | (refine step_append_lies _ rfl (.tmp 36) (.tmp 42) 39 rfl (xb + 1) 38 id _ 3 24 Try.underlying39 hid hd0 hd1 hd2 rfl (by decide) _ _ _ rfl (unhide own1) ⟨wr.heap.size, 0, none⟩ 1 1 [.int .i64 mf, .int .i64 mm, .int .i64 mv] rfl rfl (unhide NEWS1) (one3 _ _ _) (by decide) hx1 hx2 base1 _ rfl ?_; intro g cap w4 ho4 hg4 hat _; have hb4 := bel1.grown hg4 base1 (own_ge (unhide own1)); have q0 := (hb4.cell (p := ⟨w.heap.size, 3, none⟩) (show w.heap.size < xb + 1 by omega)).trans cc; have q1 := (hb4.cell (p := ⟨mb, moff + k * 3, none⟩) (show mb < xb + 1 by omega)).trans m0; have q2 := (hb4.cell (p := ⟨mb, moff + k * 3 + 1, none⟩) (show mb < xb + 1 by omega)).trans m1; have q3 := (hb4.cell (p := ⟨mb, moff + k * 3 + 2, none⟩) (show mb < xb + 1 by omega)).trans m2; have q4 := (hb4.cell (p := ⟨xb, 3, none⟩) (show xb < xb + 1 by omega)).trans p3; have q5 := (hb4.frozen (p := ⟨xb, 3, none⟩) (show xb < xb + 1 by omega)).trans z3))
          all_goals
            have HS4 := hide (sep_app HO1.out HSEP.out hat (by simp))
            have HM4 := hide (ownsRow_setCell_below (((HO1.out.alloc (.cells #[.int .i64 mf, .int .i64 mm, .int .i64 mv] 38)).drew).kept hg4 HSEP.out) (a := ⟨xb, 3, none⟩) (show xb < xb + 1 by omega) (.slice (some ⟨g, 0, none⟩) (k + 1) cap))
            have HO4 := hide (ownsRow_setCell_below (ho4) (a := ⟨xb, 3, none⟩) (show xb < xb + 1 by omega) (.slice (some ⟨g, 0, none⟩) (k + 1) cap))
            have hb5 : Below xb w1 (w4.setCell ⟨xb, 3, none⟩ (.slice (some ⟨g, 0, none⟩) (k + 1) cap)) := (hbr.trans (hb4.mono (Nat.le_succ _))).setCell (Nat.le_refl _) _
            have r0 := (World.cell?_setCell_other w4 ⟨xb, 3, none⟩ ⟨xb, 0, none⟩ (.slice (some ⟨g, 0, none⟩) (k + 1) cap) (by simp)).trans ((hb4.cell (p := ⟨xb, 0, none⟩) (show xb < xb + 1 by omega)).trans p0)
            have r1 := (World.cell?_setCell_other w4 ⟨xb, 3, none⟩ ⟨xb, 1, none⟩ (.slice (some ⟨g, 0, none⟩) (k + 1) cap) (by simp)).trans ((hb4.cell (p := ⟨xb, 1, none⟩) (show xb < xb + 1 by omega)).trans p1)
            have r2 := World.cell?_setCell_same w4 _ (.slice (some ⟨g, 0, none⟩) (k + 1) cap) q4
            have r3 := (World.cell?_setCell_other w4 ⟨xb, 3, none⟩ ⟨xb, 2, none⟩ (.slice (some ⟨g, 0, none⟩) (k + 1) cap) (by simp)).trans ((hb4.cell (p := ⟨xb, 2, none⟩) (show xb < xb + 1 by omega)).trans p2)
            have r4 : (w4.setCell ⟨xb, 3, none⟩ (.slice (some ⟨g, 0, none⟩) (k + 1) cap)).frozen? ⟨xb, 3, none⟩ = false := by rw [World.frozen?_setCell]; exact q5
            have r5 : (w4.setCell ⟨xb, 3, none⟩ (.slice (some ⟨g, 0, none⟩) (k + 1) cap)).frozen? ⟨xb, 2, none⟩ = false := by rw [World.frozen?_setCell]; exact (hb4.frozen (p := ⟨xb, 2, none⟩) (show xb < xb + 1 by omega)).trans z2
            have HE : Hid ((w4.setCell ⟨xb, 3, none⟩ (.slice (some ⟨g, 0, none⟩) (k + 1) cap)).ownsRow (xb + 1) 38 3 (.slice (some ⟨g, 0, none⟩) (k + 1) cap) (k + 1) (D (a.ds.take (k + 1)))) := by
              show World.ownsRow _ _ _ _ _ _ _
              rw [← HN.out]; exact HO4.out
            clear HO4 HN ho4 hg4 hat q0 q1 q2 q3 q4 q5 cc m0 m1 m2 own1 NEWS1 base1 bel1 hx1 hx2 HO HO1 HSEP hbr hb4 p0 p1 p3 p3a p2 z3 z2 hne1 hne2 hmb hmw
            generalize (w4.setCell ⟨xb, 3, none⟩ (.slice (some ⟨g, 0, none⟩) (k + 1) cap)) = w5 at *
            go_wp2_with fail
            go_roundw
            case rel => exact ⟨k + 1, _, by omega, by go_num, r0, r1, r2, r3, r4, r5, HE, HM4, HS4, hb5⟩
            case measure => simp [intOf]; omega
        · have hkl : k = a.ds.length := by omega
          subst hkl
          have HO2 : Hid (wr.ownsRow (xb + 1) 38 3 v2 a.ds.length (D a.ds)) := by
            have := HO.out
            rw [List.take_length] at this
            exact hide this
          clear HO HMA HDA HSEP
          have hrw : wr.heap[w.heap.size + 1]? = some (.cells #[.int .i64 0, .int .i64 0, .slice none 0 0, .slice none 0 0] 41) := (hbr.block _ (by omega)).trans HRB.out
          have t0 : wr.cell? ⟨w.heap.size + 1, 0, none⟩ = some (.int .i64 0) := cell_of_row _ _ _ _ _ _ hrw
          have t1 : wr.cell? ⟨w.heap.size + 1, 1, none⟩ = some (.int .i64 0) := cell_of_row _ _ _ _ _ _ hrw
          have t2 : wr.cell? ⟨w.heap.size + 1, 2, none⟩ = some (.slice none 0 0) := cell_of_row _ _ _ _ _ _ hrw
          have t3 : wr.cell? ⟨w.heap.size + 1, 3, none⟩ = some (.slice none 0 0) := cell_of_row _ _ _ _ _ _ hrw
          have y0 : wr.frozen? ⟨w.heap.size + 1, 0, none⟩ = false := frozen_of_row _ _ _ _ _ hrw
          have y1 : wr.frozen? ⟨w.heap.size + 1, 1, none⟩ = false := frozen_of_row _ _ _ _ _ hrw
          have y2 : wr.frozen? ⟨w.heap.size + 1, 2, none⟩ = false := frozen_of_row _ _ _ _ _ hrw
          have y3 : wr.frozen? ⟨w.heap.size + 1, 3, none⟩ = false := frozen_of_row _ _ _ _ _ hrw
          clear hrw
          obtain ⟨vo, vn, vc, rfl⟩ := own_slice HO1.out
          obtain ⟨vo2, vn2, vc2, rfl⟩ := own_slice HO2.out
          have hbE : Below w.heap.size w wr := hbel1.trans (hbr.mono (by omega))
          go_wp2_with fail
          have s0 : ((((wr.setCell ⟨w.heap.size + 1, 0, none⟩ (.int .i64 a.t)).setCell ⟨w.heap.size + 1, 1, none⟩ (.int .i64 a.p)).setCell ⟨w.heap.size + 1, 2, none⟩ (.slice vo vn vc)).setCell ⟨w.heap.size + 1, 3, none⟩ (.slice vo2 vn2 vc2)).cell? ⟨w.heap.size + 1, 0, none⟩ = some (.int .i64 a.t) := by
            rw [World.cell?_setCell_other _ _ _ _ (by simp), World.cell?_setCell_other _ _ _ _ (by simp), World.cell?_setCell_other _ _ _ _ (by simp), World.cell?_setCell_same _ _ _ t0]
          have s1 : ((((wr.setCell ⟨w.heap.size + 1, 0, none⟩ (.int .i64 a.t)).setCell ⟨w.heap.size + 1, 1, none⟩ (.int .i64 a.p)).setCell ⟨w.heap.size + 1, 2, none⟩ (.slice vo vn vc)).setCell ⟨w.heap.size + 1, 3, none⟩ (.slice vo2 vn2 vc2)).cell? ⟨w.heap.size + 1, 1, none⟩ = some (.int .i64 a.p) := by
            rw [World.cell?_setCell_other _ _ _ _ (by simp), World.cell?_setCell_other _ _ _ _ (by simp)]
            exact World.cell?_setCell_same _ _ _ ((World.cell?_setCell_other _ _ _ _ (by simp)).trans t1)
          have s2 : ((((wr.setCell ⟨w.heap.size + 1, 0, none⟩ (.int .i64 a.t)).setCell ⟨w.heap.size + 1, 1, none⟩ (.int .i64 a.p)).setCell ⟨w.heap.size + 1, 2, none⟩ (.slice vo vn vc)).setCell ⟨w.heap.size + 1, 3, none⟩ (.slice vo2 vn2 vc2)).cell? ⟨w.heap.size + 1, 2, none⟩ = some (.slice vo vn vc) := by
            rw [World.cell?_setCell_other _ _ _ _ (by simp)]
            exact World.cell?_setCell_same _ _ _ ((World.cell?_setCell_other _ _ _ _ (by simp)).trans ((World.cell?_setCell_other _ _ _ _ (by simp)).trans t2))
          have s3 : ((((wr.setCell ⟨w.heap.size + 1, 0, none⟩ (.int .i64 a.t)).setCell ⟨w.heap.size + 1, 1, none⟩ (.int .i64 a.p)).setCell ⟨w.heap.size + 1, 2, none⟩ (.slice vo vn vc)).setCell ⟨w.heap.size + 1, 3, none⟩ (.slice vo2 vn2 vc2)).cell? ⟨w.heap.size + 1, 3, none⟩ = some (.slice vo2 vn2 vc2) :=
            World.cell?_setCell_same _ _ _ ((World.cell?_setCell_other _ _ _ _ (by simp)).trans ((World.cell?_setCell_other _ _ _ _ (by simp)).trans ((World.cell?_setCell_other _ _ _ _ (by simp)).trans t3)))
          refine bodyPost_ret (v := .agg #[.int .i64 a.t, .int .i64 a.p, .slice vo vn vc, .slice vo2 vn2 vc2]) ?_ rfl ⟨_, _, rfl, ?_, ?_, (((hbE.setCell (Nat.le_succ _) _).setCell (Nat.le_succ _) _).setCell (Nat.le_succ _) _).setCell (Nat.le_succ _) _⟩
          · clear t0 t1 t2 t3
            generalize ((((wr.setCell ⟨w.heap.size + 1, 0, none⟩ (.int .i64 a.t)).setCell ⟨w.heap.size + 1, 1, none⟩ (.int .i64 a.p)).setCell ⟨w.heap.size + 1, 2, none⟩ (.slice vo vn vc)).setCell ⟨w.heap.size + 1, 3, none⟩ (.slice vo2 vn2 vc2)) = W at s0 s1 s2 s3 ⊢
            simp [results, Try.results54, go_sem, s0, s1, s2, s3]
          · exact own_less (ownsRow_setCell_below (ownsRow_setCell_below (ownsRow_setCell_below (ownsRow_setCell_below HO1.out (show w.heap.size + 1 < xb + 1 by omega) _) (show w.heap.size + 1 < xb + 1 by omega) _) (show w.heap.size + 1 < xb + 1 by omega) _) (show w.heap.size + 1 < xb + 1 by omega) _) (by omega)
          · exact own_less (ownsRow_setCell_below (ownsRow_setCell_below (ownsRow_setCell_below (ownsRow_setCell_below HO2.out (show w.heap.size + 1 < xb + 1 by omega) _) (show w.heap.size + 1 < xb + 1 by omega) _) (show w.heap.size + 1 < xb + 1 by omega) _) (show w.heap.size + 1 < xb + 1 by omega) _) (by omega)

end Go.Proofs.Ytonhfgdnkkkikac
