/-
  What the document's places answers.
-/
import Derived.Test.YtonhfgdnkkkikacTwo
import Derived.Deep.RegionHeld3
import Derived.Deep.QuietTactic
import Derived.BigQuiet
namespace Go.Proofs.Ytonhfgdnkkkikac
open Go.RowKit
set_option linter.unusedVariables false
set_option maxRecDepth 100000

set_option maxRecDepth 100000 in
set_option maxHeartbeats 8000000 in
theorem places_any (a b : Fl) (amv adv bmv bdv : Value) (w : World) (hma : MsAt w amv a.ms) (hda : DsAt w adv a.ds) (hmb : MsAt w bmv b.ms) (hdb : DsAt w bdv b.ds)
    (la1 : a.ms.length ≤ 2000000) (la2 : a.ds.length ≤ 2000000) (lb1 : b.ms.length ≤ 2000000) (lb2 : b.ds.length ≤ 2000000) :
    Calls Try.prog 24 #[.agg #[.int .i64 a.t, .int .i64 a.p, amv, adv], .agg #[.int .i64 b.t, .int .i64 b.p, bmv, bdv]] w fun e w' => e = .returned (.int .i64 (plc a b)) ∧ Below w.heap.size w w' := by
  obtain ⟨i0, hi, hz0, hz1, hz2⟩ := info_parts infoInt
  have HMA := hide hma
  have HDA := hide hda
  have HMB := hide hmb
  have HDB := hide hdb
  obtain ⟨ama, amc, rfl, -, -⟩ := hma
  obtain ⟨ada, adc, rfl, -, -⟩ := hda
  obtain ⟨bma, bmc, rfl, -, -⟩ := hmb
  obtain ⟨bda, bdc, rfl, -, -⟩ := hdb
  go_enter Try.func24, Try.ntmps24
  go_wp2_with fail
  obtain ⟨w1, hw1⟩ : ∃ w1, w1 = (((w.alloc (.cells #[.int .i64 a.t, .int .i64 a.p, .slice ama a.ms.length amc, .slice ada a.ds.length adc] 41)).alloc (.cells #[.int .i64 b.t, .int .i64 b.p, .slice bma b.ms.length bmc, .slice bda b.ds.length bdc] 41)).alloc
    (.cells #[.int .i64 a.t, .int .i64 b.p, .int .i64 a.ms.length, .int .i64 a.ds.length] 3)).alloc (.cells #[.int .i64 b.t, .int .i64 a.p, .int .i64 b.ms.length, .int .i64 b.ds.length] 3) := ⟨_, rfl⟩
  have qq : ∀ (W : World) (o : Obj) (k j : Nat) (v : Value), W.cell? ⟨k, j, none⟩ = some v → (W.alloc o).cell? ⟨k, j, none⟩ = some v := fun W o k j v h => cell_below h ((Below.refl _ _).alloc (Nat.le_refl _) _) (Nat.le_refl _)
  have qz := World.size_alloc (w := w) (o := (.cells #[.int .i64 a.t, .int .i64 a.p, .slice ama a.ms.length amc, .slice ada a.ds.length adc] 41))
  have qa2 : w1.cell? ⟨w.heap.size, 2, none⟩ = some (.slice ama a.ms.length amc) := by rw [hw1]; exact qq _ _ _ _ _ (qq _ _ _ _ _ (qq _ _ _ _ _ (cell_of_row _ _ _ _ _ _ (MapKept.heap_alloc w _).1)))
  have qa3 : w1.cell? ⟨w.heap.size, 3, none⟩ = some (.slice ada a.ds.length adc) := by rw [hw1]; exact qq _ _ _ _ _ (qq _ _ _ _ _ (qq _ _ _ _ _ (cell_of_row _ _ _ _ _ _ (MapKept.heap_alloc w _).1)))
  have qb2 : w1.cell? ⟨w.heap.size + 1, 2, none⟩ = some (.slice bma b.ms.length bmc) := by rw [hw1, ← qz]; exact qq _ _ _ _ _ (qq _ _ _ _ _ (cell_of_row _ _ _ _ _ _ (MapKept.heap_alloc (w.alloc (.cells #[.int .i64 a.t, .int .i64 a.p, .slice ama a.ms.length amc, .slice ada a.ds.length adc] 41)) _).1))
  have qb3 : w1.cell? ⟨w.heap.size + 1, 3, none⟩ = some (.slice bda b.ds.length bdc) := by rw [hw1, ← qz]; exact qq _ _ _ _ _ (qq _ _ _ _ _ (cell_of_row _ _ _ _ _ _ (MapKept.heap_alloc (w.alloc (.cells #[.int .i64 a.t, .int .i64 a.p, .slice ama a.ms.length amc, .slice ada a.ds.length adc] 41)) _).1))
  clear qz qq
  have hz1w : w1.heap.size = w.heap.size + 4 := by rw [hw1]; simp
  have hbel1 : Below w.heap.size w w1 := by
    rw [hw1]
    exact ((((Below.refl _ _).alloc (Nat.le_refl _) _).alloc (by simp) _).alloc (by simp; omega) _).alloc (by simp; omega) _
  have TW1 : Hid (Two w1 (w.heap.size + 2) (w.heap.size + 1 + 1) 4 [a.t, b.p, (a.ms.length : Int), (a.ds.length : Int)] (w.heap.size + 1 + 1 + 1) 4 [b.t, a.p, (b.ms.length : Int), (b.ds.length : Int)]) := by
    rw [hw1]
    have e1 := (World.ownsRow_lit (base := w.heap.size + 2) (e := 3) (size := 1) ((w.alloc (.cells #[.int .i64 a.t, .int .i64 a.p, .slice ama a.ms.length amc, .slice ada a.ds.length adc] 41)).alloc (.cells #[.int .i64 b.t, .int .i64 b.p, .slice bma b.ms.length bmc, .slice bda b.ds.length bdc] 41)) #[.int .i64 a.t, .int .i64 b.p, .int .i64 a.ms.length, .int .i64 a.ds.length] 4 (by simp) (by decide) rfl)
    have e2 := (World.ownsRow_lit (base := w.heap.size + 2) (e := 3) (size := 1) (((w.alloc (.cells #[.int .i64 a.t, .int .i64 a.p, .slice ama a.ms.length amc, .slice ada a.ds.length adc] 41)).alloc (.cells #[.int .i64 b.t, .int .i64 b.p, .slice bma b.ms.length bmc, .slice bda b.ds.length bdc] 41)).alloc (.cells #[.int .i64 a.t, .int .i64 b.p, .int .i64 a.ms.length, .int .i64 a.ds.length] 3)) #[.int .i64 b.t, .int .i64 a.p, .int .i64 b.ms.length, .int .i64 b.ds.length] 4 (by simp) (by decide) rfl)
    have h := And.intro (e1.alloc (.cells #[.int .i64 b.t, .int .i64 a.p, .int .i64 b.ms.length, .int .i64 b.ds.length] 3)) e2
    simp only [World.size_alloc] at h
    exact hide ⟨h.1, h.2, by omega⟩
  rw [← hw1]
  clear hw1
  generalize hX0 : [a.t, b.p, (a.ms.length : Int), (a.ds.length : Int)] = X0 at *
  generalize hY0 : [b.t, a.p, (b.ms.length : Int), (b.ds.length : Int)] = Y0 at *
  have HX0 := hide hX0
  have HY0 := hide hY0
  have hlX0 : X0.length = 4 := by rw [← hX0]; rfl
  have hlY0 : Y0.length = 4 := by rw [← hY0]; rfl
  clear hX0 hY0
  go_loopw [5, 7] (fun x i wr => ∃ (k gx cx : Nat) (lx : List Int), k ≤ a.ms.length ∧ i = .int .i64 k ∧ x = .slice (some ⟨gx, 0, none⟩) lx.length cx ∧ Hid (lx = X0 ++ fm (a.ms.take k)) ∧ Hid (lx.length = X0.length + 3 * k) ∧ Hid (Two wr (w.heap.size + 2) gx cx lx (w.heap.size + 1 + 1 + 1) 4 Y0) ∧ Below (w.heap.size + 2) w1 wr) (fun _ i _ => a.ms.length - (intOf i).toNat)
  case atStart => exact ⟨0, _, _, X0, by omega, rfl, by rw [hlX0], hide (by simp [fm]), hide (by omega), TW1, Below.refl _ _⟩
  case round =>
    obtain ⟨k1, g1, c1, l1, hk, rfl, rfl, HL1, hll1, HT1, hbr1⟩ := hrel
    clear TW1 
    have cc : wr.cell? ⟨w.heap.size, 2, none⟩ = some (.slice ama a.ms.length amc) := (hbr1.cell (p := ⟨w.heap.size, 2, none⟩) (show w.heap.size < w.heap.size + 2 by omega)).trans qa2
    have hsz : w.heap.size + 4 ≤ wr.heap.size := by have := hbr1.size; omega
    by_cases hlt : k1 < a.ms.length
    · obtain ⟨ma', mcap', hmv, hmn', hmL⟩ := HMA.out.below (hbel1.trans (hbr1.mono (by omega))) (Nat.le_refl _)
      simp only [Value.slice.injEq] at hmv
      obtain ⟨rfl, _, rfl⟩ := hmv
      obtain ⟨mb, moff, rfl, hmc, hmcell⟩ : ∃ mb moff, ama = some ⟨mb, moff, none⟩ ∧ a.ms.length ≤ amc ∧ mb < w.heap.size ∧ wr.cell? ⟨mb, moff + k1 * 3, none⟩ = some (.int .i64 (a.ms.getD k1 mt0).f) ∧ wr.cell? ⟨mb, moff + k1 * 3 + 1, none⟩ = some (.int .i64 (a.ms.getD k1 mt0).m) ∧ wr.cell? ⟨mb, moff + k1 * 3 + 2, none⟩ = some (.int .i64 (a.ms.getD k1 mt0).v) := by
        rcases hmL with h0 | ⟨b1, o1, h1, h2, h3⟩
        · omega
        · refine ⟨b1, o1, h1, h2, ?_, h3 k1 hlt⟩
          obtain ⟨a1, c1, e1, _, e0 | ⟨b2, o2, e2, _, e3⟩⟩ := HMA.out
          · omega
          · simp only [Value.slice.injEq] at e1
            have := e1.1
            rw [h1, e2] at this
            simp at this
            rw [this.1]
            exact cell_lt (e3 k1 hlt).1
      obtain ⟨hmb, m0, m1, m2⟩ := hmcell
      have HN : Hid (l1 ++ [(a.ms.getD k1 mt0).f, (a.ms.getD k1 mt0).m, (a.ms.getD k1 mt0).v] = X0 ++ fm (a.ms.take (k1 + 1))) := by
        show _ = _
        rw [fm_take a.ms k1 hlt, HL1.out, List.append_assoc]
      clear HL1 hmL hmn' HMA HMB HDA HDB
      generalize (a.ms.getD k1 mt0).f = mf at *
      generalize (a.ms.getD k1 mt0).m = mm at *
      generalize (a.ms.getD k1 mt0).v = mv at *
      have own1 := hide ((HT1.out.alloc (.cells #[.int .i64 mf, .int .i64 mm, .int .i64 mv] 3)).drew)
      have NEWS1 : Hid (∀ j u, (I [mf, mm, mv])[j]? = some u → (wr.alloc (.cells #[.int .i64 mf, .int .i64 mm, .int .i64 mv] 3)).drew.cell? ((⟨wr.heap.size, 0, none⟩ : Addr).add j) = some u) := by
        intro j u hj
        match j, hj with
        | 0, hj => simp [I] at hj; subst hj; simp [Addr.add]
        | 1, hj => simp [I] at hj; subst hj; simp [Addr.add]
        | 2, hj => simp [I] at hj; subst hj; simp [Addr.add]
      have base1 : w.heap.size + 2 ≤ (wr.alloc (.cells #[.int .i64 mf, .int .i64 mm, .int .i64 mv] 3)).drew.heap.size := by simp; omega
      have bel1 : Below (w.heap.size + 2) wr (wr.alloc (.cells #[.int .i64 mf, .int .i64 mm, .int .i64 mv] 3)).drew := ((Below.refl _ wr).alloc (by omega) _).drew
      have hm1 : l1.length + 3 ≤ maxLen := by have := hll1.out; unfold maxLen; omega
      have hm2 : (l1.length + 3) * 8 ≤ 140737488355328 := by have := hll1.out; omega
      go_wp2_with fail
      go_region_held3 (fun w' => w'.cell? ⟨w.heap.size, 2, none⟩ = some (.slice (some ⟨mb, moff, none⟩) a.ms.length amc) ∧ w'.cell? ⟨mb, moff + k1 * 3, none⟩ = some (.int .i64 mf) ∧ w'.cell? ⟨mb, moff + k1 * 3 + 1, none⟩ = some (.int .i64 mm) ∧ w'.cell? ⟨mb, moff + k1 * 3 + 2, none⟩ = some (.int .i64 mv)) (go_keep)
        (first | (refine step_append_lies _ rfl (.tmp 41) (.tmp 60) 71 rfl (w.heap.size + 2) 3 i0 (.int .i64 0) 1 8 Try.underlying71 hi hz0 hz1 hz2 rfl (by decide) _ _ _ rfl (unhide own1).1 ⟨wr.heap.size, 0, none⟩ 3 3 (I [mf, mm, mv]) rfl rfl (unhide NEWS1) (I_one _) (by decide) hm1 hm2 base1 _ rfl ?_; intro g cap w4 ho4 hg4 hat _; have T4 := hide ((Two.app (unhide own1) ho4 rfl hg4 hat)); have hb4 := bel1.grown hg4 base1 (own_ge (unhide own1).1); have q0 := (hb4.cell (p := ⟨w.heap.size, 2, none⟩) (show w.heap.size < w.heap.size + 2 by omega)).trans cc; have q1 := (hb4.cell (p := ⟨mb, moff + k1 * 3, none⟩) (show mb < w.heap.size + 2 by omega)).trans m0; have q2 := (hb4.cell (p := ⟨mb, moff + k1 * 3 + 1, none⟩) (show mb < w.heap.size + 2 by omega)).trans m1; have q3 := (hb4.cell (p := ⟨mb, moff + k1 * 3 + 2, none⟩) (show mb < w.heap.size + 2 by omega)).trans m2))
      have hb4' := hbr1.trans hb4
      have hl4 : (l1 ++ [mf, mm, mv]).length = l1.length + 3 := by simp
      clear ho4 hg4 hat q0 q1 q2 q3 cc m0 m1 m2 own1 NEWS1 base1 bel1 hm1 hm2 HT1 hbr1 hb4
      go_wp2_with fail
      go_roundw
      case rel => exact ⟨k1 + 1, g, cap, l1 ++ [mf, mm, mv], by omega, by go_num, by rw [hl4], HN, hide (by rw [hl4, hll1.out]; omega), T4, hb4'⟩
      case measure => simp [intOf]; omega
    · have hkl : k1 = a.ms.length := by omega
      subst hkl
      have HE1 : Hid (l1 = X0 ++ fm a.ms) := by show _ = _; rw [HL1.out, List.take_length]
      clear HL1
      go_wp2_with fail
      clear cc
      rename World => W1
      go_loopw [6, 8] (fun x i wr => ∃ (k gx cx : Nat) (lx : List Int), k ≤ b.ms.length ∧ i = .int .i64 k ∧ x = .slice (some ⟨gx, 0, none⟩) lx.length cx ∧ Hid (lx = Y0 ++ fm (b.ms.take k)) ∧ Hid (lx.length = Y0.length + 3 * k) ∧ Hid (Two wr (w.heap.size + 2) g1 c1 l1 gx cx lx) ∧ Below (w.heap.size + 2) w1 wr) (fun _ i _ => b.ms.length - (intOf i).toNat)
      case atStart => exact ⟨0, _, _, Y0, by omega, rfl, by rw [hlY0], hide (by simp [fm]), hide (by omega), HT1, hbr1⟩
      case round =>
        obtain ⟨k2, g2, c2, l2, hk, rfl, rfl, HL2, hll2, HT2, hbr2⟩ := hrel
        clear HT1 hbr1
        have cc : wr.cell? ⟨w.heap.size + 1, 2, none⟩ = some (.slice bma b.ms.length bmc) := (hbr2.cell (p := ⟨w.heap.size + 1, 2, none⟩) (show w.heap.size + 1 < w.heap.size + 2 by omega)).trans qb2
        have hsz : w.heap.size + 4 ≤ wr.heap.size := by have := hbr2.size; omega
        by_cases hlt : k2 < b.ms.length
        · obtain ⟨ma', mcap', hmv, hmn', hmL⟩ := HMB.out.below (hbel1.trans (hbr2.mono (by omega))) (Nat.le_refl _)
          simp only [Value.slice.injEq] at hmv
          obtain ⟨rfl, _, rfl⟩ := hmv
          obtain ⟨mb, moff, rfl, hmc, hmcell⟩ : ∃ mb moff, bma = some ⟨mb, moff, none⟩ ∧ b.ms.length ≤ bmc ∧ mb < w.heap.size ∧ wr.cell? ⟨mb, moff + k2 * 3, none⟩ = some (.int .i64 (b.ms.getD k2 mt0).f) ∧ wr.cell? ⟨mb, moff + k2 * 3 + 1, none⟩ = some (.int .i64 (b.ms.getD k2 mt0).m) ∧ wr.cell? ⟨mb, moff + k2 * 3 + 2, none⟩ = some (.int .i64 (b.ms.getD k2 mt0).v) := by
            rcases hmL with h0 | ⟨b1, o1, h1, h2, h3⟩
            · omega
            · refine ⟨b1, o1, h1, h2, ?_, h3 k2 hlt⟩
              obtain ⟨a1, c1, e1, _, e0 | ⟨b2, o2, e2, _, e3⟩⟩ := HMB.out
              · omega
              · simp only [Value.slice.injEq] at e1
                have := e1.1
                rw [h1, e2] at this
                simp at this
                rw [this.1]
                exact cell_lt (e3 k2 hlt).1
          obtain ⟨hmb, m0, m1, m2⟩ := hmcell
          have HN : Hid (l2 ++ [(b.ms.getD k2 mt0).f, (b.ms.getD k2 mt0).m, (b.ms.getD k2 mt0).v] = Y0 ++ fm (b.ms.take (k2 + 1))) := by
            show _ = _
            rw [fm_take b.ms k2 hlt, HL2.out, List.append_assoc]
          clear HL2 hmL hmn' HMA HMB HDA HDB
          generalize (b.ms.getD k2 mt0).f = mf at *
          generalize (b.ms.getD k2 mt0).m = mm at *
          generalize (b.ms.getD k2 mt0).v = mv at *
          have own1 := hide ((HT2.out.alloc (.cells #[.int .i64 mf, .int .i64 mm, .int .i64 mv] 3)).drew)
          have NEWS1 : Hid (∀ j u, (I [mf, mm, mv])[j]? = some u → (wr.alloc (.cells #[.int .i64 mf, .int .i64 mm, .int .i64 mv] 3)).drew.cell? ((⟨wr.heap.size, 0, none⟩ : Addr).add j) = some u) := by
            intro j u hj
            match j, hj with
            | 0, hj => simp [I] at hj; subst hj; simp [Addr.add]
            | 1, hj => simp [I] at hj; subst hj; simp [Addr.add]
            | 2, hj => simp [I] at hj; subst hj; simp [Addr.add]
          have base1 : w.heap.size + 2 ≤ (wr.alloc (.cells #[.int .i64 mf, .int .i64 mm, .int .i64 mv] 3)).drew.heap.size := by simp; omega
          have bel1 : Below (w.heap.size + 2) wr (wr.alloc (.cells #[.int .i64 mf, .int .i64 mm, .int .i64 mv] 3)).drew := ((Below.refl _ wr).alloc (by omega) _).drew
          have hm1 : l2.length + 3 ≤ maxLen := by have := hll2.out; unfold maxLen; omega
          have hm2 : (l2.length + 3) * 8 ≤ 140737488355328 := by have := hll2.out; omega
          go_wp2_with fail
          go_region_held3 (fun w' => w'.cell? ⟨w.heap.size + 1, 2, none⟩ = some (.slice (some ⟨mb, moff, none⟩) b.ms.length bmc) ∧ w'.cell? ⟨mb, moff + k2 * 3, none⟩ = some (.int .i64 mf) ∧ w'.cell? ⟨mb, moff + k2 * 3 + 1, none⟩ = some (.int .i64 mm) ∧ w'.cell? ⟨mb, moff + k2 * 3 + 2, none⟩ = some (.int .i64 mv)) (go_keep)
            (first | (refine step_append_lies _ rfl (.tmp 69) (.tmp 88) 71 rfl (w.heap.size + 2) 3 i0 (.int .i64 0) 1 8 Try.underlying71 hi hz0 hz1 hz2 rfl (by decide) _ _ _ rfl (unhide own1).swap.1 ⟨wr.heap.size, 0, none⟩ 3 3 (I [mf, mm, mv]) rfl rfl (unhide NEWS1) (I_one _) (by decide) hm1 hm2 base1 _ rfl ?_; intro g cap w4 ho4 hg4 hat _; have T4 := hide ((Two.app (unhide own1).swap ho4 rfl hg4 hat).swap); have hb4 := bel1.grown hg4 base1 (own_ge (unhide own1).swap.1); have q0 := (hb4.cell (p := ⟨w.heap.size + 1, 2, none⟩) (show w.heap.size + 1 < w.heap.size + 2 by omega)).trans cc; have q1 := (hb4.cell (p := ⟨mb, moff + k2 * 3, none⟩) (show mb < w.heap.size + 2 by omega)).trans m0; have q2 := (hb4.cell (p := ⟨mb, moff + k2 * 3 + 1, none⟩) (show mb < w.heap.size + 2 by omega)).trans m1; have q3 := (hb4.cell (p := ⟨mb, moff + k2 * 3 + 2, none⟩) (show mb < w.heap.size + 2 by omega)).trans m2))
          have hb4' := hbr2.trans hb4
          have hl4 : (l2 ++ [mf, mm, mv]).length = l2.length + 3 := by simp
          clear ho4 hg4 hat q0 q1 q2 q3 cc m0 m1 m2 own1 NEWS1 base1 bel1 hm1 hm2 HT2 hbr2 hb4
          go_wp2_with fail
          go_roundw
          case rel => exact ⟨k2 + 1, g, cap, l2 ++ [mf, mm, mv], by omega, by go_num, by rw [hl4], HN, hide (by rw [hl4, hll2.out]; omega), T4, hb4'⟩
          case measure => simp [intOf]; omega
        · have hkl : k2 = b.ms.length := by omega
          subst hkl
          have HE2 : Hid (l2 = Y0 ++ fm b.ms) := by show _ = _; rw [HL2.out, List.take_length]
          clear HL2
          go_wp2_with fail
          clear cc
          rename World => W2
          go_loopw [5, 9] (fun x i wr => ∃ (k gx cx : Nat) (lx : List Int), k ≤ a.ds.length ∧ i = .int .i64 k ∧ x = .slice (some ⟨gx, 0, none⟩) lx.length cx ∧ Hid (lx = l1 ++ fd (a.ds.take k)) ∧ Hid (lx.length = l1.length + 3 * k) ∧ Hid (Two wr (w.heap.size + 2) gx cx lx g2 c2 l2) ∧ Below (w.heap.size + 2) w1 wr) (fun _ i _ => a.ds.length - (intOf i).toNat)
          case atStart => exact ⟨0, _, _, l1, by omega, rfl, rfl, hide (by simp [fd]), hide (by omega), HT2, hbr2⟩
          case round =>
            obtain ⟨k3, g3, c3, l3, hk, rfl, rfl, HL3, hll3, HT3, hbr3⟩ := hrel
            clear HT2 hbr2
            have cc : wr.cell? ⟨w.heap.size, 3, none⟩ = some (.slice ada a.ds.length adc) := (hbr3.cell (p := ⟨w.heap.size, 3, none⟩) (show w.heap.size < w.heap.size + 2 by omega)).trans qa3
            have hsz : w.heap.size + 4 ≤ wr.heap.size := by have := hbr3.size; omega
            by_cases hlt : k3 < a.ds.length
            · obtain ⟨ma', mcap', hmv, hmn', hmL⟩ := HDA.out.below (hbel1.trans (hbr3.mono (by omega))) (Nat.le_refl _)
              simp only [Value.slice.injEq] at hmv
              obtain ⟨rfl, _, rfl⟩ := hmv
              obtain ⟨mb, moff, rfl, hmc, hmcell⟩ : ∃ mb moff, ada = some ⟨mb, moff, none⟩ ∧ a.ds.length ≤ adc ∧ mb < w.heap.size ∧ wr.cell? ⟨mb, moff + k3 * 3, none⟩ = some (.int .i64 (a.ds.getD k3 do0).k) ∧ wr.cell? ⟨mb, moff + k3 * 3 + 1, none⟩ = some (.int .i64 (a.ds.getD k3 do0).a) ∧ wr.cell? ⟨mb, moff + k3 * 3 + 2, none⟩ = some (.int .i64 (a.ds.getD k3 do0).n) := by
                rcases hmL with h0 | ⟨b1, o1, h1, h2, h3⟩
                · omega
                · refine ⟨b1, o1, h1, h2, ?_, h3 k3 hlt⟩
                  obtain ⟨a1, c1, e1, _, e0 | ⟨b2, o2, e2, _, e3⟩⟩ := HDA.out
                  · omega
                  · simp only [Value.slice.injEq] at e1
                    have := e1.1
                    rw [h1, e2] at this
                    simp at this
                    rw [this.1]
                    exact cell_lt (e3 k3 hlt).1
              obtain ⟨hmb, m0, m1, m2⟩ := hmcell
              have HN : Hid (l3 ++ [(a.ds.getD k3 do0).k, (a.ds.getD k3 do0).a, (a.ds.getD k3 do0).n] = l1 ++ fd (a.ds.take (k3 + 1))) := by
                show _ = _
                rw [fd_take a.ds k3 hlt, HL3.out, List.append_assoc]
              clear HL3 hmL hmn' HMA HMB HDA HDB
              generalize (a.ds.getD k3 do0).k = mf at *
              generalize (a.ds.getD k3 do0).a = mm at *
              generalize (a.ds.getD k3 do0).n = mv at *
              have own1 := hide ((HT3.out.alloc (.cells #[.int .i64 mf, .int .i64 mm, .int .i64 mv] 3)).drew)
              have NEWS1 : Hid (∀ j u, (I [mf, mm, mv])[j]? = some u → (wr.alloc (.cells #[.int .i64 mf, .int .i64 mm, .int .i64 mv] 3)).drew.cell? ((⟨wr.heap.size, 0, none⟩ : Addr).add j) = some u) := by
                intro j u hj
                match j, hj with
                | 0, hj => simp [I] at hj; subst hj; simp [Addr.add]
                | 1, hj => simp [I] at hj; subst hj; simp [Addr.add]
                | 2, hj => simp [I] at hj; subst hj; simp [Addr.add]
              have base1 : w.heap.size + 2 ≤ (wr.alloc (.cells #[.int .i64 mf, .int .i64 mm, .int .i64 mv] 3)).drew.heap.size := by simp; omega
              have bel1 : Below (w.heap.size + 2) wr (wr.alloc (.cells #[.int .i64 mf, .int .i64 mm, .int .i64 mv] 3)).drew := ((Below.refl _ wr).alloc (by omega) _).drew
              have hm1 : l3.length + 3 ≤ maxLen := by have := hll1.out; have := hll3.out; unfold maxLen; omega
              have hm2 : (l3.length + 3) * 8 ≤ 140737488355328 := by have := hll1.out; have := hll3.out; omega
              go_wp2_with fail
              go_region_held3 (fun w' => w'.cell? ⟨w.heap.size, 3, none⟩ = some (.slice (some ⟨mb, moff, none⟩) a.ds.length adc) ∧ w'.cell? ⟨mb, moff + k3 * 3, none⟩ = some (.int .i64 mf) ∧ w'.cell? ⟨mb, moff + k3 * 3 + 1, none⟩ = some (.int .i64 mm) ∧ w'.cell? ⟨mb, moff + k3 * 3 + 2, none⟩ = some (.int .i64 mv)) (go_keep)
                (first | (refine step_append_lies _ rfl (.tmp 97) (.tmp 116) 71 rfl (w.heap.size + 2) 3 i0 (.int .i64 0) 1 8 Try.underlying71 hi hz0 hz1 hz2 rfl (by decide) _ _ _ rfl (unhide own1).1 ⟨wr.heap.size, 0, none⟩ 3 3 (I [mf, mm, mv]) rfl rfl (unhide NEWS1) (I_one _) (by decide) hm1 hm2 base1 _ rfl ?_; intro g cap w4 ho4 hg4 hat _; have T4 := hide ((Two.app (unhide own1) ho4 rfl hg4 hat)); have hb4 := bel1.grown hg4 base1 (own_ge (unhide own1).1); have q0 := (hb4.cell (p := ⟨w.heap.size, 3, none⟩) (show w.heap.size < w.heap.size + 2 by omega)).trans cc; have q1 := (hb4.cell (p := ⟨mb, moff + k3 * 3, none⟩) (show mb < w.heap.size + 2 by omega)).trans m0; have q2 := (hb4.cell (p := ⟨mb, moff + k3 * 3 + 1, none⟩) (show mb < w.heap.size + 2 by omega)).trans m1; have q3 := (hb4.cell (p := ⟨mb, moff + k3 * 3 + 2, none⟩) (show mb < w.heap.size + 2 by omega)).trans m2))
              have hb4' := hbr3.trans hb4
              have hl4 : (l3 ++ [mf, mm, mv]).length = l3.length + 3 := by simp
              clear ho4 hg4 hat q0 q1 q2 q3 cc m0 m1 m2 own1 NEWS1 base1 bel1 hm1 hm2 HT3 hbr3 hb4
              go_wp2_with fail
              go_roundw
              case rel => exact ⟨k3 + 1, g, cap, l3 ++ [mf, mm, mv], by omega, by go_num, by rw [hl4], HN, hide (by rw [hl4, hll3.out]; omega), T4, hb4'⟩
              case measure => simp [intOf]; omega
            · have hkl : k3 = a.ds.length := by omega
              subst hkl
              have HE3 : Hid (l3 = l1 ++ fd a.ds) := by show _ = _; rw [HL3.out, List.take_length]
              clear HL3
              go_wp2_with fail
              clear cc
              rename World => W3
              go_loopw [6, 10] (fun x i wr => ∃ (k gx cx : Nat) (lx : List Int), k ≤ b.ds.length ∧ i = .int .i64 k ∧ x = .slice (some ⟨gx, 0, none⟩) lx.length cx ∧ Hid (lx = l2 ++ fd (b.ds.take k)) ∧ Hid (lx.length = l2.length + 3 * k) ∧ Hid (Two wr (w.heap.size + 2) g3 c3 l3 gx cx lx) ∧ Below (w.heap.size + 2) w1 wr) (fun _ i _ => b.ds.length - (intOf i).toNat)
              case atStart => exact ⟨0, _, _, l2, by omega, rfl, rfl, hide (by simp [fd]), hide (by omega), HT3, hbr3⟩
              case round =>
                obtain ⟨k4, g4, c4, l4, hk, rfl, rfl, HL4, hll4, HT4, hbr4⟩ := hrel
                clear HT3 hbr3
                have cc : wr.cell? ⟨w.heap.size + 1, 3, none⟩ = some (.slice bda b.ds.length bdc) := (hbr4.cell (p := ⟨w.heap.size + 1, 3, none⟩) (show w.heap.size + 1 < w.heap.size + 2 by omega)).trans qb3
                have hsz : w.heap.size + 4 ≤ wr.heap.size := by have := hbr4.size; omega
                by_cases hlt : k4 < b.ds.length
                · obtain ⟨ma', mcap', hmv, hmn', hmL⟩ := HDB.out.below (hbel1.trans (hbr4.mono (by omega))) (Nat.le_refl _)
                  simp only [Value.slice.injEq] at hmv
                  obtain ⟨rfl, _, rfl⟩ := hmv
                  obtain ⟨mb, moff, rfl, hmc, hmcell⟩ : ∃ mb moff, bda = some ⟨mb, moff, none⟩ ∧ b.ds.length ≤ bdc ∧ mb < w.heap.size ∧ wr.cell? ⟨mb, moff + k4 * 3, none⟩ = some (.int .i64 (b.ds.getD k4 do0).k) ∧ wr.cell? ⟨mb, moff + k4 * 3 + 1, none⟩ = some (.int .i64 (b.ds.getD k4 do0).a) ∧ wr.cell? ⟨mb, moff + k4 * 3 + 2, none⟩ = some (.int .i64 (b.ds.getD k4 do0).n) := by
                    rcases hmL with h0 | ⟨b1, o1, h1, h2, h3⟩
                    · omega
                    · refine ⟨b1, o1, h1, h2, ?_, h3 k4 hlt⟩
                      obtain ⟨a1, c1, e1, _, e0 | ⟨b2, o2, e2, _, e3⟩⟩ := HDB.out
                      · omega
                      · simp only [Value.slice.injEq] at e1
                        have := e1.1
                        rw [h1, e2] at this
                        simp at this
                        rw [this.1]
                        exact cell_lt (e3 k4 hlt).1
                  obtain ⟨hmb, m0, m1, m2⟩ := hmcell
                  have HN : Hid (l4 ++ [(b.ds.getD k4 do0).k, (b.ds.getD k4 do0).a, (b.ds.getD k4 do0).n] = l2 ++ fd (b.ds.take (k4 + 1))) := by
                    show _ = _
                    rw [fd_take b.ds k4 hlt, HL4.out, List.append_assoc]
                  clear HL4 hmL hmn' HMA HMB HDA HDB
                  generalize (b.ds.getD k4 do0).k = mf at *
                  generalize (b.ds.getD k4 do0).a = mm at *
                  generalize (b.ds.getD k4 do0).n = mv at *
                  have own1 := hide ((HT4.out.alloc (.cells #[.int .i64 mf, .int .i64 mm, .int .i64 mv] 3)).drew)
                  have NEWS1 : Hid (∀ j u, (I [mf, mm, mv])[j]? = some u → (wr.alloc (.cells #[.int .i64 mf, .int .i64 mm, .int .i64 mv] 3)).drew.cell? ((⟨wr.heap.size, 0, none⟩ : Addr).add j) = some u) := by
                    intro j u hj
                    match j, hj with
                    | 0, hj => simp [I] at hj; subst hj; simp [Addr.add]
                    | 1, hj => simp [I] at hj; subst hj; simp [Addr.add]
                    | 2, hj => simp [I] at hj; subst hj; simp [Addr.add]
                  have base1 : w.heap.size + 2 ≤ (wr.alloc (.cells #[.int .i64 mf, .int .i64 mm, .int .i64 mv] 3)).drew.heap.size := by simp; omega
                  have bel1 : Below (w.heap.size + 2) wr (wr.alloc (.cells #[.int .i64 mf, .int .i64 mm, .int .i64 mv] 3)).drew := ((Below.refl _ wr).alloc (by omega) _).drew
                  have hm1 : l4.length + 3 ≤ maxLen := by have := hll2.out; have := hll4.out; unfold maxLen; omega
                  have hm2 : (l4.length + 3) * 8 ≤ 140737488355328 := by have := hll2.out; have := hll4.out; omega
                  go_wp2_with fail
                  go_region_held3 (fun w' => w'.cell? ⟨w.heap.size + 1, 3, none⟩ = some (.slice (some ⟨mb, moff, none⟩) b.ds.length bdc) ∧ w'.cell? ⟨mb, moff + k4 * 3, none⟩ = some (.int .i64 mf) ∧ w'.cell? ⟨mb, moff + k4 * 3 + 1, none⟩ = some (.int .i64 mm) ∧ w'.cell? ⟨mb, moff + k4 * 3 + 2, none⟩ = some (.int .i64 mv)) (go_keep)
                    (first | (refine step_append_lies _ rfl (.tmp 125) (.tmp 144) 71 rfl (w.heap.size + 2) 3 i0 (.int .i64 0) 1 8 Try.underlying71 hi hz0 hz1 hz2 rfl (by decide) _ _ _ rfl (unhide own1).swap.1 ⟨wr.heap.size, 0, none⟩ 3 3 (I [mf, mm, mv]) rfl rfl (unhide NEWS1) (I_one _) (by decide) hm1 hm2 base1 _ rfl ?_; intro g cap w4 ho4 hg4 hat _; have T4 := hide ((Two.app (unhide own1).swap ho4 rfl hg4 hat).swap); have hb4 := bel1.grown hg4 base1 (own_ge (unhide own1).swap.1); have q0 := (hb4.cell (p := ⟨w.heap.size + 1, 3, none⟩) (show w.heap.size + 1 < w.heap.size + 2 by omega)).trans cc; have q1 := (hb4.cell (p := ⟨mb, moff + k4 * 3, none⟩) (show mb < w.heap.size + 2 by omega)).trans m0; have q2 := (hb4.cell (p := ⟨mb, moff + k4 * 3 + 1, none⟩) (show mb < w.heap.size + 2 by omega)).trans m1; have q3 := (hb4.cell (p := ⟨mb, moff + k4 * 3 + 2, none⟩) (show mb < w.heap.size + 2 by omega)).trans m2))
                  have hb4' := hbr4.trans hb4
                  have hl4 : (l4 ++ [mf, mm, mv]).length = l4.length + 3 := by simp
                  clear ho4 hg4 hat q0 q1 q2 q3 cc m0 m1 m2 own1 NEWS1 base1 bel1 hm1 hm2 HT4 hbr4 hb4
                  go_wp2_with fail
                  go_roundw
                  case rel => exact ⟨k4 + 1, g, cap, l4 ++ [mf, mm, mv], by omega, by go_num, by rw [hl4], HN, hide (by rw [hl4, hll4.out]; omega), T4, hb4'⟩
                  case measure => simp [intOf]; omega
                · have hkl : k4 = b.ds.length := by omega
                  subst hkl
                  have HE4 : Hid (l4 = l2 ++ fd b.ds) := by show _ = _; rw [HL4.out, List.take_length]
                  clear HL4
                  go_wp2_with fail
                  clear cc
                  rename World => W4
                  have HP : Hid (plc a b = cmpL l3 l4) := by show _ = _; unfold plc keyX; rw [HE3.out, HE4.out, HE1.out, HE2.out, ← HX0.out, ← HY0.out]
                  have hz3 : l3.length ≤ 20000000 := by have := hll3.out; have := hll1.out; omega
                  have hz4 : l4.length ≤ 20000000 := by have := hll4.out; have := hll2.out; omega
                  have hcx : l3.length ≤ c3 := HT4.out.capx
                  have hcy : l4.length ≤ c4 := HT4.out.swap.capx
                  clear HE1 HE2 HE3 HE4 HX0 HY0 hll1 hll2 hll3 hll4 HMA HMB HDA HDB qa2 qa3 qb2 qb3
                  have hbW4 : Below w.heap.size w W4 := hbel1.trans (hbr4.mono (by omega))
                  have hzW4 := hbW4.size
                  clear hbr4 hbel1
                  go_loopw [11] (fun i wr => ∃ k : Nat, k ≤ l3.length ∧ k ≤ l4.length ∧ i = .int .i64 k ∧ Hid (∀ j, j < k → l3.getD j 0 = l4.getD j 0) ∧ Below W4.heap.size W4 wr) (fun i _ => l3.length - (intOf i).toNat)
                  case atStart => exact ⟨0, by omega, by omega, rfl, hide (fun j h => absurd h (by omega)), Below.refl _ _⟩
                  case round =>
                    obtain ⟨k, hk1, hk2, rfl, HA, hb5⟩ := hrel
                    have hbW : Below w.heap.size w wr := hbW4.trans (hb5.mono hzW4)
                    by_cases h3 : k < l3.length
                    · by_cases h4 : k < l4.length
                      · have e3 := cell_below (HT4.out.cellx k h3) hb5 (Nat.le_refl _)
                        have e4 := cell_below (HT4.out.swap.cellx k h4) hb5 (Nat.le_refl _)
                        have HS : Hid (l3.getD k 0 ≠ l4.getD k 0 → plc a b = if l3.getD k 0 < l4.getD k 0 then -1 else 1) := fun h => by rw [HP.out]; exact cmpL_step k l3 l4 h3 h4 HA.out h
                        have HA' : Hid (l3.getD k 0 = l4.getD k 0 → ∀ j, j < k + 1 → l3.getD j 0 = l4.getD j 0) := fun h j hj => by
                          by_cases e : j = k
                          · subst e; exact h
                          · exact HA.out j (by omega)
                        clear HA HP HT4
                        generalize l3.getD k 0 = p at *
                        generalize l4.getD k 0 = r at *
                        by_cases t1 : p < r
                        · have HV : Hid (plc a b = -1) := by show _ = _; rw [HS.out (by omega), if_pos t1]
                          clear HS HA'
                          go_wp2_with fail
                          go_quiet (fail)
                          go_wp2_with fail
                          go_ret
                          exact ⟨int_ret HV.out.symm, below_drewN hbW _⟩
                        · by_cases t2 : r < p
                          · have HV : Hid (plc a b = 1) := by show _ = _; rw [HS.out (by omega), if_neg t1]
                            clear HS HA'
                            go_wp2_with fail
                            go_quiet (fail)
                            go_wp2_with fail
                            go_quiet (fail)
                            go_wp2_with fail
                            go_ret
                            exact ⟨int_ret HV.out.symm, below_drewN (below_drewN hbW _) _⟩
                          · have HN := hide (HA'.out (by omega))
                            clear HS HA'
                            go_wp2_with fail
                            go_quiet (fail)
                            go_wp2_with fail
                            go_quiet (fail)
                            go_wp2_with fail
                            go_roundw
                            case rel => exact ⟨k + 1, by omega, by omega, by go_num, HN, by first | exact below_drewN hb5 _ | exact hb5⟩
                            case measure => simp [intOf]; omega
                      · have HV : Hid (plc a b = (l3.length : Int) - (l4.length : Int)) := by show _ = _; rw [HP.out]; exact cmpL_end k l3 l4 hk1 hk2 (.inr (by omega)) HA.out
                        clear HP HA HT4
                        go_wp2_with fail
                        go_ret
                        exact ⟨int_ret HV.out.symm, hbW⟩
                    · have HV : Hid (plc a b = (l3.length : Int) - (l4.length : Int)) := by show _ = _; rw [HP.out]; exact cmpL_end k l3 l4 hk1 hk2 (.inl (by omega)) HA.out
                      clear HP HA HT4
                      go_wp2_with fail
                      go_ret
                      exact ⟨int_ret HV.out.symm, hbW⟩

end Go.Proofs.Ytonhfgdnkkkikac
