/- Texts joined: Qf, Qg, Lay, Od, Oe. -/
import Derived.Test.YtncdininppehkaaGreatRows
import Derived.Shelf.SlSortCmp.NoneTotal
import Derived.Test.YtncdininppehkaaGreatJAsksAnswered6
namespace Go.Proofs.YtncdininppehkaaGreat
open Go.RowKit
set_option linter.unusedVariables false
set_option maxRecDepth 100000
theorem wp_same6 {P : Program} {c : Code} {Q : Exit → Act → World → Prop} {a : Act} {w : World} (F : Nat → Nat → Nat → Nat → Nat → Nat → World → Prop) (A1 : Nat → Nat → Nat → Nat → Nat → Nat → Act) (h : c.wp P (fun e a' w' => e = .normal ∧ ∃ x y z u v s, a' = A1 x y z u v s ∧ F x y z u v s w') a w) (hq : ∀ x y z u v s w', F x y z u v s w' → Q .normal (A1 x y z u v s) w') : c.wp P Q a w :=
 Code.wp_mono (fun e a' w' ⟨he, x, y, z, u, v, s, ha, hf⟩ => by subst he; subst ha; exact hq x y z u v s w' hf) h
theorem put4 {w : World} {b : Nat} {p q r s : Value} (h0 : w.cell? ⟨b, 0, none⟩ = some p) (h1 : w.cell? ⟨b, 1, none⟩ = some q) (h2 : w.cell? ⟨b, 2, none⟩ = some r) (h3 : w.cell? ⟨b, 3, none⟩ = some s) (x y z u : Value) :
  ((((w.setCell ⟨b, 0, none⟩ x).setCell ⟨b, 1, none⟩ y).setCell ⟨b, 2, none⟩ z).setCell ⟨b, 3, none⟩ u).cell? ⟨b, 0, none⟩ = some x ∧ ((((w.setCell ⟨b, 0, none⟩ x).setCell ⟨b, 1, none⟩ y).setCell ⟨b, 2, none⟩ z).setCell ⟨b, 3, none⟩ u).cell? ⟨b, 1, none⟩ = some y ∧ ((((w.setCell ⟨b, 0, none⟩ x).setCell ⟨b, 1, none⟩ y).setCell ⟨b, 2, none⟩ z).setCell ⟨b, 3, none⟩ u).cell? ⟨b, 2, none⟩ = some z ∧ ((((w.setCell ⟨b, 0, none⟩ x).setCell ⟨b, 1, none⟩ y).setCell ⟨b, 2, none⟩ z).setCell ⟨b, 3, none⟩ u).cell? ⟨b, 3, none⟩ = some u := by
 have o : ∀ (W : World) (i j : Nat) (v : Value), i ≠ j → (W.setCell ⟨b, i, none⟩ v).cell? ⟨b, j, none⟩ = W.cell? ⟨b, j, none⟩ := fun W i j v hij => World.cell?_setCell_other _ _ _ _ (fun e => hij (by simpa using (congrArg Addr.off e)))
 refine ⟨?_, ?_, ?_, ?_⟩
 ·rw [o _ 3 0 _ (by decide), o _ 2 0 _ (by decide), o _ 1 0 _ (by decide)]; exact World.cell?_setCell_same _ _ _ h0
 ·rw [o _ 3 1 _ (by decide), o _ 2 1 _ (by decide)]; exact World.cell?_setCell_same _ _ _ ((o _ 0 1 _ (by decide)).trans h1)
 ·rw [o _ 3 2 _ (by decide)]; exact World.cell?_setCell_same _ _ _ ((o _ 1 2 _ (by decide)).trans ((o _ 0 2 _ (by decide)).trans h2))
 ·exact World.cell?_setCell_same _ _ _ ((o _ 2 3 _ (by decide)).trans ((o _ 1 3 _ (by decide)).trans ((o _ 0 3 _ (by decide)).trans h3)))
theorem put4_grown (w : World) (b : Nat) (x y z u : Value) : w.grownBy ((((w.setCell ⟨b, 0, none⟩ x).setCell ⟨b, 1, none⟩ y).setCell ⟨b, 2, none⟩ z).setCell ⟨b, 3, none⟩ u) (some b) := by
 have h := fun (W : World) (i : Nat) (v : Value) => set_grown W ⟨b, i, none⟩ v
 have t : ∀ {A B C : World}, A.grownBy B (some b) → B.grownBy C (some b) → A.grownBy C (some b) := fun h1 h2 => ⟨h2.os.trans h1.os, h2.tape.trans h1.tape, h2.output.trans h1.output, Nat.le_trans h1.size h2.size, fun k hk hne => (h2.block k (Nat.lt_of_lt_of_le hk h1.size) hne).trans (h1.block k hk hne)⟩
 exact t (t (t (h w 0 x) (h _ 1 y)) (h _ 2 z)) (h _ 3 u)
theorem put4_frozen (w : World) (b j : Nat) (x y z u : Value) : ((((w.setCell ⟨b, 0, none⟩ x).setCell ⟨b, 1, none⟩ y).setCell ⟨b, 2, none⟩ z).setCell ⟨b, 3, none⟩ u).frozen? ⟨b, j, none⟩ = w.frozen? ⟨b, j, none⟩ := by
 rw [World.frozen?_setCell, World.frozen?_setCell, World.frozen?_setCell, World.frozen?_setCell]
theorem ruleMs_len (r : Ac) : 2 ≤ (ruleMs r).length ∧ (ruleMs r).length ≤ 3 := by
 unfold ruleMs
 split <;> simp
theorem acSort_len (R : List Ac) : (acSort R).length = R.length := by
 unfold acSort
 rw [mrg_len, isort_len, isort_len, List.length_take, List.length_drop]; omega
theorem acSort_mem (R : List Ac) (z : Ac) : z ∈ acSort R ↔ z ∈ R := by
 unfold acSort
 rw [mrg_mem, isort_mem, isort_mem, ← List.mem_append, List.take_append_drop]
def ruleTo (R : List Ac) (s t n : Int) (k : Nat) : List Fl := ⟨t, 0, [isM 8 s], [gotoD n]⟩ :: (List.range k).map (ruleAt R s t n)
theorem ruleTo_next (R : List Ac) (s t n : Int) (k : Nat) : ruleTo R s t n (k + 1) = ruleTo R s t n k ++ [ruleAt R s t n k] := by
 unfold ruleTo
 rw [List.range_succ, List.map_append]
 rfl
theorem ruleTo_len (R : List Ac) (s t n : Int) (k : Nat) : (ruleTo R s t n k).length = k + 1 := by
 unfold ruleTo
 rw [List.length_cons, List.length_map, List.length_range]
set_option maxHeartbeats 16000000 in
theorem ruleFlows_any (R : List Ac) (x : Sw) (t n : Int) (u : Value) (B : Nat) (w : World) (ho : w.ownsRow B 65 9 u R.length (R.flatMap acC)) (hB : B ≤ w.heap.size) (hS : SortsAc R) (hR : ∀ r ∈ R, (0 ≤ r.sb ∧ r.sb ≤ 16) ∧ 0 ≤ r.db ∧ r.db ≤ 16) (hl : R.length ≤ 1000) :
  Calls Tryz.prog 67 #[u, .agg #[.int .i64 x.i, .int .i64 x.t, .int .i64 x.g], .int .i64 t, .int .i64 n] w fun e w' => ∃ v, e = .returned v ∧ FR w' w.heap.size v (ruleFl (acSort R) x.i t n) ∧ Below B w w' := by
 obtain ⟨iM, inM, zM0, zM1, zM2⟩ := info_parts infoMatch
 obtain ⟨iD, inD, zD0, zD1, zD2⟩ := info_parts infoDoes
 have HS := hide (fun W (hW : Below w.heap.size w W) => hS u B W (own_below ho hW) (Nat.le_trans hB hW.size))
 have HUL := hide (fun g (e : u.ownBlock = some g) => own_in ho e)
 have HUG := hide (own_ge ho)
 obtain ⟨uo, uc, rfl⟩ := own_slc ho
 obtain ⟨L, hL⟩ : ∃ L, L = acSort R := ⟨_, rfl⟩
 have HLL : Hid (L.length = R.length) := by rw [hL]; exact hide (acSort_len R)
 have HLB : Hid (∀ r ∈ L, (0 ≤ r.sb ∧ r.sb ≤ 16) ∧ 0 ≤ r.db ∧ r.db ≤ 16) := hide (fun r hr => hR r (by rw [hL] at hr; exact (acSort_mem R r).1 hr))
 have HRF : Hid (ruleFl L x.i t n = ruleTo L x.i t n L.length) := rfl
 rw [← hL] at HS ⊢
 clear hL ho hS hR
 obtain ⟨N, hN⟩ : ∃ N, N = R.length := ⟨_, rfl⟩
 rw [← hN] at HS HLL HUL HUG hl ⊢
 clear hN
 go_enter Tryz.func67, Tryz.ntmps67
 go_wp2_with fail
 obtain ⟨W0, hW⟩ : ∃ W0, W0 = w.alloc (.cells #[.int .i64 x.i, .int .i64 x.t, .int .i64 x.g] 59) := ⟨_, rfl⟩
 rw [← hW]
 obtain ⟨sb, hblk⟩ : ∃ sb, sb = w.heap.size := ⟨_, rfl⟩
 have d0 : W0.cell? ⟨sb, 0, none⟩ = some (.int .i64 x.i) := by rw [hW, hblk]; exact new_cell w _ rfl _ _ _ _ rfl
 have d1 : W0.cell? ⟨sb, 1, none⟩ = some (.int .i64 x.t) := by rw [hW, hblk]; exact new_cell w _ rfl _ _ _ _ rfl
 have d2 : W0.cell? ⟨sb, 2, none⟩ = some (.int .i64 x.g) := by rw [hW, hblk]; exact new_cell w _ rfl _ _ _ _ rfl
 have hbN : Below w.heap.size w W0 := by rw [hW]; exact alloc_below _ _
 have hzW0 : W0.heap.size = sb + 1 := by rw [hW, hblk]; simp
 have hsbl : w.heap.size ≤ sb := by omega
 rw [← hblk]
 clear hW hblk
 have HB := hbN
 clear hbN hzW0
 have hw00 : w.heap.size ≤ W0.heap.size := HB.size
 refine (is_any _ _ _).mono ?_
 rintro e V1 ⟨rfl, hb1⟩
 have hs2 := hb1.size
 replace d0 := zC d0 hb1
 replace d1 := zC d1 hb1
 replace d2 := zC d2 hb1
 replace HB := tm HB hb1
 clear hb1
 go_wp2_with fail
 refine (does_any _ _ _ _).mono ?_
 rintro e V3 ⟨rfl, hb3⟩
 have hs4 := hb3.size
 replace d0 := zC d0 hb3
 replace d1 := zC d1 hb3
 replace d2 := zC d2 hb3
 replace HB := tm HB hb3
 clear hb3
 go_wp2_with fail
 obtain ⟨V5, hV⟩ : ∃ V5, V5 = V3.alloc (.cells #[.int .i64 8, .int .i64 65535, .int .i64 x.i] 95) := ⟨_, rfl⟩
 rw [← hV]
 obtain ⟨g5, hg'⟩ : ∃ g5, g5 = V3.heap.size := ⟨_, rfl⟩
 have hg : g5 = V3.heap.size := hg'
 rw [← hg']
 have hbN := bn hV
 have hg5 : V3.heap.size ≤ g5 := by omega
 have hl5 := ln hV hg
 have hzV5 : V5.heap.size = g5 + 1 := by rw [hV, hg]; simp
 have m0 : V5.cell? ⟨g5, 0, none⟩ = some (.int .i64 8) := by rw [hV, hg]; exact new_cell V3 _ rfl _ _ _ _ rfl
 have m1 : V5.cell? ⟨g5, 1, none⟩ = some (.int .i64 65535) := by rw [hV, hg]; exact new_cell V3 _ rfl _ _ _ _ rfl
 have m2 : V5.cell? ⟨g5, 2, none⟩ = some (.int .i64 x.i) := by rw [hV, hg]; exact new_cell V3 _ rfl _ _ _ _ rfl
 have hs6 := hbN.size
 replace d0 := zC d0 hbN
 replace d1 := zC d1 hbN
 replace d2 := zC d2 hbN
 replace HB := tm HB hbN
 clear hV hg hg' hbN
 obtain ⟨V7, hV⟩ : ∃ V7, V7 = V5.alloc (.cells #[.int .i64 4, .int .i64 0, .int .i64 n] 98) := ⟨_, rfl⟩
 rw [← hV]
 obtain ⟨g7, hg'⟩ : ∃ g7, g7 = g5 + 1 := ⟨_, rfl⟩
 have hg : g7 = V5.heap.size := hg'.trans hzV5.symm
 rw [← hg']
 have hbN := bn hV
 have hg7 : V5.heap.size ≤ g7 := by omega
 have hl7 := ln hV hg
 have hzV7 : V7.heap.size = g7 + 1 := by rw [hV, hg]; simp
 have e0 : V7.cell? ⟨g7, 0, none⟩ = some (.int .i64 4) := by rw [hV, hg]; exact new_cell V5 _ rfl _ _ _ _ rfl
 have e1 : V7.cell? ⟨g7, 1, none⟩ = some (.int .i64 0) := by rw [hV, hg]; exact new_cell V5 _ rfl _ _ _ _ rfl
 have e2 : V7.cell? ⟨g7, 2, none⟩ = some (.int .i64 n) := by rw [hV, hg]; exact new_cell V5 _ rfl _ _ _ _ rfl
 have hs8 := hbN.size
 replace d0 := zC d0 hbN
 replace d1 := zC d1 hbN
 replace d2 := zC d2 hbN
 replace m0 := zC m0 hbN
 replace m1 := zC m1 hbN
 replace m2 := zC m2 hbN
 replace HB := tm HB hbN
 clear hV hg hg' hbN hzV5
 clear hzV7
 refine (unhide HS _ HB).mono ?_
 rintro e Ws ⟨rfl, hos, hgr⟩
 have hs20 := hgr.size
 have hs21 := HB.size
 replace d0 := (hgr.cell_far ⟨sb, 0, none⟩ (cell_in d0) (fun e => by have := HUL.out sb e.symm; omega)).trans d0
 replace d1 := (hgr.cell_far ⟨sb, 1, none⟩ (cell_in d1) (fun e => by have := HUL.out sb e.symm; omega)).trans d1
 replace d2 := (hgr.cell_far ⟨sb, 2, none⟩ (cell_in d2) (fun e => by have := HUL.out sb e.symm; omega)).trans d2
 replace m0 := (hgr.cell_far ⟨g5, 0, none⟩ (cell_in m0) (fun e => by have := HUL.out g5 e.symm; omega)).trans m0
 replace m1 := (hgr.cell_far ⟨g5, 1, none⟩ (cell_in m1) (fun e => by have := HUL.out g5 e.symm; omega)).trans m1
 replace m2 := (hgr.cell_far ⟨g5, 2, none⟩ (cell_in m2) (fun e => by have := HUL.out g5 e.symm; omega)).trans m2
 replace e0 := (hgr.cell_far ⟨g7, 0, none⟩ (cell_in e0) (fun e => by have := HUL.out g7 e.symm; omega)).trans e0
 replace e1 := (hgr.cell_far ⟨g7, 1, none⟩ (cell_in e1) (fun e => by have := HUL.out g7 e.symm; omega)).trans e1
 replace e2 := (hgr.cell_far ⟨g7, 2, none⟩ (cell_in e2) (fun e => by have := HUL.out g7 e.symm; omega)).trans e2
 have HBW : Hid (Below B w Ws) := hide ((HB.mono hB).grown hgr (Nat.le_trans hB HB.size) HUG.out)
 have HROW : Hid (Ws.ownsRow B 65 9 (.slice uo N uc) N (L.flatMap acC)) := hide hos
 clear hos hgr HS HB
 have HB : Below Ws.heap.size Ws Ws := Below.refl _ _
 have hx1 := cell_in e0
 have hx2 : ¬ g7 = Ws.heap.size := by omega
 go_wp2_with fail
 clear hx2
 obtain ⟨V41, hV⟩ : ∃ V41, V41 = Ws.alloc (.cells #[.int .i64 8, .int .i64 65535, .int .i64 x.i] 95) := ⟨_, rfl⟩
 rw [← hV]
 obtain ⟨g41, hg'⟩ : ∃ g41, g41 = Ws.heap.size := ⟨_, rfl⟩
 have hg : g41 = Ws.heap.size := hg'
 rw [← hg']
 have hbN := bn hV
 have hg41 : Ws.heap.size ≤ g41 := by omega
 have hl41 := ln hV hg
 have hzV41 : V41.heap.size = g41 + 1 := by rw [hV, hg]; simp
 have HM1 : Hid (V41.ownsRow Ws.heap.size 95 3 (.slice (some ⟨g41, 0, none⟩) 1 1) 1 (M [isM 8 x.i])) := by rw [hV, hg]; exact hide (World.ownsRow_lit Ws _ 1 HB.size (by decide) rfl)
 have hs42 := hbN.size
 replace d0 := zC d0 hbN
 replace d1 := zC d1 hbN
 replace d2 := zC d2 hbN
 replace m0 := zC m0 hbN
 replace m1 := zC m1 hbN
 replace m2 := zC m2 hbN
 replace e0 := zC e0 hbN
 replace e1 := zC e1 hbN
 replace e2 := zC e2 hbN
 replace HB := tm HB hbN
 clear hV hg hg' hbN
 obtain ⟨V43, hV⟩ : ∃ V43, V43 = V41.alloc (.cells #[.int .i64 4, .int .i64 0, .int .i64 n] 98) := ⟨_, rfl⟩
 rw [← hV]
 obtain ⟨g43, hg'⟩ : ∃ g43, g43 = g41 + 1 := ⟨_, rfl⟩
 have hg : g43 = V41.heap.size := hg'.trans hzV41.symm
 rw [← hg']
 have hbN := bn hV
 have hg43 : V41.heap.size ≤ g43 := by omega
 have hl43 := ln hV hg
 have hzV43 : V43.heap.size = g43 + 1 := by rw [hV, hg]; simp
 have HD1 : Hid (V43.ownsRow Ws.heap.size 98 3 (.slice (some ⟨g43, 0, none⟩) 1 1) 1 (D [gotoD n])) := by rw [hV, hg]; exact hide (World.ownsRow_lit V41 _ 1 HB.size (by decide) rfl)
 have hs44 := hbN.size
 replace d0 := zC d0 hbN
 replace d1 := zC d1 hbN
 replace d2 := zC d2 hbN
 replace m0 := zC m0 hbN
 replace m1 := zC m1 hbN
 replace m2 := zC m2 hbN
 replace e0 := zC e0 hbN
 replace e1 := zC e1 hbN
 replace e2 := zC e2 hbN
 replace HM1 := zO HM1 hbN
 replace HB := tm HB hbN
 clear hV hg hg' hbN hzV41
 clear hzV43
 refine (flowOf_any _ _ _ _ _ _ _ _ _).mono ?_
 rintro e V45 ⟨rfl, hb45⟩
 have hs46 := hb45.size
 replace d0 := zC d0 hb45
 replace d1 := zC d1 hb45
 replace d2 := zC d2 hb45
 replace m0 := zC m0 hb45
 replace m1 := zC m1 hb45
 replace m2 := zC m2 hb45
 replace e0 := zC e0 hb45
 replace e1 := zC e1 hb45
 replace e2 := zC e2 hb45
 replace HM1 := zO HM1 hb45
 replace HD1 := zO HD1 hb45
 replace HB := tm HB hb45
 clear hb45
 go_wp2_with fail
 obtain ⟨V47, hV⟩ : ∃ V47, V47 = V45.alloc (.cells #[.int .i64 t, .int .i64 0, .slice (some ⟨g41, 0, none⟩) 1 1, .slice (some ⟨g43, 0, none⟩) 1 1] 90) := ⟨_, rfl⟩
 rw [← hV]
 obtain ⟨g47, hg'⟩ : ∃ g47, g47 = V45.heap.size := ⟨_, rfl⟩
 have hg : g47 = V45.heap.size := hg'
 rw [← hg']
 have hbN := bn hV
 have hg47 : V45.heap.size ≤ g47 := by omega
 have hl47 := ln hV hg
 have hzV47 : V47.heap.size = g47 + 1 := by rw [hV, hg]; simp
 have HF0 : Hid (FR V47 Ws.heap.size (.slice (some ⟨g47, 0, none⟩) 1 1) (ruleTo L x.i t n 0)) := by
  rw [hV, hg]
  refine hide (FR.lit (lo := [⟨⟨t, 0, [isM 8 x.i], [gotoD n]⟩, .slice (some ⟨g41, 0, none⟩) 1 1, .slice (some ⟨g43, 0, none⟩) 1 1⟩]) rfl rfl HB.size (by decide) (fun x hx => ?_))
  simp only [List.mem_cons, List.not_mem_nil, or_false] at hx
  rcases hx with rfl
  ·exact fv_in HM1.out HD1.out (by simp [Value.ownBlock])
 have hs48 := hbN.size
 replace d0 := zC d0 hbN
 replace d1 := zC d1 hbN
 replace d2 := zC d2 hbN
 replace m0 := zC m0 hbN
 replace m1 := zC m1 hbN
 replace m2 := zC m2 hbN
 replace e0 := zC e0 hbN
 replace e1 := zC e1 hbN
 replace e2 := zC e2 hbN
 replace HM1 := zO HM1 hbN
 replace HD1 := zO HD1 hbN
 replace HB := tm HB hbN
 clear hV hg hg' hbN
 clear hzV47
 have hz1 : Ws.heap.size ≤ g47 := by omega
 have hz2 : g47 < V47.heap.size := by omega
 have hz3 : g5 < g47 := by omega
 have hz4 : g7 < g47 := by omega
 have hz5 : w.heap.size ≤ Ws.heap.size := by omega
 have hz6 : w.heap.size ≤ g5 := by omega
 have hz7 : g5 < g7 := by omega
 have HROW2 := hide (own_below HROW.out HB)
 have HBV : Hid (Below Ws.heap.size Ws V47) := hide HB
 clear HROW HB d0 d1 d2
 go_loopw [11, 31] (fun v i wr => ∃ k : Nat, k ≤ N ∧ i = .int .i64 k ∧ Hid (FR wr Ws.heap.size v (ruleTo L x.i t n k)) ∧ Hid (∀ g, v.ownBlock = some g → g = g47 ∨ V47.heap.size ≤ g) ∧ Hid (V47.grownBy wr (some g47))) (fun _ i _ => N - (intOf i).toNat)
 case atStart => exact ⟨0, by omega, rfl, HF0, hide (by simp [Value.ownBlock]), hide ⟨rfl, rfl, rfl, Nat.le_refl _, fun _ _ _ => rfl⟩⟩
 case round =>
  clear HF0
  obtain ⟨k, hk, rfl, HF, HVB, HGR⟩ := hrel
  have hgs : V47.heap.size ≤ wr.heap.size := HGR.out.size
  by_cases hlt : k < N
  ·have hltL : k < L.length := by rw [HLL.out]; exact hlt
   have HR1 := hide (HROW2.out.kept HGR.out (.inr (fun e => by have := HUL.out _ e; omega)))
   obtain ⟨b, off, cap, e1, hcap, -, g0, g1, g2, g3, g4, g5, g6, g7, g8⟩ := ac_at (RowAt.of_own acC_len (by decide) (by rw [HLL.out]; exact HR1.out)) hltL
   rw [HLL.out] at e1 hcap
   simp only [Value.slice.injEq, true_and] at e1
   obtain ⟨rfl, rfl⟩ := e1
   have hyb := HLB.out (L.getD k ac0) (by rw [List.getD_eq_getElem?_getD, List.getElem?_eq_getElem hltL]; exact List.getElem_mem _)
   have HNX := hide (ruleTo_next L x.i t n k)
   have HRA : Hid (ruleAt L x.i t n k = ⟨t, (N : Int) - k, ruleMs (L.getD k ac0) ++ [isM 8 x.i], if (L.getD k ac0).d then [] else [gotoD n]⟩) := by refine hide ?_; unfold ruleAt; rw [HLL.out]
   have hln := ruleTo_len L x.i t n k
   obtain ⟨vo, vc, rfl⟩ := HF.out.slc
   have HE0 : Hid (L.getD k ac0 = ⟨(L.getD k ac0).s, (L.getD k ac0).p, (L.getD k ac0).n, (L.getD k ac0).src, (L.getD k ac0).sb, (L.getD k ac0).dst, (L.getD k ac0).db, (L.getD k ac0).o, (L.getD k ac0).d⟩) := rfl
   rw [HE0.out] at HRA
   clear HE0 HR1
   generalize (L.getD k ac0).s = y0 at *
   generalize (L.getD k ac0).p = y1 at *
   generalize (L.getD k ac0).n = y2 at *
   generalize (L.getD k ac0).src = y3 at *
   generalize (L.getD k ac0).sb = y4 at *
   generalize (L.getD k ac0).dst = y5 at *
   generalize (L.getD k ac0).db = y6 at *
   generalize (L.getD k ac0).o = y7 at *
   generalize (L.getD k ac0).d = y8 at *
   obtain ⟨⟨hy0, hy1⟩, hy2, hy3⟩ := hyb
   generalize hFK : ruleTo L x.i t n k = FK at *
   have HFK := hide hFK
   clear hFK
   obtain ⟨NF, hNF⟩ : ∃ NF, NF = FK.length := ⟨_, rfl⟩
   rw [← hNF] at HF hln HVB ⊢
   have HNN := hide hNF
   have hln2 : NF ≤ 1001 := by omega
   clear hNF hln
   have q1 : (0 : Int) ≤ (k : Int) := by omega
   have q2 : (k : Int) < (N : Int) := by omega
   have hwr1 : IntKind.i64.wrap (N : Int) = (N : Int) := wrapI _ (by omega) (by omega)
   have hwr2 : IntKind.i64.wrap ((N : Int) - (k : Int)) = (N : Int) - (k : Int) := wrapI _ (by omega) (by omega)
   have HUB := hide HF.out.lt
   have nm0 := far_cell HGR.out m0 (by omega)
   have nm1 := far_cell HGR.out m1 (by omega)
   have nm2 := far_cell HGR.out m2 (by omega)
   have ne0 := far_cell HGR.out e0 (by omega)
   have ne1 := far_cell HGR.out e1 (by omega)
   have ne2 := far_cell HGR.out e2 (by omega)
   go_wp2_with fail
   obtain ⟨W9, hW9⟩ : ∃ W9, W9 = wr.alloc (.cells #[.int .i64 y0, .int .i64 y1, .bool y2, .int .i64 y3, .int .i64 y4, .int .i64 y5, .int .i64 y6, .int .i64 y7, .bool y8] 65) := ⟨_, rfl⟩
   rw [← hW9]
   obtain ⟨pb, hpb⟩ : ∃ pb, pb = wr.heap.size := ⟨_, rfl⟩
   have a0 : W9.cell? ⟨pb, 0, none⟩ = some (.int .i64 y0) := by rw [hW9, hpb]; exact new_cell wr _ rfl _ _ _ _ rfl
   have a1 : W9.cell? ⟨pb, 1, none⟩ = some (.int .i64 y1) := by rw [hW9, hpb]; exact new_cell wr _ rfl _ _ _ _ rfl
   have a2 : W9.cell? ⟨pb, 2, none⟩ = some (.bool y2) := by rw [hW9, hpb]; exact new_cell wr _ rfl _ _ _ _ rfl
   have a3 : W9.cell? ⟨pb, 3, none⟩ = some (.int .i64 y3) := by rw [hW9, hpb]; exact new_cell wr _ rfl _ _ _ _ rfl
   have a4 : W9.cell? ⟨pb, 4, none⟩ = some (.int .i64 y4) := by rw [hW9, hpb]; exact new_cell wr _ rfl _ _ _ _ rfl
   have a5 : W9.cell? ⟨pb, 5, none⟩ = some (.int .i64 y5) := by rw [hW9, hpb]; exact new_cell wr _ rfl _ _ _ _ rfl
   have a6 : W9.cell? ⟨pb, 6, none⟩ = some (.int .i64 y6) := by rw [hW9, hpb]; exact new_cell wr _ rfl _ _ _ _ rfl
   have a7 : W9.cell? ⟨pb, 7, none⟩ = some (.int .i64 y7) := by rw [hW9, hpb]; exact new_cell wr _ rfl _ _ _ _ rfl
   have a8 : W9.cell? ⟨pb, 8, none⟩ = some (.bool y8) := by rw [hW9, hpb]; exact new_cell wr _ rfl _ _ _ _ rfl
   have hpb0 : wr.heap.size ≤ pb := by omega
   have hpb1 : pb < W9.heap.size := by rw [hW9, hpb]; simp
   have HB : Below wr.heap.size wr W9 := by rw [hW9]; exact alloc_below _ _
   replace nm0 := zC nm0 HB
   replace nm1 := zC nm1 HB
   replace nm2 := zC nm2 HB
   replace ne0 := zC ne0 HB
   replace ne1 := zC ne1 HB
   replace ne2 := zC ne2 HB
   have hs10 := HB.size
   rw [← hpb]
   clear hW9 hpb g0 g1 g2 g3 g4 g5 g6 g7 g8
   obtain ⟨NM, hNM⟩ : ∃ NM, NM = (ruleMs ⟨y0, y1, y2, y3, y4, y5, y6, y7, y8⟩).length := ⟨_, rfl⟩
   have HNM := hide hNM
   have hNM2 : 2 ≤ NM ∧ NM ≤ 3 := by rw [hNM]; exact ruleMs_len _
   obtain ⟨hNMa, hNMb⟩ := hNM2
   clear hNM
   apply wp_same6 (fun _ _ _ g46 c46 fb w' => w'.cell? ⟨fb, 0, none⟩ = some (.int .i64 t) ∧ w'.cell? ⟨fb, 1, none⟩ = some (.int .i64 ((N : Int) - k)) ∧ w'.cell? ⟨fb, 2, none⟩ = some (.slice (some ⟨g46, 0, none⟩) (NM + 1) c46) ∧ w'.cell? ⟨fb, 3, none⟩ = some (.slice none 0 0) ∧ w'.frozen? ⟨fb, 3, none⟩ = false ∧ w'.ownsRow wr.heap.size 95 3 (.slice (some ⟨g46, 0, none⟩) (NM + 1) c46) (NM + 1) (M (ruleMs ⟨y0, y1, y2, y3, y4, y5, y6, y7, y8⟩) ++ M [isM 8 x.i]) ∧ w'.cell? ⟨pb, 8, none⟩ = some (.bool y8) ∧ w'.cell? ⟨g7, 0, none⟩ = some (.int .i64 4) ∧ w'.cell? ⟨g7, 1, none⟩ = some (.int .i64 0) ∧ w'.cell? ⟨g7, 2, none⟩ = some (.int .i64 n) ∧ Below wr.heap.size wr w' ∧ wr.heap.size ≤ fb ∧ fb ≠ g46 ∧ fb < w'.heap.size)
   ·have hs0_7 := HB.size
    refine wp_region_held_drew (S := (fun w' => w'.cell? ⟨pb, 0, none⟩ = some (.int .i64 y0) ∧ w'.cell? ⟨pb, 1, none⟩ = some (.int .i64 y1) ∧ w'.cell? ⟨pb, 2, none⟩ = some (.bool y2) ∧ w'.cell? ⟨pb, 3, none⟩ = some (.int .i64 y3) ∧ w'.cell? ⟨pb, 4, none⟩ = some (.int .i64 y4) ∧ w'.cell? ⟨pb, 5, none⟩ = some (.int .i64 y5) ∧ w'.cell? ⟨pb, 6, none⟩ = some (.int .i64 y6) ∧ w'.cell? ⟨pb, 7, none⟩ = some (.int .i64 y7) ∧ w'.cell? ⟨pb, 8, none⟩ = some (.bool y8) ∧ w'.cell? ⟨g5, 0, none⟩ = some (.int .i64 8) ∧ w'.cell? ⟨g5, 1, none⟩ = some (.int .i64 65535) ∧ w'.cell? ⟨g5, 2, none⟩ = some (.int .i64 x.i) ∧ w'.cell? ⟨g7, 0, none⟩ = some (.int .i64 4) ∧ w'.cell? ⟨g7, 1, none⟩ = some (.int .i64 0) ∧ w'.cell? ⟨g7, 2, none⟩ = some (.int .i64 n))) (by kernel_rfl) ⟨a0, a1, a2, a3, a4, a5, a6, a7, a8, nm0, nm1, nm2, ne0, ne1, ne2⟩ (fun hHeld => ?_)
    have HDW : Below W9.heap.size W9 W9.drew := (Below.refl _ _).drew
    have hs101 := HDW.size
    replace a0 := zC a0 HDW
    replace a1 := zC a1 HDW
    replace a2 := zC a2 HDW
    replace a3 := zC a3 HDW
    replace a4 := zC a4 HDW
    replace a5 := zC a5 HDW
    replace a6 := zC a6 HDW
    replace a7 := zC a7 HDW
    replace a8 := zC a8 HDW
    replace nm0 := zC nm0 HDW
    replace nm1 := zC nm1 HDW
    replace nm2 := zC nm2 HDW
    replace ne0 := zC ne0 HDW
    replace ne1 := zC ne1 HDW
    replace ne2 := zC ne2 HDW
    replace HB := tm HB HDW
    clear HDW
    generalize W9.drew = V102 at *
    refine tk (i := 0) (d := 36) rfl (by kernel_rfl) (fun _ _ _ h => absurd h.1 (by simp)) rfl ‹_› (by intro w h; (try dsimp only at h); go_simp <;> with_reducible rfl) ?_
    simp only [nz]
    refine tk (i := 1) (d := 37) rfl (by kernel_rfl) (fun _ _ _ h => absurd h.1 (by simp)) rfl ‹_› (by intro w h; (try dsimp only at h); go_simp <;> with_reducible rfl) ?_
    simp only [nz]
    refine tk (i := 2) (d := 38) rfl (by kernel_rfl) (fun _ _ _ h => absurd h.1 (by simp)) rfl ‹_› (by intro w h; (try dsimp only at h); go_simp <;> with_reducible rfl) ?_
    simp only [nz]
    refine tk (i := 3) (d := 39) rfl (by kernel_rfl) (fun _ _ _ h => absurd h.1 (by simp)) rfl ‹_› (by intro w h; (try dsimp only at h); go_simp <;> with_reducible rfl) ?_
    simp only [nz]
    refine tk (i := 4) (d := 40) rfl (by kernel_rfl) (fun _ _ _ h => absurd h.1 (by simp)) rfl ‹_› (by intro w h; (try dsimp only at h); go_simp <;> with_reducible rfl) ?_
    simp only [nz]
    refine tk (i := 5) (d := 41) rfl (by kernel_rfl) (fun _ _ _ h => absurd h.1 (by simp)) rfl ‹_› (by intro w h; (try dsimp only at h); go_simp <;> with_reducible rfl) ?_
    simp only [nz]
    refine tk (i := 6) (d := 42) rfl (by kernel_rfl) (fun _ _ _ h => absurd h.1 (by simp)) rfl ‹_› (by intro w h; (try dsimp only at h); go_simp <;> with_reducible rfl) ?_
    simp only [nz]
    refine tk (i := 8) (d := 44) rfl (by kernel_rfl) (fun _ _ _ h => absurd h.1 (by simp)) rfl ‹_› (by intro w h; (try dsimp only at h); go_simp <;> with_reducible rfl) ?_
    simp only [nz]
    refine wpAnyH_ready (rs := [7, 9, 12]) (by kernel_rfl) (by simp) ?_
    refine (AllReadyH.cons (o := ⟨some 43, _, _, _, _, _⟩) rfl (fun K hK => ?_) (AllReadyH.cons (o := ⟨some 45, _, _, _, _, _⟩) rfl (fun K hK => ?_) (AllReadyH.cons (o := ⟨some 14, _, _, _, _, _⟩) rfl (fun K hK => ?_) AllReadyH.nil)))
    ·go_simp
     clear hHeld
     have HBold := HB.size
     refine (ruleMatches_any ⟨y0, y1, y2, y3, y4, y5, y6, y7, y8⟩ _ hy0 hy1 hy2 hy3).mono ?_
     rintro e V103 ⟨u103, rfl, ho103, hb103⟩
     have hs104 := hb103.size
     replace a0 := zC a0 hb103
     replace a1 := zC a1 hb103
     replace a2 := zC a2 hb103
     replace a3 := zC a3 hb103
     replace a4 := zC a4 hb103
     replace a5 := zC a5 hb103
     replace a6 := zC a6 hb103
     replace a7 := zC a7 hb103
     replace a8 := zC a8 hb103
     replace nm0 := zC nm0 hb103
     replace nm1 := zC nm1 hb103
     replace nm2 := zC nm2 hb103
     replace ne0 := zC ne0 hb103
     replace ne1 := zC ne1 hb103
     replace ne2 := zC ne2 hb103
     replace HB := tm HB hb103
     rw [← HNM.out] at ho103
     obtain ⟨g105, c105, rfl, hg105, hl105⟩ := own_blk ho103 (by omega)
     have HRM := hide (own_less ho103 HBold)
     clear ho103 HBold
     clear hb103
     refine hK.out _ _ ⟨a0, a1, a2, a3, a4, a5, a6, a7, a8, nm0, nm1, nm2, ne0, ne1, ne2⟩ (fun hHeld => ?_)
     clear hK K
     (try simp only [nz])
     refine wpAnyH_ready (rs := [9, 12]) (by kernel_rfl) (by simp) ?_
     refine (AllReadyH.cons (o := ⟨some 45, _, _, _, _, _⟩) rfl (fun K hK => ?_) (AllReadyH.cons (o := ⟨some 14, _, _, _, _, _⟩) rfl (fun K hK => ?_) AllReadyH.nil))
     ·go_simp
      clear hHeld
      refine alloc_step (fun V106 g106 hV hg => ?_)
      rw [← hg]
      have hbN := bn hV
      have hg106 : V103.heap.size ≤ g106 := by omega
      have hl106 := ln hV hg
      have HL : Hid (V106.ownsRow wr.heap.size 95 3 (.slice (some ⟨g106, 0, none⟩) 1 1) 1 (M [isM 8 x.i])) := by rw [hV, hg]; exact hide (World.ownsRow_lit V103 _ 1 HB.size (by decide) rfl)
      have hs107 := hbN.size
      replace a0 := zC a0 hbN
      replace a1 := zC a1 hbN
      replace a2 := zC a2 hbN
      replace a3 := zC a3 hbN
      replace a4 := zC a4 hbN
      replace a5 := zC a5 hbN
      replace a6 := zC a6 hbN
      replace a7 := zC a7 hbN
      replace a8 := zC a8 hbN
      replace nm0 := zC nm0 hbN
      replace nm1 := zC nm1 hbN
      replace nm2 := zC nm2 hbN
      replace ne0 := zC ne0 hbN
      replace ne1 := zC ne1 hbN
      replace ne2 := zC ne2 hbN
      replace HRM := zO HRM hbN
      replace HB := tm HB hbN
      clear hV hg hbN
      refine hK.out _ _ ⟨a0, a1, a2, a3, a4, a5, a6, a7, a8, nm0, nm1, nm2, ne0, ne1, ne2⟩ (fun hHeld => ?_)
      clear hK K
      (try simp only [nz])
      refine wpAnyH_ready (rs := [10, 12]) (by kernel_rfl) (by simp) ?_
      refine (AllReadyH.cons (o := ⟨some 46, _, _, _, _, _⟩) rfl (fun K hK => ?_) (AllReadyH.cons (o := ⟨some 14, _, _, _, _, _⟩) rfl (fun K hK => ?_) AllReadyH.nil))
      ·clear hHeld
       refine step_append_lies _ rfl (.tmp 43) (.tmp 45) 87 rfl wr.heap.size 95 iM _ 3 24 Tryz.underlying87 inM zM0 zM1 zM2 rfl (by decide) (.slice (some ⟨g105, 0, none⟩) NM c105) NM _ rfl (unhide HRM) ⟨g106, 0, none⟩ 1 1 _ rfl rfl (HL.out.cells rfl) (M_one _) (by decide) (by unfold maxLen; omega) (by omega) HB.size _ rfl ?_
       intro g108 c108 V108 ho108 hgr ha hl108
       replace hgr : V106.grownBy V108 (some g105) := hgr
       replace ha : some g105 = some g108 ∨ g108 = V106.heap.size := ha
       have hs108 := hgr.size
       have hge108 : g108 = g105 ∨ g108 = V106.heap.size := by rcases ha with h | h; exact .inl (Option.some.inj h).symm; exact .inr h
       replace a0 := far_cell hgr a0 (by omega)
       replace a1 := far_cell hgr a1 (by omega)
       replace a2 := far_cell hgr a2 (by omega)
       replace a3 := far_cell hgr a3 (by omega)
       replace a4 := far_cell hgr a4 (by omega)
       replace a5 := far_cell hgr a5 (by omega)
       replace a6 := far_cell hgr a6 (by omega)
       replace a7 := far_cell hgr a7 (by omega)
       replace a8 := far_cell hgr a8 (by omega)
       replace nm0 := far_cell hgr nm0 (by omega)
       replace nm1 := far_cell hgr nm1 (by omega)
       replace nm2 := far_cell hgr nm2 (by omega)
       replace ne0 := far_cell hgr ne0 (by omega)
       replace ne1 := far_cell hgr ne1 (by omega)
       replace ne2 := far_cell hgr ne2 (by omega)
       replace HB := HB.grown hgr HB.size (fun k hk => by cases hk; omega)
       have HM := hide ho108
       clear HRM HL ho108 hgr ha
       refine hK.out _ _ ⟨a0, a1, a2, a3, a4, a5, a6, a7, a8, nm0, nm1, nm2, ne0, ne1, ne2⟩ (fun hHeld => ?_)
       clear hK K
       (try simp only [nz])
       refine wpAnyH_ready (rs := [11, 12]) (by kernel_rfl) (by simp) ?_
       refine (AllReadyH.cons (o := ⟨some 47, _, _, _, _, _⟩) rfl (fun K hK => ?_) (AllReadyH.cons (o := ⟨some 14, _, _, _, _, _⟩) rfl (fun K hK => ?_) AllReadyH.nil))
       ·go_simp
        clear hHeld
        refine (flowOf_any _ _ _ _ _ _ _ _ _).mono ?_
        rintro e V109 ⟨rfl, hb109⟩
        have hs110 := hb109.size
        replace a0 := zC a0 hb109
        replace a1 := zC a1 hb109
        replace a2 := zC a2 hb109
        replace a3 := zC a3 hb109
        replace a4 := zC a4 hb109
        replace a5 := zC a5 hb109
        replace a6 := zC a6 hb109
        replace a7 := zC a7 hb109
        replace a8 := zC a8 hb109
        replace nm0 := zC nm0 hb109
        replace nm1 := zC nm1 hb109
        replace nm2 := zC nm2 hb109
        replace ne0 := zC ne0 hb109
        replace ne1 := zC ne1 hb109
        replace ne2 := zC ne2 hb109
        replace HM := zO HM hb109
        replace HB := tm HB hb109
        clear hb109
        refine hK.out _ _ ⟨a0, a1, a2, a3, a4, a5, a6, a7, a8, nm0, nm1, nm2, ne0, ne1, ne2⟩ (fun hHeld => ?_)
        clear hK K
        (try simp only [nz])
        refine rd (i := 12) (o := ⟨some 14, _, _, _, _, _⟩) (by kernel_rfl) rfl (fun K hK => ?_)
        go_simp
        clear hHeld
        refine alloc_step (fun V111 g111 hV hg => ?_)
        rw [← hg]
        have hbN := bn hV
        have hg111 : V109.heap.size ≤ g111 := by omega
        have hl111 := ln hV hg
        have f0 : V111.cell? ⟨g111, 0, none⟩ = some (.int .i64 0) := by rw [hV, hg]; exact new_cell V109 _ rfl _ _ _ _ rfl
        have f1 : V111.cell? ⟨g111, 1, none⟩ = some (.int .i64 0) := by rw [hV, hg]; exact new_cell V109 _ rfl _ _ _ _ rfl
        have f2 : V111.cell? ⟨g111, 2, none⟩ = some (.slice none 0 0) := by rw [hV, hg]; exact new_cell V109 _ rfl _ _ _ _ rfl
        have f3 : V111.cell? ⟨g111, 3, none⟩ = some (.slice none 0 0) := by rw [hV, hg]; exact new_cell V109 _ rfl _ _ _ _ rfl
        have z0 : V111.frozen? ⟨g111, 0, none⟩ = false := by rw [hV, hg]; exact new_frozen V109 _ rfl _ _ _
        have z1 : V111.frozen? ⟨g111, 1, none⟩ = false := by rw [hV, hg]; exact new_frozen V109 _ rfl _ _ _
        have z2 : V111.frozen? ⟨g111, 2, none⟩ = false := by rw [hV, hg]; exact new_frozen V109 _ rfl _ _ _
        have z3 : V111.frozen? ⟨g111, 3, none⟩ = false := by rw [hV, hg]; exact new_frozen V109 _ rfl _ _ _
        have hs112 := hbN.size
        replace a0 := zC a0 hbN
        replace a1 := zC a1 hbN
        replace a2 := zC a2 hbN
        replace a3 := zC a3 hbN
        replace a4 := zC a4 hbN
        replace a5 := zC a5 hbN
        replace a6 := zC a6 hbN
        replace a7 := zC a7 hbN
        replace a8 := zC a8 hbN
        replace nm0 := zC nm0 hbN
        replace nm1 := zC nm1 hbN
        replace nm2 := zC nm2 hbN
        replace ne0 := zC ne0 hbN
        replace ne1 := zC ne1 hbN
        replace ne2 := zC ne2 hbN
        replace HM := zO HM hbN
        replace HB := tm HB hbN
        clear hV hg hbN
        refine hK.out _ _ ⟨a0, a1, a2, a3, a4, a5, a6, a7, a8, nm0, nm1, nm2, ne0, ne1, ne2⟩ (fun hHeld => ?_)
        clear hK K
        (try simp only [nz])
        refine rd (i := 13) (o := ⟨none, _, _, _, _, _⟩) (by kernel_rfl) rfl (fun K hK => ?_)
        go_simp
        clear hHeld
        obtain ⟨V113, hV⟩ : ∃ V113, V113 = ((((V111.setCell ⟨g111, 0, none⟩ (.int .i64 t)).setCell ⟨g111, 1, none⟩ (.int .i64 ((N : Int) - k))).setCell ⟨g111, 2, none⟩ (.slice (some ⟨g108, 0, none⟩) (NM + 1) c108)).setCell ⟨g111, 3, none⟩ (.slice none 0 0)) := ⟨_, rfl⟩
        rw [← hV]
        have hgr : V111.grownBy V113 (some g111) := by rw [hV]; exact put4_grown _ _ _ _ _ _
        obtain ⟨i0, i1, i2, i3⟩ := put4 f0 f1 f2 f3 (.int .i64 t) (.int .i64 ((N : Int) - k)) (.slice (some ⟨g108, 0, none⟩) (NM + 1) c108) (.slice none 0 0)
        rw [← hV] at i0 i1 i2 i3
        replace z3 : V113.frozen? ⟨g111, 3, none⟩ = false := by rw [hV, put4_frozen]; exact z3
        have hs113 := hgr.size
        replace a0 := far_cell hgr a0 (by omega)
        replace a1 := far_cell hgr a1 (by omega)
        replace a2 := far_cell hgr a2 (by omega)
        replace a3 := far_cell hgr a3 (by omega)
        replace a4 := far_cell hgr a4 (by omega)
        replace a5 := far_cell hgr a5 (by omega)
        replace a6 := far_cell hgr a6 (by omega)
        replace a7 := far_cell hgr a7 (by omega)
        replace a8 := far_cell hgr a8 (by omega)
        replace nm0 := far_cell hgr nm0 (by omega)
        replace nm1 := far_cell hgr nm1 (by omega)
        replace nm2 := far_cell hgr nm2 (by omega)
        replace ne0 := far_cell hgr ne0 (by omega)
        replace ne1 := far_cell hgr ne1 (by omega)
        replace ne2 := far_cell hgr ne2 (by omega)
        replace HM := hide (own_far hgr HM.out (by omega))
        replace HB := HB.grown hgr HB.size (fun k hk => by cases hk; omega)
        clear hV hgr f0 f1 f2 f3 z0 z1 z2
        refine hK.out _ _ ⟨a0, a1, a2, a3, a4, a5, a6, a7, a8, nm0, nm1, nm2, ne0, ne1, ne2⟩ (fun hHeld => ?_)
        clear hK K
        (try simp only [nz])
        refine wpAnyH_done (by kernel_rfl) ?_ _
        clear hHeld
        exact ⟨rfl, g105, c105, g106, g108, c108, g111, rfl, i0, i1, i2, i3, z3, HM.out, a8, ne0, ne1, ne2, HB, by omega, by omega, by omega⟩
       ·go_simp
        clear hHeld
        refine alloc_step (fun V109 g109 hV hg => ?_)
        rw [← hg]
        have hbN := bn hV
        have hg109 : V108.heap.size ≤ g109 := by omega
        have hl109 := ln hV hg
        have f0 : V109.cell? ⟨g109, 0, none⟩ = some (.int .i64 0) := by rw [hV, hg]; exact new_cell V108 _ rfl _ _ _ _ rfl
        have f1 : V109.cell? ⟨g109, 1, none⟩ = some (.int .i64 0) := by rw [hV, hg]; exact new_cell V108 _ rfl _ _ _ _ rfl
        have f2 : V109.cell? ⟨g109, 2, none⟩ = some (.slice none 0 0) := by rw [hV, hg]; exact new_cell V108 _ rfl _ _ _ _ rfl
        have f3 : V109.cell? ⟨g109, 3, none⟩ = some (.slice none 0 0) := by rw [hV, hg]; exact new_cell V108 _ rfl _ _ _ _ rfl
        have z0 : V109.frozen? ⟨g109, 0, none⟩ = false := by rw [hV, hg]; exact new_frozen V108 _ rfl _ _ _
        have z1 : V109.frozen? ⟨g109, 1, none⟩ = false := by rw [hV, hg]; exact new_frozen V108 _ rfl _ _ _
        have z2 : V109.frozen? ⟨g109, 2, none⟩ = false := by rw [hV, hg]; exact new_frozen V108 _ rfl _ _ _
        have z3 : V109.frozen? ⟨g109, 3, none⟩ = false := by rw [hV, hg]; exact new_frozen V108 _ rfl _ _ _
        have hs110 := hbN.size
        replace a0 := zC a0 hbN
        replace a1 := zC a1 hbN
        replace a2 := zC a2 hbN
        replace a3 := zC a3 hbN
        replace a4 := zC a4 hbN
        replace a5 := zC a5 hbN
        replace a6 := zC a6 hbN
        replace a7 := zC a7 hbN
        replace a8 := zC a8 hbN
        replace nm0 := zC nm0 hbN
        replace nm1 := zC nm1 hbN
        replace nm2 := zC nm2 hbN
        replace ne0 := zC ne0 hbN
        replace ne1 := zC ne1 hbN
        replace ne2 := zC ne2 hbN
        replace HM := zO HM hbN
        replace HB := tm HB hbN
        clear hV hg hbN
        refine hK.out _ _ ⟨a0, a1, a2, a3, a4, a5, a6, a7, a8, nm0, nm1, nm2, ne0, ne1, ne2⟩ (fun hHeld => ?_)
        clear hK K
        (try simp only [nz])
        refine rd (i := 11) (o := ⟨some 47, _, _, _, _, _⟩) (by kernel_rfl) rfl (fun K hK => ?_)
        go_simp
        clear hHeld
        refine (flowOf_any _ _ _ _ _ _ _ _ _).mono ?_
        rintro e V111 ⟨rfl, hb111⟩
        have hs112 := hb111.size
        replace z0 := (hb111.frozen (p := ⟨g109, 0, none⟩) (cell_in f0)).trans z0
        replace z1 := (hb111.frozen (p := ⟨g109, 1, none⟩) (cell_in f1)).trans z1
        replace z2 := (hb111.frozen (p := ⟨g109, 2, none⟩) (cell_in f2)).trans z2
        replace z3 := (hb111.frozen (p := ⟨g109, 3, none⟩) (cell_in f3)).trans z3
        replace a0 := zC a0 hb111
        replace a1 := zC a1 hb111
        replace a2 := zC a2 hb111
        replace a3 := zC a3 hb111
        replace a4 := zC a4 hb111
        replace a5 := zC a5 hb111
        replace a6 := zC a6 hb111
        replace a7 := zC a7 hb111
        replace a8 := zC a8 hb111
        replace nm0 := zC nm0 hb111
        replace nm1 := zC nm1 hb111
        replace nm2 := zC nm2 hb111
        replace ne0 := zC ne0 hb111
        replace ne1 := zC ne1 hb111
        replace ne2 := zC ne2 hb111
        replace f0 := zC f0 hb111
        replace f1 := zC f1 hb111
        replace f2 := zC f2 hb111
        replace f3 := zC f3 hb111
        replace HM := zO HM hb111
        replace HB := tm HB hb111
        clear hb111
        refine hK.out _ _ ⟨a0, a1, a2, a3, a4, a5, a6, a7, a8, nm0, nm1, nm2, ne0, ne1, ne2⟩ (fun hHeld => ?_)
        clear hK K
        (try simp only [nz])
        refine rd (i := 13) (o := ⟨none, _, _, _, _, _⟩) (by kernel_rfl) rfl (fun K hK => ?_)
        go_simp
        clear hHeld
        obtain ⟨V113, hV⟩ : ∃ V113, V113 = ((((V111.setCell ⟨g109, 0, none⟩ (.int .i64 t)).setCell ⟨g109, 1, none⟩ (.int .i64 ((N : Int) - k))).setCell ⟨g109, 2, none⟩ (.slice (some ⟨g108, 0, none⟩) (NM + 1) c108)).setCell ⟨g109, 3, none⟩ (.slice none 0 0)) := ⟨_, rfl⟩
        rw [← hV]
        have hgr : V111.grownBy V113 (some g109) := by rw [hV]; exact put4_grown _ _ _ _ _ _
        obtain ⟨i0, i1, i2, i3⟩ := put4 f0 f1 f2 f3 (.int .i64 t) (.int .i64 ((N : Int) - k)) (.slice (some ⟨g108, 0, none⟩) (NM + 1) c108) (.slice none 0 0)
        rw [← hV] at i0 i1 i2 i3
        replace z3 : V113.frozen? ⟨g109, 3, none⟩ = false := by rw [hV, put4_frozen]; exact z3
        have hs113 := hgr.size
        replace a0 := far_cell hgr a0 (by omega)
        replace a1 := far_cell hgr a1 (by omega)
        replace a2 := far_cell hgr a2 (by omega)
        replace a3 := far_cell hgr a3 (by omega)
        replace a4 := far_cell hgr a4 (by omega)
        replace a5 := far_cell hgr a5 (by omega)
        replace a6 := far_cell hgr a6 (by omega)
        replace a7 := far_cell hgr a7 (by omega)
        replace a8 := far_cell hgr a8 (by omega)
        replace nm0 := far_cell hgr nm0 (by omega)
        replace nm1 := far_cell hgr nm1 (by omega)
        replace nm2 := far_cell hgr nm2 (by omega)
        replace ne0 := far_cell hgr ne0 (by omega)
        replace ne1 := far_cell hgr ne1 (by omega)
        replace ne2 := far_cell hgr ne2 (by omega)
        replace HM := hide (own_far hgr HM.out (by omega))
        replace HB := HB.grown hgr HB.size (fun k hk => by cases hk; omega)
        clear hV hgr f0 f1 f2 f3 z0 z1 z2
        refine hK.out _ _ ⟨a0, a1, a2, a3, a4, a5, a6, a7, a8, nm0, nm1, nm2, ne0, ne1, ne2⟩ (fun hHeld => ?_)
        clear hK K
        (try simp only [nz])
        refine wpAnyH_done (by kernel_rfl) ?_ _
        clear hHeld
        exact ⟨rfl, g105, c105, g106, g108, c108, g109, rfl, i0, i1, i2, i3, z3, HM.out, a8, ne0, ne1, ne2, HB, by omega, by omega, by omega⟩
      ·go_simp
       clear hHeld
       refine alloc_step (fun V108 g108 hV hg => ?_)
       rw [← hg]
       have hbN := bn hV
       have hg108 : V106.heap.size ≤ g108 := by omega
       have hl108 := ln hV hg
       have f0 : V108.cell? ⟨g108, 0, none⟩ = some (.int .i64 0) := by rw [hV, hg]; exact new_cell V106 _ rfl _ _ _ _ rfl
       have f1 : V108.cell? ⟨g108, 1, none⟩ = some (.int .i64 0) := by rw [hV, hg]; exact new_cell V106 _ rfl _ _ _ _ rfl
       have f2 : V108.cell? ⟨g108, 2, none⟩ = some (.slice none 0 0) := by rw [hV, hg]; exact new_cell V106 _ rfl _ _ _ _ rfl
       have f3 : V108.cell? ⟨g108, 3, none⟩ = some (.slice none 0 0) := by rw [hV, hg]; exact new_cell V106 _ rfl _ _ _ _ rfl
       have z0 : V108.frozen? ⟨g108, 0, none⟩ = false := by rw [hV, hg]; exact new_frozen V106 _ rfl _ _ _
       have z1 : V108.frozen? ⟨g108, 1, none⟩ = false := by rw [hV, hg]; exact new_frozen V106 _ rfl _ _ _
       have z2 : V108.frozen? ⟨g108, 2, none⟩ = false := by rw [hV, hg]; exact new_frozen V106 _ rfl _ _ _
       have z3 : V108.frozen? ⟨g108, 3, none⟩ = false := by rw [hV, hg]; exact new_frozen V106 _ rfl _ _ _
       have hs109 := hbN.size
       replace a0 := zC a0 hbN
       replace a1 := zC a1 hbN
       replace a2 := zC a2 hbN
       replace a3 := zC a3 hbN
       replace a4 := zC a4 hbN
       replace a5 := zC a5 hbN
       replace a6 := zC a6 hbN
       replace a7 := zC a7 hbN
       replace a8 := zC a8 hbN
       replace nm0 := zC nm0 hbN
       replace nm1 := zC nm1 hbN
       replace nm2 := zC nm2 hbN
       replace ne0 := zC ne0 hbN
       replace ne1 := zC ne1 hbN
       replace ne2 := zC ne2 hbN
       replace HRM := zO HRM hbN
       replace HL := zO HL hbN
       replace HB := tm HB hbN
       clear hV hg hbN
       refine hK.out _ _ ⟨a0, a1, a2, a3, a4, a5, a6, a7, a8, nm0, nm1, nm2, ne0, ne1, ne2⟩ (fun hHeld => ?_)
       clear hK K
       (try simp only [nz])
       refine rd (i := 10) (o := ⟨some 46, _, _, _, _, _⟩) (by kernel_rfl) rfl (fun K hK => ?_)
       clear hHeld
       refine step_append_lies _ rfl (.tmp 43) (.tmp 45) 87 rfl wr.heap.size 95 iM _ 3 24 Tryz.underlying87 inM zM0 zM1 zM2 rfl (by decide) (.slice (some ⟨g105, 0, none⟩) NM c105) NM _ rfl (unhide HRM) ⟨g106, 0, none⟩ 1 1 _ rfl rfl (HL.out.cells rfl) (M_one _) (by decide) (by unfold maxLen; omega) (by omega) HB.size _ rfl ?_
       intro g110 c110 V110 ho110 hgr ha hl110
       replace hgr : V108.grownBy V110 (some g105) := hgr
       replace ha : some g105 = some g110 ∨ g110 = V108.heap.size := ha
       have hs110 := hgr.size
       have hge110 : g110 = g105 ∨ g110 = V108.heap.size := by rcases ha with h | h; exact .inl (Option.some.inj h).symm; exact .inr h
       replace z0 := (hgr.frozen_far ⟨g108, 0, none⟩ (cell_in f0) (by simp; omega)).trans z0
       replace z1 := (hgr.frozen_far ⟨g108, 1, none⟩ (cell_in f1) (by simp; omega)).trans z1
       replace z2 := (hgr.frozen_far ⟨g108, 2, none⟩ (cell_in f2) (by simp; omega)).trans z2
       replace z3 := (hgr.frozen_far ⟨g108, 3, none⟩ (cell_in f3) (by simp; omega)).trans z3
       replace a0 := far_cell hgr a0 (by omega)
       replace a1 := far_cell hgr a1 (by omega)
       replace a2 := far_cell hgr a2 (by omega)
       replace a3 := far_cell hgr a3 (by omega)
       replace a4 := far_cell hgr a4 (by omega)
       replace a5 := far_cell hgr a5 (by omega)
       replace a6 := far_cell hgr a6 (by omega)
       replace a7 := far_cell hgr a7 (by omega)
       replace a8 := far_cell hgr a8 (by omega)
       replace nm0 := far_cell hgr nm0 (by omega)
       replace nm1 := far_cell hgr nm1 (by omega)
       replace nm2 := far_cell hgr nm2 (by omega)
       replace ne0 := far_cell hgr ne0 (by omega)
       replace ne1 := far_cell hgr ne1 (by omega)
       replace ne2 := far_cell hgr ne2 (by omega)
       replace f0 := far_cell hgr f0 (by omega)
       replace f1 := far_cell hgr f1 (by omega)
       replace f2 := far_cell hgr f2 (by omega)
       replace f3 := far_cell hgr f3 (by omega)
       replace HB := HB.grown hgr HB.size (fun k hk => by cases hk; omega)
       have HM := hide ho110
       clear HRM HL ho110 hgr ha
       refine hK.out _ _ ⟨a0, a1, a2, a3, a4, a5, a6, a7, a8, nm0, nm1, nm2, ne0, ne1, ne2⟩ (fun hHeld => ?_)
       clear hK K
       (try simp only [nz])
       refine rd (i := 11) (o := ⟨some 47, _, _, _, _, _⟩) (by kernel_rfl) rfl (fun K hK => ?_)
       go_simp
       clear hHeld
       refine (flowOf_any _ _ _ _ _ _ _ _ _).mono ?_
       rintro e V111 ⟨rfl, hb111⟩
       have hs112 := hb111.size
       replace z0 := (hb111.frozen (p := ⟨g108, 0, none⟩) (cell_in f0)).trans z0
       replace z1 := (hb111.frozen (p := ⟨g108, 1, none⟩) (cell_in f1)).trans z1
       replace z2 := (hb111.frozen (p := ⟨g108, 2, none⟩) (cell_in f2)).trans z2
       replace z3 := (hb111.frozen (p := ⟨g108, 3, none⟩) (cell_in f3)).trans z3
       replace a0 := zC a0 hb111
       replace a1 := zC a1 hb111
       replace a2 := zC a2 hb111
       replace a3 := zC a3 hb111
       replace a4 := zC a4 hb111
       replace a5 := zC a5 hb111
       replace a6 := zC a6 hb111
       replace a7 := zC a7 hb111
       replace a8 := zC a8 hb111
       replace nm0 := zC nm0 hb111
       replace nm1 := zC nm1 hb111
       replace nm2 := zC nm2 hb111
       replace ne0 := zC ne0 hb111
       replace ne1 := zC ne1 hb111
       replace ne2 := zC ne2 hb111
       replace f0 := zC f0 hb111
       replace f1 := zC f1 hb111
       replace f2 := zC f2 hb111
       replace f3 := zC f3 hb111
       replace HM := zO HM hb111
       replace HB := tm HB hb111
       clear hb111
       refine hK.out _ _ ⟨a0, a1, a2, a3, a4, a5, a6, a7, a8, nm0, nm1, nm2, ne0, ne1, ne2⟩ (fun hHeld => ?_)
       clear hK K
       (try simp only [nz])
       refine rd (i := 13) (o := ⟨none, _, _, _, _, _⟩) (by kernel_rfl) rfl (fun K hK => ?_)
       go_simp
       clear hHeld
       obtain ⟨V113, hV⟩ : ∃ V113, V113 = ((((V111.setCell ⟨g108, 0, none⟩ (.int .i64 t)).setCell ⟨g108, 1, none⟩ (.int .i64 ((N : Int) - k))).setCell ⟨g108, 2, none⟩ (.slice (some ⟨g110, 0, none⟩) (NM + 1) c110)).setCell ⟨g108, 3, none⟩ (.slice none 0 0)) := ⟨_, rfl⟩
       rw [← hV]
       have hgr : V111.grownBy V113 (some g108) := by rw [hV]; exact put4_grown _ _ _ _ _ _
       obtain ⟨i0, i1, i2, i3⟩ := put4 f0 f1 f2 f3 (.int .i64 t) (.int .i64 ((N : Int) - k)) (.slice (some ⟨g110, 0, none⟩) (NM + 1) c110) (.slice none 0 0)
       rw [← hV] at i0 i1 i2 i3
       replace z3 : V113.frozen? ⟨g108, 3, none⟩ = false := by rw [hV, put4_frozen]; exact z3
       have hs113 := hgr.size
       replace a0 := far_cell hgr a0 (by omega)
       replace a1 := far_cell hgr a1 (by omega)
       replace a2 := far_cell hgr a2 (by omega)
       replace a3 := far_cell hgr a3 (by omega)
       replace a4 := far_cell hgr a4 (by omega)
       replace a5 := far_cell hgr a5 (by omega)
       replace a6 := far_cell hgr a6 (by omega)
       replace a7 := far_cell hgr a7 (by omega)
       replace a8 := far_cell hgr a8 (by omega)
       replace nm0 := far_cell hgr nm0 (by omega)
       replace nm1 := far_cell hgr nm1 (by omega)
       replace nm2 := far_cell hgr nm2 (by omega)
       replace ne0 := far_cell hgr ne0 (by omega)
       replace ne1 := far_cell hgr ne1 (by omega)
       replace ne2 := far_cell hgr ne2 (by omega)
       replace HM := hide (own_far hgr HM.out (by omega))
       replace HB := HB.grown hgr HB.size (fun k hk => by cases hk; omega)
       clear hV hgr f0 f1 f2 f3 z0 z1 z2
       refine hK.out _ _ ⟨a0, a1, a2, a3, a4, a5, a6, a7, a8, nm0, nm1, nm2, ne0, ne1, ne2⟩ (fun hHeld => ?_)
       clear hK K
       (try simp only [nz])
       refine wpAnyH_done (by kernel_rfl) ?_ _
       clear hHeld
       exact ⟨rfl, g105, c105, g106, g110, c110, g108, rfl, i0, i1, i2, i3, z3, HM.out, a8, ne0, ne1, ne2, HB, by omega, by omega, by omega⟩
     ·go_simp
      clear hHeld
      refine alloc_step (fun V106 g106 hV hg => ?_)
      rw [← hg]
      have hbN := bn hV
      have hg106 : V103.heap.size ≤ g106 := by omega
      have hl106 := ln hV hg
      have f0 : V106.cell? ⟨g106, 0, none⟩ = some (.int .i64 0) := by rw [hV, hg]; exact new_cell V103 _ rfl _ _ _ _ rfl
      have f1 : V106.cell? ⟨g106, 1, none⟩ = some (.int .i64 0) := by rw [hV, hg]; exact new_cell V103 _ rfl _ _ _ _ rfl
      have f2 : V106.cell? ⟨g106, 2, none⟩ = some (.slice none 0 0) := by rw [hV, hg]; exact new_cell V103 _ rfl _ _ _ _ rfl
      have f3 : V106.cell? ⟨g106, 3, none⟩ = some (.slice none 0 0) := by rw [hV, hg]; exact new_cell V103 _ rfl _ _ _ _ rfl
      have z0 : V106.frozen? ⟨g106, 0, none⟩ = false := by rw [hV, hg]; exact new_frozen V103 _ rfl _ _ _
      have z1 : V106.frozen? ⟨g106, 1, none⟩ = false := by rw [hV, hg]; exact new_frozen V103 _ rfl _ _ _
      have z2 : V106.frozen? ⟨g106, 2, none⟩ = false := by rw [hV, hg]; exact new_frozen V103 _ rfl _ _ _
      have z3 : V106.frozen? ⟨g106, 3, none⟩ = false := by rw [hV, hg]; exact new_frozen V103 _ rfl _ _ _
      have hs107 := hbN.size
      replace a0 := zC a0 hbN
      replace a1 := zC a1 hbN
      replace a2 := zC a2 hbN
      replace a3 := zC a3 hbN
      replace a4 := zC a4 hbN
      replace a5 := zC a5 hbN
      replace a6 := zC a6 hbN
      replace a7 := zC a7 hbN
      replace a8 := zC a8 hbN
      replace nm0 := zC nm0 hbN
      replace nm1 := zC nm1 hbN
      replace nm2 := zC nm2 hbN
      replace ne0 := zC ne0 hbN
      replace ne1 := zC ne1 hbN
      replace ne2 := zC ne2 hbN
      replace HRM := zO HRM hbN
      replace HB := tm HB hbN
      clear hV hg hbN
      refine hK.out _ _ ⟨a0, a1, a2, a3, a4, a5, a6, a7, a8, nm0, nm1, nm2, ne0, ne1, ne2⟩ (fun hHeld => ?_)
      clear hK K
      (try simp only [nz])
      refine rd (i := 9) (o := ⟨some 45, _, _, _, _, _⟩) (by kernel_rfl) rfl (fun K hK => ?_)
      go_simp
      clear hHeld
      refine alloc_step (fun V108 g108 hV hg => ?_)
      rw [← hg]
      have hbN := bn hV
      have hg108 : V106.heap.size ≤ g108 := by omega
      have hl108 := ln hV hg
      have HL : Hid (V108.ownsRow wr.heap.size 95 3 (.slice (some ⟨g108, 0, none⟩) 1 1) 1 (M [isM 8 x.i])) := by rw [hV, hg]; exact hide (World.ownsRow_lit V106 _ 1 HB.size (by decide) rfl)
      have hs109 := hbN.size
      replace z0 := (hbN.frozen (p := ⟨g106, 0, none⟩) (cell_in f0)).trans z0
      replace z1 := (hbN.frozen (p := ⟨g106, 1, none⟩) (cell_in f1)).trans z1
      replace z2 := (hbN.frozen (p := ⟨g106, 2, none⟩) (cell_in f2)).trans z2
      replace z3 := (hbN.frozen (p := ⟨g106, 3, none⟩) (cell_in f3)).trans z3
      replace a0 := zC a0 hbN
      replace a1 := zC a1 hbN
      replace a2 := zC a2 hbN
      replace a3 := zC a3 hbN
      replace a4 := zC a4 hbN
      replace a5 := zC a5 hbN
      replace a6 := zC a6 hbN
      replace a7 := zC a7 hbN
      replace a8 := zC a8 hbN
      replace nm0 := zC nm0 hbN
      replace nm1 := zC nm1 hbN
      replace nm2 := zC nm2 hbN
      replace ne0 := zC ne0 hbN
      replace ne1 := zC ne1 hbN
      replace ne2 := zC ne2 hbN
      replace f0 := zC f0 hbN
      replace f1 := zC f1 hbN
      replace f2 := zC f2 hbN
      replace f3 := zC f3 hbN
      replace HRM := zO HRM hbN
      replace HB := tm HB hbN
      clear hV hg hbN
      refine hK.out _ _ ⟨a0, a1, a2, a3, a4, a5, a6, a7, a8, nm0, nm1, nm2, ne0, ne1, ne2⟩ (fun hHeld => ?_)
      clear hK K
      (try simp only [nz])
      refine rd (i := 10) (o := ⟨some 46, _, _, _, _, _⟩) (by kernel_rfl) rfl (fun K hK => ?_)
      clear hHeld
      refine step_append_lies _ rfl (.tmp 43) (.tmp 45) 87 rfl wr.heap.size 95 iM _ 3 24 Tryz.underlying87 inM zM0 zM1 zM2 rfl (by decide) (.slice (some ⟨g105, 0, none⟩) NM c105) NM _ rfl (unhide HRM) ⟨g108, 0, none⟩ 1 1 _ rfl rfl (HL.out.cells rfl) (M_one _) (by decide) (by unfold maxLen; omega) (by omega) HB.size _ rfl ?_
      intro g110 c110 V110 ho110 hgr ha hl110
      replace hgr : V108.grownBy V110 (some g105) := hgr
      replace ha : some g105 = some g110 ∨ g110 = V108.heap.size := ha
      have hs110 := hgr.size
      have hge110 : g110 = g105 ∨ g110 = V108.heap.size := by rcases ha with h | h; exact .inl (Option.some.inj h).symm; exact .inr h
      replace z0 := (hgr.frozen_far ⟨g106, 0, none⟩ (cell_in f0) (by simp; omega)).trans z0
      replace z1 := (hgr.frozen_far ⟨g106, 1, none⟩ (cell_in f1) (by simp; omega)).trans z1
      replace z2 := (hgr.frozen_far ⟨g106, 2, none⟩ (cell_in f2) (by simp; omega)).trans z2
      replace z3 := (hgr.frozen_far ⟨g106, 3, none⟩ (cell_in f3) (by simp; omega)).trans z3
      replace a0 := far_cell hgr a0 (by omega)
      replace a1 := far_cell hgr a1 (by omega)
      replace a2 := far_cell hgr a2 (by omega)
      replace a3 := far_cell hgr a3 (by omega)
      replace a4 := far_cell hgr a4 (by omega)
      replace a5 := far_cell hgr a5 (by omega)
      replace a6 := far_cell hgr a6 (by omega)
      replace a7 := far_cell hgr a7 (by omega)
      replace a8 := far_cell hgr a8 (by omega)
      replace nm0 := far_cell hgr nm0 (by omega)
      replace nm1 := far_cell hgr nm1 (by omega)
      replace nm2 := far_cell hgr nm2 (by omega)
      replace ne0 := far_cell hgr ne0 (by omega)
      replace ne1 := far_cell hgr ne1 (by omega)
      replace ne2 := far_cell hgr ne2 (by omega)
      replace f0 := far_cell hgr f0 (by omega)
      replace f1 := far_cell hgr f1 (by omega)
      replace f2 := far_cell hgr f2 (by omega)
      replace f3 := far_cell hgr f3 (by omega)
      replace HB := HB.grown hgr HB.size (fun k hk => by cases hk; omega)
      have HM := hide ho110
      clear HRM HL ho110 hgr ha
      refine hK.out _ _ ⟨a0, a1, a2, a3, a4, a5, a6, a7, a8, nm0, nm1, nm2, ne0, ne1, ne2⟩ (fun hHeld => ?_)
      clear hK K
      (try simp only [nz])
      refine rd (i := 11) (o := ⟨some 47, _, _, _, _, _⟩) (by kernel_rfl) rfl (fun K hK => ?_)
      go_simp
      clear hHeld
      refine (flowOf_any _ _ _ _ _ _ _ _ _).mono ?_
      rintro e V111 ⟨rfl, hb111⟩
      have hs112 := hb111.size
      replace z0 := (hb111.frozen (p := ⟨g106, 0, none⟩) (cell_in f0)).trans z0
      replace z1 := (hb111.frozen (p := ⟨g106, 1, none⟩) (cell_in f1)).trans z1
      replace z2 := (hb111.frozen (p := ⟨g106, 2, none⟩) (cell_in f2)).trans z2
      replace z3 := (hb111.frozen (p := ⟨g106, 3, none⟩) (cell_in f3)).trans z3
      replace a0 := zC a0 hb111
      replace a1 := zC a1 hb111
      replace a2 := zC a2 hb111
      replace a3 := zC a3 hb111
      replace a4 := zC a4 hb111
      replace a5 := zC a5 hb111
      replace a6 := zC a6 hb111
      replace a7 := zC a7 hb111
      replace a8 := zC a8 hb111
      replace nm0 := zC nm0 hb111
      replace nm1 := zC nm1 hb111
      replace nm2 := zC nm2 hb111
      replace ne0 := zC ne0 hb111
      replace ne1 := zC ne1 hb111
      replace ne2 := zC ne2 hb111
      replace f0 := zC f0 hb111
      replace f1 := zC f1 hb111
      replace f2 := zC f2 hb111
      replace f3 := zC f3 hb111
      replace HM := zO HM hb111
      replace HB := tm HB hb111
      clear hb111
      refine hK.out _ _ ⟨a0, a1, a2, a3, a4, a5, a6, a7, a8, nm0, nm1, nm2, ne0, ne1, ne2⟩ (fun hHeld => ?_)
      clear hK K
      (try simp only [nz])
      refine rd (i := 13) (o := ⟨none, _, _, _, _, _⟩) (by kernel_rfl) rfl (fun K hK => ?_)
      go_simp
      clear hHeld
      obtain ⟨V113, hV⟩ : ∃ V113, V113 = ((((V111.setCell ⟨g106, 0, none⟩ (.int .i64 t)).setCell ⟨g106, 1, none⟩ (.int .i64 ((N : Int) - k))).setCell ⟨g106, 2, none⟩ (.slice (some ⟨g110, 0, none⟩) (NM + 1) c110)).setCell ⟨g106, 3, none⟩ (.slice none 0 0)) := ⟨_, rfl⟩
      rw [← hV]
      have hgr : V111.grownBy V113 (some g106) := by rw [hV]; exact put4_grown _ _ _ _ _ _
      obtain ⟨i0, i1, i2, i3⟩ := put4 f0 f1 f2 f3 (.int .i64 t) (.int .i64 ((N : Int) - k)) (.slice (some ⟨g110, 0, none⟩) (NM + 1) c110) (.slice none 0 0)
      rw [← hV] at i0 i1 i2 i3
      replace z3 : V113.frozen? ⟨g106, 3, none⟩ = false := by rw [hV, put4_frozen]; exact z3
      have hs113 := hgr.size
      replace a0 := far_cell hgr a0 (by omega)
      replace a1 := far_cell hgr a1 (by omega)
      replace a2 := far_cell hgr a2 (by omega)
      replace a3 := far_cell hgr a3 (by omega)
      replace a4 := far_cell hgr a4 (by omega)
      replace a5 := far_cell hgr a5 (by omega)
      replace a6 := far_cell hgr a6 (by omega)
      replace a7 := far_cell hgr a7 (by omega)
      replace a8 := far_cell hgr a8 (by omega)
      replace nm0 := far_cell hgr nm0 (by omega)
      replace nm1 := far_cell hgr nm1 (by omega)
      replace nm2 := far_cell hgr nm2 (by omega)
      replace ne0 := far_cell hgr ne0 (by omega)
      replace ne1 := far_cell hgr ne1 (by omega)
      replace ne2 := far_cell hgr ne2 (by omega)
      replace HM := hide (own_far hgr HM.out (by omega))
      replace HB := HB.grown hgr HB.size (fun k hk => by cases hk; omega)
      clear hV hgr f0 f1 f2 f3 z0 z1 z2
      refine hK.out _ _ ⟨a0, a1, a2, a3, a4, a5, a6, a7, a8, nm0, nm1, nm2, ne0, ne1, ne2⟩ (fun hHeld => ?_)
      clear hK K
      (try simp only [nz])
      refine wpAnyH_done (by kernel_rfl) ?_ _
      clear hHeld
      exact ⟨rfl, g105, c105, g108, g110, c110, g106, rfl, i0, i1, i2, i3, z3, HM.out, a8, ne0, ne1, ne2, HB, by omega, by omega, by omega⟩
    ·go_simp
     clear hHeld
     refine alloc_step (fun V103 g103 hV hg => ?_)
     rw [← hg]
     have hbN := bn hV
     have hg103 : V102.heap.size ≤ g103 := by omega
     have hl103 := ln hV hg
     have HL : Hid (V103.ownsRow wr.heap.size 95 3 (.slice (some ⟨g103, 0, none⟩) 1 1) 1 (M [isM 8 x.i])) := by rw [hV, hg]; exact hide (World.ownsRow_lit V102 _ 1 HB.size (by decide) rfl)
     have hs104 := hbN.size
     replace a0 := zC a0 hbN
     replace a1 := zC a1 hbN
     replace a2 := zC a2 hbN
     replace a3 := zC a3 hbN
     replace a4 := zC a4 hbN
     replace a5 := zC a5 hbN
     replace a6 := zC a6 hbN
     replace a7 := zC a7 hbN
     replace a8 := zC a8 hbN
     replace nm0 := zC nm0 hbN
     replace nm1 := zC nm1 hbN
     replace nm2 := zC nm2 hbN
     replace ne0 := zC ne0 hbN
     replace ne1 := zC ne1 hbN
     replace ne2 := zC ne2 hbN
     replace HB := tm HB hbN
     clear hV hg hbN
     refine hK.out _ _ ⟨a0, a1, a2, a3, a4, a5, a6, a7, a8, nm0, nm1, nm2, ne0, ne1, ne2⟩ (fun hHeld => ?_)
     clear hK K
     (try simp only [nz])
     refine wpAnyH_ready (rs := [7, 12]) (by kernel_rfl) (by simp) ?_
     refine (AllReadyH.cons (o := ⟨some 43, _, _, _, _, _⟩) rfl (fun K hK => ?_) (AllReadyH.cons (o := ⟨some 14, _, _, _, _, _⟩) rfl (fun K hK => ?_) AllReadyH.nil))
     ·go_simp
      clear hHeld
      have HBold := HB.size
      refine (ruleMatches_any ⟨y0, y1, y2, y3, y4, y5, y6, y7, y8⟩ _ hy0 hy1 hy2 hy3).mono ?_
      rintro e V105 ⟨u105, rfl, ho105, hb105⟩
      have hs106 := hb105.size
      replace a0 := zC a0 hb105
      replace a1 := zC a1 hb105
      replace a2 := zC a2 hb105
      replace a3 := zC a3 hb105
      replace a4 := zC a4 hb105
      replace a5 := zC a5 hb105
      replace a6 := zC a6 hb105
      replace a7 := zC a7 hb105
      replace a8 := zC a8 hb105
      replace nm0 := zC nm0 hb105
      replace nm1 := zC nm1 hb105
      replace nm2 := zC nm2 hb105
      replace ne0 := zC ne0 hb105
      replace ne1 := zC ne1 hb105
      replace ne2 := zC ne2 hb105
      replace HL := zO HL hb105
      replace HB := tm HB hb105
      rw [← HNM.out] at ho105
      obtain ⟨g107, c107, rfl, hg107, hl107⟩ := own_blk ho105 (by omega)
      have HRM := hide (own_less ho105 HBold)
      clear ho105 HBold
      clear hb105
      refine hK.out _ _ ⟨a0, a1, a2, a3, a4, a5, a6, a7, a8, nm0, nm1, nm2, ne0, ne1, ne2⟩ (fun hHeld => ?_)
      clear hK K
      (try simp only [nz])
      refine wpAnyH_ready (rs := [10, 12]) (by kernel_rfl) (by simp) ?_
      refine (AllReadyH.cons (o := ⟨some 46, _, _, _, _, _⟩) rfl (fun K hK => ?_) (AllReadyH.cons (o := ⟨some 14, _, _, _, _, _⟩) rfl (fun K hK => ?_) AllReadyH.nil))
      ·clear hHeld
       refine step_append_lies _ rfl (.tmp 43) (.tmp 45) 87 rfl wr.heap.size 95 iM _ 3 24 Tryz.underlying87 inM zM0 zM1 zM2 rfl (by decide) (.slice (some ⟨g107, 0, none⟩) NM c107) NM _ rfl (unhide HRM) ⟨g103, 0, none⟩ 1 1 _ rfl rfl (HL.out.cells rfl) (M_one _) (by decide) (by unfold maxLen; omega) (by omega) HB.size _ rfl ?_
       intro g108 c108 V108 ho108 hgr ha hl108
       replace hgr : V105.grownBy V108 (some g107) := hgr
       replace ha : some g107 = some g108 ∨ g108 = V105.heap.size := ha
       have hs108 := hgr.size
       have hge108 : g108 = g107 ∨ g108 = V105.heap.size := by rcases ha with h | h; exact .inl (Option.some.inj h).symm; exact .inr h
       replace a0 := far_cell hgr a0 (by omega)
       replace a1 := far_cell hgr a1 (by omega)
       replace a2 := far_cell hgr a2 (by omega)
       replace a3 := far_cell hgr a3 (by omega)
       replace a4 := far_cell hgr a4 (by omega)
       replace a5 := far_cell hgr a5 (by omega)
       replace a6 := far_cell hgr a6 (by omega)
       replace a7 := far_cell hgr a7 (by omega)
       replace a8 := far_cell hgr a8 (by omega)
       replace nm0 := far_cell hgr nm0 (by omega)
       replace nm1 := far_cell hgr nm1 (by omega)
       replace nm2 := far_cell hgr nm2 (by omega)
       replace ne0 := far_cell hgr ne0 (by omega)
       replace ne1 := far_cell hgr ne1 (by omega)
       replace ne2 := far_cell hgr ne2 (by omega)
       replace HB := HB.grown hgr HB.size (fun k hk => by cases hk; omega)
       have HM := hide ho108
       clear HRM HL ho108 hgr ha
       refine hK.out _ _ ⟨a0, a1, a2, a3, a4, a5, a6, a7, a8, nm0, nm1, nm2, ne0, ne1, ne2⟩ (fun hHeld => ?_)
       clear hK K
       (try simp only [nz])
       refine wpAnyH_ready (rs := [11, 12]) (by kernel_rfl) (by simp) ?_
       refine (AllReadyH.cons (o := ⟨some 47, _, _, _, _, _⟩) rfl (fun K hK => ?_) (AllReadyH.cons (o := ⟨some 14, _, _, _, _, _⟩) rfl (fun K hK => ?_) AllReadyH.nil))
       ·go_simp
        clear hHeld
        refine (flowOf_any _ _ _ _ _ _ _ _ _).mono ?_
        rintro e V109 ⟨rfl, hb109⟩
        have hs110 := hb109.size
        replace a0 := zC a0 hb109
        replace a1 := zC a1 hb109
        replace a2 := zC a2 hb109
        replace a3 := zC a3 hb109
        replace a4 := zC a4 hb109
        replace a5 := zC a5 hb109
        replace a6 := zC a6 hb109
        replace a7 := zC a7 hb109
        replace a8 := zC a8 hb109
        replace nm0 := zC nm0 hb109
        replace nm1 := zC nm1 hb109
        replace nm2 := zC nm2 hb109
        replace ne0 := zC ne0 hb109
        replace ne1 := zC ne1 hb109
        replace ne2 := zC ne2 hb109
        replace HM := zO HM hb109
        replace HB := tm HB hb109
        clear hb109
        refine hK.out _ _ ⟨a0, a1, a2, a3, a4, a5, a6, a7, a8, nm0, nm1, nm2, ne0, ne1, ne2⟩ (fun hHeld => ?_)
        clear hK K
        (try simp only [nz])
        refine rd (i := 12) (o := ⟨some 14, _, _, _, _, _⟩) (by kernel_rfl) rfl (fun K hK => ?_)
        go_simp
        clear hHeld
        refine alloc_step (fun V111 g111 hV hg => ?_)
        rw [← hg]
        have hbN := bn hV
        have hg111 : V109.heap.size ≤ g111 := by omega
        have hl111 := ln hV hg
        have f0 : V111.cell? ⟨g111, 0, none⟩ = some (.int .i64 0) := by rw [hV, hg]; exact new_cell V109 _ rfl _ _ _ _ rfl
        have f1 : V111.cell? ⟨g111, 1, none⟩ = some (.int .i64 0) := by rw [hV, hg]; exact new_cell V109 _ rfl _ _ _ _ rfl
        have f2 : V111.cell? ⟨g111, 2, none⟩ = some (.slice none 0 0) := by rw [hV, hg]; exact new_cell V109 _ rfl _ _ _ _ rfl
        have f3 : V111.cell? ⟨g111, 3, none⟩ = some (.slice none 0 0) := by rw [hV, hg]; exact new_cell V109 _ rfl _ _ _ _ rfl
        have z0 : V111.frozen? ⟨g111, 0, none⟩ = false := by rw [hV, hg]; exact new_frozen V109 _ rfl _ _ _
        have z1 : V111.frozen? ⟨g111, 1, none⟩ = false := by rw [hV, hg]; exact new_frozen V109 _ rfl _ _ _
        have z2 : V111.frozen? ⟨g111, 2, none⟩ = false := by rw [hV, hg]; exact new_frozen V109 _ rfl _ _ _
        have z3 : V111.frozen? ⟨g111, 3, none⟩ = false := by rw [hV, hg]; exact new_frozen V109 _ rfl _ _ _
        have hs112 := hbN.size
        replace a0 := zC a0 hbN
        replace a1 := zC a1 hbN
        replace a2 := zC a2 hbN
        replace a3 := zC a3 hbN
        replace a4 := zC a4 hbN
        replace a5 := zC a5 hbN
        replace a6 := zC a6 hbN
        replace a7 := zC a7 hbN
        replace a8 := zC a8 hbN
        replace nm0 := zC nm0 hbN
        replace nm1 := zC nm1 hbN
        replace nm2 := zC nm2 hbN
        replace ne0 := zC ne0 hbN
        replace ne1 := zC ne1 hbN
        replace ne2 := zC ne2 hbN
        replace HM := zO HM hbN
        replace HB := tm HB hbN
        clear hV hg hbN
        refine hK.out _ _ ⟨a0, a1, a2, a3, a4, a5, a6, a7, a8, nm0, nm1, nm2, ne0, ne1, ne2⟩ (fun hHeld => ?_)
        clear hK K
        (try simp only [nz])
        refine rd (i := 13) (o := ⟨none, _, _, _, _, _⟩) (by kernel_rfl) rfl (fun K hK => ?_)
        go_simp
        clear hHeld
        obtain ⟨V113, hV⟩ : ∃ V113, V113 = ((((V111.setCell ⟨g111, 0, none⟩ (.int .i64 t)).setCell ⟨g111, 1, none⟩ (.int .i64 ((N : Int) - k))).setCell ⟨g111, 2, none⟩ (.slice (some ⟨g108, 0, none⟩) (NM + 1) c108)).setCell ⟨g111, 3, none⟩ (.slice none 0 0)) := ⟨_, rfl⟩
        rw [← hV]
        have hgr : V111.grownBy V113 (some g111) := by rw [hV]; exact put4_grown _ _ _ _ _ _
        obtain ⟨i0, i1, i2, i3⟩ := put4 f0 f1 f2 f3 (.int .i64 t) (.int .i64 ((N : Int) - k)) (.slice (some ⟨g108, 0, none⟩) (NM + 1) c108) (.slice none 0 0)
        rw [← hV] at i0 i1 i2 i3
        replace z3 : V113.frozen? ⟨g111, 3, none⟩ = false := by rw [hV, put4_frozen]; exact z3
        have hs113 := hgr.size
        replace a0 := far_cell hgr a0 (by omega)
        replace a1 := far_cell hgr a1 (by omega)
        replace a2 := far_cell hgr a2 (by omega)
        replace a3 := far_cell hgr a3 (by omega)
        replace a4 := far_cell hgr a4 (by omega)
        replace a5 := far_cell hgr a5 (by omega)
        replace a6 := far_cell hgr a6 (by omega)
        replace a7 := far_cell hgr a7 (by omega)
        replace a8 := far_cell hgr a8 (by omega)
        replace nm0 := far_cell hgr nm0 (by omega)
        replace nm1 := far_cell hgr nm1 (by omega)
        replace nm2 := far_cell hgr nm2 (by omega)
        replace ne0 := far_cell hgr ne0 (by omega)
        replace ne1 := far_cell hgr ne1 (by omega)
        replace ne2 := far_cell hgr ne2 (by omega)
        replace HM := hide (own_far hgr HM.out (by omega))
        replace HB := HB.grown hgr HB.size (fun k hk => by cases hk; omega)
        clear hV hgr f0 f1 f2 f3 z0 z1 z2
        refine hK.out _ _ ⟨a0, a1, a2, a3, a4, a5, a6, a7, a8, nm0, nm1, nm2, ne0, ne1, ne2⟩ (fun hHeld => ?_)
        clear hK K
        (try simp only [nz])
        refine wpAnyH_done (by kernel_rfl) ?_ _
        clear hHeld
        exact ⟨rfl, g107, c107, g103, g108, c108, g111, rfl, i0, i1, i2, i3, z3, HM.out, a8, ne0, ne1, ne2, HB, by omega, by omega, by omega⟩
       ·go_simp
        clear hHeld
        refine alloc_step (fun V109 g109 hV hg => ?_)
        rw [← hg]
        have hbN := bn hV
        have hg109 : V108.heap.size ≤ g109 := by omega
        have hl109 := ln hV hg
        have f0 : V109.cell? ⟨g109, 0, none⟩ = some (.int .i64 0) := by rw [hV, hg]; exact new_cell V108 _ rfl _ _ _ _ rfl
        have f1 : V109.cell? ⟨g109, 1, none⟩ = some (.int .i64 0) := by rw [hV, hg]; exact new_cell V108 _ rfl _ _ _ _ rfl
        have f2 : V109.cell? ⟨g109, 2, none⟩ = some (.slice none 0 0) := by rw [hV, hg]; exact new_cell V108 _ rfl _ _ _ _ rfl
        have f3 : V109.cell? ⟨g109, 3, none⟩ = some (.slice none 0 0) := by rw [hV, hg]; exact new_cell V108 _ rfl _ _ _ _ rfl
        have z0 : V109.frozen? ⟨g109, 0, none⟩ = false := by rw [hV, hg]; exact new_frozen V108 _ rfl _ _ _
        have z1 : V109.frozen? ⟨g109, 1, none⟩ = false := by rw [hV, hg]; exact new_frozen V108 _ rfl _ _ _
        have z2 : V109.frozen? ⟨g109, 2, none⟩ = false := by rw [hV, hg]; exact new_frozen V108 _ rfl _ _ _
        have z3 : V109.frozen? ⟨g109, 3, none⟩ = false := by rw [hV, hg]; exact new_frozen V108 _ rfl _ _ _
        have hs110 := hbN.size
        replace a0 := zC a0 hbN
        replace a1 := zC a1 hbN
        replace a2 := zC a2 hbN
        replace a3 := zC a3 hbN
        replace a4 := zC a4 hbN
        replace a5 := zC a5 hbN
        replace a6 := zC a6 hbN
        replace a7 := zC a7 hbN
        replace a8 := zC a8 hbN
        replace nm0 := zC nm0 hbN
        replace nm1 := zC nm1 hbN
        replace nm2 := zC nm2 hbN
        replace ne0 := zC ne0 hbN
        replace ne1 := zC ne1 hbN
        replace ne2 := zC ne2 hbN
        replace HM := zO HM hbN
        replace HB := tm HB hbN
        clear hV hg hbN
        refine hK.out _ _ ⟨a0, a1, a2, a3, a4, a5, a6, a7, a8, nm0, nm1, nm2, ne0, ne1, ne2⟩ (fun hHeld => ?_)
        clear hK K
        (try simp only [nz])
        refine rd (i := 11) (o := ⟨some 47, _, _, _, _, _⟩) (by kernel_rfl) rfl (fun K hK => ?_)
        go_simp
        clear hHeld
        refine (flowOf_any _ _ _ _ _ _ _ _ _).mono ?_
        rintro e V111 ⟨rfl, hb111⟩
        have hs112 := hb111.size
        replace z0 := (hb111.frozen (p := ⟨g109, 0, none⟩) (cell_in f0)).trans z0
        replace z1 := (hb111.frozen (p := ⟨g109, 1, none⟩) (cell_in f1)).trans z1
        replace z2 := (hb111.frozen (p := ⟨g109, 2, none⟩) (cell_in f2)).trans z2
        replace z3 := (hb111.frozen (p := ⟨g109, 3, none⟩) (cell_in f3)).trans z3
        replace a0 := zC a0 hb111
        replace a1 := zC a1 hb111
        replace a2 := zC a2 hb111
        replace a3 := zC a3 hb111
        replace a4 := zC a4 hb111
        replace a5 := zC a5 hb111
        replace a6 := zC a6 hb111
        replace a7 := zC a7 hb111
        replace a8 := zC a8 hb111
        replace nm0 := zC nm0 hb111
        replace nm1 := zC nm1 hb111
        replace nm2 := zC nm2 hb111
        replace ne0 := zC ne0 hb111
        replace ne1 := zC ne1 hb111
        replace ne2 := zC ne2 hb111
        replace f0 := zC f0 hb111
        replace f1 := zC f1 hb111
        replace f2 := zC f2 hb111
        replace f3 := zC f3 hb111
        replace HM := zO HM hb111
        replace HB := tm HB hb111
        clear hb111
        refine hK.out _ _ ⟨a0, a1, a2, a3, a4, a5, a6, a7, a8, nm0, nm1, nm2, ne0, ne1, ne2⟩ (fun hHeld => ?_)
        clear hK K
        (try simp only [nz])
        refine rd (i := 13) (o := ⟨none, _, _, _, _, _⟩) (by kernel_rfl) rfl (fun K hK => ?_)
        go_simp
        clear hHeld
        obtain ⟨V113, hV⟩ : ∃ V113, V113 = ((((V111.setCell ⟨g109, 0, none⟩ (.int .i64 t)).setCell ⟨g109, 1, none⟩ (.int .i64 ((N : Int) - k))).setCell ⟨g109, 2, none⟩ (.slice (some ⟨g108, 0, none⟩) (NM + 1) c108)).setCell ⟨g109, 3, none⟩ (.slice none 0 0)) := ⟨_, rfl⟩
        rw [← hV]
        have hgr : V111.grownBy V113 (some g109) := by rw [hV]; exact put4_grown _ _ _ _ _ _
        obtain ⟨i0, i1, i2, i3⟩ := put4 f0 f1 f2 f3 (.int .i64 t) (.int .i64 ((N : Int) - k)) (.slice (some ⟨g108, 0, none⟩) (NM + 1) c108) (.slice none 0 0)
        rw [← hV] at i0 i1 i2 i3
        replace z3 : V113.frozen? ⟨g109, 3, none⟩ = false := by rw [hV, put4_frozen]; exact z3
        have hs113 := hgr.size
        replace a0 := far_cell hgr a0 (by omega)
        replace a1 := far_cell hgr a1 (by omega)
        replace a2 := far_cell hgr a2 (by omega)
        replace a3 := far_cell hgr a3 (by omega)
        replace a4 := far_cell hgr a4 (by omega)
        replace a5 := far_cell hgr a5 (by omega)
        replace a6 := far_cell hgr a6 (by omega)
        replace a7 := far_cell hgr a7 (by omega)
        replace a8 := far_cell hgr a8 (by omega)
        replace nm0 := far_cell hgr nm0 (by omega)
        replace nm1 := far_cell hgr nm1 (by omega)
        replace nm2 := far_cell hgr nm2 (by omega)
        replace ne0 := far_cell hgr ne0 (by omega)
        replace ne1 := far_cell hgr ne1 (by omega)
        replace ne2 := far_cell hgr ne2 (by omega)
        replace HM := hide (own_far hgr HM.out (by omega))
        replace HB := HB.grown hgr HB.size (fun k hk => by cases hk; omega)
        clear hV hgr f0 f1 f2 f3 z0 z1 z2
        refine hK.out _ _ ⟨a0, a1, a2, a3, a4, a5, a6, a7, a8, nm0, nm1, nm2, ne0, ne1, ne2⟩ (fun hHeld => ?_)
        clear hK K
        (try simp only [nz])
        refine wpAnyH_done (by kernel_rfl) ?_ _
        clear hHeld
        exact ⟨rfl, g107, c107, g103, g108, c108, g109, rfl, i0, i1, i2, i3, z3, HM.out, a8, ne0, ne1, ne2, HB, by omega, by omega, by omega⟩
      ·go_simp
       clear hHeld
       refine alloc_step (fun V108 g108 hV hg => ?_)
       rw [← hg]
       have hbN := bn hV
       have hg108 : V105.heap.size ≤ g108 := by omega
       have hl108 := ln hV hg
       have f0 : V108.cell? ⟨g108, 0, none⟩ = some (.int .i64 0) := by rw [hV, hg]; exact new_cell V105 _ rfl _ _ _ _ rfl
       have f1 : V108.cell? ⟨g108, 1, none⟩ = some (.int .i64 0) := by rw [hV, hg]; exact new_cell V105 _ rfl _ _ _ _ rfl
       have f2 : V108.cell? ⟨g108, 2, none⟩ = some (.slice none 0 0) := by rw [hV, hg]; exact new_cell V105 _ rfl _ _ _ _ rfl
       have f3 : V108.cell? ⟨g108, 3, none⟩ = some (.slice none 0 0) := by rw [hV, hg]; exact new_cell V105 _ rfl _ _ _ _ rfl
       have z0 : V108.frozen? ⟨g108, 0, none⟩ = false := by rw [hV, hg]; exact new_frozen V105 _ rfl _ _ _
       have z1 : V108.frozen? ⟨g108, 1, none⟩ = false := by rw [hV, hg]; exact new_frozen V105 _ rfl _ _ _
       have z2 : V108.frozen? ⟨g108, 2, none⟩ = false := by rw [hV, hg]; exact new_frozen V105 _ rfl _ _ _
       have z3 : V108.frozen? ⟨g108, 3, none⟩ = false := by rw [hV, hg]; exact new_frozen V105 _ rfl _ _ _
       have hs109 := hbN.size
       replace a0 := zC a0 hbN
       replace a1 := zC a1 hbN
       replace a2 := zC a2 hbN
       replace a3 := zC a3 hbN
       replace a4 := zC a4 hbN
       replace a5 := zC a5 hbN
       replace a6 := zC a6 hbN
       replace a7 := zC a7 hbN
       replace a8 := zC a8 hbN
       replace nm0 := zC nm0 hbN
       replace nm1 := zC nm1 hbN
       replace nm2 := zC nm2 hbN
       replace ne0 := zC ne0 hbN
       replace ne1 := zC ne1 hbN
       replace ne2 := zC ne2 hbN
       replace HL := zO HL hbN
       replace HRM := zO HRM hbN
       replace HB := tm HB hbN
       clear hV hg hbN
       refine hK.out _ _ ⟨a0, a1, a2, a3, a4, a5, a6, a7, a8, nm0, nm1, nm2, ne0, ne1, ne2⟩ (fun hHeld => ?_)
       clear hK K
       (try simp only [nz])
       refine rd (i := 10) (o := ⟨some 46, _, _, _, _, _⟩) (by kernel_rfl) rfl (fun K hK => ?_)
       clear hHeld
       refine step_append_lies _ rfl (.tmp 43) (.tmp 45) 87 rfl wr.heap.size 95 iM _ 3 24 Tryz.underlying87 inM zM0 zM1 zM2 rfl (by decide) (.slice (some ⟨g107, 0, none⟩) NM c107) NM _ rfl (unhide HRM) ⟨g103, 0, none⟩ 1 1 _ rfl rfl (HL.out.cells rfl) (M_one _) (by decide) (by unfold maxLen; omega) (by omega) HB.size _ rfl ?_
       intro g110 c110 V110 ho110 hgr ha hl110
       replace hgr : V108.grownBy V110 (some g107) := hgr
       replace ha : some g107 = some g110 ∨ g110 = V108.heap.size := ha
       have hs110 := hgr.size
       have hge110 : g110 = g107 ∨ g110 = V108.heap.size := by rcases ha with h | h; exact .inl (Option.some.inj h).symm; exact .inr h
       replace z0 := (hgr.frozen_far ⟨g108, 0, none⟩ (cell_in f0) (by simp; omega)).trans z0
       replace z1 := (hgr.frozen_far ⟨g108, 1, none⟩ (cell_in f1) (by simp; omega)).trans z1
       replace z2 := (hgr.frozen_far ⟨g108, 2, none⟩ (cell_in f2) (by simp; omega)).trans z2
       replace z3 := (hgr.frozen_far ⟨g108, 3, none⟩ (cell_in f3) (by simp; omega)).trans z3
       replace a0 := far_cell hgr a0 (by omega)
       replace a1 := far_cell hgr a1 (by omega)
       replace a2 := far_cell hgr a2 (by omega)
       replace a3 := far_cell hgr a3 (by omega)
       replace a4 := far_cell hgr a4 (by omega)
       replace a5 := far_cell hgr a5 (by omega)
       replace a6 := far_cell hgr a6 (by omega)
       replace a7 := far_cell hgr a7 (by omega)
       replace a8 := far_cell hgr a8 (by omega)
       replace nm0 := far_cell hgr nm0 (by omega)
       replace nm1 := far_cell hgr nm1 (by omega)
       replace nm2 := far_cell hgr nm2 (by omega)
       replace ne0 := far_cell hgr ne0 (by omega)
       replace ne1 := far_cell hgr ne1 (by omega)
       replace ne2 := far_cell hgr ne2 (by omega)
       replace f0 := far_cell hgr f0 (by omega)
       replace f1 := far_cell hgr f1 (by omega)
       replace f2 := far_cell hgr f2 (by omega)
       replace f3 := far_cell hgr f3 (by omega)
       replace HB := HB.grown hgr HB.size (fun k hk => by cases hk; omega)
       have HM := hide ho110
       clear HRM HL ho110 hgr ha
       refine hK.out _ _ ⟨a0, a1, a2, a3, a4, a5, a6, a7, a8, nm0, nm1, nm2, ne0, ne1, ne2⟩ (fun hHeld => ?_)
       clear hK K
       (try simp only [nz])
       refine rd (i := 11) (o := ⟨some 47, _, _, _, _, _⟩) (by kernel_rfl) rfl (fun K hK => ?_)
       go_simp
       clear hHeld
       refine (flowOf_any _ _ _ _ _ _ _ _ _).mono ?_
       rintro e V111 ⟨rfl, hb111⟩
       have hs112 := hb111.size
       replace z0 := (hb111.frozen (p := ⟨g108, 0, none⟩) (cell_in f0)).trans z0
       replace z1 := (hb111.frozen (p := ⟨g108, 1, none⟩) (cell_in f1)).trans z1
       replace z2 := (hb111.frozen (p := ⟨g108, 2, none⟩) (cell_in f2)).trans z2
       replace z3 := (hb111.frozen (p := ⟨g108, 3, none⟩) (cell_in f3)).trans z3
       replace a0 := zC a0 hb111
       replace a1 := zC a1 hb111
       replace a2 := zC a2 hb111
       replace a3 := zC a3 hb111
       replace a4 := zC a4 hb111
       replace a5 := zC a5 hb111
       replace a6 := zC a6 hb111
       replace a7 := zC a7 hb111
       replace a8 := zC a8 hb111
       replace nm0 := zC nm0 hb111
       replace nm1 := zC nm1 hb111
       replace nm2 := zC nm2 hb111
       replace ne0 := zC ne0 hb111
       replace ne1 := zC ne1 hb111
       replace ne2 := zC ne2 hb111
       replace f0 := zC f0 hb111
       replace f1 := zC f1 hb111
       replace f2 := zC f2 hb111
       replace f3 := zC f3 hb111
       replace HM := zO HM hb111
       replace HB := tm HB hb111
       clear hb111
       refine hK.out _ _ ⟨a0, a1, a2, a3, a4, a5, a6, a7, a8, nm0, nm1, nm2, ne0, ne1, ne2⟩ (fun hHeld => ?_)
       clear hK K
       (try simp only [nz])
       refine rd (i := 13) (o := ⟨none, _, _, _, _, _⟩) (by kernel_rfl) rfl (fun K hK => ?_)
       go_simp
       clear hHeld
       obtain ⟨V113, hV⟩ : ∃ V113, V113 = ((((V111.setCell ⟨g108, 0, none⟩ (.int .i64 t)).setCell ⟨g108, 1, none⟩ (.int .i64 ((N : Int) - k))).setCell ⟨g108, 2, none⟩ (.slice (some ⟨g110, 0, none⟩) (NM + 1) c110)).setCell ⟨g108, 3, none⟩ (.slice none 0 0)) := ⟨_, rfl⟩
       rw [← hV]
       have hgr : V111.grownBy V113 (some g108) := by rw [hV]; exact put4_grown _ _ _ _ _ _
       obtain ⟨i0, i1, i2, i3⟩ := put4 f0 f1 f2 f3 (.int .i64 t) (.int .i64 ((N : Int) - k)) (.slice (some ⟨g110, 0, none⟩) (NM + 1) c110) (.slice none 0 0)
       rw [← hV] at i0 i1 i2 i3
       replace z3 : V113.frozen? ⟨g108, 3, none⟩ = false := by rw [hV, put4_frozen]; exact z3
       have hs113 := hgr.size
       replace a0 := far_cell hgr a0 (by omega)
       replace a1 := far_cell hgr a1 (by omega)
       replace a2 := far_cell hgr a2 (by omega)
       replace a3 := far_cell hgr a3 (by omega)
       replace a4 := far_cell hgr a4 (by omega)
       replace a5 := far_cell hgr a5 (by omega)
       replace a6 := far_cell hgr a6 (by omega)
       replace a7 := far_cell hgr a7 (by omega)
       replace a8 := far_cell hgr a8 (by omega)
       replace nm0 := far_cell hgr nm0 (by omega)
       replace nm1 := far_cell hgr nm1 (by omega)
       replace nm2 := far_cell hgr nm2 (by omega)
       replace ne0 := far_cell hgr ne0 (by omega)
       replace ne1 := far_cell hgr ne1 (by omega)
       replace ne2 := far_cell hgr ne2 (by omega)
       replace HM := hide (own_far hgr HM.out (by omega))
       replace HB := HB.grown hgr HB.size (fun k hk => by cases hk; omega)
       clear hV hgr f0 f1 f2 f3 z0 z1 z2
       refine hK.out _ _ ⟨a0, a1, a2, a3, a4, a5, a6, a7, a8, nm0, nm1, nm2, ne0, ne1, ne2⟩ (fun hHeld => ?_)
       clear hK K
       (try simp only [nz])
       refine wpAnyH_done (by kernel_rfl) ?_ _
       clear hHeld
       exact ⟨rfl, g107, c107, g103, g110, c110, g108, rfl, i0, i1, i2, i3, z3, HM.out, a8, ne0, ne1, ne2, HB, by omega, by omega, by omega⟩
     ·go_simp
      clear hHeld
      refine alloc_step (fun V105 g105 hV hg => ?_)
      rw [← hg]
      have hbN := bn hV
      have hg105 : V103.heap.size ≤ g105 := by omega
      have hl105 := ln hV hg
      have f0 : V105.cell? ⟨g105, 0, none⟩ = some (.int .i64 0) := by rw [hV, hg]; exact new_cell V103 _ rfl _ _ _ _ rfl
      have f1 : V105.cell? ⟨g105, 1, none⟩ = some (.int .i64 0) := by rw [hV, hg]; exact new_cell V103 _ rfl _ _ _ _ rfl
      have f2 : V105.cell? ⟨g105, 2, none⟩ = some (.slice none 0 0) := by rw [hV, hg]; exact new_cell V103 _ rfl _ _ _ _ rfl
      have f3 : V105.cell? ⟨g105, 3, none⟩ = some (.slice none 0 0) := by rw [hV, hg]; exact new_cell V103 _ rfl _ _ _ _ rfl
      have z0 : V105.frozen? ⟨g105, 0, none⟩ = false := by rw [hV, hg]; exact new_frozen V103 _ rfl _ _ _
      have z1 : V105.frozen? ⟨g105, 1, none⟩ = false := by rw [hV, hg]; exact new_frozen V103 _ rfl _ _ _
      have z2 : V105.frozen? ⟨g105, 2, none⟩ = false := by rw [hV, hg]; exact new_frozen V103 _ rfl _ _ _
      have z3 : V105.frozen? ⟨g105, 3, none⟩ = false := by rw [hV, hg]; exact new_frozen V103 _ rfl _ _ _
      have hs106 := hbN.size
      replace a0 := zC a0 hbN
      replace a1 := zC a1 hbN
      replace a2 := zC a2 hbN
      replace a3 := zC a3 hbN
      replace a4 := zC a4 hbN
      replace a5 := zC a5 hbN
      replace a6 := zC a6 hbN
      replace a7 := zC a7 hbN
      replace a8 := zC a8 hbN
      replace nm0 := zC nm0 hbN
      replace nm1 := zC nm1 hbN
      replace nm2 := zC nm2 hbN
      replace ne0 := zC ne0 hbN
      replace ne1 := zC ne1 hbN
      replace ne2 := zC ne2 hbN
      replace HL := zO HL hbN
      replace HB := tm HB hbN
      clear hV hg hbN
      refine hK.out _ _ ⟨a0, a1, a2, a3, a4, a5, a6, a7, a8, nm0, nm1, nm2, ne0, ne1, ne2⟩ (fun hHeld => ?_)
      clear hK K
      (try simp only [nz])
      refine rd (i := 7) (o := ⟨some 43, _, _, _, _, _⟩) (by kernel_rfl) rfl (fun K hK => ?_)
      go_simp
      clear hHeld
      have HBold := HB.size
      refine (ruleMatches_any ⟨y0, y1, y2, y3, y4, y5, y6, y7, y8⟩ _ hy0 hy1 hy2 hy3).mono ?_
      rintro e V107 ⟨u107, rfl, ho107, hb107⟩
      have hs108 := hb107.size
      replace z0 := (hb107.frozen (p := ⟨g105, 0, none⟩) (cell_in f0)).trans z0
      replace z1 := (hb107.frozen (p := ⟨g105, 1, none⟩) (cell_in f1)).trans z1
      replace z2 := (hb107.frozen (p := ⟨g105, 2, none⟩) (cell_in f2)).trans z2
      replace z3 := (hb107.frozen (p := ⟨g105, 3, none⟩) (cell_in f3)).trans z3
      replace a0 := zC a0 hb107
      replace a1 := zC a1 hb107
      replace a2 := zC a2 hb107
      replace a3 := zC a3 hb107
      replace a4 := zC a4 hb107
      replace a5 := zC a5 hb107
      replace a6 := zC a6 hb107
      replace a7 := zC a7 hb107
      replace a8 := zC a8 hb107
      replace nm0 := zC nm0 hb107
      replace nm1 := zC nm1 hb107
      replace nm2 := zC nm2 hb107
      replace ne0 := zC ne0 hb107
      replace ne1 := zC ne1 hb107
      replace ne2 := zC ne2 hb107
      replace f0 := zC f0 hb107
      replace f1 := zC f1 hb107
      replace f2 := zC f2 hb107
      replace f3 := zC f3 hb107
      replace HL := zO HL hb107
      replace HB := tm HB hb107
      rw [← HNM.out] at ho107
      obtain ⟨g109, c109, rfl, hg109, hl109⟩ := own_blk ho107 (by omega)
      have HRM := hide (own_less ho107 HBold)
      clear ho107 HBold
      clear hb107
      refine hK.out _ _ ⟨a0, a1, a2, a3, a4, a5, a6, a7, a8, nm0, nm1, nm2, ne0, ne1, ne2⟩ (fun hHeld => ?_)
      clear hK K
      (try simp only [nz])
      refine rd (i := 10) (o := ⟨some 46, _, _, _, _, _⟩) (by kernel_rfl) rfl (fun K hK => ?_)
      clear hHeld
      refine step_append_lies _ rfl (.tmp 43) (.tmp 45) 87 rfl wr.heap.size 95 iM _ 3 24 Tryz.underlying87 inM zM0 zM1 zM2 rfl (by decide) (.slice (some ⟨g109, 0, none⟩) NM c109) NM _ rfl (unhide HRM) ⟨g103, 0, none⟩ 1 1 _ rfl rfl (HL.out.cells rfl) (M_one _) (by decide) (by unfold maxLen; omega) (by omega) HB.size _ rfl ?_
      intro g110 c110 V110 ho110 hgr ha hl110
      replace hgr : V107.grownBy V110 (some g109) := hgr
      replace ha : some g109 = some g110 ∨ g110 = V107.heap.size := ha
      have hs110 := hgr.size
      have hge110 : g110 = g109 ∨ g110 = V107.heap.size := by rcases ha with h | h; exact .inl (Option.some.inj h).symm; exact .inr h
      replace z0 := (hgr.frozen_far ⟨g105, 0, none⟩ (cell_in f0) (by simp; omega)).trans z0
      replace z1 := (hgr.frozen_far ⟨g105, 1, none⟩ (cell_in f1) (by simp; omega)).trans z1
      replace z2 := (hgr.frozen_far ⟨g105, 2, none⟩ (cell_in f2) (by simp; omega)).trans z2
      replace z3 := (hgr.frozen_far ⟨g105, 3, none⟩ (cell_in f3) (by simp; omega)).trans z3
      replace a0 := far_cell hgr a0 (by omega)
      replace a1 := far_cell hgr a1 (by omega)
      replace a2 := far_cell hgr a2 (by omega)
      replace a3 := far_cell hgr a3 (by omega)
      replace a4 := far_cell hgr a4 (by omega)
      replace a5 := far_cell hgr a5 (by omega)
      replace a6 := far_cell hgr a6 (by omega)
      replace a7 := far_cell hgr a7 (by omega)
      replace a8 := far_cell hgr a8 (by omega)
      replace nm0 := far_cell hgr nm0 (by omega)
      replace nm1 := far_cell hgr nm1 (by omega)
      replace nm2 := far_cell hgr nm2 (by omega)
      replace ne0 := far_cell hgr ne0 (by omega)
      replace ne1 := far_cell hgr ne1 (by omega)
      replace ne2 := far_cell hgr ne2 (by omega)
      replace f0 := far_cell hgr f0 (by omega)
      replace f1 := far_cell hgr f1 (by omega)
      replace f2 := far_cell hgr f2 (by omega)
      replace f3 := far_cell hgr f3 (by omega)
      replace HB := HB.grown hgr HB.size (fun k hk => by cases hk; omega)
      have HM := hide ho110
      clear HRM HL ho110 hgr ha
      refine hK.out _ _ ⟨a0, a1, a2, a3, a4, a5, a6, a7, a8, nm0, nm1, nm2, ne0, ne1, ne2⟩ (fun hHeld => ?_)
      clear hK K
      (try simp only [nz])
      refine rd (i := 11) (o := ⟨some 47, _, _, _, _, _⟩) (by kernel_rfl) rfl (fun K hK => ?_)
      go_simp
      clear hHeld
      refine (flowOf_any _ _ _ _ _ _ _ _ _).mono ?_
      rintro e V111 ⟨rfl, hb111⟩
      have hs112 := hb111.size
      replace z0 := (hb111.frozen (p := ⟨g105, 0, none⟩) (cell_in f0)).trans z0
      replace z1 := (hb111.frozen (p := ⟨g105, 1, none⟩) (cell_in f1)).trans z1
      replace z2 := (hb111.frozen (p := ⟨g105, 2, none⟩) (cell_in f2)).trans z2
      replace z3 := (hb111.frozen (p := ⟨g105, 3, none⟩) (cell_in f3)).trans z3
      replace a0 := zC a0 hb111
      replace a1 := zC a1 hb111
      replace a2 := zC a2 hb111
      replace a3 := zC a3 hb111
      replace a4 := zC a4 hb111
      replace a5 := zC a5 hb111
      replace a6 := zC a6 hb111
      replace a7 := zC a7 hb111
      replace a8 := zC a8 hb111
      replace nm0 := zC nm0 hb111
      replace nm1 := zC nm1 hb111
      replace nm2 := zC nm2 hb111
      replace ne0 := zC ne0 hb111
      replace ne1 := zC ne1 hb111
      replace ne2 := zC ne2 hb111
      replace f0 := zC f0 hb111
      replace f1 := zC f1 hb111
      replace f2 := zC f2 hb111
      replace f3 := zC f3 hb111
      replace HM := zO HM hb111
      replace HB := tm HB hb111
      clear hb111
      refine hK.out _ _ ⟨a0, a1, a2, a3, a4, a5, a6, a7, a8, nm0, nm1, nm2, ne0, ne1, ne2⟩ (fun hHeld => ?_)
      clear hK K
      (try simp only [nz])
      refine rd (i := 13) (o := ⟨none, _, _, _, _, _⟩) (by kernel_rfl) rfl (fun K hK => ?_)
      go_simp
      clear hHeld
      obtain ⟨V113, hV⟩ : ∃ V113, V113 = ((((V111.setCell ⟨g105, 0, none⟩ (.int .i64 t)).setCell ⟨g105, 1, none⟩ (.int .i64 ((N : Int) - k))).setCell ⟨g105, 2, none⟩ (.slice (some ⟨g110, 0, none⟩) (NM + 1) c110)).setCell ⟨g105, 3, none⟩ (.slice none 0 0)) := ⟨_, rfl⟩
      rw [← hV]
      have hgr : V111.grownBy V113 (some g105) := by rw [hV]; exact put4_grown _ _ _ _ _ _
      obtain ⟨i0, i1, i2, i3⟩ := put4 f0 f1 f2 f3 (.int .i64 t) (.int .i64 ((N : Int) - k)) (.slice (some ⟨g110, 0, none⟩) (NM + 1) c110) (.slice none 0 0)
      rw [← hV] at i0 i1 i2 i3
      replace z3 : V113.frozen? ⟨g105, 3, none⟩ = false := by rw [hV, put4_frozen]; exact z3
      have hs113 := hgr.size
      replace a0 := far_cell hgr a0 (by omega)
      replace a1 := far_cell hgr a1 (by omega)
      replace a2 := far_cell hgr a2 (by omega)
      replace a3 := far_cell hgr a3 (by omega)
      replace a4 := far_cell hgr a4 (by omega)
      replace a5 := far_cell hgr a5 (by omega)
      replace a6 := far_cell hgr a6 (by omega)
      replace a7 := far_cell hgr a7 (by omega)
      replace a8 := far_cell hgr a8 (by omega)
      replace nm0 := far_cell hgr nm0 (by omega)
      replace nm1 := far_cell hgr nm1 (by omega)
      replace nm2 := far_cell hgr nm2 (by omega)
      replace ne0 := far_cell hgr ne0 (by omega)
      replace ne1 := far_cell hgr ne1 (by omega)
      replace ne2 := far_cell hgr ne2 (by omega)
      replace HM := hide (own_far hgr HM.out (by omega))
      replace HB := HB.grown hgr HB.size (fun k hk => by cases hk; omega)
      clear hV hgr f0 f1 f2 f3 z0 z1 z2
      refine hK.out _ _ ⟨a0, a1, a2, a3, a4, a5, a6, a7, a8, nm0, nm1, nm2, ne0, ne1, ne2⟩ (fun hHeld => ?_)
      clear hK K
      (try simp only [nz])
      refine wpAnyH_done (by kernel_rfl) ?_ _
      clear hHeld
      exact ⟨rfl, g109, c109, g103, g110, c110, g105, rfl, i0, i1, i2, i3, z3, HM.out, a8, ne0, ne1, ne2, HB, by omega, by omega, by omega⟩
    ·go_simp
     clear hHeld
     refine alloc_step (fun V103 g103 hV hg => ?_)
     rw [← hg]
     have hbN := bn hV
     have hg103 : V102.heap.size ≤ g103 := by omega
     have hl103 := ln hV hg
     have f0 : V103.cell? ⟨g103, 0, none⟩ = some (.int .i64 0) := by rw [hV, hg]; exact new_cell V102 _ rfl _ _ _ _ rfl
     have f1 : V103.cell? ⟨g103, 1, none⟩ = some (.int .i64 0) := by rw [hV, hg]; exact new_cell V102 _ rfl _ _ _ _ rfl
     have f2 : V103.cell? ⟨g103, 2, none⟩ = some (.slice none 0 0) := by rw [hV, hg]; exact new_cell V102 _ rfl _ _ _ _ rfl
     have f3 : V103.cell? ⟨g103, 3, none⟩ = some (.slice none 0 0) := by rw [hV, hg]; exact new_cell V102 _ rfl _ _ _ _ rfl
     have z0 : V103.frozen? ⟨g103, 0, none⟩ = false := by rw [hV, hg]; exact new_frozen V102 _ rfl _ _ _
     have z1 : V103.frozen? ⟨g103, 1, none⟩ = false := by rw [hV, hg]; exact new_frozen V102 _ rfl _ _ _
     have z2 : V103.frozen? ⟨g103, 2, none⟩ = false := by rw [hV, hg]; exact new_frozen V102 _ rfl _ _ _
     have z3 : V103.frozen? ⟨g103, 3, none⟩ = false := by rw [hV, hg]; exact new_frozen V102 _ rfl _ _ _
     have hs104 := hbN.size
     replace a0 := zC a0 hbN
     replace a1 := zC a1 hbN
     replace a2 := zC a2 hbN
     replace a3 := zC a3 hbN
     replace a4 := zC a4 hbN
     replace a5 := zC a5 hbN
     replace a6 := zC a6 hbN
     replace a7 := zC a7 hbN
     replace a8 := zC a8 hbN
     replace nm0 := zC nm0 hbN
     replace nm1 := zC nm1 hbN
     replace nm2 := zC nm2 hbN
     replace ne0 := zC ne0 hbN
     replace ne1 := zC ne1 hbN
     replace ne2 := zC ne2 hbN
     replace HB := tm HB hbN
     clear hV hg hbN
     refine hK.out _ _ ⟨a0, a1, a2, a3, a4, a5, a6, a7, a8, nm0, nm1, nm2, ne0, ne1, ne2⟩ (fun hHeld => ?_)
     clear hK K
     (try simp only [nz])
     refine wpAnyH_ready (rs := [7, 9]) (by kernel_rfl) (by simp) ?_
     refine (AllReadyH.cons (o := ⟨some 43, _, _, _, _, _⟩) rfl (fun K hK => ?_) (AllReadyH.cons (o := ⟨some 45, _, _, _, _, _⟩) rfl (fun K hK => ?_) AllReadyH.nil))
     ·go_simp
      clear hHeld
      have HBold := HB.size
      refine (ruleMatches_any ⟨y0, y1, y2, y3, y4, y5, y6, y7, y8⟩ _ hy0 hy1 hy2 hy3).mono ?_
      rintro e V105 ⟨u105, rfl, ho105, hb105⟩
      have hs106 := hb105.size
      replace z0 := (hb105.frozen (p := ⟨g103, 0, none⟩) (cell_in f0)).trans z0
      replace z1 := (hb105.frozen (p := ⟨g103, 1, none⟩) (cell_in f1)).trans z1
      replace z2 := (hb105.frozen (p := ⟨g103, 2, none⟩) (cell_in f2)).trans z2
      replace z3 := (hb105.frozen (p := ⟨g103, 3, none⟩) (cell_in f3)).trans z3
      replace a0 := zC a0 hb105
      replace a1 := zC a1 hb105
      replace a2 := zC a2 hb105
      replace a3 := zC a3 hb105
      replace a4 := zC a4 hb105
      replace a5 := zC a5 hb105
      replace a6 := zC a6 hb105
      replace a7 := zC a7 hb105
      replace a8 := zC a8 hb105
      replace nm0 := zC nm0 hb105
      replace nm1 := zC nm1 hb105
      replace nm2 := zC nm2 hb105
      replace ne0 := zC ne0 hb105
      replace ne1 := zC ne1 hb105
      replace ne2 := zC ne2 hb105
      replace f0 := zC f0 hb105
      replace f1 := zC f1 hb105
      replace f2 := zC f2 hb105
      replace f3 := zC f3 hb105
      replace HB := tm HB hb105
      rw [← HNM.out] at ho105
      obtain ⟨g107, c107, rfl, hg107, hl107⟩ := own_blk ho105 (by omega)
      have HRM := hide (own_less ho105 HBold)
      clear ho105 HBold
      clear hb105
      refine hK.out _ _ ⟨a0, a1, a2, a3, a4, a5, a6, a7, a8, nm0, nm1, nm2, ne0, ne1, ne2⟩ (fun hHeld => ?_)
      clear hK K
      (try simp only [nz])
      refine rd (i := 9) (o := ⟨some 45, _, _, _, _, _⟩) (by kernel_rfl) rfl (fun K hK => ?_)
      go_simp
      clear hHeld
      refine alloc_step (fun V108 g108 hV hg => ?_)
      rw [← hg]
      have hbN := bn hV
      have hg108 : V105.heap.size ≤ g108 := by omega
      have hl108 := ln hV hg
      have HL : Hid (V108.ownsRow wr.heap.size 95 3 (.slice (some ⟨g108, 0, none⟩) 1 1) 1 (M [isM 8 x.i])) := by rw [hV, hg]; exact hide (World.ownsRow_lit V105 _ 1 HB.size (by decide) rfl)
      have hs109 := hbN.size
      replace z0 := (hbN.frozen (p := ⟨g103, 0, none⟩) (cell_in f0)).trans z0
      replace z1 := (hbN.frozen (p := ⟨g103, 1, none⟩) (cell_in f1)).trans z1
      replace z2 := (hbN.frozen (p := ⟨g103, 2, none⟩) (cell_in f2)).trans z2
      replace z3 := (hbN.frozen (p := ⟨g103, 3, none⟩) (cell_in f3)).trans z3
      replace a0 := zC a0 hbN
      replace a1 := zC a1 hbN
      replace a2 := zC a2 hbN
      replace a3 := zC a3 hbN
      replace a4 := zC a4 hbN
      replace a5 := zC a5 hbN
      replace a6 := zC a6 hbN
      replace a7 := zC a7 hbN
      replace a8 := zC a8 hbN
      replace nm0 := zC nm0 hbN
      replace nm1 := zC nm1 hbN
      replace nm2 := zC nm2 hbN
      replace ne0 := zC ne0 hbN
      replace ne1 := zC ne1 hbN
      replace ne2 := zC ne2 hbN
      replace f0 := zC f0 hbN
      replace f1 := zC f1 hbN
      replace f2 := zC f2 hbN
      replace f3 := zC f3 hbN
      replace HRM := zO HRM hbN
      replace HB := tm HB hbN
      clear hV hg hbN
      refine hK.out _ _ ⟨a0, a1, a2, a3, a4, a5, a6, a7, a8, nm0, nm1, nm2, ne0, ne1, ne2⟩ (fun hHeld => ?_)
      clear hK K
      (try simp only [nz])
      refine rd (i := 10) (o := ⟨some 46, _, _, _, _, _⟩) (by kernel_rfl) rfl (fun K hK => ?_)
      clear hHeld
      refine step_append_lies _ rfl (.tmp 43) (.tmp 45) 87 rfl wr.heap.size 95 iM _ 3 24 Tryz.underlying87 inM zM0 zM1 zM2 rfl (by decide) (.slice (some ⟨g107, 0, none⟩) NM c107) NM _ rfl (unhide HRM) ⟨g108, 0, none⟩ 1 1 _ rfl rfl (HL.out.cells rfl) (M_one _) (by decide) (by unfold maxLen; omega) (by omega) HB.size _ rfl ?_
      intro g110 c110 V110 ho110 hgr ha hl110
      replace hgr : V108.grownBy V110 (some g107) := hgr
      replace ha : some g107 = some g110 ∨ g110 = V108.heap.size := ha
      have hs110 := hgr.size
      have hge110 : g110 = g107 ∨ g110 = V108.heap.size := by rcases ha with h | h; exact .inl (Option.some.inj h).symm; exact .inr h
      replace z0 := (hgr.frozen_far ⟨g103, 0, none⟩ (cell_in f0) (by simp; omega)).trans z0
      replace z1 := (hgr.frozen_far ⟨g103, 1, none⟩ (cell_in f1) (by simp; omega)).trans z1
      replace z2 := (hgr.frozen_far ⟨g103, 2, none⟩ (cell_in f2) (by simp; omega)).trans z2
      replace z3 := (hgr.frozen_far ⟨g103, 3, none⟩ (cell_in f3) (by simp; omega)).trans z3
      replace a0 := far_cell hgr a0 (by omega)
      replace a1 := far_cell hgr a1 (by omega)
      replace a2 := far_cell hgr a2 (by omega)
      replace a3 := far_cell hgr a3 (by omega)
      replace a4 := far_cell hgr a4 (by omega)
      replace a5 := far_cell hgr a5 (by omega)
      replace a6 := far_cell hgr a6 (by omega)
      replace a7 := far_cell hgr a7 (by omega)
      replace a8 := far_cell hgr a8 (by omega)
      replace nm0 := far_cell hgr nm0 (by omega)
      replace nm1 := far_cell hgr nm1 (by omega)
      replace nm2 := far_cell hgr nm2 (by omega)
      replace ne0 := far_cell hgr ne0 (by omega)
      replace ne1 := far_cell hgr ne1 (by omega)
      replace ne2 := far_cell hgr ne2 (by omega)
      replace f0 := far_cell hgr f0 (by omega)
      replace f1 := far_cell hgr f1 (by omega)
      replace f2 := far_cell hgr f2 (by omega)
      replace f3 := far_cell hgr f3 (by omega)
      replace HB := HB.grown hgr HB.size (fun k hk => by cases hk; omega)
      have HM := hide ho110
      clear HRM HL ho110 hgr ha
      refine hK.out _ _ ⟨a0, a1, a2, a3, a4, a5, a6, a7, a8, nm0, nm1, nm2, ne0, ne1, ne2⟩ (fun hHeld => ?_)
      clear hK K
      (try simp only [nz])
      refine rd (i := 11) (o := ⟨some 47, _, _, _, _, _⟩) (by kernel_rfl) rfl (fun K hK => ?_)
      go_simp
      clear hHeld
      refine (flowOf_any _ _ _ _ _ _ _ _ _).mono ?_
      rintro e V111 ⟨rfl, hb111⟩
      have hs112 := hb111.size
      replace z0 := (hb111.frozen (p := ⟨g103, 0, none⟩) (cell_in f0)).trans z0
      replace z1 := (hb111.frozen (p := ⟨g103, 1, none⟩) (cell_in f1)).trans z1
      replace z2 := (hb111.frozen (p := ⟨g103, 2, none⟩) (cell_in f2)).trans z2
      replace z3 := (hb111.frozen (p := ⟨g103, 3, none⟩) (cell_in f3)).trans z3
      replace a0 := zC a0 hb111
      replace a1 := zC a1 hb111
      replace a2 := zC a2 hb111
      replace a3 := zC a3 hb111
      replace a4 := zC a4 hb111
      replace a5 := zC a5 hb111
      replace a6 := zC a6 hb111
      replace a7 := zC a7 hb111
      replace a8 := zC a8 hb111
      replace nm0 := zC nm0 hb111
      replace nm1 := zC nm1 hb111
      replace nm2 := zC nm2 hb111
      replace ne0 := zC ne0 hb111
      replace ne1 := zC ne1 hb111
      replace ne2 := zC ne2 hb111
      replace f0 := zC f0 hb111
      replace f1 := zC f1 hb111
      replace f2 := zC f2 hb111
      replace f3 := zC f3 hb111
      replace HM := zO HM hb111
      replace HB := tm HB hb111
      clear hb111
      refine hK.out _ _ ⟨a0, a1, a2, a3, a4, a5, a6, a7, a8, nm0, nm1, nm2, ne0, ne1, ne2⟩ (fun hHeld => ?_)
      clear hK K
      (try simp only [nz])
      refine rd (i := 13) (o := ⟨none, _, _, _, _, _⟩) (by kernel_rfl) rfl (fun K hK => ?_)
      go_simp
      clear hHeld
      obtain ⟨V113, hV⟩ : ∃ V113, V113 = ((((V111.setCell ⟨g103, 0, none⟩ (.int .i64 t)).setCell ⟨g103, 1, none⟩ (.int .i64 ((N : Int) - k))).setCell ⟨g103, 2, none⟩ (.slice (some ⟨g110, 0, none⟩) (NM + 1) c110)).setCell ⟨g103, 3, none⟩ (.slice none 0 0)) := ⟨_, rfl⟩
      rw [← hV]
      have hgr : V111.grownBy V113 (some g103) := by rw [hV]; exact put4_grown _ _ _ _ _ _
      obtain ⟨i0, i1, i2, i3⟩ := put4 f0 f1 f2 f3 (.int .i64 t) (.int .i64 ((N : Int) - k)) (.slice (some ⟨g110, 0, none⟩) (NM + 1) c110) (.slice none 0 0)
      rw [← hV] at i0 i1 i2 i3
      replace z3 : V113.frozen? ⟨g103, 3, none⟩ = false := by rw [hV, put4_frozen]; exact z3
      have hs113 := hgr.size
      replace a0 := far_cell hgr a0 (by omega)
      replace a1 := far_cell hgr a1 (by omega)
      replace a2 := far_cell hgr a2 (by omega)
      replace a3 := far_cell hgr a3 (by omega)
      replace a4 := far_cell hgr a4 (by omega)
      replace a5 := far_cell hgr a5 (by omega)
      replace a6 := far_cell hgr a6 (by omega)
      replace a7 := far_cell hgr a7 (by omega)
      replace a8 := far_cell hgr a8 (by omega)
      replace nm0 := far_cell hgr nm0 (by omega)
      replace nm1 := far_cell hgr nm1 (by omega)
      replace nm2 := far_cell hgr nm2 (by omega)
      replace ne0 := far_cell hgr ne0 (by omega)
      replace ne1 := far_cell hgr ne1 (by omega)
      replace ne2 := far_cell hgr ne2 (by omega)
      replace HM := hide (own_far hgr HM.out (by omega))
      replace HB := HB.grown hgr HB.size (fun k hk => by cases hk; omega)
      clear hV hgr f0 f1 f2 f3 z0 z1 z2
      refine hK.out _ _ ⟨a0, a1, a2, a3, a4, a5, a6, a7, a8, nm0, nm1, nm2, ne0, ne1, ne2⟩ (fun hHeld => ?_)
      clear hK K
      (try simp only [nz])
      refine wpAnyH_done (by kernel_rfl) ?_ _
      clear hHeld
      exact ⟨rfl, g107, c107, g108, g110, c110, g103, rfl, i0, i1, i2, i3, z3, HM.out, a8, ne0, ne1, ne2, HB, by omega, by omega, by omega⟩
     ·go_simp
      clear hHeld
      refine alloc_step (fun V105 g105 hV hg => ?_)
      rw [← hg]
      have hbN := bn hV
      have hg105 : V103.heap.size ≤ g105 := by omega
      have hl105 := ln hV hg
      have HL : Hid (V105.ownsRow wr.heap.size 95 3 (.slice (some ⟨g105, 0, none⟩) 1 1) 1 (M [isM 8 x.i])) := by rw [hV, hg]; exact hide (World.ownsRow_lit V103 _ 1 HB.size (by decide) rfl)
      have hs106 := hbN.size
      replace z0 := (hbN.frozen (p := ⟨g103, 0, none⟩) (cell_in f0)).trans z0
      replace z1 := (hbN.frozen (p := ⟨g103, 1, none⟩) (cell_in f1)).trans z1
      replace z2 := (hbN.frozen (p := ⟨g103, 2, none⟩) (cell_in f2)).trans z2
      replace z3 := (hbN.frozen (p := ⟨g103, 3, none⟩) (cell_in f3)).trans z3
      replace a0 := zC a0 hbN
      replace a1 := zC a1 hbN
      replace a2 := zC a2 hbN
      replace a3 := zC a3 hbN
      replace a4 := zC a4 hbN
      replace a5 := zC a5 hbN
      replace a6 := zC a6 hbN
      replace a7 := zC a7 hbN
      replace a8 := zC a8 hbN
      replace nm0 := zC nm0 hbN
      replace nm1 := zC nm1 hbN
      replace nm2 := zC nm2 hbN
      replace ne0 := zC ne0 hbN
      replace ne1 := zC ne1 hbN
      replace ne2 := zC ne2 hbN
      replace f0 := zC f0 hbN
      replace f1 := zC f1 hbN
      replace f2 := zC f2 hbN
      replace f3 := zC f3 hbN
      replace HB := tm HB hbN
      clear hV hg hbN
      refine hK.out _ _ ⟨a0, a1, a2, a3, a4, a5, a6, a7, a8, nm0, nm1, nm2, ne0, ne1, ne2⟩ (fun hHeld => ?_)
      clear hK K
      (try simp only [nz])
      refine rd (i := 7) (o := ⟨some 43, _, _, _, _, _⟩) (by kernel_rfl) rfl (fun K hK => ?_)
      go_simp
      clear hHeld
      have HBold := HB.size
      refine (ruleMatches_any ⟨y0, y1, y2, y3, y4, y5, y6, y7, y8⟩ _ hy0 hy1 hy2 hy3).mono ?_
      rintro e V107 ⟨u107, rfl, ho107, hb107⟩
      have hs108 := hb107.size
      replace z0 := (hb107.frozen (p := ⟨g103, 0, none⟩) (cell_in f0)).trans z0
      replace z1 := (hb107.frozen (p := ⟨g103, 1, none⟩) (cell_in f1)).trans z1
      replace z2 := (hb107.frozen (p := ⟨g103, 2, none⟩) (cell_in f2)).trans z2
      replace z3 := (hb107.frozen (p := ⟨g103, 3, none⟩) (cell_in f3)).trans z3
      replace a0 := zC a0 hb107
      replace a1 := zC a1 hb107
      replace a2 := zC a2 hb107
      replace a3 := zC a3 hb107
      replace a4 := zC a4 hb107
      replace a5 := zC a5 hb107
      replace a6 := zC a6 hb107
      replace a7 := zC a7 hb107
      replace a8 := zC a8 hb107
      replace nm0 := zC nm0 hb107
      replace nm1 := zC nm1 hb107
      replace nm2 := zC nm2 hb107
      replace ne0 := zC ne0 hb107
      replace ne1 := zC ne1 hb107
      replace ne2 := zC ne2 hb107
      replace f0 := zC f0 hb107
      replace f1 := zC f1 hb107
      replace f2 := zC f2 hb107
      replace f3 := zC f3 hb107
      replace HL := zO HL hb107
      replace HB := tm HB hb107
      rw [← HNM.out] at ho107
      obtain ⟨g109, c109, rfl, hg109, hl109⟩ := own_blk ho107 (by omega)
      have HRM := hide (own_less ho107 HBold)
      clear ho107 HBold
      clear hb107
      refine hK.out _ _ ⟨a0, a1, a2, a3, a4, a5, a6, a7, a8, nm0, nm1, nm2, ne0, ne1, ne2⟩ (fun hHeld => ?_)
      clear hK K
      (try simp only [nz])
      refine rd (i := 10) (o := ⟨some 46, _, _, _, _, _⟩) (by kernel_rfl) rfl (fun K hK => ?_)
      clear hHeld
      refine step_append_lies _ rfl (.tmp 43) (.tmp 45) 87 rfl wr.heap.size 95 iM _ 3 24 Tryz.underlying87 inM zM0 zM1 zM2 rfl (by decide) (.slice (some ⟨g109, 0, none⟩) NM c109) NM _ rfl (unhide HRM) ⟨g105, 0, none⟩ 1 1 _ rfl rfl (HL.out.cells rfl) (M_one _) (by decide) (by unfold maxLen; omega) (by omega) HB.size _ rfl ?_
      intro g110 c110 V110 ho110 hgr ha hl110
      replace hgr : V107.grownBy V110 (some g109) := hgr
      replace ha : some g109 = some g110 ∨ g110 = V107.heap.size := ha
      have hs110 := hgr.size
      have hge110 : g110 = g109 ∨ g110 = V107.heap.size := by rcases ha with h | h; exact .inl (Option.some.inj h).symm; exact .inr h
      replace z0 := (hgr.frozen_far ⟨g103, 0, none⟩ (cell_in f0) (by simp; omega)).trans z0
      replace z1 := (hgr.frozen_far ⟨g103, 1, none⟩ (cell_in f1) (by simp; omega)).trans z1
      replace z2 := (hgr.frozen_far ⟨g103, 2, none⟩ (cell_in f2) (by simp; omega)).trans z2
      replace z3 := (hgr.frozen_far ⟨g103, 3, none⟩ (cell_in f3) (by simp; omega)).trans z3
      replace a0 := far_cell hgr a0 (by omega)
      replace a1 := far_cell hgr a1 (by omega)
      replace a2 := far_cell hgr a2 (by omega)
      replace a3 := far_cell hgr a3 (by omega)
      replace a4 := far_cell hgr a4 (by omega)
      replace a5 := far_cell hgr a5 (by omega)
      replace a6 := far_cell hgr a6 (by omega)
      replace a7 := far_cell hgr a7 (by omega)
      replace a8 := far_cell hgr a8 (by omega)
      replace nm0 := far_cell hgr nm0 (by omega)
      replace nm1 := far_cell hgr nm1 (by omega)
      replace nm2 := far_cell hgr nm2 (by omega)
      replace ne0 := far_cell hgr ne0 (by omega)
      replace ne1 := far_cell hgr ne1 (by omega)
      replace ne2 := far_cell hgr ne2 (by omega)
      replace f0 := far_cell hgr f0 (by omega)
      replace f1 := far_cell hgr f1 (by omega)
      replace f2 := far_cell hgr f2 (by omega)
      replace f3 := far_cell hgr f3 (by omega)
      replace HB := HB.grown hgr HB.size (fun k hk => by cases hk; omega)
      have HM := hide ho110
      clear HRM HL ho110 hgr ha
      refine hK.out _ _ ⟨a0, a1, a2, a3, a4, a5, a6, a7, a8, nm0, nm1, nm2, ne0, ne1, ne2⟩ (fun hHeld => ?_)
      clear hK K
      (try simp only [nz])
      refine rd (i := 11) (o := ⟨some 47, _, _, _, _, _⟩) (by kernel_rfl) rfl (fun K hK => ?_)
      go_simp
      clear hHeld
      refine (flowOf_any _ _ _ _ _ _ _ _ _).mono ?_
      rintro e V111 ⟨rfl, hb111⟩
      have hs112 := hb111.size
      replace z0 := (hb111.frozen (p := ⟨g103, 0, none⟩) (cell_in f0)).trans z0
      replace z1 := (hb111.frozen (p := ⟨g103, 1, none⟩) (cell_in f1)).trans z1
      replace z2 := (hb111.frozen (p := ⟨g103, 2, none⟩) (cell_in f2)).trans z2
      replace z3 := (hb111.frozen (p := ⟨g103, 3, none⟩) (cell_in f3)).trans z3
      replace a0 := zC a0 hb111
      replace a1 := zC a1 hb111
      replace a2 := zC a2 hb111
      replace a3 := zC a3 hb111
      replace a4 := zC a4 hb111
      replace a5 := zC a5 hb111
      replace a6 := zC a6 hb111
      replace a7 := zC a7 hb111
      replace a8 := zC a8 hb111
      replace nm0 := zC nm0 hb111
      replace nm1 := zC nm1 hb111
      replace nm2 := zC nm2 hb111
      replace ne0 := zC ne0 hb111
      replace ne1 := zC ne1 hb111
      replace ne2 := zC ne2 hb111
      replace f0 := zC f0 hb111
      replace f1 := zC f1 hb111
      replace f2 := zC f2 hb111
      replace f3 := zC f3 hb111
      replace HM := zO HM hb111
      replace HB := tm HB hb111
      clear hb111
      refine hK.out _ _ ⟨a0, a1, a2, a3, a4, a5, a6, a7, a8, nm0, nm1, nm2, ne0, ne1, ne2⟩ (fun hHeld => ?_)
      clear hK K
      (try simp only [nz])
      refine rd (i := 13) (o := ⟨none, _, _, _, _, _⟩) (by kernel_rfl) rfl (fun K hK => ?_)
      go_simp
      clear hHeld
      obtain ⟨V113, hV⟩ : ∃ V113, V113 = ((((V111.setCell ⟨g103, 0, none⟩ (.int .i64 t)).setCell ⟨g103, 1, none⟩ (.int .i64 ((N : Int) - k))).setCell ⟨g103, 2, none⟩ (.slice (some ⟨g110, 0, none⟩) (NM + 1) c110)).setCell ⟨g103, 3, none⟩ (.slice none 0 0)) := ⟨_, rfl⟩
      rw [← hV]
      have hgr : V111.grownBy V113 (some g103) := by rw [hV]; exact put4_grown _ _ _ _ _ _
      obtain ⟨i0, i1, i2, i3⟩ := put4 f0 f1 f2 f3 (.int .i64 t) (.int .i64 ((N : Int) - k)) (.slice (some ⟨g110, 0, none⟩) (NM + 1) c110) (.slice none 0 0)
      rw [← hV] at i0 i1 i2 i3
      replace z3 : V113.frozen? ⟨g103, 3, none⟩ = false := by rw [hV, put4_frozen]; exact z3
      have hs113 := hgr.size
      replace a0 := far_cell hgr a0 (by omega)
      replace a1 := far_cell hgr a1 (by omega)
      replace a2 := far_cell hgr a2 (by omega)
      replace a3 := far_cell hgr a3 (by omega)
      replace a4 := far_cell hgr a4 (by omega)
      replace a5 := far_cell hgr a5 (by omega)
      replace a6 := far_cell hgr a6 (by omega)
      replace a7 := far_cell hgr a7 (by omega)
      replace a8 := far_cell hgr a8 (by omega)
      replace nm0 := far_cell hgr nm0 (by omega)
      replace nm1 := far_cell hgr nm1 (by omega)
      replace nm2 := far_cell hgr nm2 (by omega)
      replace ne0 := far_cell hgr ne0 (by omega)
      replace ne1 := far_cell hgr ne1 (by omega)
      replace ne2 := far_cell hgr ne2 (by omega)
      replace HM := hide (own_far hgr HM.out (by omega))
      replace HB := HB.grown hgr HB.size (fun k hk => by cases hk; omega)
      clear hV hgr f0 f1 f2 f3 z0 z1 z2
      refine hK.out _ _ ⟨a0, a1, a2, a3, a4, a5, a6, a7, a8, nm0, nm1, nm2, ne0, ne1, ne2⟩ (fun hHeld => ?_)
      clear hK K
      (try simp only [nz])
      refine wpAnyH_done (by kernel_rfl) ?_ _
      clear hHeld
      exact ⟨rfl, g109, c109, g105, g110, c110, g103, rfl, i0, i1, i2, i3, z3, HM.out, a8, ne0, ne1, ne2, HB, by omega, by omega, by omega⟩
   ·intro g43 c43 g45 g46 c46 fb Wa hW
    obtain ⟨f0, f1, f2, f3, z3, hM, a8, ne0, ne1, ne2, HB, hfb0, hfb1, hfb2⟩ := hW
    have HM := hide hM
    replace HM : Hid (Wa.ownsRow wr.heap.size 95 3 (.slice (some ⟨g46, 0, none⟩) (NM + 1) c46) (NM + 1) (M (ruleMs ⟨y0, y1, y2, y3, y4, y5, y6, y7, y8⟩ ++ [isM 8 x.i]))) := by rw [M_app]; exact HM
    clear hM
    cases y8
    ·replace HRA := hide (HRA.out.trans (by rw [if_neg (by simp)]))
     obtain ⟨Wb, hWb⟩ : ∃ Wb, Wb = Wa.alloc (.cells #[.int .i64 4, .int .i64 0, .int .i64 n] 98) := ⟨_, rfl⟩
     have hbN : Below Wa.heap.size Wa Wb := by rw [hWb]; exact alloc_below _ _
     have NEWD : Hid (∀ j u, (D [gotoD n])[j]? = some u → Wb.cell? ((⟨Wa.heap.size, 0, none⟩ : Addr).add j) = some u) := by rw [hWb]; exact hide (news_lit Wa _ _)
     have HWb : Hid (Wa.alloc (.cells #[.int .i64 4, .int .i64 0, .int .i64 n] 98) = Wb) := hWb.symm
     replace z3 := (hbN.frozen (p := ⟨fb, 3, none⟩) hfb2).trans z3
     have hfb3 : ¬ fb = Wa.heap.size := by omega
     have w0 := cell_beh f0 hbN (Nat.le_refl _)
     have w1 := cell_beh f1 hbN (Nat.le_refl _)
     have w2 := cell_beh f2 hbN (Nat.le_refl _)
     have w3 := cell_beh f3 hbN (Nat.le_refl _)
     have HM2 := hide (own_below HM.out hbN)
     have HB2 := HB.trans (hbN.mono HB.size)
     have hsb := HB2.size
     have hfb4 : fb < Wb.heap.size := by have := hbN.size; omega
     clear hWb hbN HM HB
     go_wp2_with (at_builtin; rw [unhide HWb]; refine wpList_append_lies _ rfl _ _ 88 rfl wr.heap.size 98 iD _ 3 24 Tryz.underlying88 inD zD0 zD1 zD2 rfl (by decide) _ _ _ rfl (World.ownsRow_nil _ wr.heap.size 98 3) ⟨Wa.heap.size, 0, none⟩ 1 1 (D [gotoD n]) rfl rfl (unhide NEWD) (D_one _) (by decide) (by decide) (by decide) hsb _ rfl ?_)
     intro gd cd Wc hod hgd had _
     have hbC : Below Wb.heap.size Wb Wc := (Below.refl _ _).grown hgd (Nat.le_refl _) (by simp [Value.ownBlock])
     have hgdx : Wb.heap.size ≤ gd := by rcases had with h | h; simp [Value.ownBlock] at h; omega
     replace w0 := zC w0 hbC
     replace w1 := zC w1 hbC
     replace w2 := zC w2 hbC
     replace w3 := zC w3 hbC
     replace z3 := (hbC.frozen (p := ⟨fb, 3, none⟩) hfb4).trans z3
     have HM3 := hide (own_below HM2.out hbC)
     have HB4 := HB2.trans (hbC.mono HB2.size)
     have HOD : Hid (Wc.ownsRow wr.heap.size 98 3 (.slice (some ⟨gd, 0, none⟩) 1 cd) 1 (D [gotoD n])) := by simpa using hide hod
     obtain ⟨Wz, hWz⟩ : ∃ Wz, Wz = Wc.setCell ⟨fb, 3, none⟩ (.slice (some ⟨gd, 0, none⟩) 1 cd) := ⟨_, rfl⟩
     have hgz : Wc.grownBy Wz (some fb) := by rw [hWz]; exact set_grown Wc ⟨fb, 3, none⟩ _
     have hgd1 : gd < Wc.heap.size := own_in HOD.out rfl
     have f3x : Wz.cell? ⟨fb, 3, none⟩ = some (.slice (some ⟨gd, 0, none⟩) 1 cd) := by rw [hWz]; exact World.cell?_setCell_same _ _ _ w3
     have f0x : Wz.cell? ⟨fb, 0, none⟩ = some (.int .i64 t) := by rw [hWz]; exact (World.cell?_setCell_other _ _ _ _ (by simp)).trans w0
     have f1x : Wz.cell? ⟨fb, 1, none⟩ = some (.int .i64 ((N : Int) - k)) := by rw [hWz]; exact (World.cell?_setCell_other _ _ _ _ (by simp)).trans w1
     have f2x : Wz.cell? ⟨fb, 2, none⟩ = some (.slice (some ⟨g46, 0, none⟩) (NM + 1) c46) := by rw [hWz]; exact (World.cell?_setCell_other _ _ _ _ (by simp)).trans w2
     have HM := hide (own_far hgz HM3.out (by omega))
     replace HOD := hide (own_far hgz HOD.out (by omega))
     have HB : Below wr.heap.size wr Wz := by rw [hWz]; exact set_below HB4 hfb0 _
     have HZZ : Hid (Wz.heap.size = Wc.heap.size) := by rw [hWz]; exact hide (by simp)
     have HWz : Hid (Wc.setCell ⟨fb, 3, none⟩ (.slice (some ⟨gd, 0, none⟩) 1 cd) = Wz) := hWz.symm
     clear hWz hgz hod hgd had hbC HM2 HM3 HB2 HB4 NEWD HWb f0 f1 f2 f3
     obtain ⟨WA, hWA⟩ : ∃ WA, WA = Wz.alloc (.cells #[.int .i64 t, .int .i64 ((N : Int) - k), .slice (some ⟨g46, 0, none⟩) (NM + 1) c46, .slice (some ⟨gd, 0, none⟩) 1 cd] 90) := ⟨_, rfl⟩
     have hbN : Below Wz.heap.size Wz WA := by rw [hWA]; exact alloc_below _ _
     have NEWS : Hid (∀ j u, (C [(⟨⟨t, (N : Int) - k, ruleMs ⟨y0, y1, y2, y3, y4, y5, y6, y7, false⟩ ++ [isM 8 x.i], [gotoD n]⟩, .slice (some ⟨g46, 0, none⟩) (NM + 1) c46, .slice (some ⟨gd, 0, none⟩) 1 cd⟩ : Fv)])[j]? = some u → WA.cell? ((⟨Wz.heap.size, 0, none⟩ : Addr).add j) = some u) := by rw [hWA]; exact hide (news_lit Wz _ _)
     have HFV : Hid (FvIn WA Ws.heap.size (.slice vo NF vc) (⟨⟨t, (N : Int) - k, ruleMs ⟨y0, y1, y2, y3, y4, y5, y6, y7, false⟩ ++ [isM 8 x.i], [gotoD n]⟩, .slice (some ⟨g46, 0, none⟩) (NM + 1) c46, .slice (some ⟨gd, 0, none⟩) 1 cd⟩ : Fv)) := by
      have h1 := HM.out
      rw [show NM + 1 = (ruleMs ⟨y0, y1, y2, y3, y4, y5, y6, y7, false⟩ ++ [isM 8 x.i]).length by rw [List.length_append, ← HNM.out]; rfl] at h1 ⊢
      exact hide (((fv_in (f := ⟨t, (N : Int) - k, ruleMs ⟨y0, y1, y2, y3, y4, y5, y6, y7, false⟩ ++ [isM 8 x.i], [gotoD n]⟩) h1 HOD.out HUB.out).below hbN).less (by omega))
     have HFv := hide ((HF.out.below HB (Nat.le_refl _)).below hbN (Nat.le_refl _))
     have HB3 := HB.trans (hbN.mono HB.size)
     have hsA : Ws.heap.size ≤ WA.heap.size := by have := HB3.size; omega
     have HWA : Hid (Wz.alloc (.cells #[.int .i64 t, .int .i64 ((N : Int) - k), .slice (some ⟨g46, 0, none⟩) (NM + 1) c46, .slice (some ⟨gd, 0, none⟩) 1 cd] 90) = WA) := hWA.symm
     clear hWA hbN
     go_wp2_with (at_builtin; rw [unhide HWz, unhide HWA]; refine wpList_appFR rfl _ _ rfl Ws.heap.size (.slice vo NF vc) FK rfl (unhide HFv) ⟨Wc.heap.size, 0, none⟩ 1 1 [(⟨⟨t, (N : Int) - k, ruleMs ⟨y0, y1, y2, y3, y4, y5, y6, y7, false⟩ ++ [isM 8 x.i], [gotoD n]⟩, .slice (some ⟨g46, 0, none⟩) (NM + 1) c46, .slice (some ⟨gd, 0, none⟩) 1 cd⟩ : Fv)] rfl rfl (by rw [← HZZ.out]; exact (unhide NEWS)) (fun y hy => by rw [List.mem_singleton.1 hy]; exact HFV.out) (by decide) (by rw [← HNN.out]; omega) hsA ?_)
     intro gq cq Vq hfq hgq haq
     have HGR2 : Hid (V47.grownBy Vq (some g47)) := hide (grownT (grown_of_below HGR.out HB3) hgq HVB.out)
     have HVB2 : Hid (∀ g, (Value.slice (some ⟨gq, 0, none⟩) (FK.length + 1) cq).ownBlock = some g → g = g47 ∨ V47.heap.size ≤ g) := hide (fun g e => by
      have e2 : gq = g := by simpa [Value.ownBlock] using e
      subst e2
      rcases haq with h | h
      ·exact HVB.out _ h
      ·exact .inr (by have := HB3.size; omega))
     have HE : Hid (FR Vq Ws.heap.size (.slice (some ⟨gq, 0, none⟩) (FK.length + 1) cq) (ruleTo L x.i t n (k + 1))) := by rw [HNX.out, HRA.out]; exact hide hfq
     clear hfq hgq haq HFv HFV HUB HNX HB HB3 HM HVB HGR NEWS HWA HRA
     rw [← HNN.out] at HE HVB2 ⊢
     go_wp2_with fail
     go_roundw
     case rel => exact ⟨k + 1, by omega, by go_num, HE, HVB2, HGR2⟩
     case measure => simp [intOf]; omega
    ·generalize Wa = Wz at *
     replace HRA := hide (HRA.out.trans (by rw [if_pos rfl]))
     obtain ⟨WA, hWA⟩ : ∃ WA, WA = Wz.alloc (.cells #[.int .i64 t, .int .i64 ((N : Int) - k), .slice (some ⟨g46, 0, none⟩) (NM + 1) c46, .slice none 0 0] 90) := ⟨_, rfl⟩
     have hbN : Below Wz.heap.size Wz WA := by rw [hWA]; exact alloc_below _ _
     have NEWS : Hid (∀ j u, (C [(⟨⟨t, (N : Int) - k, ruleMs ⟨y0, y1, y2, y3, y4, y5, y6, y7, true⟩ ++ [isM 8 x.i], []⟩, .slice (some ⟨g46, 0, none⟩) (NM + 1) c46, .slice none 0 0⟩ : Fv)])[j]? = some u → WA.cell? ((⟨Wz.heap.size, 0, none⟩ : Addr).add j) = some u) := by rw [hWA]; exact hide (news_lit Wz _ _)
     have HFV : Hid (FvIn WA Ws.heap.size (.slice vo NF vc) (⟨⟨t, (N : Int) - k, ruleMs ⟨y0, y1, y2, y3, y4, y5, y6, y7, true⟩ ++ [isM 8 x.i], []⟩, .slice (some ⟨g46, 0, none⟩) (NM + 1) c46, .slice none 0 0⟩ : Fv)) := by
      have h1 := HM.out
      rw [show NM + 1 = (ruleMs ⟨y0, y1, y2, y3, y4, y5, y6, y7, true⟩ ++ [isM 8 x.i]).length by rw [List.length_append, ← HNM.out]; rfl] at h1 ⊢
      exact hide (((fv_in (f := ⟨t, (N : Int) - k, ruleMs ⟨y0, y1, y2, y3, y4, y5, y6, y7, true⟩ ++ [isM 8 x.i], []⟩) h1 (World.ownsRow_nil _ _ _ _) HUB.out).below hbN).less (by omega))
     have HFv := hide ((HF.out.below HB (Nat.le_refl _)).below hbN (Nat.le_refl _))
     have HB3 := HB.trans (hbN.mono HB.size)
     have hsA : Ws.heap.size ≤ WA.heap.size := by have := HB3.size; omega
     have HWA : Hid (Wz.alloc (.cells #[.int .i64 t, .int .i64 ((N : Int) - k), .slice (some ⟨g46, 0, none⟩) (NM + 1) c46, .slice none 0 0] 90) = WA) := hWA.symm
     clear hWA hbN
     go_wp2_with (at_builtin; rw [unhide HWA]; refine wpList_appFR rfl _ _ rfl Ws.heap.size (.slice vo NF vc) FK rfl (unhide HFv) ⟨Wz.heap.size, 0, none⟩ 1 1 [(⟨⟨t, (N : Int) - k, ruleMs ⟨y0, y1, y2, y3, y4, y5, y6, y7, true⟩ ++ [isM 8 x.i], []⟩, .slice (some ⟨g46, 0, none⟩) (NM + 1) c46, .slice none 0 0⟩ : Fv)] rfl rfl (unhide NEWS) (fun y hy => by rw [List.mem_singleton.1 hy]; exact HFV.out) (by decide) (by rw [← HNN.out]; omega) hsA ?_)
     intro gq cq Vq hfq hgq haq
     have HGR2 : Hid (V47.grownBy Vq (some g47)) := hide (grownT (grown_of_below HGR.out HB3) hgq HVB.out)
     have HVB2 : Hid (∀ g, (Value.slice (some ⟨gq, 0, none⟩) (FK.length + 1) cq).ownBlock = some g → g = g47 ∨ V47.heap.size ≤ g) := hide (fun g e => by
      have e2 : gq = g := by simpa [Value.ownBlock] using e
      subst e2
      rcases haq with h | h
      ·exact HVB.out _ h
      ·exact .inr (by have := HB3.size; omega))
     have HE : Hid (FR Vq Ws.heap.size (.slice (some ⟨gq, 0, none⟩) (FK.length + 1) cq) (ruleTo L x.i t n (k + 1))) := by rw [HNX.out, HRA.out]; exact hide hfq
     clear hfq hgq haq HFv HFV HUB HNX HB HB3 HM HVB HGR NEWS HWA HRA
     rw [← HNN.out] at HE HVB2 ⊢
     go_wp2_with fail
     go_roundw
     case rel => exact ⟨k + 1, by omega, by go_num, HE, HVB2, HGR2⟩
     case measure => simp [intOf]; omega
  ·obtain rfl : k = N := by omega
   have HF1 : Hid (FR wr w.heap.size u11 (ruleFl L x.i t n)) := by rw [HRF.out, HLL.out]; exact hide (HF.out.less hz5)
   obtain ⟨fo, fc, rfl⟩ := HF1.out.slc
   have HB2 : Hid (Below B w wr) := hide ((HBW.out.trans (HBV.out.mono (Nat.le_trans hB hz5))).grown HGR.out (by have := HBV.out.size; omega) (fun k e => by cases e; omega))
   clear HF HVB HGR
   go_wp2_with fail
   go_ret
   exact ⟨_, rfl, HF1.out, HB2.out⟩
end Go.Proofs.YtncdininppehkaaGreat

namespace Go.Proofs.YtncdininppehkaaGreat
open Go.RowKit
set_option linter.unusedVariables false
set_option maxRecDepth 100000
theorem FR.cat {cur w' : World} {B n : Nat} {u : Value} {lo : List Fv} {xs : List Value} (ok : ∀ x ∈ lo, ∃ v, FvIn cur B v x) (ho : w'.ownsRow cur.heap.size 90 4 u n xs) (hxs : xs = C lo) (hn : n = lo.length) (hb : Below cur.heap.size cur w') (hB : B ≤ cur.heap.size) : FR w' B u (lo.map Fv.f) := by
 subst hxs hn
 refine ⟨lo, rfl, own_less ho hB, fun x hx => ?_⟩
 obtain ⟨v, k0, _, _, k3, k4⟩ := ok x hx
 refine ⟨k0.below hb, ?_, ?_, k3, k4⟩
 ·cases e : x.mv.ownBlock with
  | none => exact .inl e
  | some b => exact .inr fun e' => by have h1 := k0.2.2.1 b e; have h2 := own_ge ho b (by rw [← e', e]); omega
 ·cases e : x.dv.ownBlock with
  | none => exact .inl e
  | some b => exact .inr fun e' => by have h1 := k0.2.2.2 b e; have h2 := own_ge ho b (by rw [← e', e]); omega
theorem ask_len (P : List Pr) (s : Sw) (ch : Int) : (askFl P s ch).length ≤ P.length + 1 := by
 have h := List.length_filter_le (isOfB s.i) P
 unfold askFl
 split
 ·rw [List.nil_append, List.length_map]; omega
 ·rw [List.length_append, List.length_map, List.length_singleton]; omega
theorem rule_len (R : List Ac) (s t n : Int) : (ruleFl R s t n).length = R.length + 1 := by
 unfold ruleFl
 rw [List.length_cons, List.length_map, List.length_range]
theorem bridge_len (P : List Pr) (s : Sw) : (bridgeFl P s).length ≤ P.length := by
 unfold bridgeFl
 rw [List.length_map]
 exact List.length_filter_le _ _
theorem route_len (S : List Sw) (P : List Pr) (s : Sw) : (routeFl S P s).length ≤ P.length + 1 := by
 have h := List.length_filter_le (fun p => routedB S s.t p && somewhereB p) P
 unfold routeFl
 split
 ·simp
 ·rw [List.length_cons, List.length_map]; omega
theorem rules_len (A : List Ac) (s : Int) (b : Bool) : (rulesB A s b).length ≤ A.length := List.length_filter_le _ _
set_option maxHeartbeats 8000000 in
theorem switchFlows_any (S : List Sw) (P : List Pr) (A : List Ac) (s1 p1 a1 : Option Addr) (s2 p2 a2 : Nat) (x : Sw) (ch : Int) (w : World) (hC : CfAt w (.slice s1 S.length s2) (.slice p1 P.length p2) (.slice a1 A.length a2) S P A) (hl : P.length ≤ 1000) (hlA : A.length ≤ 1000) (hlS : S.length ≤ 1000) (hx0 : 0 ≤ x.i) (hx1 : x.i ≤ 100000) (hP : ∀ p ∈ P, 0 ≤ p.s ∧ p.s ≤ 100000)
  (hR : ∀ r ∈ A, (0 ≤ r.sb ∧ r.sb ≤ 16) ∧ 0 ≤ r.db ∧ r.db ≤ 16) (hS1 : SortsAc (rulesB A x.i true)) (hS2 : SortsAc (rulesB A x.i false)) :
  Calls Tryz.prog 33 #[.agg #[.slice s1 S.length s2, .slice p1 P.length p2, .slice a1 A.length a2], .agg #[.int .i64 x.i, .int .i64 x.t, .int .i64 x.g], .int .i64 ch] w fun e w' => ∃ u, e = .returned u ∧ FR w' w.heap.size u (switchFl S P A x ch) ∧ Below w.heap.size w w' := by
 have HC := hide hC
 have HR1 : Hid (∀ r ∈ rulesB A x.i true, (0 ≤ r.sb ∧ r.sb ≤ 16) ∧ 0 ≤ r.db ∧ r.db ≤ 16) := hide (fun r hr => hR r (List.mem_filter.1 hr).1)
 have HR2 : Hid (∀ r ∈ rulesB A x.i false, (0 ≤ r.sb ∧ r.sb ≤ 16) ∧ 0 ≤ r.db ∧ r.db ≤ 16) := hide (fun r hr => hR r (List.mem_filter.1 hr).1)
 have HS1 := hide hS1
 have HS2 := hide hS2
 have HP := hide hP
 have hr1 : (rulesB A x.i true).length ≤ 1000 := Nat.le_trans (rules_len A x.i true) hlA
 have hr2 : (rulesB A x.i false).length ≤ 1000 := Nat.le_trans (rules_len A x.i false) hlA
 have HSW : Hid (switchFl S P A x ch = askFl P x ch ++ ruleFl (acSort (rulesB A x.i true)) x.i 2 3 ++ bridgeFl P x ++ routeFl S P x ++ ruleFl (acSort (rulesB A x.i false)) x.i 4 5) := rfl
 have HL1 := hide (ask_len P x ch)
 have HL2 : Hid ((ruleFl (acSort (rulesB A x.i true)) x.i 2 3).length ≤ 1001) := by
  refine hide ?_
  rw [rule_len, acSort_len]; omega
 have HL3 := hide (bridge_len P x)
 have HL4 := hide (route_len S P x)
 have HL5 : Hid ((ruleFl (acSort (rulesB A x.i false)) x.i 4 5).length ≤ 1001) := by
  refine hide ?_
  rw [rule_len, acSort_len]; omega
 go_enter Tryz.func33, Tryz.ntmps33
 go_wp2_with fail
 obtain ⟨W0, hW⟩ : ∃ W0, W0 = w.alloc (.cells #[.slice s1 S.length s2, .slice p1 P.length p2, .slice a1 A.length a2] 29) := ⟨_, rfl⟩
 rw [← hW]
 obtain ⟨cb, hblk⟩ : ∃ cb, cb = w.heap.size := ⟨_, rfl⟩
 have k0 : W0.cell? ⟨cb, 0, none⟩ = some (.slice s1 S.length s2) := by rw [hW, hblk]; exact new_cell w _ rfl _ _ _ _ rfl
 have k1 : W0.cell? ⟨cb, 1, none⟩ = some (.slice p1 P.length p2) := by rw [hW, hblk]; exact new_cell w _ rfl _ _ _ _ rfl
 have k2 : W0.cell? ⟨cb, 2, none⟩ = some (.slice a1 A.length a2) := by rw [hW, hblk]; exact new_cell w _ rfl _ _ _ _ rfl
 have hbN : Below w.heap.size w W0 := by rw [hW]; exact alloc_below _ _
 have hzW0 : W0.heap.size = cb + 1 := by rw [hW, hblk]; simp
 have hcbl : w.heap.size ≤ cb := by omega
 rw [← hblk]
 clear hW hblk
 have HB := hbN
 clear hbN
 obtain ⟨W1, hW⟩ : ∃ W1, W1 = W0.alloc (.cells #[.int .i64 x.i, .int .i64 x.t, .int .i64 x.g] 59) := ⟨_, rfl⟩
 rw [← hW]
 obtain ⟨sb, hblk⟩ : ∃ sb, sb = cb + 1 := ⟨_, rfl⟩
 have d0 : W1.cell? ⟨sb, 0, none⟩ = some (.int .i64 x.i) := by rw [hW, hblk]; exact new_cell W0 _ hzW0 _ _ _ _ rfl
 have d1 : W1.cell? ⟨sb, 1, none⟩ = some (.int .i64 x.t) := by rw [hW, hblk]; exact new_cell W0 _ hzW0 _ _ _ _ rfl
 have d2 : W1.cell? ⟨sb, 2, none⟩ = some (.int .i64 x.g) := by rw [hW, hblk]; exact new_cell W0 _ hzW0 _ _ _ _ rfl
 have hbN : Below W0.heap.size W0 W1 := by rw [hW]; exact alloc_below _ _
 have hzW1 : W1.heap.size = sb + 1 := by rw [hW, hblk]; simp [hzW0]
 have hsbl : cb < sb := by omega
 rw [← hblk]
 clear hW hblk hzW0
 replace k0 := zC k0 hbN
 replace k1 := zC k1 hbN
 replace k2 := zC k2 hbN
 replace HB := tm HB hbN
 clear hbN hzW1
 have hs0_1 := HB.size
 refine wp_region_held_drew (S := (fun w' => w'.cell? ⟨cb, 0, none⟩ = some (.slice s1 S.length s2) ∧ w'.cell? ⟨cb, 1, none⟩ = some (.slice p1 P.length p2) ∧ w'.cell? ⟨cb, 2, none⟩ = some (.slice a1 A.length a2) ∧ w'.cell? ⟨sb, 0, none⟩ = some (.int .i64 x.i) ∧ w'.cell? ⟨sb, 1, none⟩ = some (.int .i64 x.t) ∧ w'.cell? ⟨sb, 2, none⟩ = some (.int .i64 x.g))) (by kernel_rfl) ⟨k0, k1, k2, d0, d1, d2⟩ (fun hHeld => ?_)
 have HDW : Below W1.heap.size W1 W1.drew := (Below.refl _ _).drew
 have hs1 := HDW.size
 replace k0 := zC k0 HDW
 replace k1 := zC k1 HDW
 replace k2 := zC k2 HDW
 replace d0 := zC d0 HDW
 replace d1 := zC d1 HDW
 replace d2 := zC d2 HDW
 replace HB := tm HB HDW
 clear HDW
 generalize W1.drew = V2 at *
 refine tk (i := 0) (d := 7) rfl (by kernel_rfl) (fun _ _ _ h => h) rfl ‹_› (by intro w h; (try dsimp only at h); go_simp <;> with_reducible rfl) ?_
 simp only [nz]
 refine tk (i := 1) (d := 8) rfl (by kernel_rfl) (fun _ _ _ h => h) rfl ‹_› (by intro w h; (try dsimp only at h); go_simp <;> with_reducible rfl) ?_
 simp only [nz]
 refine tk (i := 2) (d := 9) rfl (by kernel_rfl) (fun _ _ _ h => h) rfl ‹_› (by intro w h; (try dsimp only at h); go_simp <;> with_reducible rfl) ?_
 simp only [nz]
 refine tk (i := 4) (d := 11) rfl (by kernel_rfl) (fun _ _ _ h => h) rfl ‹_› (by intro w h; (try dsimp only at h); go_simp <;> with_reducible rfl) ?_
 simp only [nz]
 refine tk (i := 5) (d := 12) rfl (by kernel_rfl) (fun _ _ _ h => h) rfl ‹_› (by intro w h; (try dsimp only at h); go_simp <;> with_reducible rfl) ?_
 simp only [nz]
 refine tk (i := 7) (d := 14) rfl (by kernel_rfl) (fun _ _ _ h => h) rfl ‹_› (by intro w h; (try dsimp only at h); go_simp <;> with_reducible rfl) ?_
 simp only [nz]
 refine tk (i := 9) (d := 16) rfl (by kernel_rfl) (fun _ _ _ h => h) rfl ‹_› (by intro w h; (try dsimp only at h); go_simp <;> with_reducible rfl) ?_
 simp only [nz]
 refine tk (i := 10) (d := 17) rfl (by kernel_rfl) (fun _ _ _ h => h) rfl ‹_› (by intro w h; (try dsimp only at h); go_simp <;> with_reducible rfl) ?_
 simp only [nz]
 refine tk (i := 12) (d := 19) rfl (by kernel_rfl) (fun _ _ _ h => h) rfl ‹_› (by intro w h; (try dsimp only at h); go_simp <;> with_reducible rfl) ?_
 simp only [nz]
 refine tk (i := 13) (d := 20) rfl (by kernel_rfl) (fun _ _ _ h => h) rfl ‹_› (by intro w h; (try dsimp only at h); go_simp <;> with_reducible rfl) ?_
 simp only [nz]
 refine tk (i := 15) (d := 22) rfl (by kernel_rfl) (fun _ _ _ h => h) rfl ‹_› (by intro w h; (try dsimp only at h); go_simp <;> with_reducible rfl) ?_
 simp only [nz]
 refine tk (i := 16) (d := 23) rfl (by kernel_rfl) (fun _ _ _ h => h) rfl ‹_› (by intro w h; (try dsimp only at h); go_simp <;> with_reducible rfl) ?_
 simp only [nz]
 refine tk (i := 18) (d := 25) rfl (by kernel_rfl) (fun _ _ _ h => h) rfl ‹_› (by intro w h; (try dsimp only at h); go_simp <;> with_reducible rfl) ?_
 simp only [nz]
 refine rd (i := 3) (o := ⟨some 10, _, _, _, _, _⟩) (by kernel_rfl) rfl (fun K hK => ?_)
 go_simp
 clear hHeld
 have HBold := HB.size
 refine (askFlows_any S P A s1 p1 a1 s2 p2 a2 x ch _ (HC.out.below HB (Nat.le_refl _)) hl hx0 hx1).mono ?_
 rintro e V3 ⟨u, rfl, hfr, hb3⟩
 have hs4 := hb3.size
 replace k0 := zC k0 hb3
 replace k1 := zC k1 hb3
 replace k2 := zC k2 hb3
 replace d0 := zC d0 hb3
 replace d1 := zC d1 hb3
 replace d2 := zC d2 hb3
 replace HB := tm HB hb3
 obtain ⟨fo1, fc1, rfl⟩ := hfr.slc
 have HF1 := hide (hfr.less HBold)
 clear hfr HBold
 clear hb3
 refine hK.out _ _ ⟨k0, k1, k2, d0, d1, d2⟩ (fun hHeld => ?_)
 clear hK K
 (try simp only [nz])
 refine rd (i := 6) (o := ⟨some 13, _, _, _, _, _⟩) (by kernel_rfl) rfl (fun K hK => ?_)
 go_simp
 clear hHeld
 have k0_r := k0
 have k1_r := k1
 have k2_r := k2
 have d0_r := d0
 have d1_r := d1
 have d2_r := d2
 have HF1_r := HF1
 have HBr := HB
 refine (rulesOf_any S P A s1 p1 a1 s2 p2 a2 x true _ (HC.out.below HB (Nat.le_refl _)) hlA).mono ?_
 rintro e V5 ⟨u, rfl, hor, hb5⟩
 have hs6 := hb5.size
 replace k0 := zC k0 hb5
 replace k1 := zC k1 hb5
 replace k2 := zC k2 hb5
 replace d0 := zC d0 hb5
 replace d1 := zC d1 hb5
 replace d2 := zC d2 hb5
 replace HF1 := hide (HF1.out.below hb5 (Nat.le_refl _))
 replace HB := tm HB hb5
 obtain ⟨ro1, rc1, rfl⟩ := own_slc hor
 have HRW := hide hor
 have HBR := hide hb5
 clear hor
 clear hb5
 refine hK.out _ _ ⟨k0, k1, k2, d0, d1, d2⟩ (fun hHeld => ?_)
 clear hK K
 (try simp only [nz])
 refine rd (i := 8) (o := ⟨some 15, _, _, _, _, _⟩) (by kernel_rfl) rfl (fun K hK => ?_)
 go_simp
 clear hHeld
 have HBold := HB.size
 refine (ruleFlows_any (rulesB A x.i true) x 2 3 _ V3.heap.size V5 HRW.out HBR.out.size HS1.out HR1.out hr1).mono ?_
 rintro e V7 ⟨u, rfl, hfr, hbq⟩
 have hbX : Below V3.heap.size V3 V7 := HBR.out.trans hbq
 replace k0 := cell_beh k0_r hbX (Nat.le_refl _)
 replace k1 := cell_beh k1_r hbX (Nat.le_refl _)
 replace k2 := cell_beh k2_r hbX (Nat.le_refl _)
 replace d0 := cell_beh d0_r hbX (Nat.le_refl _)
 replace d1 := cell_beh d1_r hbX (Nat.le_refl _)
 replace d2 := cell_beh d2_r hbX (Nat.le_refl _)
 replace HF1 := hide (HF1_r.out.below hbX (Nat.le_refl _))
 replace HB := HBr.trans (hbX.mono HBr.size)
 obtain ⟨fo2, fc2, rfl⟩ := hfr.slc
 have HF2 := hide (hfr.less HBold)
 clear hfr HBold hbq hbX HBR HBr HRW k0_r k1_r k2_r d0_r d1_r d2_r HF1_r
 refine hK.out _ _ ⟨k0, k1, k2, d0, d1, d2⟩ (fun hHeld => ?_)
 clear hK K
 (try simp only [nz])
 refine rd (i := 11) (o := ⟨some 18, _, _, _, _, _⟩) (by kernel_rfl) rfl (fun K hK => ?_)
 go_simp
 clear hHeld
 have HBold := HB.size
 refine (bridgeFlows_any S P A s1 p1 a1 s2 p2 a2 x _ (HC.out.below HB (Nat.le_refl _)) hl hx0 hx1).mono ?_
 rintro e V8 ⟨u, rfl, hfr, hb8⟩
 have hs9 := hb8.size
 replace k0 := zC k0 hb8
 replace k1 := zC k1 hb8
 replace k2 := zC k2 hb8
 replace d0 := zC d0 hb8
 replace d1 := zC d1 hb8
 replace d2 := zC d2 hb8
 replace HF1 := hide (HF1.out.below hb8 (Nat.le_refl _))
 replace HF2 := hide (HF2.out.below hb8 (Nat.le_refl _))
 replace HB := tm HB hb8
 obtain ⟨fo3, fc3, rfl⟩ := hfr.slc
 have HF3 := hide (hfr.less HBold)
 clear hfr HBold
 clear hb8
 refine hK.out _ _ ⟨k0, k1, k2, d0, d1, d2⟩ (fun hHeld => ?_)
 clear hK K
 (try simp only [nz])
 refine rd (i := 14) (o := ⟨some 21, _, _, _, _, _⟩) (by kernel_rfl) rfl (fun K hK => ?_)
 go_simp
 clear hHeld
 have HBold := HB.size
 refine (routeFlows_any S P A s1 p1 a1 s2 p2 a2 x _ (HC.out.below HB (Nat.le_refl _)) hl hx0 hx1 HP.out hlS).mono ?_
 rintro e V10 ⟨u, rfl, hfr, hb10⟩
 have hs11 := hb10.size
 replace k0 := zC k0 hb10
 replace k1 := zC k1 hb10
 replace k2 := zC k2 hb10
 replace d0 := zC d0 hb10
 replace d1 := zC d1 hb10
 replace d2 := zC d2 hb10
 replace HF1 := hide (HF1.out.below hb10 (Nat.le_refl _))
 replace HF2 := hide (HF2.out.below hb10 (Nat.le_refl _))
 replace HF3 := hide (HF3.out.below hb10 (Nat.le_refl _))
 replace HB := tm HB hb10
 obtain ⟨fo4, fc4, rfl⟩ := hfr.slc
 have HF4 := hide (hfr.less HBold)
 clear hfr HBold
 clear hb10
 refine hK.out _ _ ⟨k0, k1, k2, d0, d1, d2⟩ (fun hHeld => ?_)
 clear hK K
 (try simp only [nz])
 refine rd (i := 17) (o := ⟨some 24, _, _, _, _, _⟩) (by kernel_rfl) rfl (fun K hK => ?_)
 go_simp
 clear hHeld
 have k0_r := k0
 have k1_r := k1
 have k2_r := k2
 have d0_r := d0
 have d1_r := d1
 have d2_r := d2
 have HF1_r := HF1
 have HF2_r := HF2
 have HF3_r := HF3
 have HF4_r := HF4
 have HBr := HB
 refine (rulesOf_any S P A s1 p1 a1 s2 p2 a2 x false _ (HC.out.below HB (Nat.le_refl _)) hlA).mono ?_
 rintro e V12 ⟨u, rfl, hor, hb12⟩
 have hs13 := hb12.size
 replace k0 := zC k0 hb12
 replace k1 := zC k1 hb12
 replace k2 := zC k2 hb12
 replace d0 := zC d0 hb12
 replace d1 := zC d1 hb12
 replace d2 := zC d2 hb12
 replace HF1 := hide (HF1.out.below hb12 (Nat.le_refl _))
 replace HF2 := hide (HF2.out.below hb12 (Nat.le_refl _))
 replace HF3 := hide (HF3.out.below hb12 (Nat.le_refl _))
 replace HF4 := hide (HF4.out.below hb12 (Nat.le_refl _))
 replace HB := tm HB hb12
 obtain ⟨ro2, rc2, rfl⟩ := own_slc hor
 have HRW := hide hor
 have HBR := hide hb12
 clear hor
 clear hb12
 refine hK.out _ _ ⟨k0, k1, k2, d0, d1, d2⟩ (fun hHeld => ?_)
 clear hK K
 (try simp only [nz])
 refine rd (i := 19) (o := ⟨some 26, _, _, _, _, _⟩) (by kernel_rfl) rfl (fun K hK => ?_)
 go_simp
 clear hHeld
 have HBold := HB.size
 refine (ruleFlows_any (rulesB A x.i false) x 4 5 _ V10.heap.size V12 HRW.out HBR.out.size HS2.out HR2.out hr2).mono ?_
 rintro e V14 ⟨u, rfl, hfr, hbq⟩
 have hbX : Below V10.heap.size V10 V14 := HBR.out.trans hbq
 replace k0 := cell_beh k0_r hbX (Nat.le_refl _)
 replace k1 := cell_beh k1_r hbX (Nat.le_refl _)
 replace k2 := cell_beh k2_r hbX (Nat.le_refl _)
 replace d0 := cell_beh d0_r hbX (Nat.le_refl _)
 replace d1 := cell_beh d1_r hbX (Nat.le_refl _)
 replace d2 := cell_beh d2_r hbX (Nat.le_refl _)
 replace HF1 := hide (HF1_r.out.below hbX (Nat.le_refl _))
 replace HF2 := hide (HF2_r.out.below hbX (Nat.le_refl _))
 replace HF3 := hide (HF3_r.out.below hbX (Nat.le_refl _))
 replace HF4 := hide (HF4_r.out.below hbX (Nat.le_refl _))
 replace HB := HBr.trans (hbX.mono HBr.size)
 obtain ⟨fo5, fc5, rfl⟩ := hfr.slc
 have HF5 := hide (hfr.less HBold)
 clear hfr HBold hbq hbX HBR HBr HRW k0_r k1_r k2_r d0_r d1_r d2_r HF1_r HF2_r HF3_r HF4_r
 refine hK.out _ _ ⟨k0, k1, k2, d0, d1, d2⟩ (fun hHeld => ?_)
 clear hK K
 (try simp only [nz])
 refine rd (i := 20) (o := ⟨some 27, _, _, _, _, _⟩) (by kernel_rfl) rfl (fun K hK => ?_)
 go_simp
 clear hHeld
 refine alloc_step (fun V15 g15 hV hg => ?_)
 rw [← hg]
 have hbN := bn hV
 have hg15 : V14.heap.size ≤ g15 := by omega
 have hl15 := ln hV hg
 have q0 : V15.cell? ⟨g15, 0, none⟩ = some (.slice fo1 (askFl P x ch).length fc1) := by rw [hV, hg]; exact new_cell V14 _ rfl _ _ _ _ rfl
 have q1 : V15.cell? ⟨g15, 1, none⟩ = some (.slice fo2 (ruleFl (acSort (rulesB A x.i true)) x.i 2 3).length fc2) := by rw [hV, hg]; exact new_cell V14 _ rfl _ _ _ _ rfl
 have q2 : V15.cell? ⟨g15, 2, none⟩ = some (.slice fo3 (bridgeFl P x).length fc3) := by rw [hV, hg]; exact new_cell V14 _ rfl _ _ _ _ rfl
 have q3 : V15.cell? ⟨g15, 3, none⟩ = some (.slice fo4 (routeFl S P x).length fc4) := by rw [hV, hg]; exact new_cell V14 _ rfl _ _ _ _ rfl
 have q4 : V15.cell? ⟨g15, 4, none⟩ = some (.slice fo5 (ruleFl (acSort (rulesB A x.i false)) x.i 4 5).length fc5) := by rw [hV, hg]; exact new_cell V14 _ rfl _ _ _ _ rfl
 have hs16 := hbN.size
 replace k0 := zC k0 hbN
 replace k1 := zC k1 hbN
 replace k2 := zC k2 hbN
 replace d0 := zC d0 hbN
 replace d1 := zC d1 hbN
 replace d2 := zC d2 hbN
 replace HF1 := hide (HF1.out.below hbN (Nat.le_refl _))
 replace HF2 := hide (HF2.out.below hbN (Nat.le_refl _))
 replace HF3 := hide (HF3.out.below hbN (Nat.le_refl _))
 replace HF4 := hide (HF4.out.below hbN (Nat.le_refl _))
 replace HF5 := hide (HF5.out.below hbN (Nat.le_refl _))
 replace HB := tm HB hbN
 clear hV hg hbN
 refine hK.out _ _ ⟨k0, k1, k2, d0, d1, d2⟩ (fun hHeld => ?_)
 clear hK K
 (try simp only [nz])
 refine rd (i := 21) (o := ⟨some 28, _, _, _, _, _⟩) (by kernel_rfl) rfl (fun K hK => ?_)
 go_simp
 clear hHeld
 obtain ⟨lo1, hm1, hll1, hsr1, hk1⟩ := HF1.out.src
 obtain ⟨lo2, hm2, hll2, hsr2, hk2⟩ := HF2.out.src
 obtain ⟨lo3, hm3, hll3, hsr3, hk3⟩ := HF3.out.src
 obtain ⟨lo4, hm4, hll4, hsr4, hk4⟩ := HF4.out.src
 obtain ⟨lo5, hm5, hll5, hsr5, hk5⟩ := HF5.out.src
 have hq1 := HL1.out
 have hq2 := HL2.out
 have hq3 := HL3.out
 have hq4 := HL4.out
 have hq5 := HL5.out
 refine (concatFs_any [((.slice fo1 (askFl P x ch).length fc1 : Value), lo1.length, C lo1), ((.slice fo2 (ruleFl (acSort (rulesB A x.i true)) x.i 2 3).length fc2 : Value), lo2.length, C lo2), ((.slice fo3 (bridgeFl P x).length fc3 : Value), lo3.length, C lo3), ((.slice fo4 (routeFl S P x).length fc4 : Value), lo4.length, C lo4), ((.slice fo5 (ruleFl (acSort (rulesB A x.i false)) x.i 4 5).length fc5 : Value), lo5.length, C lo5)] g15 5 V15 (fun j hj => match j, hj with | 0, _ => q0 | 1, _ => q1 | 2, _ => q2 | 3, _ => q3 | 4, _ => q4 | j + 5, h => absurd h (by simp)) (in5 hsr1 hsr2 hsr3 hsr4 hsr5) (by exact (show (5 : Nat) ≤ 10 by decide)) (by exact (show (5 : Nat) ≤ 5 by decide)) (in5 (show lo1.length ≤ 100000 by omega) (show lo2.length ≤ 100000 by omega) (show lo3.length ≤ 100000 by omega) (show lo4.length ≤ 100000 by omega) (show lo5.length ≤ 100000 by omega))).mono ?_
 rintro e V17 ⟨u, rfl, hor, hbq⟩
 have HE : Hid (FR V17 w.heap.size u (switchFl S P A x ch)) := by
  have := FR.cat (lo := lo1 ++ lo2 ++ lo3 ++ lo4 ++ lo5) (fun y hy => ?_) hor (by simp [cat, C_append]) (by simp [cnt] <;> omega) hbq HB.size
  ·rw [HSW.out, ← hm1, ← hm2, ← hm3, ← hm4, ← hm5]
   simpa using hide this
  ·simp only [List.mem_append] at hy
   rcases hy with (((h | h) | h) | h) | h
   ·exact ⟨_, hk1 y h⟩
   ·exact ⟨_, hk2 y h⟩
   ·exact ⟨_, hk3 y h⟩
   ·exact ⟨_, hk4 y h⟩
   ·exact ⟨_, hk5 y h⟩
 replace k0 := zC k0 hbq
 replace k1 := zC k1 hbq
 replace k2 := zC k2 hbq
 replace d0 := zC d0 hbq
 replace d1 := zC d1 hbq
 replace d2 := zC d2 hbq
 replace HB := tm HB hbq
 obtain ⟨eo, ec, rfl⟩ := HE.out.slc
 clear hor hbq HF1 HF2 HF3 HF4 HF5 hm1 hll1 hsr1 hk1 hq1 hm2 hll2 hsr2 hk2 hq2 hm3 hll3 hsr3 hk3 hq3 hm4 hll4 hsr4 hk4 hq4 hm5 hll5 hsr5 hk5 hq5 q0 q1 q2 q3 q4
 refine hK.out _ _ ⟨k0, k1, k2, d0, d1, d2⟩ (fun hHeld => ?_)
 clear hK K
 (try simp only [nz])
 refine tk (i := 22) (d := 6) rfl (by kernel_rfl) (fun _ _ _ h => h) rfl ‹_› (by intro w h; (try dsimp only at h); go_simp <;> with_reducible rfl) ?_
 simp only [nz]
 refine wpAnyH_done (by kernel_rfl) ?_ _
 clear hHeld
 go_wp2_with fail
 go_ret
 exact ⟨_, rfl, HE.out, HB⟩
end Go.Proofs.YtncdininppehkaaGreat

namespace Go.Proofs.YtncdininppehkaaGreat
open Go.Shelf
set_option maxRecDepth 100000
def Tryz.sortFl_ren : Go.Shelf.Ren := ⟨fun | 6 => 92 | 15 => 136 | 14 => 135 | 28 => 171 | 29 => 172 | 20 => 163 | 21 => 164 | 22 => 165 | 23 => 166 | 24 => 167 | 25 => 168 | 26 => 169 | 27 => 170 | 46 => 193 | 47 => 194 | 48 => 195 | 49 => 196 | 50 => 197 | 57 => 207 | n => n, fun | 22 => 31 | 24 => 90 | 25 => 100 | 3 => 3 | 39 => 182 | 0 => 0 | 53 => 208 | 55 => 210 | 4 => 4 | 46 => 201 | 45 => 200 | 50 => 205 | 5 => 5 | 9 => 9 | 66 => 226 | 70 => 230 | 76 => 239 | 77 => 240 | n => n, fun | n => n⟩
theorem Tryz.sortFl : Go.Proofs.SlLaysF0.n6 Tryz.prog Tryz.sortFl_ren := {
 mixed := by kernel_rfl
 f6 := ⟨Tryz.f92.name, by decide, Tryz.func92.trans (congrArg some (by kernel_rfl))⟩
 f14 := ⟨Tryz.f135.name, by decide, Tryz.func135.trans (congrArg some (by kernel_rfl))⟩
 f15 := Tryz.func136.trans (congrArg some (by kernel_rfl))
 f20 := ⟨Tryz.f163.name, by decide, Tryz.func163.trans (congrArg some (by kernel_rfl))⟩
 f21 := ⟨Tryz.f164.name, by decide, Tryz.func164.trans (congrArg some (by kernel_rfl))⟩
 f22 := ⟨Tryz.f165.name, by decide, Tryz.func165.trans (congrArg some (by kernel_rfl))⟩
 f23 := ⟨Tryz.f166.name, by decide, Tryz.func166.trans (congrArg some (by kernel_rfl))⟩
 f24 := ⟨Tryz.f167.name, by decide, Tryz.func167.trans (congrArg some (by kernel_rfl))⟩
 f25 := ⟨Tryz.f168.name, by decide, Tryz.func168.trans (congrArg some (by kernel_rfl))⟩
 f26 := ⟨Tryz.f169.name, by decide, Tryz.func169.trans (congrArg some (by kernel_rfl))⟩
 f27 := ⟨Tryz.f170.name, by decide, Tryz.func170.trans (congrArg some (by kernel_rfl))⟩
 f28 := Tryz.func171.trans (congrArg some (by kernel_rfl))
 f29 := Tryz.func172.trans (congrArg some (by kernel_rfl))
 f46 := ⟨Tryz.f193.name, by decide, Tryz.func193.trans (congrArg some (by kernel_rfl))⟩
 f47 := Tryz.func194.trans (congrArg some (by kernel_rfl))
 f48 := Tryz.func195.trans (congrArg some (by kernel_rfl))
 f49 := ⟨Tryz.f196.name, by decide, Tryz.func196.trans (congrArg some (by kernel_rfl))⟩
 f50 := ⟨Tryz.f197.name, by decide, Tryz.func197.trans (congrArg some (by kernel_rfl))⟩
 f57 := ⟨Tryz.f207.name, by decide, Tryz.func207.trans (congrArg some (by kernel_rfl))⟩
 t0 := Tryz.underlying0
 a0 := Tryz.isAgg0
 z0 := Tryz.sizeOf0
 v0 := Tryz.zeroValue0
 t3 := Tryz.underlying3
 a3 := Tryz.isAgg3
 z3 := Tryz.sizeOf3
 v3 := Tryz.zeroValue3
 t4 := Tryz.underlying4
 a4 := Tryz.isAgg4
 z4 := Tryz.sizeOf4
 v4 := Tryz.zeroValue4
 t5 := Tryz.underlying5
 a5 := Tryz.isAgg5
 z5 := Tryz.sizeOf5
 v5 := Tryz.zeroValue5
 t9 := Tryz.underlying9
 a9 := Tryz.isAgg9
 z9 := Tryz.sizeOf9
 v9 := Tryz.zeroValue9
 t22 := Tryz.underlying31
 a22 := Tryz.isAgg31
 z22 := Tryz.sizeOf31
 v22 := Tryz.zeroValue31
 t25 := Tryz.underlying100
 a25 := Tryz.isAgg100
 z25 := Tryz.sizeOf100
 v25 := Tryz.zeroValue100
 t39 := Tryz.underlying182
 a39 := Tryz.isAgg182
 z39 := Tryz.sizeOf182
 v39 := Tryz.zeroValue182
 t45 := Tryz.underlying200
 a45 := Tryz.isAgg200
 z45 := Tryz.sizeOf200
 v45 := Tryz.zeroValue200
 t46 := Tryz.underlying201
 a46 := Tryz.isAgg201
 z46 := Tryz.sizeOf201
 v46 := Tryz.zeroValue201
 t50 := Tryz.underlying205
 a50 := Tryz.isAgg205
 z50 := Tryz.sizeOf205
 v50 := Tryz.zeroValue205
 t53 := Tryz.underlying208
 a53 := Tryz.isAgg208
 z53 := Tryz.sizeOf208
 v53 := Tryz.zeroValue208
 t55 := Tryz.underlying210
 a55 := Tryz.isAgg210
 z55 := Tryz.sizeOf210
 v55 := Tryz.zeroValue210
 t66 := Tryz.underlying226
 a66 := Tryz.isAgg226
 z66 := Tryz.sizeOf226
 v66 := Tryz.zeroValue226
 t70 := Tryz.underlying230
 a70 := Tryz.isAgg230
 z70 := Tryz.sizeOf230
 v70 := Tryz.zeroValue230
 t76 := Tryz.underlying239
 a76 := Tryz.isAgg239
 z76 := Tryz.sizeOf239
 v76 := Tryz.zeroValue239
 t77 := Tryz.underlying240
 a77 := Tryz.isAgg240
 z77 := Tryz.sizeOf240
 v77 := Tryz.zeroValue240 }
end Go.Proofs.YtncdininppehkaaGreat

namespace Go.Proofs.YtncdininppehkaaGreat
open Go.RowKit
set_option linter.unusedVariables false
set_option maxRecDepth 100000
set_option maxHeartbeats 1000000 in
theorem places1_any (xt xp yt yp : Int) (xa ya xb yb : Option Addr) (xm xc ym yc xd xe yd ye : Nat) (w : World) :
  Calls Tryz.prog 80 #[.agg #[.int .i64 xt, .int .i64 xp, .slice xa xm xc, .slice xb xd xe], .agg #[.int .i64 yt, .int .i64 yp, .slice ya ym yc, .slice yb yd ye]] w fun e w' => e = .returned (.int .i64 (cmpI xt yt)) ∧ Grw w w' := by
 have H0 := hide (fun W => compare_any (xt) (yt) W)
 generalize cmpI xt yt = R at H0 ⊢
 go_enter Tryz.func80, Tryz.ntmps80
 go_wp2_with fail
 refine (unhide H0 _).mono ?_
 rintro e w1 ⟨rfl, rfl⟩
 go_wp2_with fail
 go_ret
 exact ⟨rfl, ((Grw.refl w).alloc _).alloc _⟩
set_option maxHeartbeats 1000000 in
theorem places2_any (xt xp yt yp : Int) (xa ya xb yb : Option Addr) (xm xc ym yc xd xe yd ye : Nat) (w : World) :
  Calls Tryz.prog 82 #[.agg #[.int .i64 xt, .int .i64 xp, .slice xa xm xc, .slice xb xd xe], .agg #[.int .i64 yt, .int .i64 yp, .slice ya ym yc, .slice yb yd ye]] w fun e w' => e = .returned (.int .i64 (cmpI yp xp)) ∧ Grw w w' := by
 have H0 := hide (fun W => compare_any (yp) (xp) W)
 generalize cmpI yp xp = R at H0 ⊢
 go_enter Tryz.func82, Tryz.ntmps82
 go_wp2_with fail
 refine (unhide H0 _).mono ?_
 rintro e w1 ⟨rfl, rfl⟩
 go_wp2_with fail
 go_ret
 exact ⟨rfl, ((Grw.refl w).alloc _).alloc _⟩
set_option maxHeartbeats 1000000 in
theorem places3_any (xt xp yt yp : Int) (xa ya xb yb : Option Addr) (xm xc ym yc xd xe yd ye : Nat) (w : World) :
  Calls Tryz.prog 83 #[.agg #[.int .i64 xt, .int .i64 xp, .slice xa xm xc, .slice xb xd xe], .agg #[.int .i64 yt, .int .i64 yp, .slice ya ym yc, .slice yb yd ye]] w fun e w' => e = .returned (.int .i64 (cmpI (xm : Int) (ym : Int))) ∧ Grw w w' := by
 have H0 := hide (fun W => compare_any ((xm : Int)) ((ym : Int)) W)
 generalize cmpI (xm : Int) (ym : Int) = R at H0 ⊢
 go_enter Tryz.func83, Tryz.ntmps83
 go_wp2_with fail
 refine (unhide H0 _).mono ?_
 rintro e w1 ⟨rfl, rfl⟩
 go_wp2_with fail
 go_ret
 exact ⟨rfl, ((Grw.refl w).alloc _).alloc _⟩
set_option maxHeartbeats 1000000 in
theorem places4_any (xt xp yt yp : Int) (xa ya xb yb : Option Addr) (xm xc ym yc xd xe yd ye : Nat) (w : World) :
  Calls Tryz.prog 84 #[.agg #[.int .i64 xt, .int .i64 xp, .slice xa xm xc, .slice xb xd xe], .agg #[.int .i64 yt, .int .i64 yp, .slice ya ym yc, .slice yb yd ye]] w fun e w' => e = .returned (.int .i64 (cmpI (xd : Int) (yd : Int))) ∧ Grw w w' := by
 have H0 := hide (fun W => compare_any ((xd : Int)) ((yd : Int)) W)
 generalize cmpI (xd : Int) (yd : Int) = R at H0 ⊢
 go_enter Tryz.func84, Tryz.ntmps84
 go_wp2_with fail
 refine (unhide H0 _).mono ?_
 rintro e w1 ⟨rfl, rfl⟩
 go_wp2_with fail
 go_ret
 exact ⟨rfl, ((Grw.refl w).alloc _).alloc _⟩
set_option maxHeartbeats 1000000 in
theorem places5_any (x y : Fl) (xa ya xb yb : Option Addr) (xc yc xe ye : Nat) (w : World) (hx : MsAt w (.slice xa x.ms.length xc) x.ms) (hy : MsAt w (.slice ya y.ms.length yc) y.ms) (hl : x.ms.length ≤ 2000000) (hl2 : y.ms.length ≤ 2000000) :
  Calls Tryz.prog 85 #[.agg #[.int .i64 x.t, .int .i64 x.p, .slice xa x.ms.length xc, .slice xb x.ds.length xe], .agg #[.int .i64 y.t, .int .i64 y.p, .slice ya y.ms.length yc, .slice yb y.ds.length ye]] w fun e w' => e = .returned (.int .i64 (lexM x.ms y.ms)) ∧ Grw w w' := by
 have HX := hide hx
 have HY := hide hy
 have HC : Hid (∀ W : World, Below w.heap.size w W → Calls Tryz.prog 86 #[.slice xa x.ms.length xc, .slice ya y.ms.length yc, .func (.func 87) #[] #[]] W fun e w' => e = .returned (.int .i64 (lexM x.ms y.ms)) ∧ Grw W w') := fun W hW => compareFuncMs_any _ _ _ _ W (HX.out.below hW (Nat.le_refl _)) (HY.out.below hW (Nat.le_refl _)) hl hl2
 clear hx hy HX HY
 generalize lexM x.ms y.ms = R at HC ⊢
 have hA : Grw w ((w.alloc (.cells #[.int .i64 x.t, .int .i64 x.p, .slice xa x.ms.length xc, .slice xb x.ds.length xe] 90)).alloc (.cells #[.int .i64 y.t, .int .i64 y.p, .slice ya y.ms.length yc, .slice yb y.ds.length ye] 90)) := ((Grw.refl w).alloc _).alloc _
 go_enter Tryz.func85, Tryz.ntmps85
 go_wp2_with fail
 refine (unhide HC _ hA.below).mono ?_
 rintro e w1 ⟨rfl, hg1⟩
 have hg := hA.trans hg1
 go_wp2_with fail
 go_ret
 exact ⟨rfl, hg⟩
set_option maxHeartbeats 1000000 in
theorem places6_any (x y : Fl) (xa ya xb yb : Option Addr) (xc yc xe ye : Nat) (w : World) (hx : DsAt w (.slice xb x.ds.length xe) x.ds) (hy : DsAt w (.slice yb y.ds.length ye) y.ds) (hl : x.ds.length ≤ 2000000) (hl2 : y.ds.length ≤ 2000000) :
  Calls Tryz.prog 88 #[.agg #[.int .i64 x.t, .int .i64 x.p, .slice xa x.ms.length xc, .slice xb x.ds.length xe], .agg #[.int .i64 y.t, .int .i64 y.p, .slice ya y.ms.length yc, .slice yb y.ds.length ye]] w fun e w' => e = .returned (.int .i64 (lexD x.ds y.ds)) ∧ Grw w w' := by
 have HX := hide hx
 have HY := hide hy
 have HC : Hid (∀ W : World, Below w.heap.size w W → Calls Tryz.prog 89 #[.slice xb x.ds.length xe, .slice yb y.ds.length ye, .func (.func 90) #[] #[]] W fun e w' => e = .returned (.int .i64 (lexD x.ds y.ds)) ∧ Grw W w') := fun W hW => compareFuncDs_any _ _ _ _ W (HX.out.below hW (Nat.le_refl _)) (HY.out.below hW (Nat.le_refl _)) hl hl2
 clear hx hy HX HY
 generalize lexD x.ds y.ds = R at HC ⊢
 have hA : Grw w ((w.alloc (.cells #[.int .i64 x.t, .int .i64 x.p, .slice xa x.ms.length xc, .slice xb x.ds.length xe] 90)).alloc (.cells #[.int .i64 y.t, .int .i64 y.p, .slice ya y.ms.length yc, .slice yb y.ds.length ye] 90)) := ((Grw.refl w).alloc _).alloc _
 go_enter Tryz.func88, Tryz.ntmps88
 go_wp2_with fail
 refine (unhide HC _ hA.below).mono ?_
 rintro e w1 ⟨rfl, hg1⟩
 have hg := hA.trans hg1
 go_wp2_with fail
 go_ret
 exact ⟨rfl, hg⟩
def OrdAt (w : World) (g : Nat) : Prop := ∃ q, w.cell? ⟨g, 0, none⟩ = some (.slice (some ⟨q, 0, none⟩) 6 6) ∧ w.cell? ⟨q, 0, none⟩ = some (.func (.func 80) #[] #[]) ∧ w.cell? ⟨q, 1, none⟩ = some (.func (.func 82) #[] #[]) ∧ w.cell? ⟨q, 2, none⟩ = some (.func (.func 83) #[] #[])
 ∧ w.cell? ⟨q, 3, none⟩ = some (.func (.func 84) #[] #[]) ∧ w.cell? ⟨q, 4, none⟩ = some (.func (.func 85) #[] #[]) ∧ w.cell? ⟨q, 5, none⟩ = some (.func (.func 88) #[] #[])
theorem OrdAt.below {w w' : World} {g : Nat} (h : OrdAt w g) (hb : Below w.heap.size w w') : OrdAt w' g := by
 obtain ⟨q, h0, h1, h2, h3, h4, h5, h6⟩ := h
 exact ⟨q, cell_below h0 hb (Nat.le_refl _), cell_below h1 hb (Nat.le_refl _), cell_below h2 hb (Nat.le_refl _), cell_below h3 hb (Nat.le_refl _), cell_below h4 hb (Nat.le_refl _), cell_below h5 hb (Nat.le_refl _), cell_below h6 hb (Nat.le_refl _)⟩
def ordF (x y : Fl) : Int :=
 if cmpI x.t y.t ≠ 0 then cmpI x.t y.t else if cmpI y.p x.p ≠ 0 then cmpI y.p x.p else if cmpI (x.ms.length : Int) (y.ms.length : Int) ≠ 0 then cmpI (x.ms.length : Int) (y.ms.length : Int) else
 if cmpI (x.ds.length : Int) (y.ds.length : Int) ≠ 0 then cmpI (x.ds.length : Int) (y.ds.length : Int) else if lexM x.ms y.ms ≠ 0 then lexM x.ms y.ms else lexD x.ds y.ds
set_option maxHeartbeats 8000000 in
theorem order_any (x y : Fl) (xa ya xb yb : Option Addr) (xc yc xe ye g : Nat) (w : World) (hO : OrdAt w g) (h1 : MsAt w (.slice xa x.ms.length xc) x.ms) (h2 : DsAt w (.slice xb x.ds.length xe) x.ds) (h3 : MsAt w (.slice ya y.ms.length yc) y.ms) (h4 : DsAt w (.slice yb y.ds.length ye) y.ds)
  (l1 : x.ms.length ≤ 2000000) (l2 : x.ds.length ≤ 2000000) (l3 : y.ms.length ≤ 2000000) (l4 : y.ds.length ≤ 2000000) :
  Calls Tryz.prog 132 #[.agg #[.int .i64 x.t, .int .i64 x.p, .slice xa x.ms.length xc, .slice xb x.ds.length xe], .agg #[.int .i64 y.t, .int .i64 y.p, .slice ya y.ms.length yc, .slice yb y.ds.length ye], .pointer (some ⟨g, 0, none⟩)] w fun e w' => e = .returned (.int .i64 (ordF x y)) ∧ Grw w w' := by
 have K1 := hide (fun W => places1_any x.t x.p y.t y.p xa ya xb yb x.ms.length xc y.ms.length yc x.ds.length xe y.ds.length ye W)
 have K2 := hide (fun W => places2_any x.t x.p y.t y.p xa ya xb yb x.ms.length xc y.ms.length yc x.ds.length xe y.ds.length ye W)
 have K3 := hide (fun W => places3_any x.t x.p y.t y.p xa ya xb yb x.ms.length xc y.ms.length yc x.ds.length xe y.ds.length ye W)
 have K4 := hide (fun W => places4_any x.t x.p y.t y.p xa ya xb yb x.ms.length xc y.ms.length yc x.ds.length xe y.ds.length ye W)
 have K5 := hide (fun W (hW : Below w.heap.size w W) => places5_any x y xa ya xb yb xc yc xe ye W (h1.below hW (Nat.le_refl _)) (h3.below hW (Nat.le_refl _)) l1 l3)
 have K6 := hide (fun W (hW : Below w.heap.size w W) => places6_any x y xa ya xb yb xc yc xe ye W (h2.below hW (Nat.le_refl _)) (h4.below hW (Nat.le_refl _)) l2 l4)
 clear h1 h2 h3 h4
 have HO : Hid (ordF x y = if cmpI x.t y.t ≠ 0 then cmpI x.t y.t else if cmpI y.p x.p ≠ 0 then cmpI y.p x.p else if cmpI (x.ms.length : Int) (y.ms.length : Int) ≠ 0 then cmpI (x.ms.length : Int) (y.ms.length : Int) else
  if cmpI (x.ds.length : Int) (y.ds.length : Int) ≠ 0 then cmpI (x.ds.length : Int) (y.ds.length : Int) else if lexM x.ms y.ms ≠ 0 then lexM x.ms y.ms else lexD x.ds y.ds) := rfl
 generalize ordF x y = R at *
 generalize cmpI x.t y.t = r1 at *
 generalize cmpI y.p x.p = r2 at *
 generalize cmpI (x.ms.length : Int) (y.ms.length : Int) = r3 at *
 generalize cmpI (x.ds.length : Int) (y.ds.length : Int) = r4 at *
 generalize lexM x.ms y.ms = r5 at *
 generalize lexD x.ds y.ds = r6 at *
 obtain ⟨q, o0, o1, o2, o3, o4, o5, o6⟩ := hO
 have hgl := cell_lt o0
 have hql := cell_lt o1
 go_enter Tryz.func132, Tryz.ntmps132
 go_wp2_with fail
 obtain ⟨W1, hW1⟩ : ∃ W1, W1 = (w.alloc (.cells #[.int .i64 x.t, .int .i64 x.p, .slice xa x.ms.length xc, .slice xb x.ds.length xe] 90)).alloc (.cells #[.int .i64 y.t, .int .i64 y.p, .slice ya y.ms.length yc, .slice yb y.ds.length ye] 90) := ⟨_, rfl⟩
 have hgW : Grw w W1 := by rw [hW1]; exact ((Grw.refl w).alloc _).alloc _
 have hbW := hgW.below
 have b0 : W1.cell? ⟨w.heap.size, 0, none⟩ = some (.int .i64 x.t) := by rw [hW1]; simp
 have b1 : W1.cell? ⟨w.heap.size, 1, none⟩ = some (.int .i64 x.p) := by rw [hW1]; simp
 have b2 : W1.cell? ⟨w.heap.size, 2, none⟩ = some (.slice xa x.ms.length xc) := by rw [hW1]; simp
 have b3 : W1.cell? ⟨w.heap.size, 3, none⟩ = some (.slice xb x.ds.length xe) := by rw [hW1]; simp
 have d0 : W1.cell? ⟨w.heap.size + 1, 0, none⟩ = some (.int .i64 y.t) := by
  rw [hW1]
  have e : w.heap.size + 1 = (w.alloc (.cells #[.int .i64 x.t, .int .i64 x.p, .slice xa x.ms.length xc, .slice xb x.ds.length xe] 90)).heap.size := by simp
  rw [e]; simp
 have d1 : W1.cell? ⟨w.heap.size + 1, 1, none⟩ = some (.int .i64 y.p) := by
  rw [hW1]
  have e : w.heap.size + 1 = (w.alloc (.cells #[.int .i64 x.t, .int .i64 x.p, .slice xa x.ms.length xc, .slice xb x.ds.length xe] 90)).heap.size := by simp
  rw [e]; simp
 have d2 : W1.cell? ⟨w.heap.size + 1, 2, none⟩ = some (.slice ya y.ms.length yc) := by
  rw [hW1]
  have e : w.heap.size + 1 = (w.alloc (.cells #[.int .i64 x.t, .int .i64 x.p, .slice xa x.ms.length xc, .slice xb x.ds.length xe] 90)).heap.size := by simp
  rw [e]; simp
 have d3 : W1.cell? ⟨w.heap.size + 1, 3, none⟩ = some (.slice yb y.ds.length ye) := by
  rw [hW1]
  have e : w.heap.size + 1 = (w.alloc (.cells #[.int .i64 x.t, .int .i64 x.p, .slice xa x.ms.length xc, .slice xb x.ds.length xe] 90)).heap.size := by simp
  rw [e]; simp
 replace o1 := cell_below o1 hbW (Nat.le_refl _)
 replace o2 := cell_below o2 hbW (Nat.le_refl _)
 replace o3 := cell_below o3 hbW (Nat.le_refl _)
 replace o4 := cell_below o4 hbW (Nat.le_refl _)
 replace o5 := cell_below o5 hbW (Nat.le_refl _)
 replace o6 := cell_below o6 hbW (Nat.le_refl _)
 rw [← hW1]
 clear hW1 o0
 go_loopw [11] (fun i wr => ∃ k : Nat, k ≤ 6 ∧ i = .int .i64 k ∧ Hid ((1 ≤ k → r1 = 0) ∧ (2 ≤ k → r2 = 0) ∧ (3 ≤ k → r3 = 0) ∧ (4 ≤ k → r4 = 0) ∧ (5 ≤ k → r5 = 0) ∧ (6 ≤ k → r6 = 0)) ∧ Grw W1 wr) (fun i _ => 6 - (intOf i).toNat)
 case atStart => exact ⟨0, by omega, rfl, hide ⟨fun h => absurd h (by omega), fun h => absurd h (by omega), fun h => absurd h (by omega), fun h => absurd h (by omega), fun h => absurd h (by omega), fun h => absurd h (by omega)⟩, Grw.refl _⟩
 case round =>
  obtain ⟨k, hk, rfl, HZ, hgr⟩ := hrel
  have hbr := hgr.below
  have hgw := hgW.trans hgr
  have hbw := hgw.below
  replace b0 := cell_below b0 hbr (Nat.le_refl _)
  replace b1 := cell_below b1 hbr (Nat.le_refl _)
  replace b2 := cell_below b2 hbr (Nat.le_refl _)
  replace b3 := cell_below b3 hbr (Nat.le_refl _)
  replace d0 := cell_below d0 hbr (Nat.le_refl _)
  replace d1 := cell_below d1 hbr (Nat.le_refl _)
  replace d2 := cell_below d2 hbr (Nat.le_refl _)
  replace d3 := cell_below d3 hbr (Nat.le_refl _)
  replace o1 := cell_below o1 hbr (Nat.le_refl _)
  replace o2 := cell_below o2 hbr (Nat.le_refl _)
  replace o3 := cell_below o3 hbr (Nat.le_refl _)
  replace o4 := cell_below o4 hbr (Nat.le_refl _)
  replace o5 := cell_below o5 hbr (Nat.le_refl _)
  replace o6 := cell_below o6 hbr (Nat.le_refl _)
  have hc : k = 0 ∨ k = 1 ∨ k = 2 ∨ k = 3 ∨ k = 4 ∨ k = 5 ∨ k = 6 := by omega
  rcases hc with rfl | rfl | rfl | rfl | rfl | rfl | rfl
  ·go_wp2_with fail
   refine (unhide K1 _).mono ?_
   rintro e w1 ⟨rfl, hg1⟩
   have hg2 := hgr.trans hg1
   have hg3 := hgw.trans hg1
   by_cases hr : r1 = 0
   ·have HZ2 : Hid ((1 ≤ 1 → r1 = 0) ∧ (2 ≤ 1 → r2 = 0) ∧ (3 ≤ 1 → r3 = 0) ∧ (4 ≤ 1 → r4 = 0) ∧ (5 ≤ 1 → r5 = 0) ∧ (6 ≤ 1 → r6 = 0)) := by
     obtain ⟨z1, z2, z3, z4, z5, z6⟩ := HZ.out
     exact hide ⟨fun _ => hr, fun h => absurd h (by omega), fun h => absurd h (by omega), fun h => absurd h (by omega), fun h => absurd h (by omega), fun h => absurd h (by omega)⟩
    rw [hr]
    clear HZ
    go_wp2_with fail
    go_roundw
    case rel => exact ⟨1, by omega, rfl, HZ2, hg2⟩
    case measure => simp [intOf]
   ·have HV : Hid (R = r1) := by
     obtain ⟨z1, z2, z3, z4, z5, z6⟩ := HZ.out
     show _ = _
     rw [HO.out, if_pos hr]
    clear HZ
    go_wp2_with fail
    go_ret
    exact ⟨int_ret HV.out.symm, hg3⟩
  ·go_wp2_with fail
   refine (unhide K2 _).mono ?_
   rintro e w1 ⟨rfl, hg1⟩
   have hg2 := hgr.trans hg1
   have hg3 := hgw.trans hg1
   by_cases hr : r2 = 0
   ·have HZ2 : Hid ((1 ≤ 2 → r1 = 0) ∧ (2 ≤ 2 → r2 = 0) ∧ (3 ≤ 2 → r3 = 0) ∧ (4 ≤ 2 → r4 = 0) ∧ (5 ≤ 2 → r5 = 0) ∧ (6 ≤ 2 → r6 = 0)) := by
     obtain ⟨z1, z2, z3, z4, z5, z6⟩ := HZ.out
     exact hide ⟨fun _ => z1 (by omega), fun _ => hr, fun h => absurd h (by omega), fun h => absurd h (by omega), fun h => absurd h (by omega), fun h => absurd h (by omega)⟩
    rw [hr]
    clear HZ
    go_wp2_with fail
    go_roundw
    case rel => exact ⟨2, by omega, rfl, HZ2, hg2⟩
    case measure => simp [intOf]
   ·have HV : Hid (R = r2) := by
     obtain ⟨z1, z2, z3, z4, z5, z6⟩ := HZ.out
     show _ = _
     rw [HO.out, if_neg (fun h => h (z1 (by omega))), if_pos hr]
    clear HZ
    go_wp2_with fail
    go_ret
    exact ⟨int_ret HV.out.symm, hg3⟩
  ·go_wp2_with fail
   refine (unhide K3 _).mono ?_
   rintro e w1 ⟨rfl, hg1⟩
   have hg2 := hgr.trans hg1
   have hg3 := hgw.trans hg1
   by_cases hr : r3 = 0
   ·have HZ2 : Hid ((1 ≤ 3 → r1 = 0) ∧ (2 ≤ 3 → r2 = 0) ∧ (3 ≤ 3 → r3 = 0) ∧ (4 ≤ 3 → r4 = 0) ∧ (5 ≤ 3 → r5 = 0) ∧ (6 ≤ 3 → r6 = 0)) := by
     obtain ⟨z1, z2, z3, z4, z5, z6⟩ := HZ.out
     exact hide ⟨fun _ => z1 (by omega), fun _ => z2 (by omega), fun _ => hr, fun h => absurd h (by omega), fun h => absurd h (by omega), fun h => absurd h (by omega)⟩
    rw [hr]
    clear HZ
    go_wp2_with fail
    go_roundw
    case rel => exact ⟨3, by omega, rfl, HZ2, hg2⟩
    case measure => simp [intOf]
   ·have HV : Hid (R = r3) := by
     obtain ⟨z1, z2, z3, z4, z5, z6⟩ := HZ.out
     show _ = _
     rw [HO.out, if_neg (fun h => h (z1 (by omega))), if_neg (fun h => h (z2 (by omega))), if_pos hr]
    clear HZ
    go_wp2_with fail
    go_ret
    exact ⟨int_ret HV.out.symm, hg3⟩
  ·go_wp2_with fail
   refine (unhide K4 _).mono ?_
   rintro e w1 ⟨rfl, hg1⟩
   have hg2 := hgr.trans hg1
   have hg3 := hgw.trans hg1
   by_cases hr : r4 = 0
   ·have HZ2 : Hid ((1 ≤ 4 → r1 = 0) ∧ (2 ≤ 4 → r2 = 0) ∧ (3 ≤ 4 → r3 = 0) ∧ (4 ≤ 4 → r4 = 0) ∧ (5 ≤ 4 → r5 = 0) ∧ (6 ≤ 4 → r6 = 0)) := by
     obtain ⟨z1, z2, z3, z4, z5, z6⟩ := HZ.out
     exact hide ⟨fun _ => z1 (by omega), fun _ => z2 (by omega), fun _ => z3 (by omega), fun _ => hr, fun h => absurd h (by omega), fun h => absurd h (by omega)⟩
    rw [hr]
    clear HZ
    go_wp2_with fail
    go_roundw
    case rel => exact ⟨4, by omega, rfl, HZ2, hg2⟩
    case measure => simp [intOf]
   ·have HV : Hid (R = r4) := by
     obtain ⟨z1, z2, z3, z4, z5, z6⟩ := HZ.out
     show _ = _
     rw [HO.out, if_neg (fun h => h (z1 (by omega))), if_neg (fun h => h (z2 (by omega))), if_neg (fun h => h (z3 (by omega))), if_pos hr]
    clear HZ
    go_wp2_with fail
    go_ret
    exact ⟨int_ret HV.out.symm, hg3⟩
  ·go_wp2_with fail
   refine (unhide K5 _ hbw).mono ?_
   rintro e w1 ⟨rfl, hg1⟩
   have hg2 := hgr.trans hg1
   have hg3 := hgw.trans hg1
   by_cases hr : r5 = 0
   ·have HZ2 : Hid ((1 ≤ 5 → r1 = 0) ∧ (2 ≤ 5 → r2 = 0) ∧ (3 ≤ 5 → r3 = 0) ∧ (4 ≤ 5 → r4 = 0) ∧ (5 ≤ 5 → r5 = 0) ∧ (6 ≤ 5 → r6 = 0)) := by
     obtain ⟨z1, z2, z3, z4, z5, z6⟩ := HZ.out
     exact hide ⟨fun _ => z1 (by omega), fun _ => z2 (by omega), fun _ => z3 (by omega), fun _ => z4 (by omega), fun _ => hr, fun h => absurd h (by omega)⟩
    rw [hr]
    clear HZ
    go_wp2_with fail
    go_roundw
    case rel => exact ⟨5, by omega, rfl, HZ2, hg2⟩
    case measure => simp [intOf]
   ·have HV : Hid (R = r5) := by
     obtain ⟨z1, z2, z3, z4, z5, z6⟩ := HZ.out
     show _ = _
     rw [HO.out, if_neg (fun h => h (z1 (by omega))), if_neg (fun h => h (z2 (by omega))), if_neg (fun h => h (z3 (by omega))), if_neg (fun h => h (z4 (by omega))), if_pos hr]
    clear HZ
    go_wp2_with fail
    go_ret
    exact ⟨int_ret HV.out.symm, hg3⟩
  ·go_wp2_with fail
   refine (unhide K6 _ hbw).mono ?_
   rintro e w1 ⟨rfl, hg1⟩
   have hg2 := hgr.trans hg1
   have hg3 := hgw.trans hg1
   by_cases hr : r6 = 0
   ·have HZ2 : Hid ((1 ≤ 6 → r1 = 0) ∧ (2 ≤ 6 → r2 = 0) ∧ (3 ≤ 6 → r3 = 0) ∧ (4 ≤ 6 → r4 = 0) ∧ (5 ≤ 6 → r5 = 0) ∧ (6 ≤ 6 → r6 = 0)) := by
     obtain ⟨z1, z2, z3, z4, z5, z6⟩ := HZ.out
     exact hide ⟨fun _ => z1 (by omega), fun _ => z2 (by omega), fun _ => z3 (by omega), fun _ => z4 (by omega), fun _ => z5 (by omega), fun _ => hr⟩
    rw [hr]
    clear HZ
    go_wp2_with fail
    go_roundw
    case rel => exact ⟨6, by omega, rfl, HZ2, hg2⟩
    case measure => simp [intOf]
   ·have HV : Hid (R = r6) := by
     obtain ⟨z1, z2, z3, z4, z5, z6⟩ := HZ.out
     show _ = _
     rw [HO.out, if_neg (fun h => h (z1 (by omega))), if_neg (fun h => h (z2 (by omega))), if_neg (fun h => h (z3 (by omega))), if_neg (fun h => h (z4 (by omega))), if_neg (fun h => h (z5 (by omega)))]
    clear HZ
    go_wp2_with fail
    go_ret
    exact ⟨int_ret HV.out.symm, hg3⟩
  ·have HV : Hid (R = 0) := by
    obtain ⟨z1, z2, z3, z4, z5, z6⟩ := HZ.out
    show _ = _
    rw [HO.out, if_neg (fun h => h (z1 (by omega))), if_neg (fun h => h (z2 (by omega))), if_neg (fun h => h (z3 (by omega))), if_neg (fun h => h (z4 (by omega))), if_neg (fun h => h (z5 (by omega))), z6 (by omega)]
   clear HZ
   go_wp2_with fail
   go_ret
   exact ⟨int_ret HV.out.symm, hgw⟩
end Go.Proofs.YtncdininppehkaaGreat

namespace Go.Proofs.YtncdininppehkaaGreat
open Go.RowKit
set_option linter.unusedVariables false
set_option maxRecDepth 100000
def key (a : Fl) : List Int := [a.t, -a.p, (a.ms.length : Int), (a.ds.length : Int)] ++ fm a.ms ++ fd a.ds
theorem cmpL_nil_nil : cmpL [] [] = 0 := rfl
theorem cmpL_nil_cons (b : Int) (y : List Int) : cmpL [] (b :: y) < 0 := by simp [cmpL]
theorem cmpL_cons_nil (a : Int) (x : List Int) : 0 < cmpL (a :: x) [] := by simp [cmpL]
theorem cmpL_cons (a b : Int) (x y : List Int) : cmpL (a :: x) (b :: y) = if a < b then -1 else if b < a then 1 else cmpL x y := rfl
theorem cmpL_zero : ∀ x y : List Int, cmpL x y = 0 → x = y
 | [], [], _ => rfl
 | [], b :: y, h => by have := cmpL_nil_cons b y; omega
 | a :: x, [], h => by have := cmpL_cons_nil a x; omega
 | a :: x, b :: y, h => by
  rw [cmpL_cons] at h
  split at h
  ·omega
  ·split at h
   ·omega
   ·rw [cmpL_zero x y h, show a = b by omega]
theorem cmpL_self : ∀ x : List Int, cmpL x x = 0
 | [] => rfl
 | a :: x => by rw [cmpL_cons, if_neg (by omega), if_neg (by omega)]; exact cmpL_self x
theorem cmpL_flip : ∀ x y : List Int, cmpL x y < 0 ↔ 0 < cmpL y x
 | [], [] => by simp [cmpL_nil_nil]
 | [], b :: y => by have := cmpL_nil_cons b y; have := cmpL_cons_nil b y; omega
 | a :: x, [] => by have := cmpL_nil_cons a x; have := cmpL_cons_nil a x; omega
 | a :: x, b :: y => by
  have ih := cmpL_flip x y
  rw [cmpL_cons, cmpL_cons]
  split <;> split <;> (try split) <;> first | omega | exact ih
theorem cmpL_trans : ∀ x y z : List Int, cmpL x y < 0 → cmpL y z < 0 → cmpL x z < 0
 | [], [], z, h, _ => by simp [cmpL_nil_nil] at h
 | [], b :: y, [], _, h => by have := cmpL_cons_nil b y; omega
 | [], b :: y, c :: z, _, _ => cmpL_nil_cons c z
 | a :: x, [], z, h, _ => by have := cmpL_cons_nil a x; omega
 | a :: x, b :: y, [], _, h => by have := cmpL_cons_nil b y; omega
 | a :: x, b :: y, c :: z, h1, h2 => by
  have ih := cmpL_trans x y z
  rw [cmpL_cons] at h1 h2 ⊢
  split at h1 <;> split at h2 <;> (try split at h1) <;> (try split at h2) <;> split <;> (try split) <;> first | omega | exact ih h1 h2 | (exfalso; omega)
theorem plc_key (a b : Fl) : plc a b = cmpL (key a) (key b) := by
 unfold plc keyX key
 simp only [List.cons_append, List.nil_append]
 simp only [cmpL_cons]
 have h1 : (b.p < a.p) ↔ (-a.p < -b.p) := by omega
 have h2 : (a.p < b.p) ↔ (-b.p < -a.p) := by omega
 simp only [h1, h2]
theorem fm_inj : ∀ x y : List Mt, fm x = fm y → x = y
 | [], [], _ => rfl
 | [], y :: ys, h => by simp [fm] at h
 | x :: xs, [], h => by simp [fm] at h
 | x :: xs, y :: ys, h => by
  obtain ⟨a, b, c⟩ := x
  obtain ⟨a', b', c'⟩ := y
  have h' : a = a' ∧ b = b' ∧ c = c' ∧ fm xs = fm ys := by simpa [fm] using h
  obtain ⟨rfl, rfl, rfl, h4⟩ := h'
  rw [fm_inj xs ys h4]
theorem fd_inj : ∀ x y : List Do, fd x = fd y → x = y
 | [], [], _ => rfl
 | [], y :: ys, h => by simp [fd] at h
 | x :: xs, [], h => by simp [fd] at h
 | x :: xs, y :: ys, h => by
  obtain ⟨a, b, c⟩ := x
  obtain ⟨a', b', c'⟩ := y
  have h' : a = a' ∧ b = b' ∧ c = c' ∧ fd xs = fd ys := by simpa [fd] using h
  obtain ⟨rfl, rfl, rfl, h4⟩ := h'
  rw [fd_inj xs ys h4]
theorem key_inj (a b : Fl) (h : key a = key b) : a = b := by
 obtain ⟨t, p, ms, ds⟩ := a
 obtain ⟨t', p', ms', ds'⟩ := b
 unfold key at h
 simp only [List.cons_append, List.nil_append, List.cons.injEq] at h
 obtain ⟨rfl, h2, h3, h4, h5⟩ := h
 have hl : (fm ms).length = (fm ms').length := by rw [fm_length, fm_length]; omega
 obtain ⟨h6, h7⟩ := List.append_inj h5 hl
 rw [fm_inj _ _ h6, fd_inj _ _ h7, show p = p' by omega]
theorem plc_zero {a b : Fl} (h : plc a b = 0) : a = b := key_inj a b (cmpL_zero _ _ (by rw [← plc_key]; exact h))
theorem plc_self (a : Fl) : plc a a = 0 := by rw [plc_key]; exact cmpL_self _
theorem plc_flip (a b : Fl) : plc a b < 0 ↔ 0 < plc b a := by rw [plc_key, plc_key]; exact cmpL_flip _ _
theorem plc_trans {a b c : Fl} (h1 : plc a b < 0) (h2 : plc b c < 0) : plc a c < 0 := by rw [plc_key] at *; exact cmpL_trans _ _ _ h1 h2
theorem cmpL_or3 (a b c a' b' c' : Int) (x y : List Int) : cmpL (a :: b :: c :: x) (a' :: b' :: c' :: y) = if or3 (cmpI a a') (cmpI b b') (cmpI c c') ≠ 0 then or3 (cmpI a a') (cmpI b b') (cmpI c c') else cmpL x y := by
 rw [cmpL_cons, cmpL_cons, cmpL_cons]
 unfold or3 cmpI
 split
 ·simp
 ·split
  ·simp
  ·split
   ·simp
   ·split
    ·simp
    ·split
     ·simp
     ·split
      ·simp
      ·simp
theorem cmpL_fm : ∀ (xs ys : List Mt) (u v : List Int), xs.length = ys.length → cmpL (fm xs ++ u) (fm ys ++ v) = if lexM xs ys ≠ 0 then lexM xs ys else cmpL u v
 | [], [], u, v, _ => by simp [fm, lexM]
 | [], _ :: _, _, _, h => by simp at h
 | _ :: _, [], _, _, h => by simp at h
 | x :: xs, y :: ys, u, v, h => by
  have ih := cmpL_fm xs ys u v (by simpa using h)
  have e1 : fm (x :: xs) ++ u = x.f :: x.m :: x.v :: (fm xs ++ u) := by simp [fm]
  have e2 : fm (y :: ys) ++ v = y.f :: y.m :: y.v :: (fm ys ++ v) := by simp [fm]
  have e3 : lexM (x :: xs) (y :: ys) = if or3 (cmpI x.f y.f) (cmpI x.m y.m) (cmpI x.v y.v) ≠ 0 then or3 (cmpI x.f y.f) (cmpI x.m y.m) (cmpI x.v y.v) else lexM xs ys := rfl
  rw [e1, e2, cmpL_or3, ih, e3]
  by_cases h0 : or3 (cmpI x.f y.f) (cmpI x.m y.m) (cmpI x.v y.v) = 0
  ·simp [h0]
  ·simp [h0]
theorem cmpL_fd : ∀ (xs ys : List Do), xs.length = ys.length → cmpL (fd xs) (fd ys) = lexD xs ys
 | [], [], _ => rfl
 | [], _ :: _, h => by simp at h
 | _ :: _, [], h => by simp at h
 | x :: xs, y :: ys, h => by
  have ih := cmpL_fd xs ys (by simpa using h)
  have e1 : fd (x :: xs) = x.k :: x.a :: x.n :: fd xs := by simp [fd]
  have e2 : fd (y :: ys) = y.k :: y.a :: y.n :: fd ys := by simp [fd]
  rw [e1, e2, cmpL_or3, ih]
  rfl
theorem ordF_plc (a b : Fl) : ordF a b = plc a b := by
 unfold plc keyX ordF
 simp only [List.cons_append, List.nil_append]
 rw [cmpL_cons, cmpL_cons, cmpL_cons, cmpL_cons]
 unfold cmpI
 by_cases h1 : a.t < b.t
 ·simp [h1]
 ·by_cases h2 : b.t < a.t
  ·simp [h1, h2]
  ·by_cases h3 : b.p < a.p
   ·simp [h1, h2, h3]
   ·by_cases h4 : a.p < b.p
    ·simp [h1, h2, h3, h4]
    ·by_cases h5 : (a.ms.length : Int) < b.ms.length
     ·simp [h1, h2, h3, h4]
      simp at h5
      simp [h5]
     ·by_cases h6 : (b.ms.length : Int) < a.ms.length
      ·simp [h1, h2, h3, h4]
       simp at h5 h6
       simp [h6, show ¬ a.ms.length < b.ms.length by omega]
      ·by_cases h7 : (a.ds.length : Int) < b.ds.length
       ·simp [h1, h2, h3, h4]
        simp at h5 h6 h7
        simp [h7, show ¬ a.ms.length < b.ms.length by omega, show ¬ b.ms.length < a.ms.length by omega]
       ·by_cases h8 : (b.ds.length : Int) < a.ds.length
        ·simp [h1, h2, h3, h4]
         simp at h5 h6 h7 h8
         simp [h8, show ¬ a.ms.length < b.ms.length by omega, show ¬ b.ms.length < a.ms.length by omega, show ¬ a.ds.length < b.ds.length by omega]
        ·rw [cmpL_fm _ _ _ _ (by omega), cmpL_fd _ _ (by omega)]
         simp only [if_neg h1, if_neg h2, if_neg h3, if_neg h4, if_neg h5, if_neg h6, if_neg h7, if_neg h8]
         simp
def Srt (l : List Fl) : Prop := l.Pairwise fun a b => plc a b < 0
theorem srt_unique : ∀ a b : List Fl, Srt a → Srt b → (∀ x, x ∈ a ↔ x ∈ b) → a = b
 | [], [], _, _, _ => rfl
 | [], y :: ys, _, _, h => by have := (h y).2 (by simp); simp at this
 | x :: xs, [], _, _, h => by have := (h x).1 (by simp); simp at this
 | x :: xs, y :: ys, ha, hb, h => by
  unfold Srt at ha hb
  rw [List.pairwise_cons] at ha hb
  have hxy : x = y := by
   have h1 := (h x).1 (by simp)
   have h2 := (h y).2 (by simp)
   simp only [List.mem_cons] at h1 h2
   rcases h1 with h1 | h1
   ·exact h1
   ·rcases h2 with h2 | h2
    ·exact h2.symm
    ·have a1 := hb.1 x h1
     have a2 := ha.1 y h2
     rw [plc_flip] at a1
     omega
  subst hxy
  have hx1 : x ∉ xs := fun h' => by have := ha.1 x h'; rw [plc_self] at this; omega
  have hx2 : x ∉ ys := fun h' => by have := hb.1 x h'; rw [plc_self] at this; omega
  rw [srt_unique xs ys ha.2 hb.2 fun z => ?_]
  have hz := h z
  simp only [List.mem_cons] at hz
  constructor
  ·intro h'
   rcases hz.1 (.inr h') with rfl | h''
   ·exact absurd h' hx1
   ·exact h''
  ·intro h'
   rcases hz.2 (.inr h') with rfl | h''
   ·exact absurd h' hx2
   ·exact h''
theorem nx_form (f : Fl) (out : List Fl) (hs : Srt out) : ∀ k, k ≤ out.length →
  ((nx f out k) = (out.take k, false) ∧ ∀ j, j < k → 0 < plc f (out.getD j fl0)) ∨ ((nx f out k) = (out.take k, true) ∧ f ∈ out.take k) ∨
  (∃ j, j < k ∧ nx f out k = (out.take j ++ f :: (out.take k).drop j, true) ∧ (∀ i, i < j → 0 < plc f (out.getD i fl0)) ∧ plc f (out.getD j fl0) < 0)
 | 0, _ => .inl ⟨by simp [nx], fun j h => absurd h (by omega)⟩
 | k + 1, hk => by
  have hkl : k < out.length := by omega
  have ht : out.take (k + 1) = out.take k ++ [out.getD k fl0] := by
   rw [List.take_succ_eq_append_getElem hkl]; simp [List.getD, List.getElem?_eq_getElem hkl]
  obtain ⟨y, hy⟩ : ∃ y, y = out.getD k fl0 := ⟨_, rfl⟩
  rw [← hy] at ht
  have hm : y ∈ out.take (k + 1) := by rw [ht]; simp
  rcases nx_form f out hs k (by omega) with ⟨h1, h2⟩ | ⟨h1, h2⟩ | ⟨j, hj, h1, h2, h3⟩
  ·unfold nx
   rw [h1, ← hy]
   simp only [Bool.false_or]
   by_cases hz : plc f y = 0
   ·have hfe := plc_zero hz
    refine .inr (.inl ⟨?_, by rw [hfe]; exact hm⟩)
    rw [if_neg (by omega), ht]
    simp [hz]
   ·by_cases hl : plc f y < 0
    ·refine .inr (.inr ⟨k, by omega, ?_, h2, by rw [← hy]; exact hl⟩)
     rw [if_pos ⟨hl, by simp [hz]⟩, ht]
     have hlen : (out.take k).length = k := by simp; omega
     rw [List.drop_append_of_le_length (by omega), List.drop_of_length_le (by omega)]
     simp
    ·refine .inl ⟨?_, fun j hj => ?_⟩
     ·rw [if_neg (by omega), ht]; simp [hz]
     ·by_cases e : j = k
      ·subst e; rw [← hy]; omega
      ·exact h2 j (by omega)
  ·unfold nx
   rw [h1, ← hy]
   simp only [Bool.true_or]
   refine .inr (.inl ⟨?_, by rw [ht]; simp [h2]⟩)
   rw [if_neg (by simp), ht]
  ·unfold nx
   rw [h1, ← hy]
   simp only [Bool.true_or]
   refine .inr (.inr ⟨j, by omega, ?_, h2, h3⟩)
   rw [if_neg (by simp), ht]
   have hlen : (out.take k).length = k := by simp; omega
   rw [List.drop_append_of_le_length (by omega)]
   simp
theorem put1_srt (f : Fl) (out : List Fl) (hs : Srt out) : Srt (put1 f out) ∧ ∀ x, x ∈ put1 f out ↔ x = f ∨ x ∈ out := by
 have hp : ∀ i j, i < j → j < out.length → plc (out.getD i fl0) (out.getD j fl0) < 0 := fun i j hij hj => by
  have := List.pairwise_iff_getElem.1 hs i j (by omega) hj hij
  simpa [List.getD, List.getElem?_eq_getElem hj, List.getElem?_eq_getElem (show i < out.length by omega)] using this
 have hmem : ∀ x ∈ out, ∃ i, i < out.length ∧ x = out.getD i fl0 := fun x hx => by
  obtain ⟨i, hi, rfl⟩ := List.getElem_of_mem hx
  exact ⟨i, hi, by simp [List.getD, List.getElem?_eq_getElem hi]⟩
 unfold put1
 rcases nx_form f out hs out.length (Nat.le_refl _) with ⟨h1, h2⟩ | ⟨h1, h2⟩ | ⟨j, hj, h1, h2, h3⟩
 ·rw [h1]
  simp only [List.take_length, Bool.false_eq_true, if_false]
  refine ⟨?_, fun x => by simp [or_comm]⟩
  refine List.pairwise_append.2 ⟨hs, by simp, fun a ha b hb => ?_⟩
  simp only [List.mem_singleton] at hb
  subst hb
  obtain ⟨i, hi, rfl⟩ := hmem a ha
  rw [plc_flip]
  exact h2 i hi
 ·rw [h1]
  rw [List.take_length] at h2
  simp only [List.take_length, if_true]
  exact ⟨hs, fun x => ⟨fun h => .inr h, fun h => by rcases h with rfl | h; exact h2; exact h⟩⟩
 ·rw [h1]
  simp only [List.take_length, if_true]
  have hsp : out = out.take j ++ out.drop j := (List.take_append_drop j out).symm
  refine ⟨?_, fun x => ?_⟩
  ·have hs' := hs
   unfold Srt at hs'
   rw [hsp] at hs'
   obtain ⟨ha, hb, hc⟩ := List.pairwise_append.1 hs'
   have hdl : ∀ x ∈ out.drop j, plc f x < 0 := fun x hx => by
    obtain ⟨i, hi, rfl⟩ := List.getElem_of_mem hx
    rw [List.getElem_drop]
    have hjl : j + i < out.length := by simpa using (by simp at hi; omega : j + i < out.length)
    have e : out[j + i] = out.getD (j + i) fl0 := by simp [List.getD, List.getElem?_eq_getElem hjl]
    rw [e]
    rcases Nat.eq_zero_or_pos i with h0 | h0
    ·subst h0; exact h3
    ·exact plc_trans h3 (hp j (j + i) (by omega) hjl)
   refine List.pairwise_append.2 ⟨ha, List.pairwise_cons.2 ⟨hdl, hb⟩, fun a ha' b hb' => ?_⟩
   simp only [List.mem_cons] at hb'
   rcases hb' with rfl | hb'
   ·obtain ⟨i, hi, rfl⟩ := List.getElem_of_mem ha'
    rw [plc_flip, List.getElem_take]
    have hil : i < j := by simp at hi; omega
    have := h2 i hil
    simpa [List.getD, List.getElem?_eq_getElem (show i < out.length by omega)] using this
   ·exact hc a ha' b hb'
  ·rw [List.mem_append, List.mem_cons]
   have : x ∈ out ↔ x ∈ out.take j ∨ x ∈ out.drop j := by rw [← List.mem_append, List.take_append_drop]
   rw [this]
   constructor
   ·rintro (h | h | h)
    ·exact .inr (.inl h)
    ·exact .inl h
    ·exact .inr (.inr h)
   ·rintro (h | h | h)
    ·exact .inr (.inl h)
    ·exact .inl h
    ·exact .inr (.inr h)
theorem srt_srt (l : List Fl) : ∀ k, k ≤ l.length → Srt (srt l k) ∧ ∀ x, x ∈ srt l k ↔ x ∈ l.take k
 | 0, _ => ⟨List.Pairwise.nil, fun x => by simp [srt]⟩
 | k + 1, hk => by
  obtain ⟨h1, h2⟩ := srt_srt l k (by omega)
  have hkl : k < l.length := by omega
  have ht : l.take (k + 1) = l.take k ++ [l.getD k fl0] := by
   rw [List.take_succ_eq_append_getElem hkl]; simp [List.getD, List.getElem?_eq_getElem hkl]
  obtain ⟨h3, h4⟩ := put1_srt (l.getD k fl0) (srt l k) h1
  refine ⟨h3, fun x => ?_⟩
  show x ∈ put1 _ _ ↔ _
  rw [h4, h2, ht, List.mem_append, List.mem_singleton, or_comm]
theorem srt_is {l m : List Fl} (hs : Srt m) (hm : ∀ x, x ∈ m ↔ x ∈ l) : m = srt l l.length := by
 obtain ⟨h1, h2⟩ := srt_srt l l.length (Nat.le_refl _)
 exact srt_unique _ _ hs h1 fun x => by rw [h2, List.take_length]; exact hm x
end Go.Proofs.YtncdininppehkaaGreat
