/-
  The order of flows as a value (flow.places); flow.Patch of nothing by one flow of zeros: one flow.
-/
import Derived.Test.YtonhfgdnkkkikacWe
import Derived.Deep.RegionLaw
import Derived.Deep.AppendLies
import Derived.Laws.EntriesVeiled
namespace Go.Proofs.Ytonhfgdnkkkikac
open Go.RowKit
set_option linter.unusedVariables false
set_option maxRecDepth 100000

/-- The six orders lie there, and the slice of them. -/
abbrev sixO : Obj := .cells #[.func (.func 62) #[] #[], .func (.func 64) #[] #[], .func (.func 65) #[] #[], .func (.func 66) #[] #[], .func (.func 67) #[] #[], .func (.func 70) #[] #[]] 62

set_option maxHeartbeats 400000 in
theorem fPlaces_any (w : World) :
    Calls Try.prog 34 #[] w fun e w' => e = .returned (.func (.func 89) #[] #[.pointer (some ⟨w.heap.size + 1, 0, none⟩)]) ∧ w' = (w.alloc sixO).alloc (.cells #[.slice (some ⟨w.heap.size, 0, none⟩) 6 6] 119) := by
  have hT : Hid (∀ (v : Value) (W : World), (∃ a n c, v = .slice a n c) → Calls Try.prog 61 #[v] W fun e w' => e = .returned (.func (.func 89) #[] #[.pointer (some ⟨W.heap.size, 0, none⟩)]) ∧ w' = W.alloc (.cells #[v] 119)) := by
    rintro v W ⟨a, n, c, rfl⟩
    go_enter Try.func61, Try.ntmps61
    go_wp2_with fail
    go_ret
    exact ⟨rfl, rfl⟩
  go_enter Try.func34, Try.ntmps34
  go_wp2_with fail
  refine (unhide hT _ _ ⟨_, _, _, rfl⟩).mono ?_
  rintro e w1 ⟨rfl, rfl⟩
  go_wp2_with fail
  go_ret
  exact ⟨by simp, rfl⟩

theorem fPlaces_below (w : World) : Calls Try.prog 34 #[] w fun e w' => ∃ g, e = .returned (.func (.func 89) #[] #[.pointer (some ⟨g, 0, none⟩)]) ∧ Below w.heap.size w w' :=
  (fPlaces_any w).mono fun e w' ⟨he, hw⟩ => ⟨_, he, by rw [hw]; exact ((Below.refl _ _).alloc (Nat.le_refl _) _).alloc (by simp) _⟩

set_option maxHeartbeats 400000 in
theorem freshNil_any (w : World) : Calls Try.prog 51 #[.slice none 0 0] w fun e w' => e = .returned (.slice none 0 0) ∧ w' = w := by
  go_enter Try.func51, Try.ntmps51
  go_wp2
  go_ret
  exact ⟨rfl, rfl⟩
set_option maxHeartbeats 400000 in
theorem freshMsNil_any (w : World) : Calls Try.prog 38 #[.slice none 0 0] w fun e w' => e = .returned (.slice none 0 0) ∧ w' = w := by
  go_enter Try.func38, Try.ntmps38
  go_wp2
  go_ret
  exact ⟨rfl, rfl⟩
set_option maxHeartbeats 400000 in
theorem freshDsNil_any (w : World) : Calls Try.prog 39 #[.slice none 0 0] w fun e w' => e = .returned (.slice none 0 0) ∧ w' = w := by
  go_enter Try.func39, Try.ntmps39
  go_wp2
  go_ret
  exact ⟨rfl, rfl⟩

set_option maxHeartbeats 1000000 in
theorem insertion_tiny (p : Option Addr) (n cap : Nat) (fv : Value) (w : World) (hn : n ≤ 1) :
    Calls Try.prog 110 #[.slice p n cap, .int .i64 0, .int .i64 n, fv] w fun e w' => e = .returned (.tuple #[]) ∧ w' = w := by
  go_enter Try.func110, Try.ntmps110
  go_wp2_with fail
  refine wp_loop_rounds 1 ?_
  rw [rounds_succ]
  go_wp2_with fail
  go_end0
  exact ⟨rfl, rfl⟩

set_option maxHeartbeats 1000000 in
theorem bitsLen_tiny (n : Nat) (w : World) (hn : n ≤ 1) :
    Calls Try.prog 93 #[.int .u64 n] w fun e w' => (∃ r : Int, e = .returned (.int .i64 r)) ∧ w' = w := by
  have hn' : n = 0 ∨ n = 1 := by omega
  have h64 : Hid (∀ W : World, Calls Try.prog 119 #[.int .u64 n] W fun e w' => (∃ r : Int, e = .returned (.int .i64 r)) ∧ w' = W) := by
    intro W
    rcases hn' with rfl | rfl
    · go_enter Try.func119, Try.ntmps119
      go_wp2
      go_ret
      exact ⟨⟨_, rfl⟩, rfl⟩
    · go_enter Try.func119, Try.ntmps119
      go_wp2
      go_ret
      exact ⟨⟨_, rfl⟩, rfl⟩
  rcases hn' with rfl | rfl
  all_goals
    go_enter Try.func93, Try.ntmps93
    go_wp2_with fail
    refine (unhide h64 _).mono ?_
    rintro e w1 ⟨⟨r, rfl⟩, rfl⟩
    go_wp2_with fail
    go_ret
    exact ⟨⟨_, rfl⟩, rfl⟩

set_option maxHeartbeats 1000000 in
theorem pdq_tiny (p : Option Addr) (n cap : Nat) (lim : Int) (fv : Value) (w : World) (hn : n ≤ 1) :
    Calls Try.prog 92 #[.slice p n cap, .int .i64 0, .int .i64 n, .int .i64 lim, fv] w fun e w' => e = .returned (.tuple #[]) ∧ w' = w := by
  go_enter Try.func92, Try.ntmps92
  go_wp2_with fail
  refine wp_loop_rounds 1 ?_
  rw [rounds_succ]
  go_wp2_with fail
  refine (insertion_tiny _ _ _ _ _ hn).mono ?_
  rintro e w1 ⟨rfl, rfl⟩
  go_wp2_with fail
  (try simp only [Exit.inBlock, Exit.then]); refine bodyPost_ret (results_none rfl _ _ _) rfl ?_
  exact ⟨rfl, rfl⟩

set_option maxHeartbeats 1000000 in
theorem sortFunc_tiny (p : Option Addr) (n cap : Nat) (fv : Value) (w : World) (hn : n ≤ 1) :
    Calls Try.prog 73 #[.slice p n cap, fv] w fun e w' => e = .returned (.tuple #[]) ∧ w' = w := by
  go_enter Try.func73, Try.ntmps73
  go_wp2_with fail
  refine (bitsLen_tiny n _ hn).mono ?_
  rintro e w1 ⟨⟨r, rfl⟩, rfl⟩
  go_wp2_with fail
  refine (pdq_tiny _ _ _ _ _ _ hn).mono ?_
  rintro e w1 ⟨rfl, rfl⟩
  go_wp2_with fail
  go_end0
  exact ⟨rfl, rfl⟩

theorem infoFl : (Try.prog.info? 41).map (fun i => (i.zero, i.size, i.bytes)) = some (some (.agg #[.int .i64 0, .int .i64 0, .slice none 0 0, .slice none 0 0]), 4, 64) := by kernel_rfl

set_option maxHeartbeats 1000000 in
theorem freshV_any (ad : Addr) (n cap : Nat) (news : List Value) (w : World) (hl : news.length = n * 4) (hc : ∀ j u, news[j]? = some u → w.cell? (ad.add j) = some u) (h1 : ∀ u ∈ news, u.oneCell' = true) (hm : n ≤ 1000000000) :
    Calls Try.prog 51 #[.slice (some ad) n cap] w fun e w' => ∃ v, e = .returned v ∧ w'.ownsRow w.heap.size 41 4 v n news ∧ Below w.heap.size w w' := by
  obtain ⟨i0, hi, hz0, hz1, hz2⟩ := info_parts infoFl
  have HC := hide hc
  have H1 := hide h1
  clear hc h1
  go_enter Try.func51, Try.ntmps51
  go_wp2_with (at_builtin; refine wpList_append_own _ rfl _ _ 22 rfl w.heap.size 41 i0 _ 4 64 Try.underlying22 hi hz0 hz1 hz2 rfl (by decide) _ _ _ rfl (World.ownsRow_nil w w.heap.size 41 4) ad n cap news rfl hl HC.out H1.out ?a1 ?a2 ?a3 ?_)
  case a1 => unfold maxLen; omega
  case a2 => omega
  case a3 => exact Nat.le_refl _
  intro v1 w1 ho1 hg1 _
  have hb1 : Below w.heap.size w w1 := (Below.refl _ w).grown hg1 (by simp) (own_ge (World.ownsRow_nil w w.heap.size 41 4))
  have ho1' : w1.ownsRow w.heap.size 41 4 v1 n news := by simpa using ho1
  clear ho1 hg1
  go_wp2
  go_ret
  exact ⟨v1, rfl, ho1', hb1⟩

set_option maxHeartbeats 1000000 in
theorem orderedNil_any (w : World) : Calls Try.prog 36 #[.slice none 0 0] w fun e w' => e = .returned (.slice none 0 0) ∧ Below w.heap.size w w' := by
  go_enter Try.func36, Try.ntmps36
  go_wp2_with fail
  refine (freshNil_any _).mono ?_
  rintro e w1 ⟨rfl, rfl⟩
  go_wp2_with fail
  refine (fPlaces_below _).mono ?_
  rintro e w1 ⟨g, rfl, hb⟩
  go_wp2_with fail
  refine (sortFunc_tiny none 0 0 _ _ (by omega)).mono ?_
  rintro e w1 ⟨rfl, rfl⟩
  go_wp2_with fail
  go_ret
  exact ⟨rfl, hb⟩

set_option maxHeartbeats 1000000 in
theorem indexFlNil_any (fv : Value) (w : World) : Calls Try.prog 81 #[.slice none 0 0, fv] w fun e w' => e = .returned (.int .i64 (-1)) ∧ w' = w := by
  go_enter Try.func81, Try.ntmps81
  go_wp2_with fail
  refine wp_loop_rounds 1 ?_
  rw [rounds_succ]
  go_wp2_with fail
  go_ret
  exact ⟨rfl, rfl⟩

set_option maxHeartbeats 1000000 in
theorem deleteNil_any (fv : Value) (w : World) : Calls Try.prog 50 #[.slice none 0 0, fv] w fun e w' => e = .returned (.slice none 0 0) ∧ w' = w := by
  go_enter Try.func50, Try.ntmps50
  go_wp2_with fail
  refine (indexFlNil_any _ _).mono ?_
  rintro e w1 ⟨rfl, rfl⟩
  go_wp2_with fail
  go_ret
  exact ⟨rfl, rfl⟩

set_option maxHeartbeats 1000000 in
theorem withoutNil_any (w : World) : Calls Try.prog 23 #[.slice none 0 0, .slice none 0 0] w fun e w' => e = .returned (.slice none 0 0) ∧ Below w.heap.size w w' := by
  go_enter Try.func23, Try.ntmps23
  go_wp2_with fail
  refine (fPlaces_below _).mono ?_
  rintro e w1 ⟨g1, rfl, hb1⟩
  go_wp2_with fail
  refine (orderedNil_any _).mono ?_
  rintro e w2 ⟨rfl, hb2⟩
  have hb12 := hb1.trans (hb2.mono hb1.size)
  have hs2 := hb12.size
  go_wp2_with fail
  refine (freshNil_any _).mono ?_
  rintro e w3 ⟨rfl, rfl⟩
  go_wp2_with fail
  refine (deleteNil_any _ _).mono ?_
  rintro e w3 ⟨rfl, rfl⟩
  go_wp2_with fail
  go_ret
  exact ⟨rfl, by first | exact (hb12.alloc hs2 _).alloc (by simp; omega) _ | trace_state⟩

/-- One flow of zeros lies there. -/
def ZAt (w : World) (g : Nat) : Prop := w.cell? ⟨g, 0, none⟩ = some (.int .i64 0) ∧ w.cell? ⟨g, 1, none⟩ = some (.int .i64 0) ∧ w.cell? ⟨g, 2, none⟩ = some (.slice none 0 0) ∧ w.cell? ⟨g, 3, none⟩ = some (.slice none 0 0)
def zeros : List Value := [.int .i64 0, .int .i64 0, .slice none 0 0, .slice none 0 0]
theorem ZAt.news {w : World} {g : Nat} (h : ZAt w g) : ∀ j u, zeros[j]? = some u → w.cell? ((⟨g, 0, none⟩ : Addr).add j) = some u := by
  intro j u hj
  match j, hj with
  | 0, hj => simp [zeros] at hj; subst hj; simpa [Addr.add] using h.1
  | 1, hj => simp [zeros] at hj; subst hj; simpa [Addr.add] using h.2.1
  | 2, hj => simp [zeros] at hj; subst hj; simpa [Addr.add] using h.2.2.1
  | 3, hj => simp [zeros] at hj; subst hj; simpa [Addr.add] using h.2.2.2
theorem ZAt.below {w w' : World} {B g : Nat} (h : ZAt w g) (hb : Below B w w') (hg : g < B) : ZAt w' g :=
  ⟨(hb.cell (p := ⟨g, 0, none⟩) hg).trans h.1, (hb.cell (p := ⟨g, 1, none⟩) hg).trans h.2.1, (hb.cell (p := ⟨g, 2, none⟩) hg).trans h.2.2.1, (hb.cell (p := ⟨g, 3, none⟩) hg).trans h.2.2.2⟩
theorem zeros_one : ∀ u ∈ zeros, u.oneCell' = true := by
  intro u hu
  simp [zeros] at hu
  rcases hu with rfl | rfl | rfl
  all_goals rfl
theorem z_of_own {w : World} {B : Nat} {v : Value} (h : w.ownsRow B 41 4 v 1 zeros) : ∃ g cap, v = .slice (some ⟨g, 0, none⟩) 1 cap ∧ 1 ≤ cap ∧ B ≤ g ∧ g < w.heap.size ∧ (∀ i, w.frozen? ⟨g, i, none⟩ = false) ∧ ZAt w g := by
  obtain ⟨g, cap, rfl, _, _⟩ := h.form (by omega)
  have hc : 1 ≤ cap ∧ B ≤ g ∧ g < w.heap.size := by
    obtain ⟨_, ⟨h, _⟩ | ⟨g', cap', cur, h, h1, h2, hc, _⟩⟩ := h
    · simp at h
    · simp only [Value.slice.injEq, Option.some.injEq, Addr.mk.injEq] at h
      obtain ⟨⟨rfl, _⟩, _, rfl⟩ := h
      have hlt : g < w.heap.size := by
        rcases Nat.lt_or_ge g w.heap.size with h' | h'
        · exact h'
        · simp [Array.getElem?_eq_none h'] at h2
      exact ⟨hc, h1, hlt⟩
  refine ⟨g, cap, rfl, hc.1, hc.2.1, hc.2.2, fun i => h.frozenAt i, ?_, ?_, ?_, ?_⟩
  · simpa [zeros] using h.cellAt 0 (by omega)
  · simpa [zeros] using h.cellAt 1 (by omega)
  · simpa [zeros] using h.cellAt 2 (by omega)
  · simpa [zeros] using h.cellAt 3 (by omega)

set_option maxHeartbeats 1000000 in
theorem orderedOne_any (g cap : Nat) (w : World) (hz : ZAt w g) : Calls Try.prog 36 #[.slice (some ⟨g, 0, none⟩) 1 cap] w fun e w' => ∃ b c, e = .returned (.slice (some ⟨b, 0, none⟩) 1 c) ∧ 1 ≤ c ∧ w.heap.size ≤ b ∧ b < w'.heap.size ∧ (∀ i, w'.frozen? ⟨b, i, none⟩ = false) ∧ ZAt w' b ∧ Below w.heap.size w w' := by
  have HZ := hide hz
  clear hz
  go_enter Try.func36, Try.ntmps36
  go_wp2_with fail
  refine (freshV_any ⟨g, 0, none⟩ 1 cap zeros _ rfl HZ.out.news zeros_one (by omega)).mono ?_
  rintro e w1 ⟨v, rfl, ho, hb1⟩
  obtain ⟨b, c, rfl, hc1, hgb, hbw, hfz, hz1⟩ := z_of_own ho
  have HFZ := hide hfz
  clear hfz
  have HZ1 := hide hz1
  clear HZ hz1 ho
  go_wp2_with fail
  refine (fPlaces_below _).mono ?_
  rintro e w2 ⟨g2, rfl, hb2⟩
  go_wp2_with fail
  refine (sortFunc_tiny _ 1 _ _ _ (by omega)).mono ?_
  rintro e w3 ⟨rfl, rfl⟩
  go_wp2_with fail
  go_ret
  exact ⟨b, c, rfl, hc1, hgb, Nat.lt_of_lt_of_le hbw hb2.size, fun i => (hb2.frozen (p := ⟨b, i, none⟩) hbw).trans (HFZ.out i), HZ1.out.below hb2 hbw, hb1.trans (hb2.mono hb1.size)⟩

set_option maxHeartbeats 1000000 in
theorem compactOne_any (p : Option Addr) (cap : Nat) (fv : Value) (w : World) : Calls Try.prog 35 #[.slice p 1 cap, fv] w fun e w' => e = .returned (.slice p 1 cap) ∧ w' = w := by
  go_enter Try.func35, Try.ntmps35
  go_wp2_with fail
  go_ret
  exact ⟨rfl, rfl⟩

set_option maxHeartbeats 2000000 in
theorem sortOne_any (g cap : Nat) (w : World) (hz : ZAt w g) (hg : g < w.heap.size) : Calls Try.prog 19 #[.slice (some ⟨g, 0, none⟩) 1 cap] w fun e w' => ∃ a c, e = .returned (.slice a 1 c) ∧ Below w.heap.size w w' := by
  have HZ := hide hz
  clear hz
  go_enter Try.func19, Try.ntmps19
  go_wp2_with fail
  refine (fPlaces_below _).mono ?_
  rintro e w1 ⟨g1, rfl, hb1⟩
  have hs1 := hb1.size
  go_wp2_with fail
  obtain ⟨w2, hw2⟩ : ∃ w2, w2 = w1.alloc (.cells #[.func (.func 89) #[] #[.pointer (some ⟨g1, 0, none⟩)]] 62) := ⟨_, rfl⟩
  have hb2 : Below w.heap.size w w2 := by rw [hw2]; exact hb1.alloc hs1 _
  rw [← hw2]
  clear hw2
  refine (orderedOne_any g cap w2 (HZ.out.below hb2 hg)).mono ?_
  rintro e w3 ⟨b, c, rfl, hc1, hgb, hbw, hfz, hz3, hb3⟩
  have hf2 := hfz 2
  have hf3 := hfz 3
  clear hfz
  have hb23 := hb2.trans (hb3.mono hb2.size)
  have hbge := Nat.le_trans hb2.size hgb
  obtain ⟨z0, z1, z2, z3⟩ := hz3
  go_wp2_with fail
  refine (compactOne_any _ _ _ _).mono ?_
  rintro e w4 ⟨rfl, rfl⟩
  go_wp2_with fail
  refine wp_loop_rounds 2 ?_
  rw [rounds_succ]
  go_wp2_with fail
  refine (freshMsNil_any _).mono ?_
  rintro e w5 ⟨rfl, rfl⟩
  go_wp2_with fail
  refine (freshDsNil_any _).mono ?_
  rintro e w5 ⟨rfl, rfl⟩
  go_wp2_with fail
  rw [rounds_succ]
  go_wp2_with fail
  go_ret
  refine ⟨_, _, rfl, ?_⟩
  exact ((hb23.setCell (p := ⟨b, 2, none⟩) hbge _).setCell (p := ⟨b, 3, none⟩) hbge _).alloc (by simp; omega) _

/-- flow.Patch of nothing by one flow of zeros: one flow. -/
theorem patchOne_any (g : Nat) (w : World) (h0 : w.cell? ⟨g, 0, none⟩ = some (.int .i64 0)) (h1 : w.cell? ⟨g, 1, none⟩ = some (.int .i64 0)) (h2 : w.cell? ⟨g, 2, none⟩ = some (.slice none 0 0)) (h3 : w.cell? ⟨g, 3, none⟩ = some (.slice none 0 0)) :
    Calls Try.prog 12 #[.slice none 0 0, .slice (some ⟨g, 0, none⟩) 1 1, .slice none 0 0] w fun e w' => ∃ a cap, e = .returned (.slice a 1 cap) ∧ Below w.heap.size w w' := by
  obtain ⟨i0, hi, hz0, hz1, hz2⟩ := info_parts infoFl
  have hg : g < w.heap.size := by
    rcases Nat.lt_or_ge g w.heap.size with h' | h'
    · exact h'
    · simp [World.cell?, Array.getElem?_eq_none h'] at h0
  have HZ : Hid (ZAt w g) := ⟨h0, h1, h2, h3⟩
  clear h0 h1 h2 h3
  go_enter Try.func12, Try.ntmps12
  go_wp2_with fail
  refine (withoutNil_any _).mono ?_
  rintro e w1 ⟨rfl, hb1⟩
  have HZ1 := hide (HZ.out.below hb1 hg)
  have hs1 := hb1.size
  go_wp2_with (at_builtin; refine wpList_append_own _ rfl _ _ 22 rfl w.heap.size 41 i0 _ 4 64 Try.underlying22 hi hz0 hz1 hz2 rfl (by decide) _ _ _ rfl (World.ownsRow_nil w1 w.heap.size 41 4) ⟨g, 0, none⟩ 1 1 zeros rfl rfl HZ1.out.news zeros_one ?a1 ?a2 ?a3 ?_)
  case a1 => unfold maxLen; omega
  case a2 => omega
  case a3 => exact hs1
  intro v2 w2 ho2 hg2 _
  have hb2 : Below w.heap.size w w2 := hb1.grown hg2 hs1 (own_ge (World.ownsRow_nil w1 w.heap.size 41 4))
  have ho2' : w2.ownsRow w.heap.size 41 4 v2 1 zeros := by simpa using ho2
  obtain ⟨b, c, rfl, hc1, hgb, hbw, hfz, hz2⟩ := z_of_own ho2'
  have HZ2 := hide hz2
  clear ho2 ho2' hg2 hz2 hfz
  go_wp2_with fail
  refine (sortOne_any b c w2 HZ2.out hbw).mono ?_
  rintro e w3 ⟨a, c3, rfl, hb3⟩
  go_wp2_with fail
  go_ret
  exact ⟨_, _, rfl, hb2.trans (hb3.mono hb2.size)⟩

end Go.Proofs.Ytonhfgdnkkkikac
