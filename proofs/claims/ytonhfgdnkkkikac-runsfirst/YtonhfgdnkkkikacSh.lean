/-
  Rows of the call's own, written; flow.Sort's equality of flows; slices.CompactFunc at flows.
-/
import Derived.Test.YtonhfgdnkkkikacSg
import Derived.Lib.SliceRun
import Derived.Laws.CopyRow
namespace Go.Proofs.Ytonhfgdnkkkikac
open Go.RowKit
set_option linter.unusedVariables false
set_option maxRecDepth 100000

theorem heap_set {w : World} {g j : Nat} {v : Value} {cur : Array Value} {e : TypeId} (h : w.heap[g]? = some (.cells cur e (0, 0))) : (w.setCell ⟨g, j, none⟩ v).heap[g]? = some (.cells (cur.setIfInBounds j v) e (0, 0)) := by
  rw [Go.Sort.setCell_eq]
  unfold Go.Sort.mapBlock
  simp only [Array.getElem?_modify, if_true]
  rw [h]
  rfl
theorem own_set {w : World} {B e size n cap g : Nat} {xs : List Value} (h : w.ownsRow B e size (.slice (some ⟨g, 0, none⟩) n cap) n xs) (j : Nat) (v : Value) : (w.setCell ⟨g, j, none⟩ v).ownsRow B e size (.slice (some ⟨g, 0, none⟩) n cap) n (xs.set j v) := by
  obtain ⟨hlen, ⟨h, _⟩ | ⟨g', cap', cur, hv, hB, hheap, hnc, hcm, hcs, htk⟩⟩ := h
  · simp at h
  simp only [Value.slice.injEq, Option.some.injEq, Addr.mk.injEq] at hv
  obtain ⟨⟨rfl, _⟩, _, rfl⟩ := hv
  refine ⟨by simpa using hlen, .inr ⟨g, cap, _, rfl, hB, heap_set hheap, hnc, hcm, by simpa using hcs, ?_⟩⟩
  rw [← htk, Array.toList_setIfInBounds]
  refine List.ext_getElem? fun i => ?_
  simp only [List.getElem?_take, List.getElem?_set, List.length_take]
  by_cases hi : i < n * size
  · simp only [hi, if_true]
    by_cases hji : j = i
    · subst hji
      simp only [if_true]
      have : (j < min (n * size) cur.toList.length) ↔ j < cur.toList.length := by omega
      simp only [this]
    · simp [hji]
  · simp only [hi, if_false]
    by_cases hji : j = i
    · subst hji
      simp
      omega
    · simp [hji]
theorem set_far {xs : List Value} {j : Nat} {v : Value} (h : xs.length ≤ j) : xs.set j v = xs := List.set_eq_of_length_le h
theorem own_prefix {w : World} {B e size n m cap g : Nat} {xs : List Value} (h : w.ownsRow B e size (.slice (some ⟨g, 0, none⟩) n cap) n xs) (hm : m ≤ n) : w.ownsRow B e size (.slice (some ⟨g, 0, none⟩) m cap) m (xs.take (m * size)) := by
  obtain ⟨hlen, ⟨h, _⟩ | ⟨g', cap', cur, hv, hB, hheap, hnc, hcm, hcs, htk⟩⟩ := h
  · simp at h
  simp only [Value.slice.injEq, Option.some.injEq, Addr.mk.injEq] at hv
  obtain ⟨⟨rfl, _⟩, _, rfl⟩ := hv
  have hmn : m * size ≤ n * size := Nat.mul_le_mul_right _ hm
  refine ⟨by rw [List.length_take, hlen]; omega, .inr ⟨g, cap, cur, rfl, hB, hheap, by omega, hcm, hcs, ?_⟩⟩
  rw [← htk, List.take_take, Nat.min_eq_left hmn]
theorem C_take (l : List Fv) (m : Nat) : (C l).take (m * 4) = C (l.take m) := by
  induction l generalizing m with
  | nil => simp [C]
  | cons x r ih =>
    cases m with
    | zero => simp [C]
    | succ m =>
      have e : (m + 1) * 4 = m * 4 + 4 := by omega
      rw [e]
      simp only [List.take_succ_cons]
      have := ih m
      simp only [C, List.flatMap_cons] at this ⊢
      simp only [List.cons_append, List.nil_append, List.take_succ_cons]
      rw [this]
theorem C_set : ∀ (l : List Fv) (i : Nat) (x : Fv), i < l.length → ((((C l).set (i * 4) (.int .i64 x.f.t)).set (i * 4 + 1) (.int .i64 x.f.p)).set (i * 4 + 2) x.mv).set (i * 4 + 3) x.dv = C (l.set i x)
  | [], i, _, h => by simp at h
  | y :: r, 0, x, _ => by simp [C]
  | y :: r, i + 1, x, h => by
    have ih := C_set r i x (by simpa using h)
    have e : ∀ k, (i + 1) * 4 + k = (i * 4 + k) + 4 := fun k => by omega
    have e0 : (i + 1) * 4 = (i * 4) + 4 := by omega
    simp only [C, List.flatMap_cons, List.set_cons_succ] at ih ⊢
    rw [e 1, e 2, e 3, e0]
    simp only [List.cons_append, List.nil_append, List.set_cons_succ]
    rw [ih]
/-- A flow of a row of the call's own, written. -/
theorem own_set4 {w : World} {B cap g : Nat} {l : List Fv} (h : w.ownsRow B 41 4 (.slice (some ⟨g, 0, none⟩) l.length cap) l.length (C l)) (i : Nat) (x : Fv) (hi : i < l.length) :
    ((((w.setCell ⟨g, i * 4, none⟩ (.int .i64 x.f.t)).setCell ⟨g, i * 4 + 1, none⟩ (.int .i64 x.f.p)).setCell ⟨g, i * 4 + 2, none⟩ x.mv).setCell ⟨g, i * 4 + 3, none⟩ x.dv).ownsRow B 41 4 (.slice (some ⟨g, 0, none⟩) (l.set i x).length cap) (l.set i x).length (C (l.set i x)) := by
  have := own_set (own_set (own_set (own_set h (i * 4) (.int .i64 x.f.t)) (i * 4 + 1) (.int .i64 x.f.p)) (i * 4 + 2) x.mv) (i * 4 + 3) x.dv
  rw [C_set l i x hi] at this
  simpa using this
theorem grown_set {w w' : World} {g j : Nat} {v : Value} (h : w.grownBy w' (some g)) : w.grownBy (w'.setCell ⟨g, j, none⟩ v) (some g) :=
  ⟨h.os, h.tape, h.output, by simpa using h.size, fun k hk hne => (Below.heap_setCell w' _ _ k (fun e => hne (by rw [e]))).trans (h.block k hk hne)⟩
theorem grown_refl (w : World) (row : Option Nat) : w.grownBy w row := ⟨rfl, rfl, rfl, Nat.le_refl _, fun _ _ _ => rfl⟩
theorem grown_trans {a b c : World} {g : Nat} (h : a.grownBy b (some g)) (k : b.grownBy c (some g)) : a.grownBy c (some g) :=
  ⟨k.os.trans h.os, k.tape.trans h.tape, k.output.trans h.output, Nat.le_trans h.size k.size, fun i hi hne => (k.block i (Nat.lt_of_lt_of_le hi h.size) hne).trans (h.block i hi hne)⟩
theorem Below.grown1 {w w' : World} {row : Option Nat} (h : Below w.heap.size w w') : w.grownBy w' row := ⟨h.os, h.tape, h.output, h.size, fun k hk _ => h.block k hk⟩

/-- The equality of flows that flow.Sort hands to slices.CompactFunc: what it closes over lies there. -/
def EqAt (w : World) (ob g : Nat) : Prop := w.cell? ⟨ob, 0, none⟩ = some (.func (.func 89) #[] #[.pointer (some ⟨g, 0, none⟩)]) ∧ OrdAt w g
theorem EqAt.below {w w' : World} {ob g : Nat} (h : EqAt w ob g) (hb : Below w.heap.size w w') : EqAt w' ob g := ⟨cell_below h.1 hb (Nat.le_refl _), h.2.below hb⟩

set_option maxHeartbeats 2000000 in
theorem same_any (x y : Fv) (ob g : Nat) (w : World) (hE : EqAt w ob g) (hx : Held w x) (hy : Held w y) (l1 : x.f.ms.length ≤ 2000000) (l2 : x.f.ds.length ≤ 2000000) (l3 : y.f.ms.length ≤ 2000000) (l4 : y.f.ds.length ≤ 2000000) :
    Calls Try.prog 37 #[.agg #[.int .i64 x.f.t, .int .i64 x.f.p, x.mv, x.dv], .agg #[.int .i64 y.f.t, .int .i64 y.f.p, y.mv, y.dv], .pointer (some ⟨ob, 0, none⟩)] w fun e w' => e = .returned (.bool (plc x.f y.f == 0)) ∧ Grw w w' := by
  have HX := hide hx
  have HY := hide hy
  have HE := hide hE
  have he0 := hE.1
  have hobl := cell_lt he0
  obtain ⟨⟨xa, xc, e1, _⟩, ⟨xb, xe, e2, _⟩⟩ := hx
  obtain ⟨⟨ya, yc, e3, _⟩, ⟨yb, ye, e4, _⟩⟩ := hy
  obtain ⟨xf, xm, xd⟩ := x
  obtain ⟨yf, ym, yd⟩ := y
  simp only at e1 e2 e3 e4 l1 l2 l3 l4
  subst e1 e2 e3 e4
  have hA : Grw w ((w.alloc (.cells #[.int .i64 xf.t, .int .i64 xf.p, .slice xa xf.ms.length xc, .slice xb xf.ds.length xe] 41)).alloc (.cells #[.int .i64 yf.t, .int .i64 yf.p, .slice ya yf.ms.length yc, .slice yb yf.ds.length ye] 41)) := ((Grw.refl w).alloc _).alloc _
  have HC : Hid (∀ W : World, Below w.heap.size w W → Calls Try.prog 89 #[.agg #[.int .i64 xf.t, .int .i64 xf.p, .slice xa xf.ms.length xc, .slice xb xf.ds.length xe], .agg #[.int .i64 yf.t, .int .i64 yf.p, .slice ya yf.ms.length yc, .slice yb yf.ds.length ye], .pointer (some ⟨g, 0, none⟩)] W fun e w' => e = .returned (.int .i64 (plc xf yf)) ∧ Grw W w') := fun W hW => by
    rw [← ordF_plc]
    exact order_any xf yf xa ya xb yb xc yc xe ye g W (HE.out.2.below hW) (HX.out.1.below hW (Nat.le_refl _)) (HX.out.2.below hW (Nat.le_refl _)) (HY.out.1.below hW (Nat.le_refl _)) (HY.out.2.below hW (Nat.le_refl _)) l1 l2 l3 l4
  clear HX HY HE hE
  simp only
  generalize plc xf yf = R at *
  go_enter Try.func37, Try.ntmps37
  go_wp2_with fail
  refine (unhide HC _ hA.below).mono ?_
  rintro e w1 ⟨rfl, hg1⟩
  have hg := hA.trans hg1
  go_wp2_with fail
  go_ret
  exact ⟨rfl, hg⟩

/-- The first j flows of a row, each that is another than the one before it. -/
def ddTo (lo : List Fv) : Nat → List Fv
  | 0 => []
  | j + 1 => if j ≠ 0 ∧ plc (lo.getD j fv0).f (lo.getD (j - 1) fv0).f = 0 then ddTo lo j else ddTo lo j ++ [lo.getD j fv0]
theorem ddTo_le (lo : List Fv) : ∀ j, (ddTo lo j).length ≤ j
  | 0 => by simp [ddTo]
  | j + 1 => by
    have := ddTo_le lo j
    unfold ddTo
    split
    · omega
    · simp; omega
theorem ddTo_pos (lo : List Fv) : ∀ j, 1 ≤ (ddTo lo (j + 1)).length
  | 0 => by simp [ddTo]
  | j + 1 => by
    have := ddTo_pos lo j
    rw [ddTo]
    split
    · exact this
    · simp
/-- As long as none is the one before it, nothing is left out. -/
theorem ddTo_all (lo : List Fv) : ∀ j, j ≤ lo.length → (∀ i, 1 ≤ i → i < j → plc (lo.getD i fv0).f (lo.getD (i - 1) fv0).f ≠ 0) → ddTo lo j = lo.take j
  | 0, _, _ => by simp [ddTo]
  | j + 1, hj, h => by
    rw [ddTo, if_neg (fun hc => h j (by omega) (by omega) hc.2), ddTo_all lo j (by omega) (fun i h1 h2 => h i h1 (by omega)), List.take_succ_eq_append_getElem (by omega)]
    simp [List.getD, List.getElem?_eq_getElem (show j < lo.length by omega)]
theorem ddTo_mem (lo : List Fv) : ∀ j, j ≤ lo.length → ∀ x ∈ ddTo lo j, x ∈ lo.take j
  | 0, _, x, hx => by simp [ddTo] at hx
  | j + 1, hj, x, hx => by
    have ih := ddTo_mem lo j (by omega) x
    have ht : lo.take (j + 1) = lo.take j ++ [lo.getD j fv0] := by
      rw [List.take_succ_eq_append_getElem (by omega)]; simp [List.getD, List.getElem?_eq_getElem (show j < lo.length by omega)]
    rw [ht, List.mem_append]
    rw [ddTo] at hx
    split at hx
    · exact .inl (ih hx)
    · rw [List.mem_append] at hx
      rcases hx with hx | hx
      · exact .inl (ih hx)
      · exact .inr hx
/-- Of what is in its places, each once: strictly in its places, and nothing lost. -/
theorem ddTo_srt (lo : List Fv) (hs : lo.Pairwise fun a b => ¬ plc b.f a.f < 0) : ∀ j, j ≤ lo.length → Srt ((ddTo lo j).map Fv.f) ∧ (∀ f, f ∈ (ddTo lo j).map Fv.f ↔ f ∈ (lo.take j).map Fv.f) ∧ (1 ≤ j → ∃ r, ddTo lo j = r ++ [(ddTo lo j).getLast?.getD fv0] ∧ ((ddTo lo j).getLast?.getD fv0).f = (lo.getD (j - 1) fv0).f)
  | 0, _ => ⟨List.Pairwise.nil, fun f => by simp [ddTo], fun h => absurd h (by omega)⟩
  | j + 1, hj => by
    obtain ⟨h1, h2, h3⟩ := ddTo_srt lo hs j (by omega)
    have ht : lo.take (j + 1) = lo.take j ++ [lo.getD j fv0] := by
      rw [List.take_succ_eq_append_getElem (by omega)]; simp [List.getD, List.getElem?_eq_getElem (show j < lo.length by omega)]
    rw [ddTo]
    by_cases hc : j ≠ 0 ∧ plc (lo.getD j fv0).f (lo.getD (j - 1) fv0).f = 0
    · rw [if_pos hc]
      have hfe := plc_zero hc.2
      obtain ⟨r, h4, h5⟩ := h3 (by omega)
      refine ⟨h1, fun f => ?_, fun _ => ⟨r, h4, by rw [h5, ← hfe]; rfl⟩⟩
      rw [h2, ht, List.map_append, List.mem_append]
      constructor
      · exact .inl
      · rintro (h | h)
        · exact h
        · simp only [List.map_cons, List.map_nil, List.mem_singleton] at h
          rw [h, hfe]
          have hj1 : j - 1 < (lo.take j).length := by simp; omega
          have : lo.getD (j - 1) fv0 ∈ lo.take j := by
            have e : lo.getD (j - 1) fv0 = (lo.take j)[j - 1] := by
              rw [List.getElem_take]; simp [List.getD, List.getElem?_eq_getElem (show j - 1 < lo.length by omega)]
            rw [e]; exact List.getElem_mem _
          exact List.mem_map_of_mem this
    · rw [if_neg hc]
      refine ⟨?_, fun f => ?_, fun _ => ⟨ddTo lo j, by simp, by simp⟩⟩
      · rw [List.map_append]
        refine List.pairwise_append.2 ⟨h1, by simp, fun a ha b hb => ?_⟩
        simp only [List.map_cons, List.map_nil, List.mem_singleton] at hb
        subst hb
        rw [h2] at ha
        obtain ⟨x, hx, rfl⟩ := List.mem_map.1 ha
        obtain ⟨i, hi, rfl⟩ := List.getElem_of_mem hx
        have hi' : i < j := by simp at hi; omega
        rw [List.getElem_take]
        have hp : ∀ p q, p < q → q < lo.length → ¬ plc (lo.getD q fv0).f (lo.getD p fv0).f < 0 := fun p q hpq hq => by
          have := List.pairwise_iff_getElem.1 hs p q (by omega) hq hpq
          simpa [List.getD, List.getElem?_eq_getElem hq, List.getElem?_eq_getElem (show p < lo.length by omega)] using this
        have e : lo[i] = lo.getD i fv0 := by simp [List.getD, List.getElem?_eq_getElem (show i < lo.length by omega)]
        rw [e]
        have a1 := hp i j hi' (by omega)
        have a1' : ¬ 0 < plc (lo.getD i fv0).f (lo.getD j fv0).f := fun h => a1 ((plc_flip _ _).2 h)
        by_cases hz : plc (lo.getD i fv0).f (lo.getD j fv0).f = 0
        · exfalso
          have hfe := plc_zero hz
          rcases Nat.lt_or_ge i (j - 1) with hij | hij
          · have b1 := hp i (j - 1) hij (by omega)
            have b2 := hp (j - 1) j (by omega) (by omega)
            rw [← hfe] at b2
            have b2' : ¬ 0 < plc (lo.getD (j - 1) fv0).f (lo.getD i fv0).f := fun h => b2 ((plc_flip _ _).2 h)
            have b3 : plc (lo.getD (j - 1) fv0).f (lo.getD i fv0).f = 0 := by omega
            have b4 := plc_zero b3
            refine hc ⟨by omega, ?_⟩
            rw [b4, hfe]; exact plc_self _
          · have hij' : i = j - 1 := by omega
            subst hij'
            refine hc ⟨by omega, ?_⟩
            rw [← hfe]; exact plc_self _
        · omega
      · rw [List.map_append, List.mem_append, h2, ht, List.map_append, List.mem_append]

end Go.Proofs.Ytonhfgdnkkkikac
