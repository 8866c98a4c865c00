/-
  slices.Delete of one element, at ports and rules of the call's own.
-/
import Derived.Test.YtonhfgdnkkkikadGreatCn
import Derived.Deep.RegionLaw
import Derived.Deep.RegionHeld3
import Derived.Lib.SliceRun
import Derived.Sort.WalkB12
namespace Go.Proofs.YtonhfgdnkkkikadGreat
open Go.RowKit
set_option linter.unusedVariables false
set_option maxRecDepth 100000

theorem heap_set_c {w : World} {g j : Nat} {v : Value} {cur : Array Value} {e : TypeId} (h : w.heap[g]? = some (.cells cur e (0, 0))) : (w.setCell ⟨g, j, none⟩ v).heap[g]? = some (.cells (cur.setIfInBounds j v) e (0, 0)) := by
  rw [Go.Sort.setCell_eq]
  unfold Go.Sort.mapBlock
  simp only [Array.getElem?_modify, if_true]
  rw [h]
  rfl
theorem own_set_c {w : World} {B e size n cap g : Nat} {xs : List Value} (h : w.ownsRow B e size (.slice (some ⟨g, 0, none⟩) n cap) n xs) (j : Nat) (v : Value) : (w.setCell ⟨g, j, none⟩ v).ownsRow B e size (.slice (some ⟨g, 0, none⟩) n cap) n (xs.set j v) := by
  obtain ⟨hlen, ⟨h, _⟩ | ⟨g', cap', cur, hv, hB, hheap, hnc, hcm, hcs, htk⟩⟩ := h
  · simp at h
  simp only [Value.slice.injEq, Option.some.injEq, Addr.mk.injEq] at hv
  obtain ⟨⟨rfl, _⟩, _, rfl⟩ := hv
  refine ⟨by simpa using hlen, .inr ⟨g, cap, _, rfl, hB, heap_set_c hheap, hnc, hcm, by simpa using hcs, ?_⟩⟩
  rw [← htk, Array.toList_setIfInBounds]
  refine List.ext_getElem? fun i => ?_
  simp only [List.getElem?_take, List.getElem?_set, List.length_take]
  by_cases hi : i < n * size
  · simp only [hi, if_true]
    by_cases hji : j = i
    · subst hji
      simp only [if_true]
      have : (j < min (n * size) cur.toList.length) ↔ j < cur.toList.length := by omega
      simp only [this]
    · simp [hji]
  · simp only [hi, if_false]
    by_cases hji : j = i
    · subst hji
      simp
      omega
    · simp [hji]
theorem set_far_c {xs : List Value} {j : Nat} {v : Value} (h : xs.length ≤ j) : xs.set j v = xs := List.set_eq_of_length_le h
theorem own_prefix_c {w : World} {B e size n m cap g : Nat} {xs : List Value} (h : w.ownsRow B e size (.slice (some ⟨g, 0, none⟩) n cap) n xs) (hm : m ≤ n) : w.ownsRow B e size (.slice (some ⟨g, 0, none⟩) m cap) m (xs.take (m * size)) := by
  obtain ⟨hlen, ⟨h, _⟩ | ⟨g', cap', cur, hv, hB, hheap, hnc, hcm, hcs, htk⟩⟩ := h
  · simp at h
  simp only [Value.slice.injEq, Option.some.injEq, Addr.mk.injEq] at hv
  obtain ⟨⟨rfl, _⟩, _, rfl⟩ := hv
  have hmn : m * size ≤ n * size := Nat.mul_le_mul_right _ hm
  refine ⟨by rw [List.length_take, hlen]; omega, .inr ⟨g, cap, cur, rfl, hB, hheap, by omega, hcm, hcs, ?_⟩⟩
  rw [← htk, List.take_take, Nat.min_eq_left hmn]
theorem grown_set_c {w w' : World} {g j : Nat} {v : Value} (h : w.grownBy w' (some g)) : w.grownBy (w'.setCell ⟨g, j, none⟩ v) (some g) :=
  ⟨h.os, h.tape, h.output, by simpa using h.size, fun k hk hne => (Below.heap_setCell w' _ _ k (fun e => hne (by rw [e]))).trans (h.block k hk hne)⟩
theorem grown_refl_c (w : World) (row : Option Nat) : w.grownBy w row := ⟨rfl, rfl, rfl, Nat.le_refl _, fun _ _ _ => rfl⟩
theorem grown_trans_c {a b c : World} {g : Nat} (h : a.grownBy b (some g)) (k : b.grownBy c (some g)) : a.grownBy c (some g) :=
  ⟨k.os.trans h.os, k.tape.trans h.tape, k.output.trans h.output, Nat.le_trans h.size k.size, fun i hi hne => (k.block i (Nat.lt_of_lt_of_le hi h.size) hne).trans (h.block i hi hne)⟩
theorem own_setCells_c {B e size n cap g : Nat} {xs : List Value} : ∀ (vs : List Value) (o : Nat) (w : World), w.ownsRow B e size (.slice (some ⟨g, 0, none⟩) n cap) n xs → n * size ≤ o → (w.setCells g o vs).ownsRow B e size (.slice (some ⟨g, 0, none⟩) n cap) n xs
  | [], _, _, h, _ => h
  | v :: r, o, w, h, ho => by
    have h1 := own_set_c h o v
    rw [set_far_c (by rw [h.1]; exact ho)] at h1
    exact own_setCells_c r (o + 1) _ h1 (by omega)
theorem grown_setCells_c {g : Nat} {w : World} : ∀ (vs : List Value) (o : Nat) (w' : World), w.grownBy w' (some g) → w.grownBy (w'.setCells g o vs) (some g)
  | [], _, _, h => h
  | v :: r, o, w', h => grown_setCells_c r (o + 1) _ (grown_set_c h)

/-- A list of which some places are written. -/
def ovr : List Value → Nat → List Value → List Value
  | xs, _, [] => xs
  | xs, o, v :: r => ovr (xs.set o v) (o + 1) r
theorem own_ovr {B e size n cap g : Nat} : ∀ (vs : List Value) (xs : List Value) (o : Nat) (w : World), w.ownsRow B e size (.slice (some ⟨g, 0, none⟩) n cap) n xs → (w.setCells g o vs).ownsRow B e size (.slice (some ⟨g, 0, none⟩) n cap) n (ovr xs o vs)
  | [], _, _, _, h => h
  | v :: r, xs, o, w, h => own_ovr r (xs.set o v) (o + 1) _ (own_set_c h o v)
theorem ovr_is : ∀ (vs : List Value) (xs : List Value) (o : Nat), o + vs.length ≤ xs.length → ovr xs o vs = xs.take o ++ vs ++ xs.drop (o + vs.length)
  | [], xs, o, _ => by simp [ovr]
  | v :: r, xs, o, h => by
    simp only [List.length_cons] at h
    simp only [ovr]
    rw [ovr_is r (xs.set o v) (o + 1) (by simp; omega)]
    have h1 : (xs.set o v).take (o + 1) = xs.take o ++ [v] := by
      rw [List.take_succ_eq_append_getElem (by simp; omega), List.take_set_of_le (Nat.le_refl _)]
      simp
    have h2 : (xs.set o v).drop (o + 1 + r.length) = xs.drop (o + (v :: r).length) := by
      rw [List.drop_set_of_lt (by omega)]
      simp only [List.length_cons]
      congr 1
      omega
    rw [h1, h2]
    simp
theorem flat_take {α : Type} {C : α → List Value} {sz : Nat} (hC : ∀ x, (C x).length = sz) : ∀ (l : List α) (k : Nat), (l.flatMap C).take (k * sz) = (l.take k).flatMap C
  | [], k => by simp
  | x :: r, 0 => by simp
  | x :: r, k + 1 => by
    have ih := flat_take hC r k
    rw [List.flatMap_cons, List.take_succ_cons, List.flatMap_cons, ← ih, List.take_append, hC]
    have e : (k + 1) * sz - sz = k * sz := by rw [Nat.add_mul]; omega
    rw [e, List.take_of_length_le (by rw [hC, Nat.add_mul]; omega)]
theorem flat_drop {α : Type} {C : α → List Value} {sz : Nat} (hC : ∀ x, (C x).length = sz) : ∀ (l : List α) (k : Nat), (l.flatMap C).drop (k * sz) = (l.drop k).flatMap C
  | [], k => by simp
  | x :: r, 0 => by simp
  | x :: r, k + 1 => by
    have ih := flat_drop hC r k
    rw [List.flatMap_cons, List.drop_succ_cons, ← ih, List.drop_append, hC]
    have e : (k + 1) * sz - sz = k * sz := by rw [Nat.add_mul]; omega
    rw [e, List.drop_of_length_le (by rw [hC, Nat.add_mul]; omega)]
    simp
/-- What a row holds when an element went. -/
theorem gone_row {α : Type} {C : α → List Value} {sz : Nat} (hC : ∀ x, (C x).length = sz) (l : List α) (k : Nat) (hk : k < l.length) : (ovr (l.flatMap C) (k * sz) ((l.drop (k + 1)).flatMap C)).take ((l.length - 1) * sz) = (l.eraseIdx k).flatMap C := by
  have hl := flat_len hC l
  have hd := flat_len hC (l.drop (k + 1))
  rw [List.length_drop] at hd
  have hle : k * sz + (l.length - (k + 1)) * sz = (l.length - 1) * sz := by rw [← Nat.add_mul]; congr 1; omega
  have hle2 : (l.length - 1) * sz ≤ l.length * sz := Nat.mul_le_mul_right _ (by omega)
  rw [ovr_is _ _ _ (by rw [hl, hd]; omega), flat_take hC, List.take_append_of_le_length]
  · rw [List.take_of_length_le]
    · rw [List.eraseIdx_eq_take_drop_succ, List.flatMap_append]
    · rw [List.length_append, flat_len hC, hd, List.length_take]
      have : min k l.length = k := by omega
      rw [this]; omega
  · rw [List.length_append, flat_len hC, hd, List.length_take]
    have : min k l.length = k := by omega
    rw [this]; omega

theorem clearPr (w : World) (b o c : Nat) (hc : ∀ j, j < 5 → (w.cell? ⟨b, o + j, none⟩).isSome = true) (hf : ∀ j, j < 5 → w.frozen? ⟨b, o + j, none⟩ = false) :
    ∃ vs, ∀ ty, (Builtin.clear_ #[25] ty #[.slice (some ⟨b, o, none⟩) 1 c]).run Tryz.prog w = .ok (.tuple #[]) (w.setCells b o vs) := by
  have hv : ∀ w, (zeroValue 32).run Tryz.prog w = .ok (.agg #[.int .i64 0, .int .i64 0, .int .i64 0, .int .i64 0, .int .i64 0]) w := fun w => by kernel_rfl
  refine ⟨(Builtin.zeroCells #[.int .i64 0, .int .i64 0, .int .i64 0, .int .i64 0, .int .i64 0] 1).toList, fun ty => ?_⟩
  have hlen : (Builtin.zeroCells #[Value.int .i64 0, .int .i64 0, .int .i64 0, .int .i64 0, .int .i64 0] 1).toList.length = 5 := by simp [Builtin.zeroCells]
  have hone : ∀ v ∈ (Builtin.zeroCells #[Value.int .i64 0, .int .i64 0, .int .i64 0, .int .i64 0, .int .i64 0] 1).toList, v.oneCell' = true := all_one (by kernel_rfl)
  have hst := run_storeCells_cells (P := Tryz.prog) b o (Builtin.zeroCells #[.int .i64 0, .int .i64 0, .int .i64 0, .int .i64 0, .int .i64 0] 1).toList 0 w (by rw [hlen]; simpa using hc) (by rw [hlen]; simpa using hf) hone
  simp only [Nat.add_zero] at hst
  simp [Builtin.clear_, run_underlying Tryz.underlying25, hv, hst, Value.cells]

set_option maxHeartbeats 4000000 in
theorem deletePr_any (l : List Pr) (B g cap k : Nat) (w : World) (hown : w.ownsRow B 32 5 (.slice (some ⟨g, 0, none⟩) l.length cap) l.length (l.flatMap prC)) (hk : k < l.length) (hl : l.length ≤ 1000) :
    Calls Tryz.prog 11 #[.slice (some ⟨g, 0, none⟩) l.length cap, .int .i64 k, .int .i64 (k + 1)] w fun e w' => e = .returned (.slice (some ⟨g, 0, none⟩) (l.length - 1) cap) ∧
      w'.ownsRow B 32 5 (.slice (some ⟨g, 0, none⟩) (l.length - 1) cap) (l.length - 1) ((l.eraseIdx k).flatMap prC) ∧ w.grownBy w' (some g) := by
  obtain ⟨i0, hi, hz0, hz1, hz2⟩ := info_parts infoPr
  have HO := hide hown
  have hcap : l.length ≤ cap ∧ cap ≤ maxLen := by
    obtain ⟨_, ⟨h, _⟩ | ⟨g', cap', cur, hv, _, _, hnc, hm, _⟩⟩ := hown
    · simp at h
    · simp only [Value.slice.injEq] at hv
      obtain ⟨_, _, rfl⟩ := hv
      exact ⟨hnc, hm⟩
  obtain ⟨hcap, hcm⟩ := hcap
  unfold maxLen at hcm
  have hcells : ∀ j, j < l.length * 5 → w.cell? ⟨g, j, none⟩ = (l.flatMap prC)[j]? := fun j hj => hown.cellAt j hj
  have hfz : ∀ j, w.frozen? ⟨g, j, none⟩ = false := fun j => hown.frozenAt j
  clear hown
  obtain ⟨news, hnews⟩ : ∃ news, news = (l.drop (k + 1)).flatMap prC := ⟨_, rfl⟩
  have hlen : news.length = (l.length - (k + 1)) * 5 := by rw [hnews, flat_len prC_len, List.length_drop]
  have hfl := flat_len prC_len l
  have hget : ∀ t u, news[t]? = some u → w.cell? ⟨g, (k + 1) * 5 + t, none⟩ = some u := fun t u hu => by
    have ht : t < news.length := (List.getElem?_eq_some_iff.1 hu).1
    rw [hcells _ (by rw [hlen] at ht; omega)]
    rw [hnews, ← flat_drop prC_len, List.getElem?_drop] at hu
    exact hu
  have s1 : Hid (news.length = (l.length - (k + 1)) * 5) := hlen
  have s2 : Hid (∀ u ∈ news, u.oneCell' = true) := by rw [hnews]; exact prC_one _
  have s3 : Hid (∀ t, t < news.length → (w.drew.cell? ⟨g, 0 + k * 5 + t, none⟩).isSome = true ∧ w.drew.frozen? ⟨g, 0 + k * 5 + t, none⟩ = false) := by
    intro t ht
    refine ⟨?_, hfz _⟩
    show (w.cell? _).isSome = true
    have hjl : 0 + k * 5 + t < l.length * 5 := by rw [hlen] at ht; omega
    rw [hcells _ hjl, List.getElem?_eq_getElem (by rw [hfl]; exact hjl)]
    rfl
  obtain ⟨A, hA, hsrc⟩ : ∃ A : Addr, (if cap = k + 1 then some (⟨g, 0, none⟩ : Addr) else some ⟨g, (k + 1) * 5, none⟩) = some A ∧ Hid (∀ t u, news[t]? = some u → w.drew.cell? (A.add t) = some u) := by
    by_cases h : cap = k + 1
    · refine ⟨⟨g, 0, none⟩, by simp [h], fun t u hu => ?_⟩
      have h0 : news.length = 0 := by rw [hlen]; have : l.length - (k + 1) = 0 := by omega
                                      rw [this, Nat.zero_mul]
      rw [List.length_eq_zero_iff.1 h0] at hu
      simp at hu
    · refine ⟨⟨g, (k + 1) * 5, none⟩, by simp [h], fun t u hu => ?_⟩
      rw [add_fl]
      exact hget t u hu
  obtain ⟨W1, hW1⟩ : ∃ W1, W1 = w.drew.setCells g (0 + k * 5) news := ⟨_, rfl⟩
  have HW : Hid (W1 = w.drew.setCells g (0 + k * 5) news) := hW1
  have HO1 : Hid (W1.ownsRow B 32 5 (.slice (some ⟨g, 0, none⟩) l.length cap) l.length (ovr (l.flatMap prC) (k * 5) news)) := by
    show World.ownsRow _ _ _ _ _ _ _
    rw [hW1, Nat.zero_add]
    exact own_ovr news _ _ _ HO.out.drew
  have HG1 : Hid (w.grownBy W1 (some g)) := by
    show World.grownBy _ _ _
    rw [hW1]
    exact grown_setCells_c news _ _ ⟨rfl, rfl, rfl, Nat.le_refl _, fun _ _ _ => rfl⟩
  obtain ⟨vs, hclr⟩ := clearPr W1 g ((l.length - 1) * 5) (cap - (l.length - 1)) (fun j hj => by
    have := HO1.out.cellAt ((l.length - 1) * 5 + j) (by omega)
    rw [this, List.getElem?_eq_getElem (by rw [HO1.out.1]; omega)]
    rfl) (fun j hj => HO1.out.frozenAt _)
  have HP1 : Hid (W1.ownsRow B 32 5 (.slice (some ⟨g, 0, none⟩) (l.length - 1) cap) (l.length - 1) ((l.eraseIdx k).flatMap prC)) := by
    show World.ownsRow _ _ _ _ _ _ _
    rw [← gone_row prC_len l k hk, ← hnews]
    exact own_prefix_c HO1.out (by omega)
  have HP2 := hide (own_setCells_c vs ((l.length - 1) * 5) W1 HP1.out (Nat.le_refl _))
  have HG2 := hide (grown_setCells_c vs ((l.length - 1) * 5) W1 HG1.out)
  clear hW1 hcells hfz hget hlen hfl hnews HO1 HP1 HG1 HO
  have hic : k ≤ cap := by omega
  have hjc : k + 1 ≤ cap := by omega
  have hq1 : (0 : Int) ≤ (k : Int) + 1 := by omega
  have hq2 : (k : Int) + 1 ≤ (l.length : Int) := by omega
  have hq3 : k + (l.length - (k + 1)) = l.length - 1 := by omega
  have hq4 : l.length - (l.length - 1) = 1 := by omega
  go_enter Tryz.func11, Tryz.ntmps11
  go_wp2_with fail
  go_region_law (refine step_append_room rfl (.tmp 22) (.tmp 25) 25 rfl 32 i0 5 Tryz.underlying25 hi hz1 g 0 k cap (by simp [Act.eval, Act.put]) A (l.length - (k + 1)) (cap - (k + 1)) news (by simp [Act.eval, Act.put]) s1.out hsrc.out s2.out (by omega) s3.out ?_; rw [← HW.out])
  have hr1 : ((l.length - 1 : Nat) : Int) ≤ (l.length : Int) := by omega
  have hr2 : (l.length : Int) ≤ (cap : Int) := by omega
  have hr3 : ¬ cap = l.length - 1 := by omega
  have hr4 : (0 : Int) ≤ ((l.length - 1 : Nat) : Int) := by omega
  generalize hq : l.length - 1 = q at *
  clear s1 s2 s3 hsrc hA HW
  go_wp2_with (simp only [hclr])
  go_ret
  subst hq
  exact ⟨rfl, HP2.out, HG2.out⟩

theorem clearAc (w : World) (b o c : Nat) (hc : ∀ j, j < 9 → (w.cell? ⟨b, o + j, none⟩).isSome = true) (hf : ∀ j, j < 9 → w.frozen? ⟨b, o + j, none⟩ = false) :
    ∃ vs, ∀ ty, (Builtin.clear_ #[26] ty #[.slice (some ⟨b, o, none⟩) 1 c]).run Tryz.prog w = .ok (.tuple #[]) (w.setCells b o vs) := by
  have hv : ∀ w, (zeroValue 39).run Tryz.prog w = .ok (.agg #[.int .i64 0, .int .i64 0, .bool false, .int .i64 0, .int .i64 0, .int .i64 0, .int .i64 0, .int .i64 0, .bool false]) w := fun w => by kernel_rfl
  refine ⟨(Builtin.zeroCells #[.int .i64 0, .int .i64 0, .bool false, .int .i64 0, .int .i64 0, .int .i64 0, .int .i64 0, .int .i64 0, .bool false] 1).toList, fun ty => ?_⟩
  have hlen : (Builtin.zeroCells #[Value.int .i64 0, .int .i64 0, .bool false, .int .i64 0, .int .i64 0, .int .i64 0, .int .i64 0, .int .i64 0, .bool false] 1).toList.length = 9 := by simp [Builtin.zeroCells]
  have hone : ∀ v ∈ (Builtin.zeroCells #[Value.int .i64 0, .int .i64 0, .bool false, .int .i64 0, .int .i64 0, .int .i64 0, .int .i64 0, .int .i64 0, .bool false] 1).toList, v.oneCell' = true := all_one (by kernel_rfl)
  have hst := run_storeCells_cells (P := Tryz.prog) b o (Builtin.zeroCells #[.int .i64 0, .int .i64 0, .bool false, .int .i64 0, .int .i64 0, .int .i64 0, .int .i64 0, .int .i64 0, .bool false] 1).toList 0 w (by rw [hlen]; simpa using hc) (by rw [hlen]; simpa using hf) hone
  simp only [Nat.add_zero] at hst
  simp [Builtin.clear_, run_underlying Tryz.underlying26, hv, hst, Value.cells]

set_option maxHeartbeats 4000000 in
theorem deleteAc_any (l : List Ac) (B g cap k : Nat) (w : World) (hown : w.ownsRow B 39 9 (.slice (some ⟨g, 0, none⟩) l.length cap) l.length (l.flatMap acC)) (hk : k < l.length) (hl : l.length ≤ 1000) :
    Calls Tryz.prog 35 #[.slice (some ⟨g, 0, none⟩) l.length cap, .int .i64 k, .int .i64 (k + 1)] w fun e w' => e = .returned (.slice (some ⟨g, 0, none⟩) (l.length - 1) cap) ∧
      w'.ownsRow B 39 9 (.slice (some ⟨g, 0, none⟩) (l.length - 1) cap) (l.length - 1) ((l.eraseIdx k).flatMap acC) ∧ w.grownBy w' (some g) := by
  obtain ⟨i0, hi, hz0, hz1, hz2⟩ := info_parts infoAc
  have HO := hide hown
  have hcap : l.length ≤ cap ∧ cap ≤ maxLen := by
    obtain ⟨_, ⟨h, _⟩ | ⟨g', cap', cur, hv, _, _, hnc, hm, _⟩⟩ := hown
    · simp at h
    · simp only [Value.slice.injEq] at hv
      obtain ⟨_, _, rfl⟩ := hv
      exact ⟨hnc, hm⟩
  obtain ⟨hcap, hcm⟩ := hcap
  unfold maxLen at hcm
  have hcells : ∀ j, j < l.length * 9 → w.cell? ⟨g, j, none⟩ = (l.flatMap acC)[j]? := fun j hj => hown.cellAt j hj
  have hfz : ∀ j, w.frozen? ⟨g, j, none⟩ = false := fun j => hown.frozenAt j
  clear hown
  obtain ⟨news, hnews⟩ : ∃ news, news = (l.drop (k + 1)).flatMap acC := ⟨_, rfl⟩
  have hlen : news.length = (l.length - (k + 1)) * 9 := by rw [hnews, flat_len acC_len, List.length_drop]
  have hfl := flat_len acC_len l
  have hget : ∀ t u, news[t]? = some u → w.cell? ⟨g, (k + 1) * 9 + t, none⟩ = some u := fun t u hu => by
    have ht : t < news.length := (List.getElem?_eq_some_iff.1 hu).1
    rw [hcells _ (by rw [hlen] at ht; omega)]
    rw [hnews, ← flat_drop acC_len, List.getElem?_drop] at hu
    exact hu
  have s1 : Hid (news.length = (l.length - (k + 1)) * 9) := hlen
  have s2 : Hid (∀ u ∈ news, u.oneCell' = true) := by rw [hnews]; exact acC_one _
  have s3 : Hid (∀ t, t < news.length → (w.drew.cell? ⟨g, 0 + k * 9 + t, none⟩).isSome = true ∧ w.drew.frozen? ⟨g, 0 + k * 9 + t, none⟩ = false) := by
    intro t ht
    refine ⟨?_, hfz _⟩
    show (w.cell? _).isSome = true
    have hjl : 0 + k * 9 + t < l.length * 9 := by rw [hlen] at ht; omega
    rw [hcells _ hjl, List.getElem?_eq_getElem (by rw [hfl]; exact hjl)]
    rfl
  obtain ⟨A, hA, hsrc⟩ : ∃ A : Addr, (if cap = k + 1 then some (⟨g, 0, none⟩ : Addr) else some ⟨g, (k + 1) * 9, none⟩) = some A ∧ Hid (∀ t u, news[t]? = some u → w.drew.cell? (A.add t) = some u) := by
    by_cases h : cap = k + 1
    · refine ⟨⟨g, 0, none⟩, by simp [h], fun t u hu => ?_⟩
      have h0 : news.length = 0 := by rw [hlen]; have : l.length - (k + 1) = 0 := by omega
                                      rw [this, Nat.zero_mul]
      rw [List.length_eq_zero_iff.1 h0] at hu
      simp at hu
    · refine ⟨⟨g, (k + 1) * 9, none⟩, by simp [h], fun t u hu => ?_⟩
      rw [add_fl]
      exact hget t u hu
  obtain ⟨W1, hW1⟩ : ∃ W1, W1 = w.drew.setCells g (0 + k * 9) news := ⟨_, rfl⟩
  have HW : Hid (W1 = w.drew.setCells g (0 + k * 9) news) := hW1
  have HO1 : Hid (W1.ownsRow B 39 9 (.slice (some ⟨g, 0, none⟩) l.length cap) l.length (ovr (l.flatMap acC) (k * 9) news)) := by
    show World.ownsRow _ _ _ _ _ _ _
    rw [hW1, Nat.zero_add]
    exact own_ovr news _ _ _ HO.out.drew
  have HG1 : Hid (w.grownBy W1 (some g)) := by
    show World.grownBy _ _ _
    rw [hW1]
    exact grown_setCells_c news _ _ ⟨rfl, rfl, rfl, Nat.le_refl _, fun _ _ _ => rfl⟩
  obtain ⟨vs, hclr⟩ := clearAc W1 g ((l.length - 1) * 9) (cap - (l.length - 1)) (fun j hj => by
    have := HO1.out.cellAt ((l.length - 1) * 9 + j) (by omega)
    rw [this, List.getElem?_eq_getElem (by rw [HO1.out.1]; omega)]
    rfl) (fun j hj => HO1.out.frozenAt _)
  have HP1 : Hid (W1.ownsRow B 39 9 (.slice (some ⟨g, 0, none⟩) (l.length - 1) cap) (l.length - 1) ((l.eraseIdx k).flatMap acC)) := by
    show World.ownsRow _ _ _ _ _ _ _
    rw [← gone_row acC_len l k hk, ← hnews]
    exact own_prefix_c HO1.out (by omega)
  have HP2 := hide (own_setCells_c vs ((l.length - 1) * 9) W1 HP1.out (Nat.le_refl _))
  have HG2 := hide (grown_setCells_c vs ((l.length - 1) * 9) W1 HG1.out)
  clear hW1 hcells hfz hget hlen hfl hnews HO1 HP1 HG1 HO
  have hic : k ≤ cap := by omega
  have hjc : k + 1 ≤ cap := by omega
  have hq1 : (0 : Int) ≤ (k : Int) + 1 := by omega
  have hq2 : (k : Int) + 1 ≤ (l.length : Int) := by omega
  have hq3 : k + (l.length - (k + 1)) = l.length - 1 := by omega
  have hq4 : l.length - (l.length - 1) = 1 := by omega
  go_enter Tryz.func35, Tryz.ntmps35
  go_wp2_with fail
  go_region_law (refine step_append_room rfl (.tmp 22) (.tmp 25) 26 rfl 39 i0 9 Tryz.underlying26 hi hz1 g 0 k cap (by simp [Act.eval, Act.put]) A (l.length - (k + 1)) (cap - (k + 1)) news (by simp [Act.eval, Act.put]) s1.out hsrc.out s2.out (by omega) s3.out ?_; rw [← HW.out])
  have hr1 : ((l.length - 1 : Nat) : Int) ≤ (l.length : Int) := by omega
  have hr2 : (l.length : Int) ≤ (cap : Int) := by omega
  have hr3 : ¬ cap = l.length - 1 := by omega
  have hr4 : (0 : Int) ≤ ((l.length - 1 : Nat) : Int) := by omega
  generalize hq : l.length - 1 = q at *
  clear s1 s2 s3 hsrc hA HW
  go_wp2_with (simp only [hclr])
  go_ret
  subst hq
  exact ⟨rfl, HP2.out, HG2.out⟩

end Go.Proofs.YtonhfgdnkkkikadGreat
