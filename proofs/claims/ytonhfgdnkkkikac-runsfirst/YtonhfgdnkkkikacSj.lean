/-
  flow.fresh of what a flow holds; flow.Sort: the flows in their places, each once.
-/
import Derived.Test.YtonhfgdnkkkikacSi
namespace Go.Proofs.Ytonhfgdnkkkikac
open Go.RowKit
set_option linter.unusedVariables false
set_option maxRecDepth 100000

theorem infoMt : (Try.prog.info? 35).map (fun i => (i.zero, i.size, i.bytes)) = some (some (.agg #[.int .i64 0, .int .i64 0, .int .i64 0]), 3, 24) := by kernel_rfl
theorem infoDo : (Try.prog.info? 38).map (fun i => (i.zero, i.size, i.bytes)) = some (some (.agg #[.int .i64 0, .int .i64 0, .int .i64 0]), 3, 24) := by kernel_rfl
theorem D_len (l : List Do) : (D l).length = 3 * l.length := by
  induction l with
  | nil => rfl
  | cons x r ih => simp [D] at ih ⊢; omega
theorem addf2 (b o j : Nat) : (⟨b, o, none⟩ : Addr).add j = ⟨b, o + j, none⟩ := by by_cases h : j = 0 <;> simp [Addr.add, h]

set_option maxHeartbeats 1000000 in
theorem freshMs_any (v : Value) (ms : List Mt) (w : World) (hM : MsAt w v ms) (hl : ms.length ≤ 2000000) :
    Calls Try.prog 38 #[v] w fun e w' => ∃ u, e = .returned u ∧ MsAt w' u ms ∧ (∀ k, u.ownBlock = some k → w.heap.size ≤ k) ∧ Below w.heap.size w w' := by
  obtain ⟨i0, hi, hz0, hz1, hz2⟩ := info_parts infoMt
  have HM := hide hM
  obtain ⟨a, cap, rfl, hn, hL⟩ := hM
  cases a with
  | none =>
    obtain rfl := hn rfl
    have h0 : ms.length = 0 := by
      rcases hL with h | ⟨_, _, h, _⟩
      · exact h
      · simp at h
    rw [h0]
    refine (freshMsNil_any w).mono ?_
    rintro e w' ⟨rfl, rfl⟩
    exact ⟨_, rfl, ⟨none, 0, by rw [h0], fun _ => rfl, .inl h0⟩, fun k hk => by simp [Value.ownBlock] at hk, Below.refl _ _⟩
  | some ad =>
    have hnews : ∀ j u, (M ms)[j]? = some u → w.cell? (ad.add j) = some u := by
      rcases hL with h | ⟨b, off, h4, _, h5⟩
      · intro j u hj
        rw [List.eq_nil_of_length_eq_zero h] at hj
        simp [M] at hj
      · cases h4
        intro j u hj
        have hjl : j < 3 * ms.length := by
          rcases Nat.lt_or_ge j (3 * ms.length) with h | h
          · exact h
          · rw [List.getElem?_eq_none (by rw [M_length]; exact h)] at hj; simp at hj
        obtain ⟨c0, c1, c2⟩ := M_at ms (j / 3) (by omega)
        obtain ⟨d0, d1, d2⟩ := h5 (j / 3) (by omega)
        rw [addf2]
        have hm : j % 3 = 0 ∨ j % 3 = 1 ∨ j % 3 = 2 := by omega
        rcases hm with e | e | e
        · have ej : j = j / 3 * 3 := by omega
          rw [← ej] at c0 d0; rw [c0] at hj; rw [d0]; exact hj
        · have ej : j = j / 3 * 3 + 1 := by omega
          rw [← ej] at c1; rw [c1] at hj; rw [show off + j = off + j / 3 * 3 + 1 by omega, d1]; exact hj
        · have ej : j = j / 3 * 3 + 2 := by omega
          rw [← ej] at c2; rw [c2] at hj; rw [show off + j = off + j / 3 * 3 + 2 by omega, d2]; exact hj
    have hone : ∀ u ∈ M ms, u.oneCell' = true := by
      intro u hu
      simp only [M, List.mem_flatMap] at hu
      obtain ⟨x, _, hu⟩ := hu
      simp only [List.mem_cons, List.not_mem_nil, or_false] at hu
      rcases hu with rfl | rfl | rfl <;> rfl
    have HN := hide hnews
    have H1 := hide hone
    clear hnews hone hL hn
    go_enter Try.func38, Try.ntmps38
    go_wp2_with (at_builtin; refine wpList_append_own _ rfl _ _ 36 rfl w.heap.size 35 i0 _ 3 24 Try.underlying36 hi hz0 hz1 hz2 rfl (by decide) _ _ _ rfl (World.ownsRow_nil w w.heap.size 35 3) ad ms.length cap (M ms) rfl ?a0 HN.out H1.out ?a1 ?a2 ?a3 ?_)
    case a0 => rw [M_length]; omega
    case a1 => unfold maxLen; omega
    case a2 => omega
    case a3 => exact Nat.le_refl _
    intro v1 w1 ho1 hg1 _
    have hb1 : Below w.heap.size w w1 := (Below.refl _ w).grown hg1 (by simp) (own_ge (World.ownsRow_nil w w.heap.size 35 3))
    have ho1' : w1.ownsRow w.heap.size 35 3 v1 ms.length (M ms) := by simpa using ho1
    have HMA := hide (MsAt.of_own ho1')
    have HGE := hide (own_ge ho1')
    clear ho1 hg1 ho1'
    go_wp2
    go_ret
    exact ⟨v1, rfl, HMA.out, HGE.out, hb1⟩

set_option maxHeartbeats 1000000 in
theorem freshDs_any (v : Value) (ms : List Do) (w : World) (hM : DsAt w v ms) (hl : ms.length ≤ 2000000) :
    Calls Try.prog 39 #[v] w fun e w' => ∃ u, e = .returned u ∧ DsAt w' u ms ∧ (∀ k, u.ownBlock = some k → w.heap.size ≤ k) ∧ Below w.heap.size w w' := by
  obtain ⟨i0, hi, hz0, hz1, hz2⟩ := info_parts infoDo
  have HM := hide hM
  obtain ⟨a, cap, rfl, hn, hL⟩ := hM
  cases a with
  | none =>
    obtain rfl := hn rfl
    have h0 : ms.length = 0 := by
      rcases hL with h | ⟨_, _, h, _⟩
      · exact h
      · simp at h
    rw [h0]
    refine (freshDsNil_any w).mono ?_
    rintro e w' ⟨rfl, rfl⟩
    exact ⟨_, rfl, ⟨none, 0, by rw [h0], fun _ => rfl, .inl h0⟩, fun k hk => by simp [Value.ownBlock] at hk, Below.refl _ _⟩
  | some ad =>
    have hnews : ∀ j u, (D ms)[j]? = some u → w.cell? (ad.add j) = some u := by
      rcases hL with h | ⟨b, off, h4, _, h5⟩
      · intro j u hj
        rw [List.eq_nil_of_length_eq_zero h] at hj
        simp [D] at hj
      · cases h4
        intro j u hj
        have hjl : j < 3 * ms.length := by
          rcases Nat.lt_or_ge j (3 * ms.length) with h | h
          · exact h
          · rw [List.getElem?_eq_none (by rw [D_len]; exact h)] at hj; simp at hj
        obtain ⟨c0, c1, c2⟩ := D_at ms (j / 3) (by omega)
        obtain ⟨d0, d1, d2⟩ := h5 (j / 3) (by omega)
        rw [addf2]
        have hm : j % 3 = 0 ∨ j % 3 = 1 ∨ j % 3 = 2 := by omega
        rcases hm with e | e | e
        · have ej : j = j / 3 * 3 := by omega
          rw [← ej] at c0 d0; rw [c0] at hj; rw [d0]; exact hj
        · have ej : j = j / 3 * 3 + 1 := by omega
          rw [← ej] at c1; rw [c1] at hj; rw [show off + j = off + j / 3 * 3 + 1 by omega, d1]; exact hj
        · have ej : j = j / 3 * 3 + 2 := by omega
          rw [← ej] at c2; rw [c2] at hj; rw [show off + j = off + j / 3 * 3 + 2 by omega, d2]; exact hj
    have hone : ∀ u ∈ D ms, u.oneCell' = true := by
      intro u hu
      simp only [D, List.mem_flatMap] at hu
      obtain ⟨x, _, hu⟩ := hu
      simp only [List.mem_cons, List.not_mem_nil, or_false] at hu
      rcases hu with rfl | rfl | rfl <;> rfl
    have HN := hide hnews
    have H1 := hide hone
    clear hnews hone hL hn
    go_enter Try.func39, Try.ntmps39
    go_wp2_with (at_builtin; refine wpList_append_own _ rfl _ _ 39 rfl w.heap.size 38 i0 _ 3 24 Try.underlying39 hi hz0 hz1 hz2 rfl (by decide) _ _ _ rfl (World.ownsRow_nil w w.heap.size 38 3) ad ms.length cap (D ms) rfl ?a0 HN.out H1.out ?a1 ?a2 ?a3 ?_)
    case a0 => rw [D_len]; omega
    case a1 => unfold maxLen; omega
    case a2 => omega
    case a3 => exact Nat.le_refl _
    intro v1 w1 ho1 hg1 _
    have hb1 : Below w.heap.size w w1 := (Below.refl _ w).grown hg1 (by simp) (own_ge (World.ownsRow_nil w w.heap.size 38 3))
    have ho1' : w1.ownsRow w.heap.size 38 3 v1 ms.length (D ms) := by simpa using ho1
    have HMA := hide (DsAt.of_own ho1')
    have HGE := hide (own_ge ho1')
    clear ho1 hg1 ho1'
    go_wp2
    go_ret
    exact ⟨v1, rfl, HMA.out, HGE.out, hb1⟩

theorem C_set2 : ∀ (l : List Fv) (i : Nat) (v : Value), i < l.length → (C l).set (i * 4 + 2) v = C (l.set i ⟨(l.getD i fv0).f, v, (l.getD i fv0).dv⟩)
  | [], i, _, h => by simp at h
  | y :: r, 0, v, _ => by simp [C]
  | y :: r, i + 1, v, h => by
    have ih := C_set2 r i v (by simpa using h)
    have e : (i + 1) * 4 + 2 = (i * 4 + 2) + 4 := by omega
    simp only [C, List.flatMap_cons, List.set_cons_succ, List.getD_cons_succ] at ih ⊢
    rw [e]
    simp only [List.cons_append, List.nil_append, List.set_cons_succ]
    rw [ih]
theorem C_set3 : ∀ (l : List Fv) (i : Nat) (v : Value), i < l.length → (C l).set (i * 4 + 3) v = C (l.set i ⟨(l.getD i fv0).f, (l.getD i fv0).mv, v⟩)
  | [], i, _, h => by simp at h
  | y :: r, 0, v, _ => by simp [C]
  | y :: r, i + 1, v, h => by
    have ih := C_set3 r i v (by simpa using h)
    have e : (i + 1) * 4 + 3 = (i * 4 + 3) + 4 := by omega
    simp only [C, List.flatMap_cons, List.set_cons_succ, List.getD_cons_succ] at ih ⊢
    rw [e]
    simp only [List.cons_append, List.nil_append, List.set_cons_succ]
    rw [ih]

end Go.Proofs.Ytonhfgdnkkkikac
