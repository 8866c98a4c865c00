/-
  What is wanted, as it came in, opened.
-/
import Derived.Test.YtonhfgdnkkkikacCn
import Derived.Test.YtonhfgdnkkkikacOa
import Derived.Deep.Slices
import Derived.SizedLaws
namespace Go.Proofs.Ytonhfgdnkkkikac
open Go.ChangeShapes Go.WideShapes Go.ChangeAt Go.RowKit
set_option linter.unusedVariables false
set_option maxRecDepth 100000

/-- An address of which a row of cells is read is plain. -/
theorem plain_at {w : World} {base n : Nat} {a : Addr} {cs : List Value} (hn : 0 < n) (h : w.cells? base (a.add 0) n = some cs) : a.spot = none := by
  obtain ⟨_, hlen, hc⟩ := World.cells?_some h
  have h0 := hc 0 hn
  have e : (a.add 0).add 0 = a := by simp [Addr.add]
  rw [e] at h0
  have hs : ∃ c, cs[0]? = some c := ⟨cs[0], by simp [List.getElem?_eq_getElem (show 0 < cs.length by omega)]⟩
  obtain ⟨c, hs⟩ := hs
  rw [hs] at h0
  exact World.cell?_spot h0

section
variable {H : Type} {enc : TypeId × Value → H} {w : World} {base : Nat} {spare : Nat → Bool} {held : Bool}

theorem open_rows {α : Type} [Inhabited α] {C : α → List Value} {sz : Nat} {t e : TypeId} {fuel : Nat} {cs : List Value} {y : DataW H × List MemPlace} (ht : Try.prog.underlying t = some (.slice e)) (hc : Try.prog.cellsOf e = sz) (hs : 0 < sz)
    (hel : ∀ n cs' z, DataW.trod enc Try.prog w base spare held n e cs' = some z → ∃ x : α, cs' = C x) (h : DataW.trod enc Try.prog w base spare held fuel t cs = some y) :
    ∃ v l, cs = [v] ∧ RowAt C sz w v l ∧ (l.length = 0 ∨ ∃ elems sp, y.1 = .slice elems sp ∧ elems.length = l.length) := by
  rcases Deep.open_slice ht h with ⟨rfl, _⟩ | ⟨a, len, cap, m, n, D, Pl, rfl, _, hl, _, hm, hd, hx⟩
  · exact ⟨_, [], rfl, RowAt.nil _ _ _, .inl rfl⟩
  · have hlm : len ≤ m := by rw [hm]; split <;> omega
    rw [hc] at hx
    by_cases hz : len = 0
    · subst hz
      exact ⟨_, [], rfl, ⟨some a, cap, rfl, fun h => by simp at h, .inl rfl⟩, .inl rfl⟩
    · obtain ⟨b, off, spot⟩ := a
      obtain ⟨cs0, hcs0, _⟩ := hx 0 (by omega)
      rw [Nat.zero_mul] at hcs0
      have hsp : spot = none := plain_at (a := ⟨b, off, spot⟩) hs hcs0
      subst hsp
      obtain ⟨F, hF⟩ := Deep.choose_lt (α := α) (n := len) (p := fun i x => ∀ j u, (C x)[j]? = some u → w.cell? ⟨b, off + i * sz + j, none⟩ = some u) (fun i hi => by
        obtain ⟨cs', hcs', htr⟩ := hx i (by omega)
        obtain ⟨x, rfl⟩ := hel _ _ _ htr
        refine ⟨x, fun j u hu => ?_⟩
        obtain ⟨_, hlen, hcell⟩ := World.cells?_some hcs'
        have hj : j < sz := by
          rcases Nat.lt_or_ge j (C x).length with h | h
          · omega
          · simp [List.getElem?_eq_none h] at hu
        have := hcell j hj
        rw [add_fl, add_fl] at this
        rw [this]
        exact hu)
      have hll : ((List.range len).map F).length = len := by simp
      refine ⟨_, (List.range len).map F, rfl, ⟨some ⟨b, off, none⟩, cap, by rw [hll], fun h => by simp at h, .inr ⟨b, off, rfl, by rw [hll]; exact hl, fun i x hx => ?_⟩⟩, .inr ⟨_, _, by rw [hd], by simp⟩⟩
      have hi : i < len := by
        rcases Nat.lt_or_ge i len with h | h
        · exact h
        · simp [List.getElem?_eq_none (show ((List.range len).map F).length ≤ i by omega)] at hx
      have : x = F i := by
        rw [List.getElem?_map, List.getElem?_range hi] at hx
        simpa using hx.symm
      subst this
      exact hF i hi

instance : Inhabited Sw := ⟨sw0⟩
instance : Inhabited Pr := ⟨pr0⟩
instance : Inhabited Ac := ⟨ac0⟩
theorem bool_cell {n i : Nat} {c : Value} {xs : List (DataW H × List MemPlace)} (hi : i < xs.length)
    (h : DataW.trod enc Try.prog w base spare held n 4 [c] = xs[i]?) : ∃ k, c = .bool k := by
  rw [List.getElem?_eq_getElem hi] at h
  obtain ⟨k, hc, _⟩ := DataW.trod_bool Try.underlying4 h
  exact ⟨k, by simpa using hc⟩

theorem list3 {α : Type} {cs : List α} (h : cs.length = 3) : ∃ c0 c1 c2, cs = [c0, c1, c2] := by
  match cs, h with
  | [c0, c1, c2], _ => exact ⟨c0, c1, c2, rfl⟩
theorem list5 {α : Type} {cs : List α} (h : cs.length = 5) : ∃ c0 c1 c2 c3 c4, cs = [c0, c1, c2, c3, c4] := by
  match cs, h with
  | [c0, c1, c2, c3, c4], _ => exact ⟨c0, c1, c2, c3, c4, rfl⟩
theorem list9 {α : Type} {cs : List α} (h : cs.length = 9) : ∃ c0 c1 c2 c3 c4 c5 c6 c7 c8, cs = [c0, c1, c2, c3, c4, c5, c6, c7, c8] := by
  match cs, h with
  | [c0, c1, c2, c3, c4, c5, c6, c7, c8], _ => exact ⟨c0, c1, c2, c3, c4, c5, c6, c7, c8, rfl⟩

theorem open_sw {n : Nat} {cs : List Value} {z : DataW H × List MemPlace} (h : DataW.trod enc Try.prog w base spare held n 86 cs = some z) : ∃ x : Sw, cs = swC x := by
  obtain ⟨xs, n', _, _, hcl, hlen, hf⟩ := DataW.trod_struct Try.underlying86 h
  rw [show Try.prog.cellsOf 86 = 3 by kernel_rfl] at hcl
  have h3 : xs.length = 3 := by simpa using hlen
  obtain ⟨c0, c1, c2, rfl⟩ := list3 hcl
  obtain ⟨n0, rfl, _⟩ := int_cell (i := 0) (by omega) (hf 0 _ rfl)
  obtain ⟨n1, rfl, _⟩ := int_cell (i := 1) (by omega) (hf 1 _ rfl)
  obtain ⟨n2, rfl, _⟩ := int_cell (i := 2) (by omega) (hf 2 _ rfl)
  exact ⟨⟨n0, n1, n2⟩, rfl⟩
theorem open_pr {n : Nat} {cs : List Value} {z : DataW H × List MemPlace} (h : DataW.trod enc Try.prog w base spare held n 89 cs = some z) : ∃ x : Pr, cs = prC x := by
  obtain ⟨xs, n', _, _, hcl, hlen, hf⟩ := DataW.trod_struct Try.underlying89 h
  rw [show Try.prog.cellsOf 89 = 5 by kernel_rfl] at hcl
  have h3 : xs.length = 5 := by simpa using hlen
  obtain ⟨c0, c1, c2, c3, c4, rfl⟩ := list5 hcl
  obtain ⟨n0, rfl, _⟩ := int_cell (i := 0) (by omega) (hf 0 _ rfl)
  obtain ⟨n1, rfl, _⟩ := int_cell (i := 1) (by omega) (hf 1 _ rfl)
  obtain ⟨n2, rfl, _⟩ := int_cell (i := 2) (by omega) (hf 2 _ rfl)
  obtain ⟨n3, rfl, _⟩ := int_cell (i := 3) (by omega) (hf 3 _ rfl)
  obtain ⟨n4, rfl, _⟩ := int_cell (i := 4) (by omega) (hf 4 _ rfl)
  exact ⟨⟨n0, n1, n2, n3, n4⟩, rfl⟩
theorem open_ac {n : Nat} {cs : List Value} {z : DataW H × List MemPlace} (h : DataW.trod enc Try.prog w base spare held n 92 cs = some z) : ∃ x : Ac, cs = acC x := by
  obtain ⟨xs, n', _, _, hcl, hlen, hf⟩ := DataW.trod_struct Try.underlying92 h
  rw [show Try.prog.cellsOf 92 = 9 by kernel_rfl] at hcl
  have h3 : xs.length = 9 := by simpa using hlen
  obtain ⟨c0, c1, c2, c3, c4, c5, c6, c7, c8, rfl⟩ := list9 hcl
  obtain ⟨n0, rfl, _⟩ := int_cell (i := 0) (by omega) (hf 0 _ rfl)
  obtain ⟨n1, rfl, _⟩ := int_cell (i := 1) (by omega) (hf 1 _ rfl)
  obtain ⟨n2, rfl⟩ := bool_cell (i := 2) (by omega) (hf 2 _ rfl)
  obtain ⟨n3, rfl, _⟩ := int_cell (i := 3) (by omega) (hf 3 _ rfl)
  obtain ⟨n4, rfl, _⟩ := int_cell (i := 4) (by omega) (hf 4 _ rfl)
  obtain ⟨n5, rfl, _⟩ := int_cell (i := 5) (by omega) (hf 5 _ rfl)
  obtain ⟨n6, rfl, _⟩ := int_cell (i := 6) (by omega) (hf 6 _ rfl)
  obtain ⟨n7, rfl, _⟩ := int_cell (i := 7) (by omega) (hf 7 _ rfl)
  obtain ⟨n8, rfl⟩ := bool_cell (i := 8) (by omega) (hf 8 _ rfl)
  exact ⟨⟨n0, n1, n2, n3, n4, n5, n6, n7, n8⟩, rfl⟩
end

theorem bytesSw : Try.prog.bytesOf 86 = 24 := by kernel_rfl
theorem bytesPr : Try.prog.bytesOf 89 = 40 := by kernel_rfl
theorem bytesAc : Try.prog.bytesOf 92 = 72 := by kernel_rfl

theorem open_conf {H : Type} {enc : TypeId × Value → H} {w : World} {base b0 : Nat} {spare : Nat → Bool} {held : Bool} {r : Reach} {v : Value} {d : DataW H} {p : List MemPlace}
    (hv : Value.okWide Try.prog w r b0 59 v) (h : DataW.Trod enc Try.prog w base spare held 59 v d p) :
    ∃ sv pv av S P A, v = .agg #[sv, pv, av] ∧ CfAt w sv pv av S P A ∧ ((d.weights Try.prog 59).all (· ≤ reachBytes) = true → S.length * 24 ≤ 140737488355328 ∧ P.length * 40 ≤ 140737488355328 ∧ A.length * 72 ≤ 140737488355328) := by
  obtain ⟨cs, rfl, hsz⟩ := okWide_struct Try.underlying59 hv
  rw [show Try.prog.cellsOf 59 = 3 by kernel_rfl] at hsz
  obtain ⟨l⟩ := cs
  obtain ⟨c0, c1, c2, rfl⟩ := list3 (show l.length = 3 from hsz)
  obtain ⟨fuel, hf⟩ := h
  obtain ⟨xs, n, _, hd, _, hlen, hf⟩ := DataW.trod_struct Try.underlying59 hf
  have h3 : xs.length = 3 := by simpa using hlen
  obtain ⟨x0, x1, x2, rfl⟩ := list3 h3
  obtain ⟨v0, S, e0, hS, bS⟩ := open_rows (C := swC) (sz := 3) Try.underlying55 (by kernel_rfl) (by omega) (fun n cs' z hz => open_sw hz) (cs := [c0]) (hf 0 _ rfl)
  obtain ⟨v1, P, e1, hP, bP⟩ := open_rows (C := prC) (sz := 5) Try.underlying56 (by kernel_rfl) (by omega) (fun n cs' z hz => open_pr hz) (cs := [c1]) (hf 1 _ rfl)
  obtain ⟨v2, A, e2, hA, bA⟩ := open_rows (C := acC) (sz := 9) Try.underlying57 (by kernel_rfl) (by omega) (fun n cs' z hz => open_ac hz) (cs := [c2]) (hf 2 _ rfl)
  simp at e0 e1 e2
  subst e0 e1 e2
  refine ⟨c0, c1, c2, S, P, A, rfl, ⟨hS, hP, hA⟩, fun hw => ?_⟩
  simp only [Prod.mk.injEq] at hd
  obtain ⟨rfl, _⟩ := hd
  simp only [DataW.weights, Try.underlying59] at hw
  refine ⟨?_, ?_, ?_⟩
  · rcases bS with h | ⟨elems, sp, he, hl⟩
    · omega
    · have := sized_slice hw (j := 0) (t := 55) (e := 86) (elems := elems) (spare := sp) rfl (by simp [he]) Try.underlying55
      rw [bytesSw] at this
      simp only [reachBytes] at this
      omega
  · rcases bP with h | ⟨elems, sp, he, hl⟩
    · omega
    · have := sized_slice hw (j := 1) (t := 56) (e := 89) (elems := elems) (spare := sp) rfl (by simp [he]) Try.underlying56
      rw [bytesPr] at this
      simp only [reachBytes] at this
      omega
  · rcases bA with h | ⟨elems, sp, he, hl⟩
    · omega
    · have := sized_slice hw (j := 2) (t := 57) (e := 92) (elems := elems) (spare := sp) rfl (by simp [he]) Try.underlying57
      rw [bytesAc] at this
      simp only [reachBytes] at this
      omega

/-- Of all weights those of one argument. -/
theorem weights_one {H : Type} {P : Program} {ts : List TypeId} {ds : List (DataW H)} {j : Nat} {t : TypeId} {d : DataW H} (h : (DataW.weightsEach P ts ds).all (· ≤ reachBytes) = true) (ht : ts[j]? = some t) (hd : ds[j]? = some d) : (d.weights P t).all (· ≤ reachBytes) = true :=
  List.all_eq_true.2 fun n hn => List.all_eq_true.1 h n (DataW.weights_mem_each ht hd n hn)

end Go.Proofs.Ytonhfgdnkkkikac
