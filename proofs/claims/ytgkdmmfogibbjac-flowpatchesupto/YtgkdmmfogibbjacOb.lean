/-
  What the bound of the second form gives: how many flows came in, how many matches and how much is done in each.
-/
import Derived.Test.YtgkdmmfogibbjacOf
import Derived.Test.YtgkdmmfogibbjacRows
namespace Go.Proofs.Ytgkdmmfogibbjac
open Go.ChangeShapes Go.WideShapes Go.ChangeAt Go.RowKit
set_option linter.unusedVariables false
set_option maxRecDepth 100000

theorem bulk_one {H : Type} (d : DataW H) : 1 ≤ Rows.uptoBulk d := by
  cases d with
  | lit l => cases l <;> simp [Rows.uptoBulk]
  | nil => simp [Rows.uptoBulk]
  | ptr d => simp [Rows.uptoBulk]
  | slice elems spare => simp [Rows.uptoBulk]
  | agg parts => simp [Rows.uptoBulk]
  | iface t d => simp [Rows.uptoBulk]
  | map entries => simp [Rows.uptoBulk]
  | held h => simp [Rows.uptoBulk]
theorem bulk_part {H : Type} {d : DataW H} {l : List (DataW H)} (h : d ∈ l) : Rows.uptoBulk d ≤ Rows.uptoBulkAll l := by
  induction l with
  | nil => cases h
  | cons x r ih =>
    simp only [Rows.uptoBulkAll]
    cases List.mem_cons.1 h with
    | inl e => subst e; omega
    | inr e => have := ih e; omega
theorem bulk_length {H : Type} (l : List (DataW H)) : l.length ≤ Rows.uptoBulkAll l := by
  induction l with
  | nil => simp [Rows.uptoBulkAll]
  | cons x r ih => have := bulk_one x; simp only [Rows.uptoBulkAll, List.length_cons]; omega

/-- A slice's length, out of its reading. -/
theorem bulk_slice {H : Type} {enc : TypeId × Value → H} {w : World} {base : Nat} {spare : Nat → Bool} {held : Bool} {t e : TypeId} {fuel : Nat} {o : Option Addr} {len cap : Nat} {x : DataW H × List MemPlace} (ht : Try.prog.underlying t = some (.slice e))
    (h : DataW.trod enc Try.prog w base spare held fuel t [.slice o len cap] = some x) : len ≤ Rows.uptoBulk x.1 := by
  rcases Deep.open_slice ht h with ⟨hcs, _⟩ | ⟨a, l, c, m, n, D, Pl, hcs, _, _, _, _, rfl, _⟩
  · simp at hcs; omega
  · simp at hcs
    obtain ⟨_, rfl, _⟩ := hcs
    have := bulk_length ((List.range len).map D)
    simp only [Rows.uptoBulk]
    simp at this
    omega

theorem bulk_flows {H : Type} {enc : TypeId × Value → H} {w : World} {base : Nat} {spare : Nat → Bool} {held : Bool} {v : Value} {d : DataW H} {p : List MemPlace} {fs : List Fl}
    (hF : FsAt w v fs) (h : DataW.Trod enc Try.prog w base spare held 22 v d p) :
    fs.length ≤ Rows.uptoBulk d ∧ ∀ f ∈ fs, f.ms.length ≤ Rows.uptoBulk d ∧ f.ds.length ≤ Rows.uptoBulk d := by
  obtain ⟨a, cap, rfl, hn, hL⟩ := hF
  obtain ⟨fuel, hf⟩ := h
  simp only [Value.cells] at hf
  refine ⟨bulk_slice Try.underlying22 hf, fun f hmem => ?_⟩
  obtain ⟨k, hk, rfl⟩ := List.getElem_of_mem hmem
  rcases hL with h0 | ⟨b, off, rfl, _, hcell⟩
  · omega
  have hg : fs.getD k fl0 = fs[k] := by simp [List.getD, List.getElem?_eq_getElem hk]
  have hfl := hcell k hk
  rw [hg] at hfl
  obtain ⟨_, _, mv, dv, c2, c3, ⟨ma, mc, rfl, _⟩, ⟨da, dc, rfl, _⟩⟩ := hfl
  rcases Deep.open_slice Try.underlying22 hf with ⟨hcs, _⟩ | ⟨x, l, c, m, n, D, Pl, hcs, _, hl, _, hm, hd, hx⟩
  · simp at hcs
  · simp at hcs
    obtain ⟨rfl, rfl, rfl⟩ := hcs
    have hlm : fs.length ≤ m := by rw [hm]; split <;> omega
    rw [cellsFlow] at hx
    simp only [Prod.mk.injEq] at hd
    obtain ⟨cs', hcs', htr⟩ := hx k (by omega)
    rw [add_flat] at hcs'
    obtain ⟨d0, d1, d2, d3, rfl, k0, k1, k2, k3⟩ := four_cells hcs'
    rw [c2] at k2
    rw [c3] at k3
    simp only [Option.some.injEq] at k2 k3
    subst k2 k3
    obtain ⟨xs, n', _, hxs, _, hlen, hfd⟩ := DataW.trod_struct Try.underlying41 htr
    have h4 : xs.length = 4 := by simpa using hlen
    have g2 := hfd 2 _ rfl
    have g3 := hfd 3 _ rfl
    rw [List.getElem?_eq_getElem (show 2 < xs.length by omega)] at g2
    rw [List.getElem?_eq_getElem (show 3 < xs.length by omega)] at g3
    have b2 := bulk_slice Try.underlying36 (o := ma) (len := fs[k].ms.length) (cap := mc) g2
    have b3 := bulk_slice Try.underlying39 (o := da) (len := fs[k].ds.length) (cap := dc) g3
    have hDk : Rows.uptoBulk (D k) ≤ Rows.uptoBulk d := by
      rw [hd.1]
      have := bulk_part (d := D k) (l := (List.range fs.length).map D) (List.mem_map.2 ⟨k, List.mem_range.2 hk, rfl⟩)
      simp only [Rows.uptoBulk]
      omega
    simp only [Prod.mk.injEq] at hxs
    have hin : ∀ i (hi : i < xs.length), Rows.uptoBulk (xs[i]).1 ≤ Rows.uptoBulk (D k) := fun i hi => by
      rw [hxs.1]
      have := bulk_part (d := (xs[i]).1) (l := xs.map (·.1)) (List.mem_map.2 ⟨xs[i], List.getElem_mem hi, rfl⟩)
      simp only [Rows.uptoBulk]
      omega
    have i2 := hin 2 (by omega)
    have i3 := hin 3 (by omega)
    exact ⟨by omega, by omega⟩

/-- THE BOUND, at one list of flows. -/
theorem bulk_one_flows {H : Type} {d : DataW H} (hk : Rows.uptoSmall H [d] = true) : Rows.uptoBulk d ≤ 1048576 := by
  have h : Rows.uptoBulkAll [d] ≤ 1048576 := of_decide_eq_true hk
  simp only [Rows.uptoBulkAll] at h
  omega

end Go.Proofs.Ytgkdmmfogibbjac
