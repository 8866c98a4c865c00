/-
  Flows that came in, opened.
-/
import Derived.Test.YtgkdmmfogibbjacFl
import Derived.Test.YtgkdmmfogibbjacOp
import Derived.Deep.Slices
namespace Go.Proofs.Ytgkdmmfogibbjac
open Go.ChangeShapes Go.WideShapes Go.ChangeAt Go.RowKit
set_option linter.unusedVariables false
set_option maxRecDepth 100000

theorem cellsInt : Try.prog.cellsOf 3 = 1 := by kernel_rfl
theorem cellsFlow : Try.prog.cellsOf 41 = 4 := by kernel_rfl

theorem add_flat (b off i : Nat) : (⟨b, off, none⟩ : Addr).add i = ⟨b, off + i, none⟩ := by unfold Addr.add; split <;> simp_all

theorem three_cells {w : World} {base b off : Nat} {cs : List Value} (h : w.cells? base ⟨b, off, none⟩ 3 = some cs) :
    ∃ c0 c1 c2, cs = [c0, c1, c2] ∧ w.cell? ⟨b, off, none⟩ = some c0 ∧ w.cell? ⟨b, off + 1, none⟩ = some c1 ∧ w.cell? ⟨b, off + 2, none⟩ = some c2 := by
  obtain ⟨_, hlen, hc⟩ := World.cells?_some h
  match cs, hlen with
  | [c0, c1, c2], _ =>
    have h0 := hc 0 (by omega)
    have h1 := hc 1 (by omega)
    have h2 := hc 2 (by omega)
    rw [add_flat] at h0 h1 h2
    exact ⟨c0, c1, c2, rfl, h0, h1, h2⟩
theorem four_cells {w : World} {base b off : Nat} {cs : List Value} (h : w.cells? base ⟨b, off, none⟩ 4 = some cs) :
    ∃ c0 c1 c2 c3, cs = [c0, c1, c2, c3] ∧ w.cell? ⟨b, off, none⟩ = some c0 ∧ w.cell? ⟨b, off + 1, none⟩ = some c1 ∧ w.cell? ⟨b, off + 2, none⟩ = some c2 ∧ w.cell? ⟨b, off + 3, none⟩ = some c3 := by
  obtain ⟨_, hlen, hc⟩ := World.cells?_some h
  match cs, hlen with
  | [c0, c1, c2, c3], _ =>
    have h0 := hc 0 (by omega)
    have h1 := hc 1 (by omega)
    have h2 := hc 2 (by omega)
    have h3 := hc 3 (by omega)
    rw [add_flat] at h0 h1 h2 h3
    exact ⟨c0, c1, c2, c3, rfl, h0, h1, h2, h3⟩

/-- An address of which a row of cells is read is plain. -/
theorem plain_of {w : World} {base n : Nat} {a : Addr} {cs : List Value} (hn : 0 < n) (h : w.cells? base (a.add 0) n = some cs) : a.spot = none := by
  obtain ⟨_, hlen, hc⟩ := World.cells?_some h
  have h0 := hc 0 hn
  have e : (a.add 0).add 0 = a := by simp [Addr.add]
  rw [e] at h0
  have hs : ∃ c, cs[0]? = some c := ⟨cs[0], by simp [List.getElem?_eq_getElem (show 0 < cs.length by omega)]⟩
  obtain ⟨c, hs⟩ := hs
  rw [hs] at h0
  exact World.cell?_spot h0

section
variable {H : Type} {enc : TypeId × Value → H} {w : World} {base : Nat} {spare : Nat → Bool} {held : Bool}

/-- A slice of structs of three numbers. -/
theorem open_triples {t e : TypeId} {f0 f1 f2 : Field} {fuel : Nat} {cs : List Value} {x : DataW H × List MemPlace} (ht : Try.prog.underlying t = some (.slice e)) (he : Try.prog.underlying e = some (.struct #[f0, f1, f2])) (hc : Try.prog.cellsOf e = 3)
    (h0 : f0.type = 3 ∧ f0.offset = 0) (h1 : f1.type = 3 ∧ f1.offset = 1) (h2 : f2.type = 3 ∧ f2.offset = 2)
    (h : DataW.trod enc Try.prog w base spare held fuel t cs = some x) :
    ∃ a len cap, cs = [.slice a len cap] ∧ (a = none → len = 0 ∧ cap = 0) ∧ ∃ F : Nat → Int × Int × Int, (len = 0 ∨ ∃ b off, a = some ⟨b, off, none⟩ ∧ len ≤ cap ∧ ∀ i, i < len →
      (w.cell? ⟨b, off + i * 3, none⟩ = some (.int .i64 (F i).1) ∧ w.cell? ⟨b, off + i * 3 + 1, none⟩ = some (.int .i64 (F i).2.1) ∧ w.cell? ⟨b, off + i * 3 + 2, none⟩ = some (.int .i64 (F i).2.2)) ∧
      (Lit.int .i64 (F i).1).wf = true ∧ (Lit.int .i64 (F i).2.1).wf = true ∧ (Lit.int .i64 (F i).2.2).wf = true) := by
  rcases Deep.open_slice ht h with ⟨rfl, _⟩ | ⟨a, len, cap, m, n, D, Pl, rfl, _, hl, _, hm, _, hx⟩
  · exact ⟨none, 0, 0, rfl, fun _ => ⟨rfl, rfl⟩, fun _ => (0, 0, 0), .inl rfl⟩
  · refine ⟨some a, len, cap, rfl, fun h => by simp at h, ?_⟩
    have hlm : len ≤ m := by rw [hm]; split <;> omega
    rw [hc] at hx
    by_cases hz : len = 0
    · exact ⟨fun _ => (0, 0, 0), .inl hz⟩
    · obtain ⟨b, off, spot⟩ := a
      obtain ⟨cs0, hcs0, _⟩ := hx 0 (by omega)
      rw [Nat.zero_mul] at hcs0
      have hs : spot = none := plain_of (a := ⟨b, off, spot⟩) (by omega) hcs0
      subst hs
      obtain ⟨F, hF⟩ := Deep.choose_lt (α := Int × Int × Int) (n := len) (p := fun i F => (w.cell? ⟨b, off + i * 3, none⟩ = some (.int .i64 F.1) ∧ w.cell? ⟨b, off + i * 3 + 1, none⟩ = some (.int .i64 F.2.1) ∧ w.cell? ⟨b, off + i * 3 + 2, none⟩ = some (.int .i64 F.2.2)) ∧
        (Lit.int .i64 F.1).wf = true ∧ (Lit.int .i64 F.2.1).wf = true ∧ (Lit.int .i64 F.2.2).wf = true) (fun i hi => by
        obtain ⟨cs', hcs', htr⟩ := hx i (by omega)
        rw [add_flat] at hcs'
        obtain ⟨c0, c1, c2, rfl, k0, k1, k2⟩ := three_cells hcs'
        obtain ⟨xs, n', _, _, _, hlen, hf⟩ := DataW.trod_struct he htr
        have h3 : xs.length = 3 := by simpa using hlen
        have g0 := hf 0 f0 rfl
        have g1 := hf 1 f1 rfl
        have g2 := hf 2 f2 rfl
        rw [h0.1, h0.2, cellsInt] at g0
        rw [h1.1, h1.2, cellsInt] at g1
        rw [h2.1, h2.2, cellsInt] at g2
        obtain ⟨n0, rfl, w0⟩ := int_cell (i := 0) (by omega) g0
        obtain ⟨n1, rfl, w1⟩ := int_cell (i := 1) (by omega) g1
        obtain ⟨n2, rfl, w2⟩ := int_cell (i := 2) (by omega) g2
        exact ⟨(n0, n1, n2), ⟨k0, k1, k2⟩, w0, w1, w2⟩)
      exact ⟨F, .inr ⟨b, off, rfl, by omega, hF⟩⟩

def mtOf (p : Int × Int × Int) : Mt := ⟨p.1, p.2.1, p.2.2⟩
def doOf (p : Int × Int × Int) : Do := ⟨p.1, p.2.1, p.2.2⟩
def flOf (p : Int × Int × List Mt × List Do) : Fl := ⟨p.1, p.2.1, p.2.2.1, p.2.2.2⟩
theorem getD_map {α β : Type} (F : Nat → α) (G : α → β) (d : β) (n i : Nat) (h : i < n) : ((List.range n).map (fun j => G (F j))).getD i d = G (F i) := by
  simp [List.getD, h]

theorem open_ms {fuel : Nat} {cs : List Value} {x : DataW H × List MemPlace} (h : DataW.trod enc Try.prog w base spare held fuel 36 cs = some x) : ∃ v ms, cs = [v] ∧ MsAt w v ms := by
  obtain ⟨a, len, cap, rfl, hn, F, hF⟩ := open_triples Try.underlying36 Try.underlying35 (by kernel_rfl) ⟨rfl, rfl⟩ ⟨rfl, rfl⟩ ⟨rfl, rfl⟩ h
  have hl : ((List.range len).map (fun j => mtOf (F j))).length = len := by simp
  refine ⟨_, (List.range len).map (fun j => mtOf (F j)), rfl, a, cap, by rw [hl], fun h => (hn h).2, ?_⟩
  rw [hl]
  rcases hF with h0 | ⟨b, off, ha, hc, hcell⟩
  · exact .inl h0
  · refine .inr ⟨b, off, ha, hc, fun i hi => ?_⟩
    rw [getD_map F mtOf mt0 len i hi]
    exact (hcell i hi).1
theorem open_ds {fuel : Nat} {cs : List Value} {x : DataW H × List MemPlace} (h : DataW.trod enc Try.prog w base spare held fuel 39 cs = some x) : ∃ v ds, cs = [v] ∧ DsAt w v ds := by
  obtain ⟨a, len, cap, rfl, hn, F, hF⟩ := open_triples Try.underlying39 Try.underlying38 (by kernel_rfl) ⟨rfl, rfl⟩ ⟨rfl, rfl⟩ ⟨rfl, rfl⟩ h
  have hl : ((List.range len).map (fun j => doOf (F j))).length = len := by simp
  refine ⟨_, (List.range len).map (fun j => doOf (F j)), rfl, a, cap, by rw [hl], fun h => (hn h).2, ?_⟩
  rw [hl]
  rcases hF with h0 | ⟨b, off, ha, hc, hcell⟩
  · exact .inl h0
  · refine .inr ⟨b, off, ha, hc, fun i hi => ?_⟩
    rw [getD_map F doOf do0 len i hi]
    exact (hcell i hi).1

end

theorem open_flows {H : Type} {enc : TypeId × Value → H} {w : World} {base b0 : Nat} {spare : Nat → Bool} {held : Bool} {r : Reach} {v : Value} {d : DataW H} {p : List MemPlace}
    (hv : Value.okWide Try.prog w r b0 22 v) (h : DataW.Trod enc Try.prog w base spare held 22 v d p) :
    ∃ fs, FsAt w v fs ∧ (fs.length = 0 ∨ ∃ elems sp, d = .slice elems sp ∧ elems.length = fs.length) := by
  obtain ⟨a, len, cap, rfl⟩ := okWide_slice Try.underlying22 hv
  obtain ⟨fuel, hf⟩ := h
  rcases Deep.open_slice Try.underlying22 hf with ⟨hcs, _⟩ | ⟨x, l, c, m, n, D, Pl, hcs, _, hl, _, hm, hd, hx⟩
  · simp [Value.cells] at hcs
    obtain ⟨rfl, rfl, rfl⟩ := hcs
    exact ⟨[], ⟨none, 0, rfl, fun _ => rfl, .inl rfl⟩, .inl rfl⟩
  · simp [Value.cells] at hcs
    obtain ⟨rfl, rfl, rfl⟩ := hcs
    have hlm : len ≤ m := by rw [hm]; split <;> omega
    rw [cellsFlow] at hx
    simp only [Prod.mk.injEq] at hd
    by_cases hz : len = 0
    · subst hz
      exact ⟨[], ⟨some x, cap, rfl, fun h => by simp at h, .inl rfl⟩, .inl rfl⟩
    · obtain ⟨b, off, spot⟩ := x
      obtain ⟨cs0, hcs0, _⟩ := hx 0 (by omega)
      rw [Nat.zero_mul] at hcs0
      have hs : spot = none := plain_of (a := ⟨b, off, spot⟩) (by omega) hcs0
      subst hs
      obtain ⟨F, hF⟩ := Deep.choose_lt (α := Int × Int × List Mt × List Do) (n := len) (p := fun i F => FlAt w b (off + i * 4) ⟨F.1, F.2.1, F.2.2.1, F.2.2.2⟩) (fun i hi => by
        obtain ⟨cs', hcs', htr⟩ := hx i (by omega)
        rw [add_flat] at hcs'
        obtain ⟨c0, c1, c2, c3, rfl, k0, k1, k2, k3⟩ := four_cells hcs'
        obtain ⟨xs, n', _, _, _, hlen, hf⟩ := DataW.trod_struct Try.underlying41 htr
        have h3 : xs.length = 4 := by simpa using hlen
        have g0 := hf 0 _ rfl
        have g1 := hf 1 _ rfl
        have g2 := hf 2 _ rfl
        have g3 := hf 3 _ rfl
        obtain ⟨n0, rfl, _⟩ := int_cell (i := 0) (by omega) g0
        obtain ⟨n1, rfl, _⟩ := int_cell (i := 1) (by omega) g1
        rw [List.getElem?_eq_getElem (show 2 < xs.length by omega)] at g2
        rw [List.getElem?_eq_getElem (show 3 < xs.length by omega)] at g3
        obtain ⟨v2, ms, e2, hms⟩ := open_ms (cs := [c2]) g2
        obtain ⟨v3, ds, e3, hds⟩ := open_ds (cs := [c3]) g3
        simp at e2 e3
        subst e2 e3
        exact ⟨(n0, n1, ms, ds), k0, k1, c2, c3, k2, k3, hms, hds⟩)
      have hll : ((List.range len).map (fun j => flOf (F j))).length = len := by simp
      refine ⟨(List.range len).map (fun j => flOf (F j)), ⟨some ⟨b, off, none⟩, cap, by rw [hll], fun h => by simp at h, ?_⟩, .inr ⟨_, _, hd.1, by simp⟩⟩
      rw [hll]
      refine .inr ⟨b, off, rfl, hl, fun i hi => ?_⟩
      rw [getD_map F flOf fl0 len i hi]
      exact hF i hi

end Go.Proofs.Ytgkdmmfogibbjac
