/-
  slices.SortFunc at flows: a row of flows of the call's own, sorted in its places.
-/
import Derived.Test.YtonhfgdnkkkikacLay
import Derived.Test.YtonhfgdnkkkikacOe
import Derived.Test.YtonhfgdnkkkikacSv
namespace Go.Proofs.Ytonhfgdnkkkikac
open Go.RowKit
open Go.Sort (grow PermIn SortedIn SWO flatK get_flatK size_flatK HoldsK Holds putRowK putRow putCells mapBlock onCells)
set_option linter.unusedVariables false
set_option maxRecDepth 100000

theorem MsAt.kept0 {w w' : World} {v : Value} {ms : List Mt} {row : Option Nat} (h : MsAt w v ms) (hg : w.grownBy w' row) (hne : ms.length = 0 ∨ v.ownBlock ≠ row) : MsAt w' v ms := by
  rcases hne with h0 | hne
  · obtain ⟨a, cap, rfl, hn, _⟩ := h
    exact ⟨a, cap, rfl, hn, .inl h0⟩
  · exact h.kept hg (.inr hne)
theorem DsAt.kept0 {w w' : World} {v : Value} {ds : List Do} {row : Option Nat} (h : DsAt w v ds) (hg : w.grownBy w' row) (hne : ds.length = 0 ∨ v.ownBlock ≠ row) : DsAt w' v ds := by
  rcases hne with h0 | hne
  · obtain ⟨a, cap, rfl, hn, _⟩ := h
    exact ⟨a, cap, rfl, hn, .inl h0⟩
  · exact h.kept hg (.inr hne)
/-- What a flow holds lies there. -/
def Held (w : World) (x : Fv) : Prop := MsAt w x.mv x.f.ms ∧ DsAt w x.dv x.f.ds
theorem Held.below {w w' : World} {B : Nat} {x : Fv} (h : Held w x) (hb : Below B w w') (hB : w.heap.size ≤ B) : Held w' x := ⟨h.1.below hb hB, h.2.below hb hB⟩
theorem Held.one {w : World} {x : Fv} (h : Held w x) : ∀ u ∈ C [x], u.oneCell' = true := by
  obtain ⟨⟨o, c, h1, _⟩, ⟨o', c', h2, _⟩⟩ := h
  intro u hu
  simp [C] at hu
  rcases hu with rfl | rfl | rfl | rfl
  · rfl
  · rfl
  · rw [h1]; rfl
  · rw [h2]; rfl
/-- .. not too much of it, and elsewhere than in a block. -/
def FoOk (w : World) (blk : Nat) (x : Fv) : Prop := Held w x ∧ (x.f.ms.length = 0 ∨ x.mv.ownBlock ≠ some blk) ∧ (x.f.ds.length = 0 ∨ x.dv.ownBlock ≠ some blk) ∧ x.f.ms.length ≤ 2000000 ∧ x.f.ds.length ≤ 2000000
theorem foOk0 (w : World) (blk : Nat) : FoOk w blk fv0 := by
  refine ⟨⟨⟨none, 0, rfl, fun _ => rfl, .inl rfl⟩, ⟨none, 0, rfl, fun _ => rfl, .inl rfl⟩⟩, .inl rfl, .inl rfl, ?_, ?_⟩
  all_goals simp [fv0, fl0]
abbrev Fo (w : World) (blk : Nat) := {x : Fv // FoOk w blk x}
abbrev inh4 (w : World) (blk : Nat) : Inhabited (Fo w blk) := ⟨⟨fv0, foOk0 w blk⟩⟩
def enc4 {w : World} {blk : Nat} (x : Fo w blk) : List Value := [.int .i64 x.1.f.t, .int .i64 x.1.f.p, x.1.mv, x.1.dv]
def cf4 {w : World} {blk : Nat} (x y : Fo w blk) : Int := ordF x.1.f y.1.f

theorem lt4 {w : World} {blk : Nat} (x y : Fo w blk) : ltOf cf4 x y = decide (plc x.1.f y.1.f < 0) := by unfold ltOf cf4; rw [ordF_plc]
theorem swo4 (w : World) (blk : Nat) : SWO (ltOf (cf4 (w := w) (blk := blk))) where
  irrefl x := by rw [lt4, plc_self]; rfl
  trans x y z h1 h2 := by
    rw [lt4] at *
    simp only [decide_eq_true_eq] at *
    exact plc_trans h1 h2
  ntrans x y z h1 h2 := by
    rw [lt4] at *
    simp only [decide_eq_false_iff_not] at *
    intro h
    have h3 : ¬ 0 < plc y.1.f x.1.f := fun h' => h1 ((plc_flip _ _).2 h')
    by_cases e : plc y.1.f x.1.f = 0
    · have := plc_zero e
      rw [this] at h2
      exact h2 h
    · exact h2 (plc_trans (show plc y.1.f x.1.f < 0 by omega) h)

/-- The order lies elsewhere than in a block. -/
def OrdAt2 (w : World) (g blk : Nat) : Prop := g ≠ blk ∧ ∃ q, q ≠ blk ∧ w.cell? ⟨g, 0, none⟩ = some (.slice (some ⟨q, 0, none⟩) 6 6) ∧ w.cell? ⟨q, 0, none⟩ = some (.func (.func 62) #[] #[]) ∧ w.cell? ⟨q, 1, none⟩ = some (.func (.func 64) #[] #[]) ∧ w.cell? ⟨q, 2, none⟩ = some (.func (.func 65) #[] #[])
  ∧ w.cell? ⟨q, 3, none⟩ = some (.func (.func 66) #[] #[]) ∧ w.cell? ⟨q, 4, none⟩ = some (.func (.func 67) #[] #[]) ∧ w.cell? ⟨q, 5, none⟩ = some (.func (.func 70) #[] #[])
theorem OrdAt2.kept {w w' : World} {g blk : Nat} (h : OrdAt2 w g blk) (hg : w.grownBy w' (some blk)) : OrdAt w' g := by
  obtain ⟨hgb, q, hqb, h0, h1, h2, h3, h4, h5, h6⟩ := h
  have n1 : some g ≠ some blk := by simpa using hgb
  have n2 : some q ≠ some blk := by simpa using hqb
  exact ⟨q, hg.cell h0 n1, hg.cell h1 n2, hg.cell h2 n2, hg.cell h3 n2, hg.cell h4 n2, hg.cell h5 n2, hg.cell h6 n2⟩
theorem FoOk.kept {w w' : World} {blk : Nat} {x : Fv} (h : FoOk w blk x) (hg : w.grownBy w' (some blk)) : Held w' x := ⟨h.1.1.kept0 hg h.2.1, h.1.2.kept0 hg h.2.2.1⟩
theorem FoOk.kept2 {w w' : World} {blk : Nat} {x : Fv} (h : FoOk w blk x) (hg : w.grownBy w' (some blk)) : FoOk w' blk x := ⟨h.kept hg, h.2⟩

section
variable {w : World} {blk : Nat}
theorem sw_grown (n : Nat) (d : Array (Fo w blk)) (os : Array Obj) : letI := inh4 w blk
    w.grownBy (sortWorldK enc4 4 w blk 0 n d os) (some blk) := by
  letI := inh4 w blk
  refine ⟨rfl, rfl, rfl, ?_, fun k hk hne => ?_⟩
  · exact size_sortWorldK_c enc4 4 w blk 0 n d os
  · unfold sortWorldK
    rw [Go.Sort.heap_grow_old _ _ (by rw [Go.Sort.size_putRowK]; exact hk)]
    unfold putRowK putRow mapBlock
    simp only [Array.getElem?_modify]
    rw [if_neg (fun h => hne (by rw [h]))]
    rfl

theorem cmpLays4 (g size : Nat) (hO : OrdAt2 w g blk) : letI := inh4 w blk
    CmpLays Try.prog 89 #[.pointer (some ⟨g, 0, none⟩)] (enc4 (w := w) (blk := blk)) 4 cf4 blk 0 size w := by
  letI := inh4 w blk
  intro m os dk hd x y
  have hg := sw_grown (w := w) (blk := blk) m dk os
  have ho := hO.kept hg
  have hx := x.2.kept hg
  have hy := y.2.kept hg
  obtain ⟨⟨xa, xc, e1, _⟩, ⟨xb, xe, e2, _⟩⟩ := hx
  obtain ⟨⟨ya, yc, e3, _⟩, ⟨yb, ye, e4, _⟩⟩ := hy
  have hx' := x.2.kept hg
  have hy' := y.2.kept hg
  have h := order_any x.1.f y.1.f xa ya xb yb xc yc xe ye g _ ho (by rw [← e1]; exact hx'.1) (by rw [← e2]; exact hx'.2) (by rw [← e3]; exact hy'.1) (by rw [← e4]; exact hy'.2) x.2.2.2.2.1 x.2.2.2.2.2 y.2.2.2.2.1 y.2.2.2.2.2
  have ea : #[Value.agg (enc4 x).toArray, Value.agg (enc4 y).toArray] ++ #[Value.pointer (some ⟨g, 0, none⟩)] = #[.agg #[.int .i64 x.1.f.t, .int .i64 x.1.f.p, .slice xa x.1.f.ms.length xc, .slice xb x.1.f.ds.length xe], .agg #[.int .i64 y.1.f.t, .int .i64 y.1.f.p, .slice ya y.1.f.ms.length yc, .slice yb y.1.f.ds.length ye], .pointer (some ⟨g, 0, none⟩)] := by
    unfold enc4
    rw [e1, e2, e3, e4]
    rfl
  rw [ea]
  exact h

theorem flat_C (lo : List Fv) (h : ∀ x ∈ lo, FoOk w blk x) : letI := inh4 w blk
    (flatK enc4 4 (lo.pmap (fun x hx => (⟨x, hx⟩ : Fo w blk)) h).toArray).toList = C lo := by
  letI := inh4 w blk
  refine List.ext_getElem? fun j => ?_
  have hl : (C lo).length = lo.length * 4 := by
    clear h
    induction lo with
    | nil => rfl
    | cons x r ih => simp [C] at ih ⊢; omega
  by_cases hj : j < lo.length * 4
  · have hsz : j < (flatK enc4 4 (lo.pmap (fun x hx => (⟨x, hx⟩ : Fo w blk)) h).toArray).size := by rw [size_flatK]; simpa using hj
    rw [Array.getElem?_toList, Array.getElem?_eq_getElem hsz, ← getElem!_pos _ j hsz, get_flatK _ _ _ _ (by simpa using hj)]
    have hi : j / 4 < lo.length := by omega
    have hd : (lo.pmap (fun x hx => (⟨x, hx⟩ : Fo w blk)) h).toArray[j / 4]! = ⟨lo[j / 4], h _ (List.getElem_mem hi)⟩ := by
      rw [getElem!_pos _ _ (by simpa using hi)]
      simp
    rw [hd]
    obtain ⟨c0, c1, c2, c3⟩ := C_at lo (j / 4) hi
    have hg : lo.getD (j / 4) fv0 = lo[j / 4] := by simp [List.getD, List.getElem?_eq_getElem hi]
    rw [hg] at c0 c1 c2 c3
    have hm : j % 4 = 0 ∨ j % 4 = 1 ∨ j % 4 = 2 ∨ j % 4 = 3 := by omega
    rcases hm with hm | hm | hm | hm
    · have e : j = j / 4 * 4 := by omega
      rw [hm]; rw [← e] at c0; rw [c0]; rfl
    · have e : j = j / 4 * 4 + 1 := by omega
      rw [hm]; rw [← e] at c1; rw [c1]; rfl
    · have e : j = j / 4 * 4 + 2 := by omega
      rw [hm]; rw [← e] at c2; rw [c2]; rfl
    · have e : j = j / 4 * 4 + 3 := by omega
      rw [hm]; rw [← e] at c3; rw [c3]; rfl
  · rw [List.getElem?_eq_none (by rw [Array.length_toList, size_flatK]; simp; omega), List.getElem?_eq_none (by omega)]

set_option maxHeartbeats 1000000 in
theorem sortFunc_any (B cap g : Nat) (lo : List Fv) (hown : w.ownsRow B 41 4 (.slice (some ⟨blk, 0, none⟩) lo.length cap) lo.length (C lo)) (hok : ∀ x ∈ lo, FoOk w blk x) (hO : OrdAt2 w g blk) (hl : lo.length ≤ 2000000) :
    Calls Try.prog 73 #[.slice (some ⟨blk, 0, none⟩) lo.length cap, .func (.func 89) #[] #[.pointer (some ⟨g, 0, none⟩)]] w fun e w' => e = .returned (.tuple #[]) ∧ ∃ lo' : List Fv, lo'.Perm lo ∧ (lo'.Pairwise fun a b => ¬ plc b.f a.f < 0) ∧ w'.ownsRow B 41 4 (.slice (some ⟨blk, 0, none⟩) lo.length cap) lo.length (C lo') ∧ w.grownBy w' (some blk) := by
  letI := inh4 w blk
  have eg : ∀ args w, (callFunc 89 args).run Try.prog w = .ok (.enter 89 args) w := enters_of Try.func89 (by kernel_rfl) rfl
  have hfl := flat_C lo hok
  have hown' := hown
  obtain ⟨hlen, ⟨h, _⟩ | ⟨g', cap', cur, hv, hB, hheap, hnc, hcm, hcs, htk⟩⟩ := hown
  · simp at h
  simp only [Value.slice.injEq, Option.some.injEq, Addr.mk.injEq] at hv
  obtain ⟨⟨rfl, _⟩, _, rfl⟩ := hv
  have hblk : blk < w.heap.size := by
    rcases Nat.lt_or_ge blk w.heap.size with h' | h'
    · exact h'
    · simp [Array.getElem?_eq_none h'] at hheap
  obtain ⟨d, hd⟩ : ∃ d, d = (lo.pmap (fun x hx => (⟨x, hx⟩ : Fo w blk)) hok).toArray := ⟨_, rfl⟩
  have hds : d.size = lo.length := by rw [hd]; simp
  rw [← hd] at hfl
  have hH : HoldsK enc4 4 w blk 0 d := by
    intro j hj
    rw [size_flatK, hds] at hj
    have hc := hown'.cellAt j hj
    have hf := hown'.frozenAt j
    have e : (C lo)[j]? = some ((flatK enc4 4 d)[j]!) := by
      rw [← hfl, Array.getElem?_toList, Array.getElem?_eq_getElem (by rw [size_flatK, hds]; exact hj), getElem!_pos _ j (by rw [size_flatK, hds]; exact hj)]
    rw [Nat.zero_add]
    exact ⟨hc.trans e, hf⟩
  have hone : ∀ x : Fo w blk, ∀ v ∈ enc4 x, v.oneCell' = true := fun x v hv => x.2.1.one v (by simpa [C, enc4] using hv)
  have hcon := AnyQ.slices_SortFunc Try.sortFl 4 Try.isAgg41 Try.sizeOf41 enc4 (fun _ => rfl) hone cf4 (swo4 w blk) 89 #[.pointer (some ⟨g, 0, none⟩)] blk 0 cap d w eg (cmpLays4 g d.size hO) hH hblk (by omega)
  rw [hds] at hcon
  refine Calls.mono hcon ?_
  rintro e w' ⟨he, d', n, os, hp, hs, rfl⟩
  have hds' : d'.size = lo.length := by rw [hp.1, hds]
  have hback : d' = ((d'.toList.map (·.1)).pmap (fun x hx => (⟨x, hx⟩ : Fo w blk)) (fun x hx => by
      obtain ⟨y, _, rfl⟩ := List.mem_map.1 hx
      exact y.2)).toArray := by
    apply Array.toList_inj.1
    refine List.ext_getElem (by simp) fun i h1 h2 => ?_
    simp
  have hfl' : (flatK enc4 4 d').toList = C (d'.toList.map (·.1)) := by
    have := flat_C (w := w) (blk := blk) (d'.toList.map (·.1)) (fun x hx => by
      obtain ⟨y, _, rfl⟩ := List.mem_map.1 hx
      exact y.2)
    rw [← hback] at this
    exact this
  refine ⟨he, d'.toList.map (·.1), ?_, ?_, ?_, ?_⟩
  · have h1 := hp.2.2
    have e1 : d'.extract 0 lo.length = d' := by rw [← hds']; simp
    have e2 : d.extract 0 lo.length = d := by rw [← hds]; simp
    rw [e1, e2] at h1
    have h2 := h1.map (·.1)
    have e3 : d.toList.map (·.1) = lo := by
      rw [hd]
      exact List.ext_getElem (by simp) fun i h1 h2 => by simp
    rw [e3] at h2
    exact h2
  · rw [List.pairwise_iff_getElem]
    intro i j hi hj hij
    have hi' : i < d'.size := by simpa using hi
    have hj' : j < d'.size := by simpa using hj
    have h1 := hs i j (Nat.zero_le _) hij (by omega)
    rw [lt4, getElem!_pos d' i hi', getElem!_pos d' j hj'] at h1
    simpa using h1
  · have hcl : (C (d'.toList.map (·.1))).length = lo.length * 4 := by rw [← hfl', Array.length_toList, size_flatK, hds']
    refine ⟨hcl, .inr ⟨blk, cap, putCells id 0 (flatK enc4 4 d') cur, rfl, hB, ?_, hnc, hcm, ?_, ?_⟩⟩
    · unfold sortWorldK
      rw [Go.Sort.heap_grow_old _ _ (by rw [Go.Sort.size_putRowK]; exact hblk)]
      unfold putRowK putRow mapBlock
      simp only [Array.getElem?_modify, if_true]
      show (w.heap[blk]?).map _ = _
      rw [hheap]
      rfl
    · rw [← hcs]; simp [putCells]
    · rw [← hfl']
      refine List.ext_getElem? fun j => ?_
      by_cases hj : j < lo.length * 4
      · rw [List.getElem?_take, if_pos hj, Array.getElem?_toList, Array.getElem?_toList]
        unfold putCells
        rw [Array.getElem?_mapIdx]
        have hjc : j < cur.size := by rw [hcs]; omega
        have hjf : j < (flatK enc4 4 d').size := by rw [size_flatK, hds']; exact hj
        rw [Array.getElem?_eq_getElem hjc, Array.getElem?_eq_getElem hjf]
        simp only [Option.map_some, Nat.zero_le, true_and, Nat.zero_add, Nat.sub_zero, id]
        rw [if_pos hjf, getElem!_pos _ j hjf]
      · rw [List.getElem?_eq_none (by simp; omega), List.getElem?_eq_none (by rw [Array.length_toList, size_flatK, hds']; omega)]
  · exact sw_grown n d' os
end

end Go.Proofs.Ytonhfgdnkkkikac
