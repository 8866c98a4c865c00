/- Texts joined: Sf, Po, Sg, Sh, Si, Sj, Sk, Qh, Rl0, Bs, Wo, Wp, Wq, Df, Pu0, Pt, Pl, Xs. -/
import Derived.Deep.RegionLaw
import Derived.Deep.AppendLies
import Derived.Laws.EntriesVeiled
import Derived.Lib.SliceRun
import Derived.Laws.CopyRow
import Derived.Test.YtncdininppehkaaGreatJAsksAnswered7
namespace Go.Proofs.YtncdininppehkaaGreat
open Go.RowKit
open Go.Sort (grow PermIn SortedIn SWO flatK get_flatK size_flatK HoldsK Holds putRowK putRow putCells mapBlock onCells)
set_option linter.unusedVariables false
set_option maxRecDepth 100000
theorem MsAt.kept0 {w w' : World} {v : Value} {ms : List Mt} {row : Option Nat} (h : MsAt w v ms) (hg : w.grownBy w' row) (hne : ms.length = 0 ∨ v.ownBlock ≠ row) : MsAt w' v ms := by
 rcases hne with h0 | hne
 ·obtain ⟨a, cap, rfl, hn, _⟩ := h
  exact ⟨a, cap, rfl, hn, .inl h0⟩
 ·exact h.kept hg (.inr hne)
theorem DsAt.kept0 {w w' : World} {v : Value} {ds : List Do} {row : Option Nat} (h : DsAt w v ds) (hg : w.grownBy w' row) (hne : ds.length = 0 ∨ v.ownBlock ≠ row) : DsAt w' v ds := by
 rcases hne with h0 | hne
 ·obtain ⟨a, cap, rfl, hn, _⟩ := h
  exact ⟨a, cap, rfl, hn, .inl h0⟩
 ·exact h.kept hg (.inr hne)
def Held (w : World) (x : Fv) : Prop := MsAt w x.mv x.f.ms ∧ DsAt w x.dv x.f.ds
theorem Held.below {w w' : World} {B : Nat} {x : Fv} (h : Held w x) (hb : Below B w w') (hB : w.heap.size ≤ B) : Held w' x := ⟨h.1.below hb hB, h.2.below hb hB⟩
theorem Held.one {w : World} {x : Fv} (h : Held w x) : ∀ u ∈ C [x], u.oneCell' = true := by
 obtain ⟨⟨o, c, h1, _⟩, ⟨o', c', h2, _⟩⟩ := h
 intro u hu
 simp [C] at hu
 rcases hu with rfl | rfl | rfl | rfl
 ·rfl
 ·rfl
 ·rw [h1]; rfl
 ·rw [h2]; rfl
def FoOk (w : World) (blk : Nat) (x : Fv) : Prop := Held w x ∧ (x.f.ms.length = 0 ∨ x.mv.ownBlock ≠ some blk) ∧ (x.f.ds.length = 0 ∨ x.dv.ownBlock ≠ some blk) ∧ x.f.ms.length ≤ 2000000 ∧ x.f.ds.length ≤ 2000000
theorem foOk0 (w : World) (blk : Nat) : FoOk w blk fv0 := by
 refine ⟨⟨⟨none, 0, rfl, fun _ => rfl, .inl rfl⟩, ⟨none, 0, rfl, fun _ => rfl, .inl rfl⟩⟩, .inl rfl, .inl rfl, ?_, ?_⟩
 all_goals simp [fv0, fl0]
abbrev Fo (w : World) (blk : Nat) := {x : Fv // FoOk w blk x}
abbrev inh4 (w : World) (blk : Nat) : Inhabited (Fo w blk) := ⟨⟨fv0, foOk0 w blk⟩⟩
def enc4 {w : World} {blk : Nat} (x : Fo w blk) : List Value := [.int .i64 x.1.f.t, .int .i64 x.1.f.p, x.1.mv, x.1.dv]
def cf4 {w : World} {blk : Nat} (x y : Fo w blk) : Int := ordF x.1.f y.1.f
theorem lt4 {w : World} {blk : Nat} (x y : Fo w blk) : ltOf cf4 x y = decide (plc x.1.f y.1.f < 0) := by unfold ltOf cf4; rw [ordF_plc]
theorem swo4 (w : World) (blk : Nat) : SWO (ltOf (cf4 (w := w) (blk := blk))) where
 irrefl x := by rw [lt4, plc_self]; rfl
 trans x y z h1 h2 := by
  rw [lt4] at *
  simp only [decide_eq_true_eq] at *
  exact plc_trans h1 h2
 ntrans x y z h1 h2 := by
  rw [lt4] at *
  simp only [decide_eq_false_iff_not] at *
  intro h
  have h3 : ¬ 0 < plc y.1.f x.1.f := fun h' => h1 ((plc_flip _ _).2 h')
  by_cases e : plc y.1.f x.1.f = 0
  ·have := plc_zero e
   rw [this] at h2
   exact h2 h
  ·exact h2 (plc_trans (show plc y.1.f x.1.f < 0 by omega) h)
def OrdAt2 (w : World) (g blk : Nat) : Prop := g ≠ blk ∧ ∃ q, q ≠ blk ∧ w.cell? ⟨g, 0, none⟩ = some (.slice (some ⟨q, 0, none⟩) 6 6) ∧ w.cell? ⟨q, 0, none⟩ = some (.func (.func 80) #[] #[]) ∧ w.cell? ⟨q, 1, none⟩ = some (.func (.func 82) #[] #[]) ∧ w.cell? ⟨q, 2, none⟩ = some (.func (.func 83) #[] #[])
 ∧ w.cell? ⟨q, 3, none⟩ = some (.func (.func 84) #[] #[]) ∧ w.cell? ⟨q, 4, none⟩ = some (.func (.func 85) #[] #[]) ∧ w.cell? ⟨q, 5, none⟩ = some (.func (.func 88) #[] #[])
theorem OrdAt2.kept {w w' : World} {g blk : Nat} (h : OrdAt2 w g blk) (hg : w.grownBy w' (some blk)) : OrdAt w' g := by
 obtain ⟨hgb, q, hqb, h0, h1, h2, h3, h4, h5, h6⟩ := h
 have n1 : some g ≠ some blk := by simpa using hgb
 have n2 : some q ≠ some blk := by simpa using hqb
 exact ⟨q, hg.cell h0 n1, hg.cell h1 n2, hg.cell h2 n2, hg.cell h3 n2, hg.cell h4 n2, hg.cell h5 n2, hg.cell h6 n2⟩
theorem FoOk.kept {w w' : World} {blk : Nat} {x : Fv} (h : FoOk w blk x) (hg : w.grownBy w' (some blk)) : Held w' x := ⟨h.1.1.kept0 hg h.2.1, h.1.2.kept0 hg h.2.2.1⟩
theorem FoOk.kept2 {w w' : World} {blk : Nat} {x : Fv} (h : FoOk w blk x) (hg : w.grownBy w' (some blk)) : FoOk w' blk x := ⟨h.kept hg, h.2⟩
section
variable {w : World} {blk : Nat}
theorem sw_grown (n : Nat) (d : Array (Fo w blk)) (os : Array Obj) : letI := inh4 w blk
  w.grownBy (sortWorldK enc4 4 w blk 0 n d os) (some blk) := by
 letI := inh4 w blk
 refine ⟨rfl, rfl, rfl, ?_, fun k hk hne => ?_⟩
 ·exact size_sortWorldK_c enc4 4 w blk 0 n d os
 ·unfold sortWorldK
  rw [Go.Sort.heap_grow_old _ _ (by rw [Go.Sort.size_putRowK]; exact hk)]
  unfold putRowK putRow mapBlock
  simp only [Array.getElem?_modify]
  rw [if_neg (fun h => hne (by rw [h]))]
  rfl
theorem cmpLays4 (g size : Nat) (hO : OrdAt2 w g blk) : letI := inh4 w blk
  CmpLays Tryz.prog 132 #[.pointer (some ⟨g, 0, none⟩)] (enc4 (w := w) (blk := blk)) 4 cf4 blk 0 size w := by
 letI := inh4 w blk
 intro m os dk hd x y
 have hg := sw_grown (w := w) (blk := blk) m dk os
 have ho := hO.kept hg
 have hx := x.2.kept hg
 have hy := y.2.kept hg
 obtain ⟨⟨xa, xc, e1, _⟩, ⟨xb, xe, e2, _⟩⟩ := hx
 obtain ⟨⟨ya, yc, e3, _⟩, ⟨yb, ye, e4, _⟩⟩ := hy
 have hx' := x.2.kept hg
 have hy' := y.2.kept hg
 have h := order_any x.1.f y.1.f xa ya xb yb xc yc xe ye g _ ho (by rw [← e1]; exact hx'.1) (by rw [← e2]; exact hx'.2) (by rw [← e3]; exact hy'.1) (by rw [← e4]; exact hy'.2) x.2.2.2.2.1 x.2.2.2.2.2 y.2.2.2.2.1 y.2.2.2.2.2
 have ea : #[Value.agg (enc4 x).toArray, Value.agg (enc4 y).toArray] ++ #[Value.pointer (some ⟨g, 0, none⟩)] = #[.agg #[.int .i64 x.1.f.t, .int .i64 x.1.f.p, .slice xa x.1.f.ms.length xc, .slice xb x.1.f.ds.length xe], .agg #[.int .i64 y.1.f.t, .int .i64 y.1.f.p, .slice ya y.1.f.ms.length yc, .slice yb y.1.f.ds.length ye], .pointer (some ⟨g, 0, none⟩)] := by
  unfold enc4
  rw [e1, e2, e3, e4]
  rfl
 rw [ea]
 exact h
theorem flat_C (lo : List Fv) (h : ∀ x ∈ lo, FoOk w blk x) : letI := inh4 w blk
  (flatK enc4 4 (lo.pmap (fun x hx => (⟨x, hx⟩ : Fo w blk)) h).toArray).toList = C lo := by
 letI := inh4 w blk
 refine List.ext_getElem? fun j => ?_
 have hl : (C lo).length = lo.length * 4 := by
  clear h
  induction lo with
  | nil => rfl
  | cons x r ih => simp [C] at ih ⊢; omega
 by_cases hj : j < lo.length * 4
 ·have hsz : j < (flatK enc4 4 (lo.pmap (fun x hx => (⟨x, hx⟩ : Fo w blk)) h).toArray).size := by rw [size_flatK]; simpa using hj
  rw [Array.getElem?_toList, Array.getElem?_eq_getElem hsz, ← getElem!_pos _ j hsz, get_flatK _ _ _ _ (by simpa using hj)]
  have hi : j / 4 < lo.length := by omega
  have hd : (lo.pmap (fun x hx => (⟨x, hx⟩ : Fo w blk)) h).toArray[j / 4]! = ⟨lo[j / 4], h _ (List.getElem_mem hi)⟩ := by
   rw [getElem!_pos _ _ (by simpa using hi)]
   simp
  rw [hd]
  obtain ⟨c0, c1, c2, c3⟩ := C_at lo (j / 4) hi
  have hg : lo.getD (j / 4) fv0 = lo[j / 4] := by simp [List.getD, List.getElem?_eq_getElem hi]
  rw [hg] at c0 c1 c2 c3
  have hm : j % 4 = 0 ∨ j % 4 = 1 ∨ j % 4 = 2 ∨ j % 4 = 3 := by omega
  rcases hm with hm | hm | hm | hm
  ·have e : j = j / 4 * 4 := by omega
   rw [hm]; rw [← e] at c0; rw [c0]; rfl
  ·have e : j = j / 4 * 4 + 1 := by omega
   rw [hm]; rw [← e] at c1; rw [c1]; rfl
  ·have e : j = j / 4 * 4 + 2 := by omega
   rw [hm]; rw [← e] at c2; rw [c2]; rfl
  ·have e : j = j / 4 * 4 + 3 := by omega
   rw [hm]; rw [← e] at c3; rw [c3]; rfl
 ·rw [List.getElem?_eq_none (by rw [Array.length_toList, size_flatK]; simp; omega), List.getElem?_eq_none (by omega)]
set_option maxHeartbeats 1000000 in
theorem sortFunc_any (B cap g : Nat) (lo : List Fv) (hown : w.ownsRow B 90 4 (.slice (some ⟨blk, 0, none⟩) lo.length cap) lo.length (C lo)) (hok : ∀ x ∈ lo, FoOk w blk x) (hO : OrdAt2 w g blk) (hl : lo.length ≤ 2000000) :
  Calls Tryz.prog 92 #[.slice (some ⟨blk, 0, none⟩) lo.length cap, .func (.func 132) #[] #[.pointer (some ⟨g, 0, none⟩)]] w fun e w' => e = .returned (.tuple #[]) ∧ ∃ lo' : List Fv, lo'.Perm lo ∧ (lo'.Pairwise fun a b => ¬ plc b.f a.f < 0) ∧ w'.ownsRow B 90 4 (.slice (some ⟨blk, 0, none⟩) lo.length cap) lo.length (C lo') ∧ w.grownBy w' (some blk) := by
 letI := inh4 w blk
 have eg : ∀ args w, (callFunc 132 args).run Tryz.prog w = .ok (.enter 132 args) w := enters_of Tryz.func132 (by kernel_rfl) rfl
 have hfl := flat_C lo hok
 have hown' := hown
 obtain ⟨hlen, ⟨h, _⟩ | ⟨g', cap', cur, hv, hB, hheap, hnc, hcm, hcs, htk⟩⟩ := hown
 ·simp at h
 simp only [Value.slice.injEq, Option.some.injEq, Addr.mk.injEq] at hv
 obtain ⟨⟨rfl, _⟩, _, rfl⟩ := hv
 have hblk : blk < w.heap.size := by
  rcases Nat.lt_or_ge blk w.heap.size with h' | h'
  ·exact h'
  ·simp [Array.getElem?_eq_none h'] at hheap
 obtain ⟨d, hd⟩ : ∃ d, d = (lo.pmap (fun x hx => (⟨x, hx⟩ : Fo w blk)) hok).toArray := ⟨_, rfl⟩
 have hds : d.size = lo.length := by rw [hd]; simp
 rw [← hd] at hfl
 have hH : HoldsK enc4 4 w blk 0 d := by
  intro j hj
  rw [size_flatK, hds] at hj
  have hc := hown'.cellAt j hj
  have hf := hown'.frozenAt j
  have e : (C lo)[j]? = some ((flatK enc4 4 d)[j]!) := by
   rw [← hfl, Array.getElem?_toList, Array.getElem?_eq_getElem (by rw [size_flatK, hds]; exact hj), getElem!_pos _ j (by rw [size_flatK, hds]; exact hj)]
  rw [Nat.zero_add]
  exact ⟨hc.trans e, hf⟩
 have hone : ∀ x : Fo w blk, ∀ v ∈ enc4 x, v.oneCell' = true := fun x v hv => x.2.1.one v (by simpa [C, enc4] using hv)
 have hcon := AnyQ.slices_SortFunc Tryz.sortFl 4 Tryz.isAgg90 Tryz.sizeOf90 enc4 (fun _ => rfl) hone cf4 (swo4 w blk) 132 #[.pointer (some ⟨g, 0, none⟩)] blk 0 cap d w eg (cmpLays4 g d.size hO) hH hblk (by omega)
 rw [hds] at hcon
 refine Calls.mono hcon ?_
 rintro e w' ⟨he, d', n, os, hp, hs, rfl⟩
 have hds' : d'.size = lo.length := by rw [hp.1, hds]
 have hback : d' = ((d'.toList.map (·.1)).pmap (fun x hx => (⟨x, hx⟩ : Fo w blk)) (fun x hx => by
   obtain ⟨y, _, rfl⟩ := List.mem_map.1 hx
   exact y.2)).toArray := by
  apply Array.toList_inj.1
  refine List.ext_getElem (by simp) fun i h1 h2 => ?_
  simp
 have hfl' : (flatK enc4 4 d').toList = C (d'.toList.map (·.1)) := by
  have := flat_C (w := w) (blk := blk) (d'.toList.map (·.1)) (fun x hx => by
   obtain ⟨y, _, rfl⟩ := List.mem_map.1 hx
   exact y.2)
  rw [← hback] at this
  exact this
 refine ⟨he, d'.toList.map (·.1), ?_, ?_, ?_, ?_⟩
 ·have h1 := hp.2.2
  have e1 : d'.extract 0 lo.length = d' := by rw [← hds']; simp
  have e2 : d.extract 0 lo.length = d := by rw [← hds]; simp
  rw [e1, e2] at h1
  have h2 := h1.map (·.1)
  have e3 : d.toList.map (·.1) = lo := by
   rw [hd]
   exact List.ext_getElem (by simp) fun i h1 h2 => by simp
  rw [e3] at h2
  exact h2
 ·rw [List.pairwise_iff_getElem]
  intro i j hi hj hij
  have hi' : i < d'.size := by simpa using hi
  have hj' : j < d'.size := by simpa using hj
  have h1 := hs i j (Nat.zero_le _) hij (by omega)
  rw [lt4, getElem!_pos d' i hi', getElem!_pos d' j hj'] at h1
  simpa using h1
 ·have hcl : (C (d'.toList.map (·.1))).length = lo.length * 4 := by rw [← hfl', Array.length_toList, size_flatK, hds']
  refine ⟨hcl, .inr ⟨blk, cap, putCells id 0 (flatK enc4 4 d') cur, rfl, hB, ?_, hnc, hcm, ?_, ?_⟩⟩
  ·unfold sortWorldK
   rw [Go.Sort.heap_grow_old _ _ (by rw [Go.Sort.size_putRowK]; exact hblk)]
   unfold putRowK putRow mapBlock
   simp only [Array.getElem?_modify, if_true]
   show (w.heap[blk]?).map _ = _
   rw [hheap]
   rfl
  ·rw [← hcs]; simp [putCells]
  ·rw [← hfl']
   refine List.ext_getElem? fun j => ?_
   by_cases hj : j < lo.length * 4
   ·rw [List.getElem?_take, if_pos hj, Array.getElem?_toList, Array.getElem?_toList]
    unfold putCells
    rw [Array.getElem?_mapIdx]
    have hjc : j < cur.size := by rw [hcs]; omega
    have hjf : j < (flatK enc4 4 d').size := by rw [size_flatK, hds']; exact hj
    rw [Array.getElem?_eq_getElem hjc, Array.getElem?_eq_getElem hjf]
    simp only [Option.map_some, Nat.zero_le, true_and, Nat.zero_add, Nat.sub_zero, id]
    rw [if_pos hjf, getElem!_pos _ j hjf]
   ·rw [List.getElem?_eq_none (by simp; omega), List.getElem?_eq_none (by rw [Array.length_toList, size_flatK, hds']; omega)]
 ·exact sw_grown n d' os
end
end Go.Proofs.YtncdininppehkaaGreat

namespace Go.Proofs.YtncdininppehkaaGreat
open Go.RowKit
set_option linter.unusedVariables false
set_option maxRecDepth 100000
abbrev sixO : Obj := .cells #[.func (.func 80) #[] #[], .func (.func 82) #[] #[], .func (.func 83) #[] #[], .func (.func 84) #[] #[], .func (.func 85) #[] #[], .func (.func 88) #[] #[]] 100
set_option maxHeartbeats 400000 in
theorem fPlaces_any (w : World) :
  Calls Tryz.prog 41 #[] w fun e w' => e = .returned (.func (.func 132) #[] #[.pointer (some ⟨w.heap.size + 1, 0, none⟩)]) ∧ w' = (w.alloc sixO).alloc (.cells #[.slice (some ⟨w.heap.size, 0, none⟩) 6 6] 178) := by
 have hT : Hid (∀ (v : Value) (W : World), (∃ a n c, v = .slice a n c) → Calls Tryz.prog 79 #[v] W fun e w' => e = .returned (.func (.func 132) #[] #[.pointer (some ⟨W.heap.size, 0, none⟩)]) ∧ w' = W.alloc (.cells #[v] 178)) := by
  rintro v W ⟨a, n, c, rfl⟩
  go_enter Tryz.func79, Tryz.ntmps79
  go_wp2_with fail
  go_ret
  exact ⟨rfl, rfl⟩
 go_enter Tryz.func41, Tryz.ntmps41
 go_wp2_with fail
 refine (unhide hT _ _ ⟨_, _, _, rfl⟩).mono ?_
 rintro e w1 ⟨rfl, rfl⟩
 go_wp2_with fail
 go_ret
 exact ⟨by simp, rfl⟩
theorem fPlaces_below (w : World) : Calls Tryz.prog 41 #[] w fun e w' => ∃ g, e = .returned (.func (.func 132) #[] #[.pointer (some ⟨g, 0, none⟩)]) ∧ Below w.heap.size w w' :=
 (fPlaces_any w).mono fun e w' ⟨he, hw⟩ => ⟨_, he, by rw [hw]; exact ((Below.refl _ _).alloc (Nat.le_refl _) _).alloc (by simp) _⟩
set_option maxHeartbeats 400000 in
theorem freshNil_any (w : World) : Calls Tryz.prog 91 #[.slice none 0 0] w fun e w' => e = .returned (.slice none 0 0) ∧ w' = w := by
 go_enter Tryz.func91, Tryz.ntmps91
 go_wp2
 go_ret
 exact ⟨rfl, rfl⟩
set_option maxHeartbeats 400000 in
theorem freshMsNil_any (w : World) : Calls Tryz.prog 45 #[.slice none 0 0] w fun e w' => e = .returned (.slice none 0 0) ∧ w' = w := by
 go_enter Tryz.func45, Tryz.ntmps45
 go_wp2
 go_ret
 exact ⟨rfl, rfl⟩
set_option maxHeartbeats 400000 in
theorem freshDsNil_any (w : World) : Calls Tryz.prog 46 #[.slice none 0 0] w fun e w' => e = .returned (.slice none 0 0) ∧ w' = w := by
 go_enter Tryz.func46, Tryz.ntmps46
 go_wp2
 go_ret
 exact ⟨rfl, rfl⟩
set_option maxHeartbeats 1000000 in
theorem insertion_tiny (p : Option Addr) (n cap : Nat) (fv : Value) (w : World) (hn : n ≤ 1) :
  Calls Tryz.prog 163 #[.slice p n cap, .int .i64 0, .int .i64 n, fv] w fun e w' => e = .returned (.tuple #[]) ∧ w' = w := by
 go_enter Tryz.func163, Tryz.ntmps163
 go_wp2_with fail
 refine wp_loop_rounds 1 ?_
 rw [rounds_succ]
 go_wp2_with fail
 go_end0
 exact ⟨rfl, rfl⟩
set_option maxHeartbeats 1000000 in
theorem bitsLen_tiny (n : Nat) (w : World) (hn : n ≤ 1) :
  Calls Tryz.prog 136 #[.int .u64 n] w fun e w' => (∃ r : Int, e = .returned (.int .i64 r)) ∧ w' = w := by
 have hn' : n = 0 ∨ n = 1 := by omega
 have h64 : Hid (∀ W : World, Calls Tryz.prog 172 #[.int .u64 n] W fun e w' => (∃ r : Int, e = .returned (.int .i64 r)) ∧ w' = W) := by
  intro W
  rcases hn' with rfl | rfl
  ·go_enter Tryz.func172, Tryz.ntmps172
   go_wp2
   go_ret
   exact ⟨⟨_, rfl⟩, rfl⟩
  ·go_enter Tryz.func172, Tryz.ntmps172
   go_wp2
   go_ret
   exact ⟨⟨_, rfl⟩, rfl⟩
 rcases hn' with rfl | rfl
 all_goals
  go_enter Tryz.func136, Tryz.ntmps136
  go_wp2_with fail
  refine (unhide h64 _).mono ?_
  rintro e w1 ⟨⟨r, rfl⟩, rfl⟩
  go_wp2_with fail
  go_ret
  exact ⟨⟨_, rfl⟩, rfl⟩
set_option maxHeartbeats 1000000 in
theorem pdq_tiny (p : Option Addr) (n cap : Nat) (lim : Int) (fv : Value) (w : World) (hn : n ≤ 1) :
  Calls Tryz.prog 135 #[.slice p n cap, .int .i64 0, .int .i64 n, .int .i64 lim, fv] w fun e w' => e = .returned (.tuple #[]) ∧ w' = w := by
 go_enter Tryz.func135, Tryz.ntmps135
 go_wp2_with fail
 refine wp_loop_rounds 1 ?_
 rw [rounds_succ]
 go_wp2_with fail
 refine (insertion_tiny _ _ _ _ _ hn).mono ?_
 rintro e w1 ⟨rfl, rfl⟩
 go_wp2_with fail
 (try simp only [Exit.inBlock, Exit.then]); refine bodyPost_ret (results_none rfl _ _ _) rfl ?_
 exact ⟨rfl, rfl⟩
set_option maxHeartbeats 1000000 in
theorem sortFunc_tiny (p : Option Addr) (n cap : Nat) (fv : Value) (w : World) (hn : n ≤ 1) :
  Calls Tryz.prog 92 #[.slice p n cap, fv] w fun e w' => e = .returned (.tuple #[]) ∧ w' = w := by
 go_enter Tryz.func92, Tryz.ntmps92
 go_wp2_with fail
 refine (bitsLen_tiny n _ hn).mono ?_
 rintro e w1 ⟨⟨r, rfl⟩, rfl⟩
 go_wp2_with fail
 refine (pdq_tiny _ _ _ _ _ _ hn).mono ?_
 rintro e w1 ⟨rfl, rfl⟩
 go_wp2_with fail
 go_end0
 exact ⟨rfl, rfl⟩
theorem infoFl : (Tryz.prog.info? 90).map (fun i => (i.zero, i.size, i.bytes)) = some (some (.agg #[.int .i64 0, .int .i64 0, .slice none 0 0, .slice none 0 0]), 4, 64) := by kernel_rfl
set_option maxHeartbeats 1000000 in
theorem freshV_any (ad : Addr) (n cap : Nat) (news : List Value) (w : World) (hl : news.length = n * 4) (hc : ∀ j u, news[j]? = some u → w.cell? (ad.add j) = some u) (h1 : ∀ u ∈ news, u.oneCell' = true) (hm : n ≤ 1000000000) :
  Calls Tryz.prog 91 #[.slice (some ad) n cap] w fun e w' => ∃ v, e = .returned v ∧ w'.ownsRow w.heap.size 90 4 v n news ∧ Below w.heap.size w w' := by
 obtain ⟨i0, hi, hz0, hz1, hz2⟩ := info_parts infoFl
 have HC := hide hc
 have H1 := hide h1
 clear hc h1
 go_enter Tryz.func91, Tryz.ntmps91
 go_wp2_with (at_builtin; refine wpList_append_own _ rfl _ _ 31 rfl w.heap.size 90 i0 _ 4 64 Tryz.underlying31 hi hz0 hz1 hz2 rfl (by decide) _ _ _ rfl (World.ownsRow_nil w w.heap.size 90 4) ad n cap news rfl hl HC.out H1.out ?a1 ?a2 ?a3 ?_)
 case a1 => unfold maxLen; omega
 case a2 => omega
 case a3 => exact Nat.le_refl _
 intro v1 w1 ho1 hg1 _
 have hb1 : Below w.heap.size w w1 := (Below.refl _ w).grown hg1 (by simp) (own_ge (World.ownsRow_nil w w.heap.size 90 4))
 have ho1' : w1.ownsRow w.heap.size 90 4 v1 n news := by simpa using ho1
 clear ho1 hg1
 go_wp2
 go_ret
 exact ⟨v1, rfl, ho1', hb1⟩
set_option maxHeartbeats 1000000 in
theorem orderedNil_any (w : World) : Calls Tryz.prog 43 #[.slice none 0 0] w fun e w' => e = .returned (.slice none 0 0) ∧ Below w.heap.size w w' := by
 go_enter Tryz.func43, Tryz.ntmps43
 go_wp2_with fail
 refine (freshNil_any _).mono ?_
 rintro e w1 ⟨rfl, rfl⟩
 go_wp2_with fail
 refine (fPlaces_below _).mono ?_
 rintro e w1 ⟨g, rfl, hb⟩
 go_wp2_with fail
 refine (sortFunc_tiny none 0 0 _ _ (by omega)).mono ?_
 rintro e w1 ⟨rfl, rfl⟩
 go_wp2_with fail
 go_ret
 exact ⟨rfl, hb⟩
end Go.Proofs.YtncdininppehkaaGreat

namespace Go.Proofs.YtncdininppehkaaGreat
open Go.RowKit
set_option linter.unusedVariables false
set_option maxRecDepth 100000
theorem fs_lo {w : World} {a : Option Addr} {n cap : Nat} {fs : List Fl} (h : FsAt w (.slice a n cap) fs) : n = fs.length ∧ (a = none → cap = 0) ∧ ∃ lo : List Fv, lo.map Fv.f = fs ∧ (∀ x ∈ lo, Held w x) ∧ (lo.length = 0 ∨ ∃ b off, a = some ⟨b, off, none⟩ ∧ lo.length ≤ cap ∧ ∀ j u, (C lo)[j]? = some u → w.cell? ((⟨b, off, none⟩ : Addr).add j) = some u) := by
 obtain ⟨a', cap', hv, hn, hL⟩ := h
 simp only [Value.slice.injEq] at hv
 obtain ⟨rfl, rfl, rfl⟩ := hv
 refine ⟨rfl, hn, ?_⟩
 rcases hL with h0 | ⟨b, off, rfl, hcap, hc⟩
 ·obtain rfl := List.eq_nil_of_length_eq_zero h0
  exact ⟨[], rfl, fun x hx => by simp at hx, .inl rfl⟩
 ·have key : ∀ k, k ≤ fs.length → ∃ lo : List Fv, lo.map Fv.f = fs.take k ∧ (∀ x ∈ lo, Held w x) ∧ ∀ j u, (C lo)[j]? = some u → w.cell? ⟨b, off + j, none⟩ = some u := by
   intro k
   induction k with
   | zero => exact fun _ => ⟨[], by simp, fun x hx => by simp at hx, fun j u h => by simp [C] at h⟩
   | succ k ih =>
    intro hk
    obtain ⟨lo, h1, h2, h3⟩ := ih (by omega)
    obtain ⟨f0, f1, mv, dv, f2, f3, hm, hd⟩ := hc k (by omega)
    have hll : lo.length = k := by
     have := congrArg List.length h1
     simpa [Nat.min_eq_left (show k ≤ fs.length by omega)] using this
    have hcl : (C lo).length = k * 4 := by
     rw [← hll]
     clear h1 h2 h3 hll
     induction lo with
     | nil => rfl
     | cons x r ih => simp [C] at ih ⊢; omega
    refine ⟨lo ++ [⟨fs.getD k fl0, mv, dv⟩], ?_, fun x hx => ?_, fun j u hj => ?_⟩
    ·rw [List.take_succ_eq_append_getElem (by omega), List.map_append, h1]
     simp [List.getD, List.getElem?_eq_getElem (show k < fs.length by omega)]
    ·simp only [List.mem_append, List.mem_singleton] at hx
     rcases hx with hx | rfl
     ·exact h2 x hx
     ·exact ⟨hm, hd⟩
    ·rw [C_append] at hj
     by_cases hjl : j < k * 4
     ·rw [List.getElem?_append_left (by omega)] at hj
      exact h3 j u hj
     ·rw [List.getElem?_append_right (by omega), hcl] at hj
      have hj4 : j - k * 4 = 0 ∨ j - k * 4 = 1 ∨ j - k * 4 = 2 ∨ j - k * 4 = 3 := by
       rcases Nat.lt_or_ge (j - k * 4) 4 with h | h
       ·omega
       ·rw [List.getElem?_eq_none (by simpa [C] using h)] at hj; simp at hj
      rcases hj4 with e | e | e | e
      ·rw [e] at hj; simp [C] at hj; subst hj; rw [show off + j = off + k * 4 by omega]; exact f0
      ·rw [e] at hj; simp [C] at hj; subst hj; rw [show off + j = off + k * 4 + 1 by omega]; exact f1
      ·rw [e] at hj; simp [C] at hj; subst hj; rw [show off + j = off + k * 4 + 2 by omega]; exact f2
      ·rw [e] at hj; simp [C] at hj; subst hj; rw [show off + j = off + k * 4 + 3 by omega]; exact f3
  obtain ⟨lo, h1, h2, h3⟩ := key fs.length (Nat.le_refl _)
  rw [List.take_length] at h1
  have hll : lo.length = fs.length := by rw [← h1]; simp
  refine ⟨lo, h1, h2, .inr ⟨b, off, rfl, by omega, fun j u hj => ?_⟩⟩
  have e : (⟨b, off, none⟩ : Addr).add j = ⟨b, off + j, none⟩ := by by_cases h : j = 0 <;> simp [Addr.add, h]
  rw [e]
  exact h3 j u hj
theorem C_len (lo : List Fv) : (C lo).length = lo.length * 4 := by
 induction lo with
 | nil => rfl
 | cons x r ih => simp [C] at ih ⊢; omega
theorem held_one {w : World} {lo : List Fv} (h : ∀ x ∈ lo, Held w x) : ∀ u ∈ C lo, u.oneCell' = true := by
 intro u hu
 simp only [C, List.mem_flatMap] at hu
 obtain ⟨x, hx, hu⟩ := hu
 exact (h x hx).one u (by simpa [C] using hu)
theorem freshFl_any (v : Value) (fs : List Fl) (w : World) (hF : FsAt w v fs) (hl : fs.length ≤ 2000000) :
  Calls Tryz.prog 91 #[v] w fun e w' => ∃ u lo, e = .returned u ∧ lo.map Fv.f = fs ∧ (∀ x ∈ lo, Held w x) ∧ w'.ownsRow w.heap.size 90 4 u lo.length (C lo) ∧ Below w.heap.size w w' := by
 obtain ⟨a, cap, rfl, _, _⟩ := id hF
 obtain ⟨_, hn, lo, h1, h2, h3⟩ := fs_lo hF
 have hll : lo.length = fs.length := by rw [← h1]; simp
 cases a with
 | none =>
  obtain rfl := hn rfl
  have h0 : fs.length = 0 := by
   rcases h3 with h | ⟨_, _, h, _⟩
   ·omega
   ·simp at h
  have hlo : lo = [] := List.eq_nil_of_length_eq_zero (by omega)
  rw [h0]
  refine (freshNil_any w).mono ?_
  rintro e w' ⟨rfl, rfl⟩
  exact ⟨_, lo, rfl, h1, h2, by rw [hlo]; exact World.ownsRow_nil _ _ _ _, Below.refl _ _⟩
 | some ad =>
  have hnews : ∀ j u, (C lo)[j]? = some u → w.cell? (ad.add j) = some u := by
   rcases h3 with h | ⟨b, off, h4, _, h5⟩
   ·intro j u hj
    rw [List.eq_nil_of_length_eq_zero h] at hj
    simp [C] at hj
   ·cases h4
    exact h5
  refine (freshV_any ad fs.length cap (C lo) w (by rw [C_len, hll]) hnews (held_one h2) (by omega)).mono ?_
  rintro e w' ⟨u, rfl, ho, hb⟩
  exact ⟨u, lo, rfl, h1, h2, by rw [hll]; exact ho, hb⟩
theorem Held.away {w : World} {x : Fv} (h : Held w x) {blk : Nat} (hb : w.heap.size ≤ blk) : (x.f.ms.length = 0 ∨ x.mv.ownBlock ≠ some blk) ∧ (x.f.ds.length = 0 ∨ x.dv.ownBlock ≠ some blk) := by
 obtain ⟨⟨a, c, h1, _, h2⟩, ⟨a', c', h3, _, h4⟩⟩ := h
 constructor
 ·rcases h2 with h2 | ⟨b, off, rfl, _, h2⟩
  ·exact .inl h2
  ·rcases Nat.eq_zero_or_pos x.f.ms.length with h0 | h0
   ·exact .inl h0
   ·have := cell_lt (h2 0 h0).1
    exact .inr (by rw [h1]; simp [Value.ownBlock]; omega)
 ·rcases h4 with h4 | ⟨b, off, rfl, _, h4⟩
  ·exact .inl h4
  ·rcases Nat.eq_zero_or_pos x.f.ds.length with h0 | h0
   ·exact .inl h0
   ·have := cell_lt (h4 0 h0).1
    exact .inr (by rw [h3]; simp [Value.ownBlock]; omega)
set_option maxHeartbeats 2000000 in
theorem ordered_any (v : Value) (fs : List Fl) (w : World) (hF : FsAt w v fs) (hl : fs.length ≤ 2000000) (hs : ∀ f ∈ fs, f.ms.length ≤ 2000000 ∧ f.ds.length ≤ 2000000) :
  Calls Tryz.prog 43 #[v] w fun e w' => ∃ u, e = .returned u ∧ ∃ lo : List Fv, (lo.map Fv.f).Perm fs ∧ (lo.Pairwise fun a b => ¬ plc b.f a.f < 0) ∧ (∀ x ∈ lo, Held w x) ∧ w'.ownsRow w.heap.size 90 4 u lo.length (C lo) ∧ Below w.heap.size w w' := by
 have HF := hide hF
 obtain ⟨a, cap, rfl, _, _⟩ := hF
 go_enter Tryz.func43, Tryz.ntmps43
 go_wp2_with fail
 refine (freshFl_any _ fs w HF.out hl).mono ?_
 rintro e w1 ⟨u, lo, rfl, hlo, hh, ho1, hb1⟩
 have HH := hide hh
 have HLO := hide hlo
 have HLL : Hid (lo.length ≤ 2000000) := hide (by have : lo.length = fs.length := (by rw [← hlo]; simp); omega)
 clear hh hlo
 by_cases h0 : lo.length = 0
 ·obtain ⟨ua, uc, rfl⟩ : ∃ a c, u = .slice a 0 c := by
   obtain ⟨_, ⟨rfl, _⟩ | ⟨g, cap, cur, rfl, _⟩⟩ := ho1
   ·exact ⟨_, _, rfl⟩
   ·exact ⟨_, _, by rw [h0]⟩
  have HO1 := hide ho1
  clear ho1
  go_wp2_with fail
  refine (fPlaces_below _).mono ?_
  rintro e w2 ⟨g, rfl, hb2⟩
  go_wp2_with fail
  refine (sortFunc_tiny _ 0 _ _ _ (by omega)).mono ?_
  rintro e w3 ⟨rfl, rfl⟩
  go_wp2_with fail
  go_ret
  obtain rfl := List.eq_nil_of_length_eq_zero h0
  exact ⟨_, rfl, [], by rw [HLO.out], List.Pairwise.nil, HH.out, own_below HO1.out hb2, hb1.trans (hb2.mono hb1.size)⟩
 ·obtain ⟨blk, uc, rfl, _⟩ := ho1.form (by omega)
  have HO1 := hide ho1
  have hbl := own_at ho1
  clear ho1
  go_wp2_with fail
  refine (fPlaces_any _).mono ?_
  rintro e w2 ⟨rfl, hw2⟩
  have hgr2 : Below w1.heap.size w1 w2 := by rw [hw2]; exact ((Below.refl _ _).alloc (Nat.le_refl _) _).alloc (by simp) _
  have HOA : Hid (OrdAt2 w2 (w1.heap.size + 1) blk) := by
   rw [hw2]
   have e : w1.heap.size + 1 = (w1.alloc sixO).heap.size := by simp
   refine hide ⟨by omega, w1.heap.size, by omega, ?_, ?_⟩
   ·rw [e]; simp
   ·simp
  have hb12 := hb1.trans (hgr2.mono hb1.size)
  have HO2 := hide (own_below HO1.out hgr2)
  have HFO : Hid (∀ x ∈ lo, FoOk w2 blk x) := fun x hx => by
   have hx1 := HH.out x hx
   have hf : x.f ∈ fs := by rw [← HLO.out]; exact List.mem_map_of_mem hx
   obtain ⟨a1, a2⟩ := hx1.away (show w.heap.size ≤ blk from hbl.1)
   exact ⟨hx1.below hb12 (Nat.le_refl _), a1, a2, (hs x.f hf).1, (hs x.f hf).2⟩
  clear hw2 hgr2
  go_wp2_with fail
  refine (sortFunc_any w.heap.size uc (w1.heap.size + 1) lo HO2.out HFO.out HOA.out HLL.out).mono ?_
  rintro e w3 ⟨rfl, lo', hp, hsrt, ho3, hg3⟩
  have HP := hide hp
  have HS := hide hsrt
  have HO3 := hide ho3
  clear hp hsrt ho3
  go_wp2_with fail
  go_ret
  have hl' : lo'.length = lo.length := HP.out.length_eq
  exact ⟨_, rfl, lo', by rw [← HLO.out]; exact HP.out.map _, HS.out, fun x hx => HH.out x (HP.out.mem_iff.1 hx), by rw [hl']; exact HO3.out, hb12.grown hg3 hb12.size (fun k hk => by cases hk; exact hbl.1)⟩
end Go.Proofs.YtncdininppehkaaGreat

namespace Go.Proofs.YtncdininppehkaaGreat
open Go.RowKit
set_option linter.unusedVariables false
set_option maxRecDepth 100000
theorem heap_set {w : World} {g j : Nat} {v : Value} {cur : Array Value} {e : TypeId} (h : w.heap[g]? = some (.cells cur e (0, 0))) : (w.setCell ⟨g, j, none⟩ v).heap[g]? = some (.cells (cur.setIfInBounds j v) e (0, 0)) := by
 rw [Go.Sort.setCell_eq]
 unfold Go.Sort.mapBlock
 simp only [Array.getElem?_modify, if_true]
 rw [h]
 rfl
theorem own_set {w : World} {B e size n cap g : Nat} {xs : List Value} (h : w.ownsRow B e size (.slice (some ⟨g, 0, none⟩) n cap) n xs) (j : Nat) (v : Value) : (w.setCell ⟨g, j, none⟩ v).ownsRow B e size (.slice (some ⟨g, 0, none⟩) n cap) n (xs.set j v) := by
 obtain ⟨hlen, ⟨h, _⟩ | ⟨g', cap', cur, hv, hB, hheap, hnc, hcm, hcs, htk⟩⟩ := h
 ·simp at h
 simp only [Value.slice.injEq, Option.some.injEq, Addr.mk.injEq] at hv
 obtain ⟨⟨rfl, _⟩, _, rfl⟩ := hv
 refine ⟨by simpa using hlen, .inr ⟨g, cap, _, rfl, hB, heap_set hheap, hnc, hcm, by simpa using hcs, ?_⟩⟩
 rw [← htk, Array.toList_setIfInBounds]
 refine List.ext_getElem? fun i => ?_
 simp only [List.getElem?_take, List.getElem?_set, List.length_take]
 by_cases hi : i < n * size
 ·simp only [hi, if_true]
  by_cases hji : j = i
  ·subst hji
   simp only [if_true]
   have : (j < min (n * size) cur.toList.length) ↔ j < cur.toList.length := by omega
   simp only [this]
  ·simp [hji]
 ·simp only [hi, if_false]
  by_cases hji : j = i
  ·subst hji
   simp
   omega
  ·simp [hji]
theorem set_far {xs : List Value} {j : Nat} {v : Value} (h : xs.length ≤ j) : xs.set j v = xs := List.set_eq_of_length_le h
theorem own_prefix {w : World} {B e size n m cap g : Nat} {xs : List Value} (h : w.ownsRow B e size (.slice (some ⟨g, 0, none⟩) n cap) n xs) (hm : m ≤ n) : w.ownsRow B e size (.slice (some ⟨g, 0, none⟩) m cap) m (xs.take (m * size)) := by
 obtain ⟨hlen, ⟨h, _⟩ | ⟨g', cap', cur, hv, hB, hheap, hnc, hcm, hcs, htk⟩⟩ := h
 ·simp at h
 simp only [Value.slice.injEq, Option.some.injEq, Addr.mk.injEq] at hv
 obtain ⟨⟨rfl, _⟩, _, rfl⟩ := hv
 have hmn : m * size ≤ n * size := Nat.mul_le_mul_right _ hm
 refine ⟨by rw [List.length_take, hlen]; omega, .inr ⟨g, cap, cur, rfl, hB, hheap, by omega, hcm, hcs, ?_⟩⟩
 rw [← htk, List.take_take, Nat.min_eq_left hmn]
theorem C_take (l : List Fv) (m : Nat) : (C l).take (m * 4) = C (l.take m) := by
 induction l generalizing m with
 | nil => simp [C]
 | cons x r ih =>
  cases m with
  | zero => simp [C]
  | succ m =>
   have e : (m + 1) * 4 = m * 4 + 4 := by omega
   rw [e]
   simp only [List.take_succ_cons]
   have := ih m
   simp only [C, List.flatMap_cons] at this ⊢
   simp only [List.cons_append, List.nil_append, List.take_succ_cons]
   rw [this]
theorem C_set : ∀ (l : List Fv) (i : Nat) (x : Fv), i < l.length → ((((C l).set (i * 4) (.int .i64 x.f.t)).set (i * 4 + 1) (.int .i64 x.f.p)).set (i * 4 + 2) x.mv).set (i * 4 + 3) x.dv = C (l.set i x)
 | [], i, _, h => by simp at h
 | y :: r, 0, x, _ => by simp [C]
 | y :: r, i + 1, x, h => by
  have ih := C_set r i x (by simpa using h)
  have e : ∀ k, (i + 1) * 4 + k = (i * 4 + k) + 4 := fun k => by omega
  have e0 : (i + 1) * 4 = (i * 4) + 4 := by omega
  simp only [C, List.flatMap_cons, List.set_cons_succ] at ih ⊢
  rw [e 1, e 2, e 3, e0]
  simp only [List.cons_append, List.nil_append, List.set_cons_succ]
  rw [ih]
theorem own_set4 {w : World} {B cap g : Nat} {l : List Fv} (h : w.ownsRow B 90 4 (.slice (some ⟨g, 0, none⟩) l.length cap) l.length (C l)) (i : Nat) (x : Fv) (hi : i < l.length) :
  ((((w.setCell ⟨g, i * 4, none⟩ (.int .i64 x.f.t)).setCell ⟨g, i * 4 + 1, none⟩ (.int .i64 x.f.p)).setCell ⟨g, i * 4 + 2, none⟩ x.mv).setCell ⟨g, i * 4 + 3, none⟩ x.dv).ownsRow B 90 4 (.slice (some ⟨g, 0, none⟩) (l.set i x).length cap) (l.set i x).length (C (l.set i x)) := by
 have := own_set (own_set (own_set (own_set h (i * 4) (.int .i64 x.f.t)) (i * 4 + 1) (.int .i64 x.f.p)) (i * 4 + 2) x.mv) (i * 4 + 3) x.dv
 rw [C_set l i x hi] at this
 simpa using this
theorem grown_set {w w' : World} {g j : Nat} {v : Value} (h : w.grownBy w' (some g)) : w.grownBy (w'.setCell ⟨g, j, none⟩ v) (some g) :=
 ⟨h.os, h.tape, h.output, by simpa using h.size, fun k hk hne => (Below.heap_setCell w' _ _ k (fun e => hne (by rw [e]))).trans (h.block k hk hne)⟩
theorem grown_refl (w : World) (row : Option Nat) : w.grownBy w row := ⟨rfl, rfl, rfl, Nat.le_refl _, fun _ _ _ => rfl⟩
theorem grown_trans {a b c : World} {g : Nat} (h : a.grownBy b (some g)) (k : b.grownBy c (some g)) : a.grownBy c (some g) :=
 ⟨k.os.trans h.os, k.tape.trans h.tape, k.output.trans h.output, Nat.le_trans h.size k.size, fun i hi hne => (k.block i (Nat.lt_of_lt_of_le hi h.size) hne).trans (h.block i hi hne)⟩
theorem Below.grown1 {w w' : World} {row : Option Nat} (h : Below w.heap.size w w') : w.grownBy w' row := ⟨h.os, h.tape, h.output, h.size, fun k hk _ => h.block k hk⟩
def EqAt (w : World) (ob g : Nat) : Prop := w.cell? ⟨ob, 0, none⟩ = some (.func (.func 132) #[] #[.pointer (some ⟨g, 0, none⟩)]) ∧ OrdAt w g
theorem EqAt.below {w w' : World} {ob g : Nat} (h : EqAt w ob g) (hb : Below w.heap.size w w') : EqAt w' ob g := ⟨cell_below h.1 hb (Nat.le_refl _), h.2.below hb⟩
set_option maxHeartbeats 2000000 in
theorem same_any (x y : Fv) (ob g : Nat) (w : World) (hE : EqAt w ob g) (hx : Held w x) (hy : Held w y) (l1 : x.f.ms.length ≤ 2000000) (l2 : x.f.ds.length ≤ 2000000) (l3 : y.f.ms.length ≤ 2000000) (l4 : y.f.ds.length ≤ 2000000) :
  Calls Tryz.prog 44 #[.agg #[.int .i64 x.f.t, .int .i64 x.f.p, x.mv, x.dv], .agg #[.int .i64 y.f.t, .int .i64 y.f.p, y.mv, y.dv], .pointer (some ⟨ob, 0, none⟩)] w fun e w' => e = .returned (.bool (plc x.f y.f == 0)) ∧ Grw w w' := by
 have HX := hide hx
 have HY := hide hy
 have HE := hide hE
 have he0 := hE.1
 have hobl := cell_lt he0
 obtain ⟨⟨xa, xc, e1, _⟩, ⟨xb, xe, e2, _⟩⟩ := hx
 obtain ⟨⟨ya, yc, e3, _⟩, ⟨yb, ye, e4, _⟩⟩ := hy
 obtain ⟨xf, xm, xd⟩ := x
 obtain ⟨yf, ym, yd⟩ := y
 simp only at e1 e2 e3 e4 l1 l2 l3 l4
 subst e1 e2 e3 e4
 have hA : Grw w ((w.alloc (.cells #[.int .i64 xf.t, .int .i64 xf.p, .slice xa xf.ms.length xc, .slice xb xf.ds.length xe] 90)).alloc (.cells #[.int .i64 yf.t, .int .i64 yf.p, .slice ya yf.ms.length yc, .slice yb yf.ds.length ye] 90)) := ((Grw.refl w).alloc _).alloc _
 have HC : Hid (∀ W : World, Below w.heap.size w W → Calls Tryz.prog 132 #[.agg #[.int .i64 xf.t, .int .i64 xf.p, .slice xa xf.ms.length xc, .slice xb xf.ds.length xe], .agg #[.int .i64 yf.t, .int .i64 yf.p, .slice ya yf.ms.length yc, .slice yb yf.ds.length ye], .pointer (some ⟨g, 0, none⟩)] W fun e w' => e = .returned (.int .i64 (plc xf yf)) ∧ Grw W w') := fun W hW => by
  rw [← ordF_plc]
  exact order_any xf yf xa ya xb yb xc yc xe ye g W (HE.out.2.below hW) (HX.out.1.below hW (Nat.le_refl _)) (HX.out.2.below hW (Nat.le_refl _)) (HY.out.1.below hW (Nat.le_refl _)) (HY.out.2.below hW (Nat.le_refl _)) l1 l2 l3 l4
 clear HX HY HE hE
 simp only
 generalize plc xf yf = R at *
 go_enter Tryz.func44, Tryz.ntmps44
 go_wp2_with fail
 refine (unhide HC _ hA.below).mono ?_
 rintro e w1 ⟨rfl, hg1⟩
 have hg := hA.trans hg1
 go_wp2_with fail
 go_ret
 exact ⟨rfl, hg⟩
def ddTo (lo : List Fv) : Nat → List Fv
 | 0 => []
 | j + 1 => if j ≠ 0 ∧ plc (lo.getD j fv0).f (lo.getD (j - 1) fv0).f = 0 then ddTo lo j else ddTo lo j ++ [lo.getD j fv0]
theorem ddTo_le (lo : List Fv) : ∀ j, (ddTo lo j).length ≤ j
 | 0 => by simp [ddTo]
 | j + 1 => by
  have := ddTo_le lo j
  unfold ddTo
  split
  ·omega
  ·simp; omega
theorem ddTo_pos (lo : List Fv) : ∀ j, 1 ≤ (ddTo lo (j + 1)).length
 | 0 => by simp [ddTo]
 | j + 1 => by
  have := ddTo_pos lo j
  rw [ddTo]
  split
  ·exact this
  ·simp
theorem ddTo_all (lo : List Fv) : ∀ j, j ≤ lo.length → (∀ i, 1 ≤ i → i < j → plc (lo.getD i fv0).f (lo.getD (i - 1) fv0).f ≠ 0) → ddTo lo j = lo.take j
 | 0, _, _ => by simp [ddTo]
 | j + 1, hj, h => by
  rw [ddTo, if_neg (fun hc => h j (by omega) (by omega) hc.2), ddTo_all lo j (by omega) (fun i h1 h2 => h i h1 (by omega)), List.take_succ_eq_append_getElem (by omega)]
  simp [List.getD, List.getElem?_eq_getElem (show j < lo.length by omega)]
theorem ddTo_mem (lo : List Fv) : ∀ j, j ≤ lo.length → ∀ x ∈ ddTo lo j, x ∈ lo.take j
 | 0, _, x, hx => by simp [ddTo] at hx
 | j + 1, hj, x, hx => by
  have ih := ddTo_mem lo j (by omega) x
  have ht : lo.take (j + 1) = lo.take j ++ [lo.getD j fv0] := by
   rw [List.take_succ_eq_append_getElem (by omega)]; simp [List.getD, List.getElem?_eq_getElem (show j < lo.length by omega)]
  rw [ht, List.mem_append]
  rw [ddTo] at hx
  split at hx
  ·exact .inl (ih hx)
  ·rw [List.mem_append] at hx
   rcases hx with hx | hx
   ·exact .inl (ih hx)
   ·exact .inr hx
theorem ddTo_srt (lo : List Fv) (hs : lo.Pairwise fun a b => ¬ plc b.f a.f < 0) : ∀ j, j ≤ lo.length → Srt ((ddTo lo j).map Fv.f) ∧ (∀ f, f ∈ (ddTo lo j).map Fv.f ↔ f ∈ (lo.take j).map Fv.f) ∧ (1 ≤ j → ∃ r, ddTo lo j = r ++ [(ddTo lo j).getLast?.getD fv0] ∧ ((ddTo lo j).getLast?.getD fv0).f = (lo.getD (j - 1) fv0).f)
 | 0, _ => ⟨List.Pairwise.nil, fun f => by simp [ddTo], fun h => absurd h (by omega)⟩
 | j + 1, hj => by
  obtain ⟨h1, h2, h3⟩ := ddTo_srt lo hs j (by omega)
  have ht : lo.take (j + 1) = lo.take j ++ [lo.getD j fv0] := by
   rw [List.take_succ_eq_append_getElem (by omega)]; simp [List.getD, List.getElem?_eq_getElem (show j < lo.length by omega)]
  rw [ddTo]
  by_cases hc : j ≠ 0 ∧ plc (lo.getD j fv0).f (lo.getD (j - 1) fv0).f = 0
  ·rw [if_pos hc]
   have hfe := plc_zero hc.2
   obtain ⟨r, h4, h5⟩ := h3 (by omega)
   refine ⟨h1, fun f => ?_, fun _ => ⟨r, h4, by rw [h5, ← hfe]; rfl⟩⟩
   rw [h2, ht, List.map_append, List.mem_append]
   constructor
   ·exact .inl
   ·rintro (h | h)
    ·exact h
    ·simp only [List.map_cons, List.map_nil, List.mem_singleton] at h
     rw [h, hfe]
     have hj1 : j - 1 < (lo.take j).length := by simp; omega
     have : lo.getD (j - 1) fv0 ∈ lo.take j := by
      have e : lo.getD (j - 1) fv0 = (lo.take j)[j - 1] := by
       rw [List.getElem_take]; simp [List.getD, List.getElem?_eq_getElem (show j - 1 < lo.length by omega)]
      rw [e]; exact List.getElem_mem _
     exact List.mem_map_of_mem this
  ·rw [if_neg hc]
   refine ⟨?_, fun f => ?_, fun _ => ⟨ddTo lo j, by simp, by simp⟩⟩
   ·rw [List.map_append]
    refine List.pairwise_append.2 ⟨h1, by simp, fun a ha b hb => ?_⟩
    simp only [List.map_cons, List.map_nil, List.mem_singleton] at hb
    subst hb
    rw [h2] at ha
    obtain ⟨x, hx, rfl⟩ := List.mem_map.1 ha
    obtain ⟨i, hi, rfl⟩ := List.getElem_of_mem hx
    have hi' : i < j := by simp at hi; omega
    rw [List.getElem_take]
    have hp : ∀ p q, p < q → q < lo.length → ¬ plc (lo.getD q fv0).f (lo.getD p fv0).f < 0 := fun p q hpq hq => by
     have := List.pairwise_iff_getElem.1 hs p q (by omega) hq hpq
     simpa [List.getD, List.getElem?_eq_getElem hq, List.getElem?_eq_getElem (show p < lo.length by omega)] using this
    have e : lo[i] = lo.getD i fv0 := by simp [List.getD, List.getElem?_eq_getElem (show i < lo.length by omega)]
    rw [e]
    have a1 := hp i j hi' (by omega)
    have a1' : ¬ 0 < plc (lo.getD i fv0).f (lo.getD j fv0).f := fun h => a1 ((plc_flip _ _).2 h)
    by_cases hz : plc (lo.getD i fv0).f (lo.getD j fv0).f = 0
    ·exfalso
     have hfe := plc_zero hz
     rcases Nat.lt_or_ge i (j - 1) with hij | hij
     ·have b1 := hp i (j - 1) hij (by omega)
      have b2 := hp (j - 1) j (by omega) (by omega)
      rw [← hfe] at b2
      have b2' : ¬ 0 < plc (lo.getD (j - 1) fv0).f (lo.getD i fv0).f := fun h => b2 ((plc_flip _ _).2 h)
      have b3 : plc (lo.getD (j - 1) fv0).f (lo.getD i fv0).f = 0 := by omega
      have b4 := plc_zero b3
      refine hc ⟨by omega, ?_⟩
      rw [b4, hfe]; exact plc_self _
     ·have hij' : i = j - 1 := by omega
      subst hij'
      refine hc ⟨by omega, ?_⟩
      rw [← hfe]; exact plc_self _
    ·omega
   ·rw [List.map_append, List.mem_append, h2, ht, List.map_append, List.mem_append]
end Go.Proofs.YtncdininppehkaaGreat

namespace Go.Proofs.YtncdininppehkaaGreat
open Go.RowKit
set_option linter.unusedVariables false
set_option maxRecDepth 100000
def EqAt2 (w : World) (ob g blk : Nat) : Prop := ob ≠ blk ∧ w.cell? ⟨ob, 0, none⟩ = some (.func (.func 132) #[] #[.pointer (some ⟨g, 0, none⟩)]) ∧ OrdAt2 w g blk
theorem EqAt2.kept {w w' : World} {ob g blk : Nat} (h : EqAt2 w ob g blk) (hg : w.grownBy w' (some blk)) : EqAt w' ob g := ⟨hg.cell h.2.1 (by simpa using h.1), h.2.2.kept hg⟩
theorem row_cells {w : World} {B blk cap : Nat} {l : List Fv} (h : w.ownsRow B 90 4 (.slice (some ⟨blk, 0, none⟩) l.length cap) l.length (C l)) {i : Nat} (hi : i < l.length) :
  w.cell? ⟨blk, i * 4, none⟩ = some (.int .i64 (l.getD i fv0).f.t) ∧ w.cell? ⟨blk, i * 4 + 1, none⟩ = some (.int .i64 (l.getD i fv0).f.p) ∧ w.cell? ⟨blk, i * 4 + 2, none⟩ = some (l.getD i fv0).mv ∧ w.cell? ⟨blk, i * 4 + 3, none⟩ = some (l.getD i fv0).dv := by
 obtain ⟨c0, c1, c2, c3⟩ := C_at l i hi
 exact ⟨(h.cellAt _ (by omega)).trans c0, (h.cellAt _ (by omega)).trans c1, (h.cellAt _ (by omega)).trans c2, (h.cellAt _ (by omega)).trans c3⟩
theorem getD_mem {l : List Fv} {i : Nat} (hi : i < l.length) : l.getD i fv0 ∈ l := by
 rw [List.getD_eq_getElem?_getD, List.getElem?_eq_getElem hi]; exact List.getElem_mem hi
theorem own_setCells {B e size n cap g : Nat} {xs : List Value} : ∀ (vs : List Value) (o : Nat) (w : World), w.ownsRow B e size (.slice (some ⟨g, 0, none⟩) n cap) n xs → n * size ≤ o → (w.setCells g o vs).ownsRow B e size (.slice (some ⟨g, 0, none⟩) n cap) n xs
 | [], _, _, h, _ => h
 | v :: r, o, w, h, ho => by
  have h1 := own_set h o v
  rw [set_far (by rw [h.1]; exact ho)] at h1
  exact own_setCells r (o + 1) _ h1 (by omega)
theorem grown_setCells {g : Nat} {w : World} : ∀ (vs : List Value) (o : Nat) (w' : World), w.grownBy w' (some g) → w.grownBy (w'.setCells g o vs) (some g)
 | [], _, _, h => h
 | v :: r, o, w', h => grown_setCells r (o + 1) _ (grown_set h)
theorem clear_flows (w : World) (b o n c : Nat) (hn : 0 < n) (hc : ∀ j, j < n * 4 → (w.cell? ⟨b, o + j, none⟩).isSome = true) (hf : ∀ j, j < n * 4 → w.frozen? ⟨b, o + j, none⟩ = false) :
  ∃ vs, ∀ ty, (Builtin.clear_ #[31] ty #[.slice (some ⟨b, o, none⟩) n c]).run Tryz.prog w = .ok (.tuple #[]) (w.setCells b o vs) := by
 have hv : ∀ w, (zeroValue 90).run Tryz.prog w = .ok (.agg #[.int .i64 0, .int .i64 0, .slice none 0 0, .slice none 0 0]) w := fun w => by kernel_rfl
 refine ⟨(Builtin.zeroCells #[.int .i64 0, .int .i64 0, .slice none 0 0, .slice none 0 0] n).toList, fun ty => ?_⟩
 have hlen : (Builtin.zeroCells #[Value.int .i64 0, .int .i64 0, .slice none 0 0, .slice none 0 0] n).toList.length = n * 4 := by simp [Builtin.zeroCells]
 have hone : ∀ v ∈ (Builtin.zeroCells #[Value.int .i64 0, .int .i64 0, .slice none 0 0, .slice none 0 0] n).toList, v.oneCell' = true := by
  intro v hv
  obtain ⟨i, hi, rfl⟩ := List.getElem_of_mem hv
  simp only [Builtin.zeroCells, Array.getElem_toList]
  simp
  have hm : i % 4 = 0 ∨ i % 4 = 1 ∨ i % 4 = 2 ∨ i % 4 = 3 := by omega
  rcases hm with e | e | e | e <;> simp [e] <;> rfl
 have hst := run_storeCells_cells (P := Tryz.prog) b o (Builtin.zeroCells #[.int .i64 0, .int .i64 0, .slice none 0 0, .slice none 0 0] n).toList 0 w (by rw [hlen]; simpa using hc) (by rw [hlen]; simpa using hf) hone
 simp only [Nat.add_zero] at hst
 obtain ⟨m, rfl⟩ : ∃ m, n = m + 1 := ⟨n - 1, by omega⟩
 simp [Builtin.clear_, run_underlying Tryz.underlying31, hv, hst, Value.cells]
theorem wrapB (n : Int) (h0 : 0 ≤ n) (h1 : n ≤ 4000000) : IntKind.i64.wrap n = n := by
 simp [IntKind.wrap, IntKind.bits, IntKind.signed]
 split <;> omega
set_option maxHeartbeats 8000000 in
theorem compact_any (lo : List Fv) (B blk cap ob g : Nat) (w : World) (hown : w.ownsRow B 90 4 (.slice (some ⟨blk, 0, none⟩) lo.length cap) lo.length (C lo)) (hE : EqAt2 w ob g blk) (hok : ∀ x ∈ lo, FoOk w blk x) (h1 : 1 ≤ lo.length) (hl : lo.length ≤ 2000000) :
  Calls Tryz.prog 42 #[.slice (some ⟨blk, 0, none⟩) lo.length cap, .func (.func 44) #[] #[.pointer (some ⟨ob, 0, none⟩)]] w fun e w' => e = .returned (.slice (some ⟨blk, 0, none⟩) (ddTo lo lo.length).length cap) ∧ w'.ownsRow B 90 4 (.slice (some ⟨blk, 0, none⟩) (ddTo lo lo.length).length cap) (ddTo lo lo.length).length (C (ddTo lo lo.length)) ∧ w.grownBy w' (some blk) := by
 have HO := hide hown
 have HE := hide hE
 have HK := hide hok
 have hcap : lo.length ≤ cap := by
  obtain ⟨_, ⟨h, _⟩ | ⟨g', cap', cur, hv, _, _, hnc, _⟩⟩ := hown
  ·simp at h
  ·simp only [Value.slice.injEq] at hv; omega
 clear hown hE hok
 have HC : Hid (∀ (W : World) (x y : Fv), w.grownBy W (some blk) → x ∈ lo → y ∈ lo → Calls Tryz.prog 44 #[.agg #[.int .i64 x.f.t, .int .i64 x.f.p, x.mv, x.dv], .agg #[.int .i64 y.f.t, .int .i64 y.f.p, y.mv, y.dv], .pointer (some ⟨ob, 0, none⟩)] W fun e w' => e = .returned (.bool (plc x.f y.f == 0)) ∧ Grw W w') := fun W x y hW hx hy =>
  same_any x y ob g W (HE.out.kept hW) ((HK.out x hx).kept hW) ((HK.out y hy).kept hW) (HK.out x hx).2.2.2.1 (HK.out x hx).2.2.2.2 (HK.out y hy).2.2.2.1 (HK.out y hy).2.2.2.2
 by_cases h2 : lo.length < 2
 ·have hdd : ddTo lo lo.length = lo := by
   rw [ddTo_all lo lo.length (Nat.le_refl _) (fun i a b => by omega), List.take_length]
  rw [hdd]
  clear HC HE HK
  go_enter Tryz.func42, Tryz.ntmps42
  go_wp2_with fail
  go_ret
  exact ⟨rfl, HO.out, grown_refl _ _⟩
 ·go_enter Tryz.func42, Tryz.ntmps42
  go_wp2_with fail
  have hblkw := (own_at HO.out).2
  go_loopw [5] (fun i wr => ∃ k : Nat, 1 ≤ k ∧ k ≤ lo.length ∧ i = .int .i64 k ∧ Hid (∀ j, 1 ≤ j → j < k → plc (lo.getD j fv0).f (lo.getD (j - 1) fv0).f ≠ 0) ∧ Grw w wr) (fun i _ => lo.length - (intOf i).toNat)
  case atStart => exact ⟨1, by omega, by omega, rfl, hide (fun j a b => by omega), Grw.refl _⟩
  case round =>
   obtain ⟨k, hk1, hk, rfl, HALL, hgr⟩ := hrel
   have hbel := hgr.below
   have hgb : w.grownBy wr (some blk) := Below.grown1 hbel
   have HOr := hide (own_below HO.out hbel)
   have hblkr := Nat.lt_of_lt_of_le hblkw hbel.size
   by_cases hlt : k < lo.length
   ·obtain ⟨k', hkk⟩ : ∃ k', k = k' + 1 := ⟨k - 1, by omega⟩
    have hkm : k - 1 = k' := by omega
    have hk'l : k' < lo.length := by omega
    obtain ⟨a0, a1, a2, a3⟩ := row_cells HOr.out hlt
    obtain ⟨b0, b1, b2, b3⟩ := row_cells HOr.out hk'l
    have hX := getD_mem hlt
    have hY := getD_mem hk'l
    have HXo := hide (HK.out _ hX)
    have HYo := hide (HK.out _ hY)
    have HST : Hid (∀ W : World, w.grownBy W (some blk) → Calls Tryz.prog 44 #[.agg #[.int .i64 (lo.getD k fv0).f.t, .int .i64 (lo.getD k fv0).f.p, (lo.getD k fv0).mv, (lo.getD k fv0).dv], .agg #[.int .i64 (lo.getD k' fv0).f.t, .int .i64 (lo.getD k' fv0).f.p, (lo.getD k' fv0).mv, (lo.getD k' fv0).dv], .pointer (some ⟨ob, 0, none⟩)] W fun e w' => e = .returned (.bool (plc (lo.getD k fv0).f (lo.getD k' fv0).f == 0)) ∧ Grw W w') := fun W hW => HC.out W _ _ hW hX hY
    have HNX : Hid (plc (lo.getD k fv0).f (lo.getD k' fv0).f ≠ 0 → ∀ j, 1 ≤ j → j < k + 1 → plc (lo.getD j fv0).f (lo.getD (j - 1) fv0).f ≠ 0) := fun h j h1 h2 => by
     by_cases e : j = k
     ·subst e; rw [hkm]; exact h
     ·exact HALL.out j h1 (by omega)
    have HDD : Hid (ddTo lo k = lo.take k) := ddTo_all lo k hk HALL.out
    have HD2 : Hid (plc (lo.getD k fv0).f (lo.getD k' fv0).f = 0 → ddTo lo (k + 1) = lo.take k) := fun h => by
     rw [ddTo, if_pos ⟨by omega, by rw [hkm]; exact h⟩]; exact HDD.out
    generalize plc (lo.getD k fv0).f (lo.getD k' fv0).f = R at *
    obtain ⟨⟨xa, xc, e1, _⟩, ⟨xb, xe, e2, _⟩⟩ := HXo.out.1
    obtain ⟨⟨ya, yc, e3, _⟩, ⟨yb, ye, e4, _⟩⟩ := HYo.out.1
    rw [e1] at a2 HST
    rw [e2] at a3 HST
    rw [e3] at b2 HST
    rw [e4] at b3 HST
    clear e1 e2 e3 e4 HXo HYo hX hY
    generalize (lo.getD k fv0).f.t = xt at *
    generalize (lo.getD k fv0).f.p = xp at *
    generalize (lo.getD k fv0).f.ms.length = xml at *
    generalize (lo.getD k fv0).f.ds.length = xdl at *
    generalize (lo.getD k' fv0).f.t = yt at *
    generalize (lo.getD k' fv0).f.p = yp at *
    generalize (lo.getD k' fv0).f.ms.length = yml at *
    generalize (lo.getD k' fv0).f.ds.length = ydl at *
    have hwr : IntKind.i64.wrap ((k : Int) - 1) = (k' : Int) := by rw [show (k : Int) - 1 = (k' : Int) by omega]; exact wrapB _ (by omega) (by omega)
    have q1 : (0 : Int) ≤ (k : Int) := by omega
    have q2 : (k : Int) < (lo.length : Int) := by omega
    have q3 : (0 : Int) ≤ (k' : Int) := by omega
    have q4 : (k' : Int) < (lo.length : Int) := by omega
    have HKK := hide hkk
    clear hkk hkm
    have hgd : w.grownBy wr.drew (some blk) := ⟨hgb.os, hgb.tape, hgb.output, hgb.size, hgb.block⟩
    go_wp2_with fail
    go_region_held3 (fun w' => w'.cell? ⟨blk, k * 4, none⟩ = some (.int .i64 xt) ∧ w'.cell? ⟨blk, k * 4 + 1, none⟩ = some (.int .i64 xp) ∧ w'.cell? ⟨blk, k * 4 + 2, none⟩ = some (.slice xa xml xc) ∧ w'.cell? ⟨blk, k * 4 + 3, none⟩ = some (.slice xb xdl xe) ∧ w'.cell? ⟨blk, k' * 4, none⟩ = some (.int .i64 yt) ∧ w'.cell? ⟨blk, k' * 4 + 1, none⟩ = some (.int .i64 yp) ∧ w'.cell? ⟨blk, k' * 4 + 2, none⟩ = some (.slice ya yml yc) ∧ w'.cell? ⟨blk, k' * 4 + 3, none⟩ = some (.slice yb ydl ye)) (go_keep)
     (first | (go_at_call 44; refine (unhide HST _ hgd).mono ?_; rintro e w1 ⟨rfl, hg1⟩; have hb1 := ((Grw.refl wr).drew.trans hg1).below; have z0 := cell_below a0 hb1 (Nat.le_refl _); have z1 := cell_below a1 hb1 (Nat.le_refl _); have z2 := cell_below a2 hb1 (Nat.le_refl _); have z3 := cell_below a3 hb1 (Nat.le_refl _); have z4 := cell_below b0 hb1 (Nat.le_refl _); have z5 := cell_below b1 hb1 (Nat.le_refl _); have z6 := cell_below b2 hb1 (Nat.le_refl _); have z7 := cell_below b3 hb1 (Nat.le_refl _)))
    have hgw : Grw w w1 := hgr.drew.trans hg1
    have hgw1 : w.grownBy w1 (some blk) := Below.grown1 hgw.below
    have HO1 := hide (own_below HO.out hgw.below)
    clear z0 z1 z2 z3 z4 z5 z6 z7 a0 a1 a2 a3 b0 b1 b2 b3 hb1 hg1 hgd HST
    by_cases hR : R = 0
    ·have HD3 := hide (HD2.out hR)
     subst hR
     rw [show ((0 : Int) == 0) = true from rfl]
     clear HNX HD2 HALL hgr hbel hgb HOr
     have hkc : (k : Int) ≤ (cap : Int) := by omega
     have hkle : (k : Int) ≤ (lo.length : Int) := by omega
     go_wp2_with fail
     generalize wr.heap.size = zz at *
     rename World => W0
     go_loopw [5, 7] (fun p j wq => ∃ (jj pp : Nat) (r : List Fv), p = .int .i64 pp ∧ j = .int .i64 jj ∧ 1 ≤ jj ∧ k + jj ≤ lo.length ∧ pp + 1 ≤ k + jj ∧ Hid (r.length = lo.length ∧ r.take pp = ddTo lo (k + jj) ∧ pp = (ddTo lo (k + jj)).length ∧ ∀ i, k + jj ≤ i + 1 → r.getD i fv0 = lo.getD i fv0) ∧ Hid (wq.ownsRow B 90 4 (.slice (some ⟨blk, 0, none⟩) r.length cap) r.length (C r)) ∧ Hid (w.grownBy wq (some blk))) (fun _ j _ => lo.length - k - (intOf j).toNat)
     case atStart => exact ⟨1, k, lo, rfl, rfl, by omega, by omega, by omega, hide ⟨rfl, HD3.out.symm, by rw [HD3.out]; simp; omega, fun i _ => rfl⟩, HO1, hide hgw1⟩
     case round =>
      clear HO1 hgw1 hgw
      obtain ⟨jj, pp, r, rfl, rfl, hj1, hjl, hpp, HI, HOq, HGq⟩ := hrel
      have hblkq := (own_at HOq.out).2
      by_cases hlt2 : k + jj < lo.length
      ·obtain ⟨jp, hjp⟩ : ∃ jp, jj = jp + 1 := ⟨jj - 1, by omega⟩
       obtain ⟨hrl, hrt, hrp, hrd⟩ := HI.out
       have hxl : k + jj < r.length := by omega
       have hyl : k + jp < r.length := by omega
       obtain ⟨a0, a1, a2, a3⟩ := row_cells HOq.out hxl
       obtain ⟨b0, b1, b2, b3⟩ := row_cells HOq.out hyl
       rw [hrd (k + jj) (by omega)] at a0 a1 a2 a3
       rw [hrd (k + jp) (by omega)] at b0 b1 b2 b3
       have ex : (k + jj) * 4 = k * 4 + jj * 4 := by omega
       have ey : (k + jp) * 4 = k * 4 + jp * 4 := by omega
       rw [ex] at a0 a1 a2 a3
       rw [ey] at b0 b1 b2 b3
       have hX := getD_mem hlt2
       have hY := getD_mem (show k + jp < lo.length by omega)
       have HXo := hide (HK.out _ hX)
       have HYo := hide (HK.out _ hY)
       have HST : Hid (∀ W : World, w.grownBy W (some blk) → Calls Tryz.prog 44 #[.agg #[.int .i64 (lo.getD (k + jj) fv0).f.t, .int .i64 (lo.getD (k + jj) fv0).f.p, (lo.getD (k + jj) fv0).mv, (lo.getD (k + jj) fv0).dv], .agg #[.int .i64 (lo.getD (k + jp) fv0).f.t, .int .i64 (lo.getD (k + jp) fv0).f.p, (lo.getD (k + jp) fv0).mv, (lo.getD (k + jp) fv0).dv], .pointer (some ⟨ob, 0, none⟩)] W fun e w' => e = .returned (.bool (plc (lo.getD (k + jj) fv0).f (lo.getD (k + jp) fv0).f == 0)) ∧ Grw W w') := fun W hW => HC.out W _ _ hW hX hY
       have HDN : Hid (ddTo lo (k + (jj + 1)) = if plc (lo.getD (k + jj) fv0).f (lo.getD (k + jp) fv0).f = 0 then ddTo lo (k + jj) else ddTo lo (k + jj) ++ [lo.getD (k + jj) fv0]) := by
        show _ = _
        have e : k + (jj + 1) = (k + jj) + 1 := by omega
        have e' : k + jj - 1 = k + jp := by omega
        rw [e, ddTo, e']
        by_cases hc : plc (lo.getD (k + jj) fv0).f (lo.getD (k + jp) fv0).f = 0
        ·rw [if_pos ⟨by omega, hc⟩, if_pos hc]
        ·rw [if_neg (fun h => hc h.2), if_neg hc]
       have HIR : Hid (r.length = lo.length ∧ r.take pp = ddTo lo (k + jj) ∧ pp = (ddTo lo (k + jj)).length ∧ ∀ i, k + jj ≤ i + 1 → r.getD i fv0 = lo.getD i fv0) := HI
       obtain ⟨x, hxd⟩ : ∃ x, x = lo.getD (k + jj) fv0 := ⟨_, rfl⟩
       rw [← hxd] at HST HDN a0 a1 a2 a3 HXo
       have HXD := hide hxd
       clear hxd hX hY hrt hrp hrd HI
       generalize plc x.f (lo.getD (k + jp) fv0).f = R at *
       obtain ⟨⟨xa', xc', e1, _⟩, ⟨xb', xe', e2, _⟩⟩ := HXo.out.1
       obtain ⟨⟨ya', yc', e3, _⟩, ⟨yb', ye', e4, _⟩⟩ := HYo.out.1
       rw [e1] at a2 HST
       rw [e2] at a3 HST
       rw [e3] at b2 HST
       rw [e4] at b3 HST
       have HE1 := hide e1
       have HE2 := hide e2
       clear e1 e2 e3 e4 HXo HYo
       generalize (lo.getD (k + jp) fv0).f.t = yt' at *
       generalize (lo.getD (k + jp) fv0).f.p = yp' at *
       generalize (lo.getD (k + jp) fv0).f.ms.length = yml' at *
       generalize (lo.getD (k + jp) fv0).f.ds.length = ydl' at *
       obtain ⟨xt', hxt⟩ : ∃ z, z = x.f.t := ⟨_, rfl⟩
       obtain ⟨xp', hxp⟩ : ∃ z, z = x.f.p := ⟨_, rfl⟩
       obtain ⟨xml', hxml⟩ : ∃ z, z = x.f.ms.length := ⟨_, rfl⟩
       obtain ⟨xdl', hxdl⟩ : ∃ z, z = x.f.ds.length := ⟨_, rfl⟩
       rw [← hxt] at a0 HST
       rw [← hxp] at a1 HST
       rw [← hxml] at a2 HST HE1
       rw [← hxdl] at a3 HST HE2
       have HX4 : Hid (xt' = x.f.t ∧ xp' = x.f.p) := ⟨hxt, hxp⟩
       clear hxt hxp hxml hxdl
       have hwj : IntKind.i64.wrap ((jj : Int) - 1) = (jp : Int) := by rw [show (jj : Int) - 1 = (jp : Int) by omega]; exact wrapB _ (by omega) (by omega)
       have p1 : (0 : Int) ≤ (jj : Int) := by omega
       have p2 : (jj : Int) < ((lo.length - k : Nat) : Int) := by omega
       have p3 : (0 : Int) ≤ (jp : Int) := by omega
       have p4 : (jp : Int) < ((lo.length - k : Nat) : Int) := by omega
       have HJP := hide hjp
       clear hjp ex ey
       have hgd : w.grownBy wr.drew (some blk) := ⟨HGq.out.os, HGq.out.tape, HGq.out.output, HGq.out.size, HGq.out.block⟩
       have HGD := hide hgd
       clear hgd
       go_wp2_with fail
       go_region_held3 (fun w' => w'.cell? ⟨blk, k * 4 + jj * 4, none⟩ = some (.int .i64 xt') ∧ w'.cell? ⟨blk, k * 4 + jj * 4 + 1, none⟩ = some (.int .i64 xp') ∧ w'.cell? ⟨blk, k * 4 + jj * 4 + 2, none⟩ = some (.slice xa' xml' xc') ∧ w'.cell? ⟨blk, k * 4 + jj * 4 + 3, none⟩ = some (.slice xb' xdl' xe') ∧ w'.cell? ⟨blk, k * 4 + jp * 4, none⟩ = some (.int .i64 yt') ∧ w'.cell? ⟨blk, k * 4 + jp * 4 + 1, none⟩ = some (.int .i64 yp') ∧ w'.cell? ⟨blk, k * 4 + jp * 4 + 2, none⟩ = some (.slice ya' yml' yc') ∧ w'.cell? ⟨blk, k * 4 + jp * 4 + 3, none⟩ = some (.slice yb' ydl' ye')) (go_keep)
        (first | (go_at_call 44; refine (unhide HST _ (unhide HGD)).mono ?_; rintro e w1 ⟨rfl, hg1⟩; have hb1 := ((Grw.refl wr).drew.trans hg1).below; have z0 := cell_below a0 hb1 (Nat.le_refl _); have z1 := cell_below a1 hb1 (Nat.le_refl _); have z2 := cell_below a2 hb1 (Nat.le_refl _); have z3 := cell_below a3 hb1 (Nat.le_refl _); have z4 := cell_below b0 hb1 (Nat.le_refl _); have z5 := cell_below b1 hb1 (Nat.le_refl _); have z6 := cell_below b2 hb1 (Nat.le_refl _); have z7 := cell_below b3 hb1 (Nat.le_refl _)))
       have HO1 := hide (own_below HOq.out hb1)
       have HG1 := hide (grown_trans HGq.out (Below.grown1 hb1))
       clear a0 a1 a2 a3 b0 b1 b2 b3 z4 z5 z6 z7 hg1 HST HOq HGq HGD
       by_cases hR : R = 0
       ·rw [if_pos hR] at HDN
        have HN : Hid (r.length = lo.length ∧ r.take pp = ddTo lo (k + (jj + 1)) ∧ pp = (ddTo lo (k + (jj + 1))).length ∧ ∀ i, k + (jj + 1) ≤ i + 1 → r.getD i fv0 = lo.getD i fv0) := by
         obtain ⟨n1, n2, n3, n4⟩ := HIR.out
         rw [HDN.out]
         exact hide ⟨n1, n2, n3, fun i hi => n4 i (by omega)⟩
        clear HDN HIR
        subst hR
        rw [show ((0 : Int) == 0) = true from rfl]
        go_wp2_with fail
        go_roundw
        case rel => exact ⟨jj + 1, pp, r, rfl, by go_num, by omega, by omega, by omega, HN, HO1, HG1⟩
        case measure => simp [intOf]; omega
       ·rw [if_neg hR] at HDN
        have hrb : (R == 0) = false := by simpa using hR
        have hppl : pp < r.length := by omega
        obtain ⟨c0, c1, c2, c3⟩ := row_cells HO1.out hppl
        have f0 := HO1.out.frozenAt (pp * 4)
        have f1 := HO1.out.frozenAt (pp * 4 + 1)
        have f2 := HO1.out.frozenAt (pp * 4 + 2)
        have f3 := HO1.out.frozenAt (pp * 4 + 3)
        have HO4 := hide (own_set4 HO1.out pp x hppl)
        rw [← HX4.out.1, ← HX4.out.2, HE1.out, HE2.out] at HO4
        have HG4 := hide (grown_set (j := pp * 4 + 3) (v := .slice xb' xdl' xe') (grown_set (j := pp * 4 + 2) (v := .slice xa' xml' xc') (grown_set (j := pp * 4 + 1) (v := .int .i64 xp') (grown_set (j := pp * 4) (v := .int .i64 xt') HG1.out))))
        have HN : Hid ((r.set pp x).length = lo.length ∧ (r.set pp x).take (pp + 1) = ddTo lo (k + (jj + 1)) ∧ pp + 1 = (ddTo lo (k + (jj + 1))).length ∧ ∀ i, k + (jj + 1) ≤ i + 1 → (r.set pp x).getD i fv0 = lo.getD i fv0) := by
         obtain ⟨n1, n2, n3, n4⟩ := HIR.out
         rw [HDN.out]
         refine hide ⟨by simpa using n1, ?_, by simp; omega, fun i hi => ?_⟩
         ·rw [← n2]
          rw [List.take_succ_eq_append_getElem (by simpa using hppl), List.take_set_of_le (Nat.le_refl _)]
          simp
         ·rw [← n4 i (by omega)]
          simp [List.getD, show ¬ pp = i by omega]
        generalize (r.getD pp fv0).f.t = ct at *
        generalize (r.getD pp fv0).f.p = cp at *
        generalize (r.getD pp fv0).mv = cmv at *
        generalize (r.getD pp fv0).dv = cdv at *
        have t1 : (0 : Int) ≤ (pp : Int) := by omega
        have t2 : (pp : Int) < (lo.length : Int) := by omega
        clear HDN HIR HE1 HE2 HX4 HO1 HG1
        rw [hrb]
        clear hrb hR
        go_wp2_with fail
        go_roundw
        case rel => exact ⟨jj + 1, pp + 1, r.set pp x, by go_num, by go_num, by omega, by omega, by omega, HN, HO4, HG4⟩
        case measure => simp [intOf]; omega
      ·obtain ⟨hrl, hrt, hrp, hrd⟩ := HI.out
       have hend : k + jj = lo.length := by omega
       rw [hend] at hrt hrp
       have HPP := hide hrp
       have HOP : Hid (wr.ownsRow B 90 4 (.slice (some ⟨blk, 0, none⟩) pp cap) pp (C (ddTo lo lo.length))) := by
        have := own_prefix HOq.out (show pp ≤ r.length by omega)
        rw [C_take, hrt] at this
        exact hide this
       have hpl : pp < lo.length := by omega
       obtain ⟨vs, hclr⟩ : ∃ vs, ∀ ty, (Builtin.clear_ #[31] ty #[.slice (some ⟨blk, pp * 4, none⟩) (lo.length - pp) (cap - pp)]).run Tryz.prog wr = .ok (.tuple #[]) (wr.setCells blk (pp * 4) vs) :=
        clear_flows wr blk (pp * 4) (lo.length - pp) (cap - pp) (by omega) (fun j hj => by rw [HOq.out.cellAt (pp * 4 + j) (by omega), List.getElem?_eq_getElem (by rw [C_len]; omega)]; rfl) (fun j hj => HOq.out.frozenAt _)
       have s1 : ((lo.length - k : Nat) : Int) ≤ (jj : Int) := by omega
       have s2 : (0 : Int) ≤ (pp : Int) := by omega
       have s3 : (pp : Int) ≤ (lo.length : Int) := by omega
       have s4 : (pp : Int) ≤ (cap : Int) := by omega
       have HOE := hide (own_setCells vs (pp * 4) wr HOP.out (Nat.le_refl _))
       have HGE := hide (grown_setCells vs (pp * 4) wr HGq.out)
       clear hrl hrt hrp hrd hend HOP HOq HGq HI hlt2 hj1 hjl hpp
       go_wp2_with (simp only [hclr])
       go_ret
       refine ⟨?_, ?_, HGE.out⟩
       ·rw [← HPP.out]; rfl
       ·rw [← HPP.out]; exact HOE.out
    ·have HN := hide (HNX.out hR)
     clear HNX HD2
     go_wp2_with fail
     go_roundw
     case rel => exact ⟨k + 1, by omega, by omega, by go_num, HN, hgw⟩
     case measure => simp [intOf]; omega
   ·have hkl : k = lo.length := by omega
    have HDD : Hid (ddTo lo lo.length = lo) := by
     show _ = _
     rw [ddTo_all lo lo.length (Nat.le_refl _) (fun j a b => HALL.out j a (by omega)), List.take_length]
    have hge : ((lo.length : Int)) ≤ (k : Int) := by omega
    clear HALL hkl
    go_wp2_with fail
    go_ret
    refine ⟨?_, ?_, hgb⟩
    ·rw [HDD.out]; rfl
    ·rw [HDD.out]; exact HOr.out
end Go.Proofs.YtncdininppehkaaGreat

namespace Go.Proofs.YtncdininppehkaaGreat
open Go.RowKit
set_option linter.unusedVariables false
set_option maxRecDepth 100000
theorem infoMt : (Tryz.prog.info? 95).map (fun i => (i.zero, i.size, i.bytes)) = some (some (.agg #[.int .i64 0, .int .i64 0, .int .i64 0]), 3, 24) := by kernel_rfl
theorem infoDo : (Tryz.prog.info? 98).map (fun i => (i.zero, i.size, i.bytes)) = some (some (.agg #[.int .i64 0, .int .i64 0, .int .i64 0]), 3, 24) := by kernel_rfl
theorem D_len (l : List Do) : (D l).length = 3 * l.length := by
 induction l with
 | nil => rfl
 | cons x r ih => simp [D] at ih ⊢; omega
theorem addf2 (b o j : Nat) : (⟨b, o, none⟩ : Addr).add j = ⟨b, o + j, none⟩ := by by_cases h : j = 0 <;> simp [Addr.add, h]
set_option maxHeartbeats 1000000 in
theorem freshMs_any (v : Value) (ms : List Mt) (w : World) (hM : MsAt w v ms) (hl : ms.length ≤ 2000000) :
  Calls Tryz.prog 45 #[v] w fun e w' => ∃ u, e = .returned u ∧ MsAt w' u ms ∧ (∀ k, u.ownBlock = some k → w.heap.size ≤ k) ∧ Below w.heap.size w w' := by
 obtain ⟨i0, hi, hz0, hz1, hz2⟩ := info_parts infoMt
 have HM := hide hM
 obtain ⟨a, cap, rfl, hn, hL⟩ := hM
 cases a with
 | none =>
  obtain rfl := hn rfl
  have h0 : ms.length = 0 := by
   rcases hL with h | ⟨_, _, h, _⟩
   ·exact h
   ·simp at h
  rw [h0]
  refine (freshMsNil_any w).mono ?_
  rintro e w' ⟨rfl, rfl⟩
  exact ⟨_, rfl, ⟨none, 0, by rw [h0], fun _ => rfl, .inl h0⟩, fun k hk => by simp [Value.ownBlock] at hk, Below.refl _ _⟩
 | some ad =>
  have hnews : ∀ j u, (M ms)[j]? = some u → w.cell? (ad.add j) = some u := by
   rcases hL with h | ⟨b, off, h4, _, h5⟩
   ·intro j u hj
    rw [List.eq_nil_of_length_eq_zero h] at hj
    simp [M] at hj
   ·cases h4
    intro j u hj
    have hjl : j < 3 * ms.length := by
     rcases Nat.lt_or_ge j (3 * ms.length) with h | h
     ·exact h
     ·rw [List.getElem?_eq_none (by rw [M_length]; exact h)] at hj; simp at hj
    obtain ⟨c0, c1, c2⟩ := M_at ms (j / 3) (by omega)
    obtain ⟨d0, d1, d2⟩ := h5 (j / 3) (by omega)
    rw [addf2]
    have hm : j % 3 = 0 ∨ j % 3 = 1 ∨ j % 3 = 2 := by omega
    rcases hm with e | e | e
    ·have ej : j = j / 3 * 3 := by omega
     rw [← ej] at c0 d0; rw [c0] at hj; rw [d0]; exact hj
    ·have ej : j = j / 3 * 3 + 1 := by omega
     rw [← ej] at c1; rw [c1] at hj; rw [show off + j = off + j / 3 * 3 + 1 by omega, d1]; exact hj
    ·have ej : j = j / 3 * 3 + 2 := by omega
     rw [← ej] at c2; rw [c2] at hj; rw [show off + j = off + j / 3 * 3 + 2 by omega, d2]; exact hj
  have hone : ∀ u ∈ M ms, u.oneCell' = true := by
   intro u hu
   simp only [M, List.mem_flatMap] at hu
   obtain ⟨x, _, hu⟩ := hu
   simp only [List.mem_cons, List.not_mem_nil, or_false] at hu
   rcases hu with rfl | rfl | rfl <;> rfl
  have HN := hide hnews
  have H1 := hide hone
  clear hnews hone hL hn
  go_enter Tryz.func45, Tryz.ntmps45
  go_wp2_with (at_builtin; refine wpList_append_own _ rfl _ _ 87 rfl w.heap.size 95 i0 _ 3 24 Tryz.underlying87 hi hz0 hz1 hz2 rfl (by decide) _ _ _ rfl (World.ownsRow_nil w w.heap.size 95 3) ad ms.length cap (M ms) rfl ?a0 HN.out H1.out ?a1 ?a2 ?a3 ?_)
  case a0 => rw [M_length]; omega
  case a1 => unfold maxLen; omega
  case a2 => omega
  case a3 => exact Nat.le_refl _
  intro v1 w1 ho1 hg1 _
  have hb1 : Below w.heap.size w w1 := (Below.refl _ w).grown hg1 (by simp) (own_ge (World.ownsRow_nil w w.heap.size 95 3))
  have ho1' : w1.ownsRow w.heap.size 95 3 v1 ms.length (M ms) := by simpa using ho1
  have HMA := hide (MsAt.of_own ho1')
  have HGE := hide (own_ge ho1')
  clear ho1 hg1 ho1'
  go_wp2
  go_ret
  exact ⟨v1, rfl, HMA.out, HGE.out, hb1⟩
set_option maxHeartbeats 1000000 in
theorem freshDs_any (v : Value) (ms : List Do) (w : World) (hM : DsAt w v ms) (hl : ms.length ≤ 2000000) :
  Calls Tryz.prog 46 #[v] w fun e w' => ∃ u, e = .returned u ∧ DsAt w' u ms ∧ (∀ k, u.ownBlock = some k → w.heap.size ≤ k) ∧ Below w.heap.size w w' := by
 obtain ⟨i0, hi, hz0, hz1, hz2⟩ := info_parts infoDo
 have HM := hide hM
 obtain ⟨a, cap, rfl, hn, hL⟩ := hM
 cases a with
 | none =>
  obtain rfl := hn rfl
  have h0 : ms.length = 0 := by
   rcases hL with h | ⟨_, _, h, _⟩
   ·exact h
   ·simp at h
  rw [h0]
  refine (freshDsNil_any w).mono ?_
  rintro e w' ⟨rfl, rfl⟩
  exact ⟨_, rfl, ⟨none, 0, by rw [h0], fun _ => rfl, .inl h0⟩, fun k hk => by simp [Value.ownBlock] at hk, Below.refl _ _⟩
 | some ad =>
  have hnews : ∀ j u, (D ms)[j]? = some u → w.cell? (ad.add j) = some u := by
   rcases hL with h | ⟨b, off, h4, _, h5⟩
   ·intro j u hj
    rw [List.eq_nil_of_length_eq_zero h] at hj
    simp [D] at hj
   ·cases h4
    intro j u hj
    have hjl : j < 3 * ms.length := by
     rcases Nat.lt_or_ge j (3 * ms.length) with h | h
     ·exact h
     ·rw [List.getElem?_eq_none (by rw [D_len]; exact h)] at hj; simp at hj
    obtain ⟨c0, c1, c2⟩ := D_at ms (j / 3) (by omega)
    obtain ⟨d0, d1, d2⟩ := h5 (j / 3) (by omega)
    rw [addf2]
    have hm : j % 3 = 0 ∨ j % 3 = 1 ∨ j % 3 = 2 := by omega
    rcases hm with e | e | e
    ·have ej : j = j / 3 * 3 := by omega
     rw [← ej] at c0 d0; rw [c0] at hj; rw [d0]; exact hj
    ·have ej : j = j / 3 * 3 + 1 := by omega
     rw [← ej] at c1; rw [c1] at hj; rw [show off + j = off + j / 3 * 3 + 1 by omega, d1]; exact hj
    ·have ej : j = j / 3 * 3 + 2 := by omega
     rw [← ej] at c2; rw [c2] at hj; rw [show off + j = off + j / 3 * 3 + 2 by omega, d2]; exact hj
  have hone : ∀ u ∈ D ms, u.oneCell' = true := by
   intro u hu
   simp only [D, List.mem_flatMap] at hu
   obtain ⟨x, _, hu⟩ := hu
   simp only [List.mem_cons, List.not_mem_nil, or_false] at hu
   rcases hu with rfl | rfl | rfl <;> rfl
  have HN := hide hnews
  have H1 := hide hone
  clear hnews hone hL hn
  go_enter Tryz.func46, Tryz.ntmps46
  go_wp2_with (at_builtin; refine wpList_append_own _ rfl _ _ 88 rfl w.heap.size 98 i0 _ 3 24 Tryz.underlying88 hi hz0 hz1 hz2 rfl (by decide) _ _ _ rfl (World.ownsRow_nil w w.heap.size 98 3) ad ms.length cap (D ms) rfl ?a0 HN.out H1.out ?a1 ?a2 ?a3 ?_)
  case a0 => rw [D_len]; omega
  case a1 => unfold maxLen; omega
  case a2 => omega
  case a3 => exact Nat.le_refl _
  intro v1 w1 ho1 hg1 _
  have hb1 : Below w.heap.size w w1 := (Below.refl _ w).grown hg1 (by simp) (own_ge (World.ownsRow_nil w w.heap.size 98 3))
  have ho1' : w1.ownsRow w.heap.size 98 3 v1 ms.length (D ms) := by simpa using ho1
  have HMA := hide (DsAt.of_own ho1')
  have HGE := hide (own_ge ho1')
  clear ho1 hg1 ho1'
  go_wp2
  go_ret
  exact ⟨v1, rfl, HMA.out, HGE.out, hb1⟩
theorem C_set2 : ∀ (l : List Fv) (i : Nat) (v : Value), i < l.length → (C l).set (i * 4 + 2) v = C (l.set i ⟨(l.getD i fv0).f, v, (l.getD i fv0).dv⟩)
 | [], i, _, h => by simp at h
 | y :: r, 0, v, _ => by simp [C]
 | y :: r, i + 1, v, h => by
  have ih := C_set2 r i v (by simpa using h)
  have e : (i + 1) * 4 + 2 = (i * 4 + 2) + 4 := by omega
  simp only [C, List.flatMap_cons, List.set_cons_succ, List.getD_cons_succ] at ih ⊢
  rw [e]
  simp only [List.cons_append, List.nil_append, List.set_cons_succ]
  rw [ih]
theorem C_set3 : ∀ (l : List Fv) (i : Nat) (v : Value), i < l.length → (C l).set (i * 4 + 3) v = C (l.set i ⟨(l.getD i fv0).f, (l.getD i fv0).mv, v⟩)
 | [], i, _, h => by simp at h
 | y :: r, 0, v, _ => by simp [C]
 | y :: r, i + 1, v, h => by
  have ih := C_set3 r i v (by simpa using h)
  have e : (i + 1) * 4 + 3 = (i * 4 + 3) + 4 := by omega
  simp only [C, List.flatMap_cons, List.set_cons_succ, List.getD_cons_succ] at ih ⊢
  rw [e]
  simp only [List.cons_append, List.nil_append, List.set_cons_succ]
  rw [ih]
end Go.Proofs.YtncdininppehkaaGreat

namespace Go.Proofs.YtncdininppehkaaGreat
open Go.RowKit
set_option linter.unusedVariables false
set_option maxRecDepth 100000
theorem map_set_f (l : List Fv) (i : Nat) (x : Fv) (h : i < l.length) (hx : x.f = (l.getD i fv0).f) : (l.set i x).map Fv.f = l.map Fv.f := by
 refine List.ext_getElem? fun j => ?_
 simp only [List.getElem?_map, List.getElem?_set]
 by_cases e : i = j
 ·subst e
  simp only [h, if_true, Option.map_some]
  rw [List.getElem?_eq_getElem h, Option.map_some, hx]
  simp [List.getD, List.getElem?_eq_getElem h]
 ·simp [e]
theorem mem_set_or {l : List Fv} {i : Nat} {x y : Fv} (h : y ∈ l.set i x) : y = x ∨ y ∈ l := by
 rcases List.mem_or_eq_of_mem_set h with h | h
 ·exact .inr h
 ·exact .inl h
theorem FoOk.grown {w w' : World} {blk : Nat} {x : Fv} (h : FoOk w blk x) (hb : Below w.heap.size w w') : FoOk w' blk x := ⟨h.1.below hb (Nat.le_refl _), h.2⟩
theorem FoOk.setBlk {w : World} {blk j : Nat} {v : Value} {x : Fv} (h : FoOk w blk x) : FoOk (w.setCell ⟨blk, j, none⟩ v) blk x := h.kept2 (grown_set (grown_refl w _))
theorem row_fsAt {w : World} {B blk cap : Nat} {l : List Fv} (h : w.ownsRow B 90 4 (.slice (some ⟨blk, 0, none⟩) l.length cap) l.length (C l)) (hok : ∀ x ∈ l, Held w x) : FsAt w (.slice (some ⟨blk, 0, none⟩) l.length cap) (l.map Fv.f) := by
 have hc : l.length ≤ cap := by
  obtain ⟨_, ⟨h, _⟩ | ⟨g', cap', cur, hv, _, _, hnc, _⟩⟩ := h
  ·simp at h
  ·simp only [Value.slice.injEq] at hv; omega
 refine ⟨_, cap, by simp, by simp, .inr ⟨blk, 0, rfl, by simpa using hc, fun i hi => ?_⟩⟩
 have hi' : i < l.length := by simpa using hi
 obtain ⟨c0, c1, c2, c3⟩ := row_cells h hi'
 have e : (l.map Fv.f).getD i fl0 = (l.getD i fv0).f := by simp [List.getD, List.getElem?_eq_getElem hi']
 rw [e, Nat.zero_add]
 have hh := hok _ (getD_mem hi')
 exact ⟨c0, c1, _, _, c2, c3, hh.1, hh.2⟩
set_option maxHeartbeats 1000000 in
theorem compactNone_any (p : Option Addr) (cap : Nat) (fv : Value) (w : World) : Calls Tryz.prog 42 #[.slice p 0 cap, fv] w fun e w' => e = .returned (.slice p 0 cap) ∧ w' = w := by
 go_enter Tryz.func42, Tryz.ntmps42
 go_wp2_with fail
 go_ret
 exact ⟨rfl, rfl⟩
def Nw (B : Nat) (x : Fv) : Prop := (∀ g, x.mv.ownBlock = some g → B ≤ g) ∧ ∀ g, x.dv.ownBlock = some g → B ≤ g
def FsOwn (w : World) (B : Nat) (u : Value) (fs : List Fl) : Prop := FsAt w u fs ∧ (fs.length = 0 ∨ ∃ (blk cap : Nat) (lo : List Fv), u = .slice (some ⟨blk, 0, none⟩) lo.length cap ∧ lo.map Fv.f = fs ∧ w.ownsRow B 90 4 u lo.length (C lo) ∧ ∀ x ∈ lo, Held w x ∧ Nw B x)
theorem set_nw {B k : Nat} {r : List Fv} {y : Fv} (h : ∀ j, j < k → Nw B (r.getD j fv0)) : ∀ j, j < k → Nw B ((r.set k y).getD j fv0) := fun j hj => by
 have := h j hj
 simpa [List.getD, List.getElem?_set, show k ≠ j by omega] using this
set_option maxHeartbeats 8000000 in
theorem sort_own (v : Value) (fs : List Fl) (w : World) (hF : FsAt w v fs) (hl : fs.length ≤ 2000000) (hs : ∀ f ∈ fs, f.ms.length ≤ 2000000 ∧ f.ds.length ≤ 2000000) :
  Calls Tryz.prog 16 #[v] w fun e w' => ∃ u, e = .returned u ∧ FsOwn w' w.heap.size u (srt fs fs.length) ∧ Below w.heap.size w w' := by
 have HF := hide hF
 have HS := hide hs
 obtain ⟨a, cap, rfl, _, _⟩ := hF
 clear hs
 go_enter Tryz.func16, Tryz.ntmps16
 go_wp2_with fail
 refine (fPlaces_any _).mono ?_
 rintro e w1 ⟨rfl, hw1⟩
 have hb1 : Below w.heap.size w w1 := by rw [hw1]; exact ((Below.refl _ _).alloc (Nat.le_refl _) _).alloc (by simp) _
 have HO1 : Hid (OrdAt w1 (w.heap.size + 1)) := by
  rw [hw1]
  have e : w.heap.size + 1 = (w.alloc sixO).heap.size := by simp
  refine hide ⟨w.heap.size, ?_, ?_⟩
  ·rw [e]; simp
  ·simp
 have hs1 := hb1.size
 clear hw1
 obtain ⟨G, hG⟩ : ∃ G, G = w.heap.size + 1 := ⟨_, rfl⟩
 rw [← hG] at HO1 ⊢
 clear hG
 go_wp2_with fail
 obtain ⟨w2, hw2⟩ : ∃ w2, w2 = w1.alloc (.cells #[.func (.func 132) #[] #[.pointer (some ⟨G, 0, none⟩)]] 100) := ⟨_, rfl⟩
 have hb12 : Below w1.heap.size w1 w2 := by rw [hw2]; exact (Below.refl _ _).alloc (Nat.le_refl _) _
 have hb2 : Below w.heap.size w w2 := hb1.trans (hb12.mono hs1)
 have HE2 : Hid (EqAt w2 w1.heap.size G) := by
  refine hide ⟨by rw [hw2]; simp, HO1.out.below hb12⟩
 rw [← hw2]
 clear hw2 hb12 HO1
 obtain ⟨OB, hOB⟩ : ∃ OB, OB = w1.heap.size := ⟨_, rfl⟩
 rw [← hOB] at HE2 ⊢
 clear hOB
 refine (ordered_any _ fs w2 (HF.out.below hb2 (Nat.le_refl _)) hl HS.out).mono ?_
 rintro e w3 ⟨u, rfl, lo, hp, hsrt, hh, ho3, hb3⟩
 have hb03 := hb2.trans (hb3.mono hb2.size)
 have HSR : Hid ((ddTo lo lo.length).map Fv.f = srt fs fs.length) := by
  obtain ⟨q1, q2, _⟩ := ddTo_srt lo hsrt lo.length (Nat.le_refl _)
  exact srt_is q1 (fun x => by rw [q2, List.take_length]; exact hp.mem_iff)
 have HLL : Hid (lo.length ≤ 2000000) := by
  have := hp.length_eq
  simp only [List.length_map] at this
  exact hide (by omega)
 have HBD : Hid (∀ x ∈ lo, x.f.ms.length ≤ 2000000 ∧ x.f.ds.length ≤ 2000000) := fun x hx => HS.out x.f (hp.mem_iff.1 (List.mem_map_of_mem hx))
 have HH := hide hh
 clear hh hp hsrt
 by_cases h0 : lo.length = 0
 ·obtain ⟨ua, uc, rfl, hua⟩ : ∃ a c, u = .slice a 0 c ∧ (a = none → c = 0) := by
   obtain ⟨_, ⟨rfl, _⟩ | ⟨g, cap, cur, rfl, _⟩⟩ := ho3
   ·exact ⟨_, _, rfl, fun _ => rfl⟩
   ·exact ⟨_, _, by rw [h0], by simp⟩
  obtain rfl := List.eq_nil_of_length_eq_zero h0
  have HSN : Hid (srt fs fs.length = []) := by show _ = _; rw [← HSR.out]; rfl
  clear ho3 HH HBD HSR HLL
  go_wp2_with fail
  refine (compactNone_any _ _ _ _).mono ?_
  rintro e w4 ⟨rfl, rfl⟩
  go_wp2_with fail
  refine wp_loop_rounds 1 ?_
  rw [rounds_succ]
  go_wp2_with fail
  go_ret
  exact ⟨_, rfl, by rw [HSN.out]; exact ⟨⟨ua, uc, rfl, hua, .inl rfl⟩, .inl rfl⟩, hb03⟩
 ·obtain ⟨blk, uc, rfl, _⟩ := ho3.form (by omega)
  have HO3 := hide ho3
  obtain ⟨hblk0, hblk1⟩ := own_at ho3
  clear ho3
  have HE3 : Hid (EqAt2 w3 OB G blk) := by
   obtain ⟨e1, q, o0, o1, o2, o3, o4, o5, o6⟩ := HE2.out
   have l1 := cell_lt e1
   have l2 := cell_lt o0
   have l3 := cell_lt o1
   exact hide ⟨by omega, cell_below e1 hb3 (Nat.le_refl _), by omega, q, by omega, cell_below o0 hb3 (Nat.le_refl _), cell_below o1 hb3 (Nat.le_refl _), cell_below o2 hb3 (Nat.le_refl _), cell_below o3 hb3 (Nat.le_refl _), cell_below o4 hb3 (Nat.le_refl _), cell_below o5 hb3 (Nat.le_refl _), cell_below o6 hb3 (Nat.le_refl _)⟩
  have HFO : Hid (∀ x ∈ lo, FoOk w3 blk x) := fun x hx => by
   obtain ⟨q1, q2⟩ := (HH.out x hx).away hblk0
   exact ⟨(HH.out x hx).below hb3 (Nat.le_refl _), q1, q2, (HBD.out x hx).1, (HBD.out x hx).2⟩
  go_wp2_with fail
  refine (compact_any lo w2.heap.size blk uc OB G w3 HO3.out HE3.out HFO.out (by omega) HLL.out).mono ?_
  rintro e w4 ⟨rfl, ho4, hg4⟩
  have HO4 := hide ho4
  have hb04 : Below w.heap.size w w4 := hb03.grown hg4 hb03.size (fun k hk => by cases hk; exact Nat.le_trans hb2.size hblk0)
  have HF4 : Hid (∀ x ∈ ddTo lo lo.length, FoOk w4 blk x) := fun x hx => (HFO.out x (by have := ddTo_mem lo lo.length (Nat.le_refl _) x hx; rwa [List.take_length] at this)).kept2 hg4
  have HML : Hid ((ddTo lo lo.length).length ≤ 2000000) := hide (Nat.le_trans (ddTo_le lo lo.length) HLL.out)
  have hblkw : w.heap.size ≤ blk := Nat.le_trans hb2.size hblk0
  clear ho4 hg4 HFO HE3 HO3 HH HBD HLL hb03
  generalize ddTo lo lo.length = l2 at *
  go_wp2_with fail
  go_loopw [14] (fun i wr => ∃ (k : Nat) (r : List Fv), k ≤ l2.length ∧ i = .int .i64 k ∧ Hid (r.map Fv.f = l2.map Fv.f) ∧ Hid (∀ x ∈ r, FoOk wr blk x) ∧ Hid (wr.ownsRow w2.heap.size 90 4 (.slice (some ⟨blk, 0, none⟩) r.length uc) r.length (C r)) ∧ Below w.heap.size w wr ∧ Hid (∀ j, j < k → Nw w.heap.size (r.getD j fv0))) (fun i _ => l2.length - (intOf i).toNat)
  case atStart => exact ⟨0, l2, by omega, rfl, hide rfl, HF4, HO4, hb04, hide fun j hj => absurd hj (by omega)⟩
  case round =>
   clear HO4 HF4 hb04
   obtain ⟨k, r, hk, rfl, HRM, HFr, HOr, hbel, HNW⟩ := hrel
   have hrl : r.length = l2.length := by
    have := congrArg List.length HRM.out
    simpa using this
   have hblkr := (own_at HOr.out).2
   have hml := HML.out
   by_cases hlt : k < l2.length
   ·have hkr : k < r.length := by omega
    obtain ⟨c0, c1, c2, c3⟩ := row_cells HOr.out hkr
    have z2 := HOr.out.frozenAt (k * 4 + 2)
    have z3 := HOr.out.frozenAt (k * 4 + 3)
    obtain ⟨x, hx⟩ : ∃ x, x = r.getD k fv0 := ⟨_, rfl⟩
    have HX := hide hx
    rw [← hx] at c0 c1 c2 c3
    have HXK : Hid (FoOk wr blk x) := by rw [hx]; exact hide (HFr.out _ (getD_mem hkr))
    clear hx
    obtain ⟨⟨xa, xc, e1, _⟩, ⟨xb, xe, e2, _⟩⟩ := HXK.out.1
    have HE1 := hide e1
    have HE2' := hide e2
    rw [e1] at c2
    rw [e2] at c3
    clear e1 e2
    obtain ⟨xml, hxml⟩ : ∃ z, z = x.f.ms.length := ⟨_, rfl⟩
    obtain ⟨xdl, hxdl⟩ : ∃ z, z = x.f.ds.length := ⟨_, rfl⟩
    rw [← hxml] at c2 HE1
    rw [← hxdl] at c3 HE2'
    have HL1 := hide hxml
    have HL2 := hide hxdl
    clear hxml hxdl
    generalize x.f.t = xt at *
    generalize x.f.p = xp at *
    obtain ⟨W1, hW1⟩ : ∃ W1, W1 = wr.alloc (.cells #[.int .i64 xt, .int .i64 xp, .slice xa xml xc, .slice xb xdl xe] 90) := ⟨_, rfl⟩
    have hbW : Below wr.heap.size wr W1 := by rw [hW1]; exact (Below.refl _ _).alloc (Nat.le_refl _) _
    have d3 : W1.cell? ⟨wr.heap.size, 3, none⟩ = some (.slice xb xdl xe) := by rw [hW1]; simp
    have HWE : Hid (wr.alloc (.cells #[.int .i64 xt, .int .i64 xp, .slice xa xml xc, .slice xb xdl xe] 90) = W1) := hW1.symm
    clear hW1
    have HCM : Hid (Calls Tryz.prog 45 #[.slice xa xml xc] W1 fun e w' => ∃ u, e = .returned u ∧ MsAt w' u x.f.ms ∧ (∀ k, u.ownBlock = some k → W1.heap.size ≤ k) ∧ Below W1.heap.size W1 w') := by
     have := freshMs_any x.mv x.f.ms W1 (HXK.out.1.1.below hbW (Nat.le_refl _)) HXK.out.2.2.2.1
     rw [HE1.out] at this
     exact hide this
    go_wp2_with fail
    rw [HWE.out]
    refine (unhide HCM).mono ?_
    rintro e w5 ⟨um, rfl, hms, hge, hb5⟩
    have hr5 : Below wr.heap.size wr w5 := hbW.trans (hb5.mono hbW.size)
    have hszW := hbW.size
    have hsz5 := hb5.size
    have HNM : Hid (∀ g, um.ownBlock = some g → w.heap.size ≤ g) := hide fun g h => Nat.le_trans (Nat.le_trans hbel.size hszW) (hge g h)
    have hneM : um.ownBlock ≠ some blk := fun h => by have := hge blk h; omega
    have HMS := hide hms
    obtain ⟨ma, mc, e3, _⟩ := hms
    have HUM := hide e3
    have g2 := cell_below c2 hr5 (Nat.le_refl _)
    have g3 := cell_below c3 hr5 (Nat.le_refl _)
    have y2 : w5.frozen? ⟨blk, k * 4 + 2, none⟩ = false := (hr5.frozen (p := ⟨blk, k * 4 + 2, none⟩) hblkr).trans z2
    have y3 : w5.frozen? ⟨blk, k * 4 + 3, none⟩ = false := (hr5.frozen (p := ⟨blk, k * 4 + 3, none⟩) hblkr).trans z3
    have g3' := cell_below d3 hb5 (Nat.le_refl _)
    -- the row behind the first store
    have hW6g : w5.grownBy (w5.setCell ⟨blk, k * 4 + 2, none⟩ um) (some blk) := grown_set (grown_refl w5 _)
    have HO6 : Hid ((w5.setCell ⟨blk, k * 4 + 2, none⟩ um).ownsRow w2.heap.size 90 4 (.slice (some ⟨blk, 0, none⟩) (r.set k ⟨x.f, um, x.dv⟩).length uc) (r.set k ⟨x.f, um, x.dv⟩).length (C (r.set k ⟨x.f, um, x.dv⟩))) := by
     have h := own_set (own_below HOr.out hr5) (k * 4 + 2) um
     rw [C_set2 r k um hkr, ← HX.out] at h
     refine hide ?_
     simpa using h
    have HF6 : Hid (∀ y ∈ r.set k ⟨x.f, um, x.dv⟩, FoOk (w5.setCell ⟨blk, k * 4 + 2, none⟩ um) blk y) := fun y hy => by
     rcases mem_set_or hy with rfl | hy
     ·have hx5 := (HXK.out.grown hr5).kept2 hW6g
      exact ⟨⟨HMS.out.kept0 hW6g (.inr hneM), hx5.1.2⟩, .inr hneM, hx5.2.2.1, hx5.2.2.2⟩
     ·exact ((HFr.out y hy).grown hr5).kept2 hW6g
    have hb06 : Below w.heap.size w (w5.setCell ⟨blk, k * 4 + 2, none⟩ um) := (hbel.trans (hr5.mono hbel.size)).setCell (p := ⟨blk, k * 4 + 2, none⟩) hblkw _
    have HRM6 : Hid ((r.set k ⟨x.f, um, x.dv⟩).map Fv.f = l2.map Fv.f) := by
     refine hide ?_
     rw [map_set_f r k _ hkr (by rw [← HX.out]), HRM.out]
    have hne36 : blk ≠ wr.heap.size := by omega
    have i3 : (w5.setCell ⟨blk, k * 4 + 2, none⟩ um).cell? ⟨wr.heap.size, 3, none⟩ = some (.slice xb xdl xe) := by
     rw [World.cell?_setCell_other _ _ _ _ (by simp)]; exact g3'
    have j3 : (w5.setCell ⟨blk, k * 4 + 2, none⟩ um).cell? ⟨blk, k * 4 + 3, none⟩ = some (.slice xb xdl xe) := by
     rw [World.cell?_setCell_other _ _ _ _ (by simp)]; exact g3
    have j3f : (w5.setCell ⟨blk, k * 4 + 2, none⟩ um).frozen? ⟨blk, k * 4 + 3, none⟩ = false := by rw [World.frozen?_setCell]; exact y3
    have HCD : Hid (Calls Tryz.prog 46 #[.slice xb xdl xe] (w5.setCell ⟨blk, k * 4 + 2, none⟩ um) fun e w' => ∃ u, e = .returned u ∧ DsAt w' u x.f.ds ∧ (∀ k', u.ownBlock = some k' → (w5.setCell ⟨blk, k * 4 + 2, none⟩ um).heap.size ≤ k') ∧ Below (w5.setCell ⟨blk, k * 4 + 2, none⟩ um).heap.size (w5.setCell ⟨blk, k * 4 + 2, none⟩ um) w') := by
     have hx5 := (HXK.out.grown hr5).kept2 hW6g
     have := freshDs_any x.dv x.f.ds _ hx5.1.2 HXK.out.2.2.2.2
     rw [HE2'.out] at this
     exact hide this
    have hs6 : (w5.setCell ⟨blk, k * 4 + 2, none⟩ um).heap.size = w5.heap.size := by simp
    have HXb := hide (HXK.out.2)
    clear HRM HFr HOr hbel c0 c1 c2 c3 z2 z3 d3 g3 g3' y3 hge hb5 hbW hr5 HMS HXK HCM HE1 hW6g
    clear HUM
    subst e3
    have HJ3 := hide j3
    have HJ3F := hide j3f
    go_wp2_with fail
    clear j3 j3f i3 g2 y2
    generalize w5.setCell ⟨blk, k * 4 + 2, none⟩ (.slice ma x.f.ms.length mc) = w6 at *
    have hblk6 : blk < w6.heap.size := by omega
    obtain ⟨r1, hr1⟩ : ∃ r1, r1 = r.set k ⟨x.f, .slice ma x.f.ms.length mc, x.dv⟩ := ⟨_, rfl⟩
    have hr1l : r1.length = l2.length := by rw [hr1]; simpa using hrl
    have HR1 : Hid (r1.getD k fv0 = ⟨x.f, .slice ma x.f.ms.length mc, x.dv⟩) := by
     refine hide ?_
     rw [hr1]
     simp [List.getD, hkr]
    have HNW1 : Hid (∀ j, j < k → Nw w.heap.size (r1.getD j fv0)) := by rw [hr1]; exact hide (set_nw HNW.out)
    rw [← hr1] at HO6 HF6 HRM6
    clear hr1
    refine (unhide HCD).mono ?_
    rintro e w7 ⟨ud, rfl, hds, hge7, hb7⟩
    have hneD : ud.ownBlock ≠ some blk := fun h => by have := hge7 blk h; omega
    have hW8g : w7.grownBy (w7.setCell ⟨blk, k * 4 + 3, none⟩ ud) (some blk) := grown_set (grown_refl w7 _)
    have g3 := cell_below HJ3.out hb7 (Nat.le_refl _)
    have y3 : w7.frozen? ⟨blk, k * 4 + 3, none⟩ = false := (hb7.frozen (p := ⟨blk, k * 4 + 3, none⟩) hblk6).trans HJ3F.out
    have hk1 : k < r1.length := by omega
    have HO8 : Hid ((w7.setCell ⟨blk, k * 4 + 3, none⟩ ud).ownsRow w2.heap.size 90 4 (.slice (some ⟨blk, 0, none⟩) (r1.set k ⟨x.f, .slice ma x.f.ms.length mc, ud⟩).length uc) (r1.set k ⟨x.f, .slice ma x.f.ms.length mc, ud⟩).length (C (r1.set k ⟨x.f, .slice ma x.f.ms.length mc, ud⟩))) := by
     have h := own_set (own_below HO6.out hb7) (k * 4 + 3) ud
     rw [C_set3 r1 k ud hk1, HR1.out] at h
     refine hide ?_
     simpa using h
    have HF8 : Hid (∀ y ∈ r1.set k ⟨x.f, .slice ma x.f.ms.length mc, ud⟩, FoOk (w7.setCell ⟨blk, k * 4 + 3, none⟩ ud) blk y) := fun y hy => by
     rcases mem_set_or hy with rfl | hy
     ·have hx6 := HF6.out _ (getD_mem hk1)
      rw [HR1.out] at hx6
      have hx8 := (hx6.grown hb7).kept2 hW8g
      exact ⟨⟨hx8.1.1, hds.kept0 hW8g (.inr hneD)⟩, hx8.2.1, .inr hneD, hx8.2.2.2⟩
     ·exact ((HF6.out y hy).grown hb7).kept2 hW8g
    have hb08 : Below w.heap.size w (w7.setCell ⟨blk, k * 4 + 3, none⟩ ud) := (hb06.trans (hb7.mono hb06.size)).setCell (p := ⟨blk, k * 4 + 3, none⟩) hblkw _
    have HRM8 : Hid ((r1.set k ⟨x.f, .slice ma x.f.ms.length mc, ud⟩).map Fv.f = l2.map Fv.f) := by
     refine hide ?_
     rw [map_set_f r1 k _ hk1 (by rw [HR1.out]), HRM6.out]
    have HNW8 : Hid (∀ j, j < k + 1 → Nw w.heap.size ((r1.set k ⟨x.f, .slice ma x.f.ms.length mc, ud⟩).getD j fv0)) := hide fun j hj => by
     by_cases hjk : j = k
     ·subst hjk
      have e : (r1.set j ⟨x.f, .slice ma x.f.ms.length mc, ud⟩).getD j fv0 = ⟨x.f, .slice ma x.f.ms.length mc, ud⟩ := by simp [List.getD, hk1]
      rw [e]
      exact ⟨HNM.out, fun g hg => Nat.le_trans hb06.size (hge7 g hg)⟩
     ·exact set_nw HNW1.out j (by omega)
    clear HNW HNW1 HNM
    obtain ⟨da, dc, e4, _⟩ := hds
    clear HCD HF6 HO6 HRM6 hb06 HJ3 HJ3F hb7 hge7 hW8g HR1
    subst e4
    go_wp2_with fail
    go_roundw
    case rel => exact ⟨k + 1, _, by omega, by go_num, HRM8, HF8, HO8, hb08, HNW8⟩
    case measure => simp [intOf]; omega
   ·have hke : (l2.length : Int) ≤ (k : Int) := by omega
    have HFA : Hid (FsOwn wr w.heap.size (.slice (some ⟨blk, 0, none⟩) r.length uc) (r.map Fv.f)) := hide ⟨row_fsAt HOr.out (fun x hx => (HFr.out x hx).1), .inr ⟨blk, uc, r, rfl, rfl, own_less HOr.out hb2.size, fun x hx => ⟨(HFr.out x hx).1, by
     obtain ⟨j, hj, rfl⟩ := List.getElem_of_mem hx
     have := HNW.out j (by omega)
     simpa [List.getD, hj] using this⟩⟩⟩
    rw [HRM.out, HSR.out] at HFA
    clear HRM HFr HOr HNW
    rw [hrl] at HFA
    go_wp2_with fail
    go_ret
    exact ⟨_, rfl, HFA.out, hbel⟩
theorem sort_any (v : Value) (fs : List Fl) (w : World) (hF : FsAt w v fs) (hl : fs.length ≤ 2000000) (hs : ∀ f ∈ fs, f.ms.length ≤ 2000000 ∧ f.ds.length ≤ 2000000) :
  Calls Tryz.prog 16 #[v] w fun e w' => ∃ u, e = .returned u ∧ FsAt w' u (srt fs fs.length) ∧ Below w.heap.size w w' :=
 (sort_own v fs w hF hl hs).mono fun e w' ⟨u, h1, h2, h3⟩ => ⟨u, h1, h2.1, h3⟩
end Go.Proofs.YtncdininppehkaaGreat

namespace Go.Proofs.YtncdininppehkaaGreat
open Go.RowKit
set_option linter.unusedVariables false
set_option maxRecDepth 100000
def cmE (S : List Sw) (P : List Pr) (A : List Ac) (ch : Int) : Int := if may S P A = true then (if 0 ≤ ch ∧ ch ≤ 5 then 0 else 2) else 8
def cmL (S : List Sw) (P : List Pr) (A : List Ac) (ch : Int) : List Fl := if cmE S P A ch = 0 then srt (comp S P A ch) (comp S P A ch).length else []
def portsTo (P H : List Pr) (k : Nat) : List Fl := tunnelFl ++ (H.take k).flatMap (portFl P)
def switchesTo (S : List Sw) (P : List Pr) (A : List Ac) (ch : Int) (G : List Fl) (Z : List Sw) (k : Nat) : List Fl := G ++ (Z.take k).flatMap fun s => switchFl S P A s ch
theorem portsTo_next {P H : List Pr} {k : Nat} (h : k < H.length) : portsTo P H (k + 1) = portsTo P H k ++ portFl P (H.getD k pr0) := by
 unfold portsTo
 rw [flatMap_next (portFl P) pr0 h, List.append_assoc]
theorem switchesTo_next {S : List Sw} {P : List Pr} {A : List Ac} {ch : Int} {G : List Fl} {Z : List Sw} {k : Nat} (h : k < Z.length) : switchesTo S P A ch G Z (k + 1) = switchesTo S P A ch G Z k ++ switchFl S P A (Z.getD k sw0) ch := by
 unfold switchesTo
 rw [flatMap_next (fun s => switchFl S P A s ch) sw0 h, List.append_assoc]
theorem portFl_len (P : List Pr) (p : Pr) : (portFl P p).length = 6 := rfl
theorem portsTo_len (P H : List Pr) (k : Nat) : (portsTo P H k).length ≤ 2 + 6 * k := by
 have h : ∀ l : List Pr, (l.flatMap (portFl P)).length = 6 * l.length := fun l => by
  induction l with
  | nil => rfl
  | cons x r ih => rw [List.flatMap_cons, List.length_append, ih, portFl_len, List.length_cons]; omega
 unfold portsTo
 rw [List.length_append, h, List.length_take]
 have : tunnelFl.length = 2 := rfl
 omega
theorem switchFl_len (S : List Sw) (P : List Pr) (A : List Ac) (s : Sw) (ch : Int) : 0 < (switchFl S P A s ch).length ∧ (switchFl S P A s ch).length ≤ 3 * P.length + 2 * A.length + 4 := by
 have h1 := ask_len P s ch
 have h2 := bridge_len P s
 have h3 := route_len S P s
 have h4 := rules_len A s.i true
 have h5 := rules_len A s.i false
 unfold switchFl
 rw [List.length_append, List.length_append, List.length_append, List.length_append, rule_len, rule_len, acSort_len, acSort_len]
 omega
theorem switchesTo_len (S : List Sw) (P : List Pr) (A : List Ac) (ch : Int) (G : List Fl) (Z : List Sw) (hP : P.length ≤ 40) (hA : A.length ≤ 40) : ∀ k, k ≤ Z.length → (switchesTo S P A ch G Z k).length ≤ G.length + 204 * k
 | 0, _ => by simp [switchesTo]
 | k + 1, hk => by
  rw [switchesTo_next (by omega), List.length_append]
  have := switchesTo_len S P A ch G Z hP hA k (by omega)
  have := (switchFl_len S P A (Z.getD k sw0) ch).2
  omega
theorem comp_to (S : List Sw) (P : List Pr) (A : List Ac) (ch : Int) : comp S P A ch = switchesTo S P A ch (portsTo P (P.filter (hereB ch)) (P.filter (hereB ch)).length) (S.filter fun s => (P.filter (hereB ch)).any (isOfB s.i)) (S.filter fun s => (P.filter (hereB ch)).any (isOfB s.i)).length := by
 unfold comp switchesTo portsTo
 rw [List.take_length, List.take_length]
def Small (f : Fl) : Prop := f.ms.length ≤ 2000000 ∧ f.ds.length ≤ 2000000
set_option maxHeartbeats 16000000 in
theorem compile_any (S : List Sw) (P : List Pr) (A : List Ac) (s1 p1 a1 : Option Addr) (s2 p2 a2 : Nat) (ch : Int) (w : World) (hC : CfAt w (.slice s1 S.length s2) (.slice p1 P.length p2) (.slice a1 A.length a2) S P A) (h1 : S.length * 24 ≤ 140737488355328) (h2 : P.length * 40 ≤ 140737488355328) (h3 : A.length * 72 ≤ 140737488355328) (hSA : ∀ s b, SortsAc (rulesB A s b)) (hSM : may S P A = true → 0 ≤ ch → ch ≤ 5 → ∀ f ∈ comp S P A ch, Small f) :
  Calls Tryz.prog 9 #[.agg #[.slice s1 S.length s2, .slice p1 P.length p2, .slice a1 A.length a2], .int .i64 ch] w fun e w' => ∃ u, e = .returned (.tuple #[u, .int .i64 (cmE S P A ch)]) ∧ FsAt w' u (cmL S P A ch) ∧ Below w.heap.size w w' := by
 have HC := hide hC
 have HCK := hide (fun W (hW : Below w.heap.size w W) => confCheck_any _ _ _ S P A W (hC.below hW (Nat.le_refl _)) h1 h2 h3)
 have HSA := hide hSA
 have HSM := hide hSM
 clear hC hSA hSM
 go_enter Tryz.func9, Tryz.ntmps9
 go_wp2_with fail
 obtain ⟨W0, hW⟩ : ∃ W0, W0 = w.alloc (.cells #[.slice s1 S.length s2, .slice p1 P.length p2, .slice a1 A.length a2] 29) := ⟨_, rfl⟩
 rw [← hW]
 obtain ⟨cb, hblk⟩ : ∃ cb, cb = w.heap.size := ⟨_, rfl⟩
 have k0 : W0.cell? ⟨cb, 0, none⟩ = some (.slice s1 S.length s2) := by rw [hW, hblk]; exact new_cell w _ rfl _ _ _ _ rfl
 have k1 : W0.cell? ⟨cb, 1, none⟩ = some (.slice p1 P.length p2) := by rw [hW, hblk]; exact new_cell w _ rfl _ _ _ _ rfl
 have k2 : W0.cell? ⟨cb, 2, none⟩ = some (.slice a1 A.length a2) := by rw [hW, hblk]; exact new_cell w _ rfl _ _ _ _ rfl
 have hbN : Below w.heap.size w W0 := by rw [hW]; exact alloc_below _ _
 have hzW0 : W0.heap.size = cb + 1 := by rw [hW, hblk]; simp
 have hcbl : w.heap.size ≤ cb := by omega
 rw [← hblk]
 clear hW hblk
 have HB := hbN
 clear hbN
 obtain ⟨W1, hW⟩ : ∃ W1, W1 = W0.alloc (.cells #[.int .i64 ch] 3) := ⟨_, rfl⟩
 rw [← hW]
 obtain ⟨hb_, hblk⟩ : ∃ hb_, hb_ = cb + 1 := ⟨_, rfl⟩
 have h0 : W1.cell? ⟨hb_, 0, none⟩ = some (.int .i64 ch) := by rw [hW, hblk]; exact new_cell W0 _ hzW0 _ _ _ _ rfl
 have hbN : Below W0.heap.size W0 W1 := by rw [hW]; exact alloc_below _ _
 have hzW1 : W1.heap.size = hb_ + 1 := by rw [hW, hblk]; simp [hzW0]
 have hhb_l : cb < hb_ := by omega
 rw [← hblk]
 clear hW hblk hzW0
 replace k0 := zC k0 hbN
 replace k1 := zC k1 hbN
 replace k2 := zC k2 hbN
 replace HB := tm HB hbN
 clear hbN hzW1
 refine (unhide HCK _ HB).mono ?_
 rintro e V1 ⟨rfl, hb1⟩
 have hs2 := hb1.size
 replace k0 := zC k0 hb1
 replace k1 := zC k1 hb1
 replace k2 := zC k2 hb1
 replace h0 := zC h0 hb1
 replace HB := tm HB hb1
 clear hb1
 by_cases hm : may S P A = true
 ·by_cases hcr : 0 ≤ ch ∧ ch ≤ 5
  ·obtain ⟨hsw, hpr, hac⟩ := may_parts hm
   have hPl := (pr_all hsw hpr).1
   have hAl := (ac_all hac).1
   have hSl := (sw_all hsw).1
   have HPB : Hid (∀ p ∈ P, 0 ≤ p.s ∧ p.s ≤ 100000) := hide (fun p hp => by have := ((pr_all hsw hpr).2 p hp).2.1; omega)
   have HSB : Hid (∀ s ∈ S, 0 ≤ s.i ∧ s.i ≤ 100000) := hide (fun s hs => by have := ((sw_all hsw).2 s hs).1; omega)
   have HAB := hide (ac_bits hac)
   have HE : Hid (cmE S P A ch = 0) := by
    refine hide ?_
    unfold cmE
    rw [if_pos hm, if_pos (by omega)]
   have HLz : Hid (cmL S P A ch = srt (comp S P A ch) (comp S P A ch).length) := by
    refine hide ?_
    unfold cmL
    rw [if_pos HE.out]
   replace HSM := hide (HSM.out hm)
   have hc0 : ¬ ch < 0 := by omega
   have hc1 : ¬ ch ≥ 6 := by omega
   rw [if_pos hm]
   clear hm hsw hpr hac
   have HCT := hide (comp_to S P A ch)
   obtain ⟨H, hH⟩ : ∃ H, H = P.filter (hereB ch) := ⟨_, rfl⟩
   rw [← hH] at HCT
   have HHL : H.length ≤ 40 := by rw [hH]; exact Nat.le_trans (List.length_filter_le _ _) hPl
   have HH := hide hH
   clear hH
   obtain ⟨Z, hZ⟩ : ∃ Z, Z = S.filter fun s => H.any (isOfB s.i) := ⟨_, rfl⟩
   rw [← hZ] at HCT
   have HZL : Z.length ≤ 12 := by rw [hZ]; exact Nat.le_trans (List.length_filter_le _ _) hSl
   have HZB : Hid (∀ s ∈ Z, 0 ≤ s.i ∧ s.i ≤ 100000) := hide (fun s hs => HSB.out s (by rw [hZ] at hs; exact (List.mem_filter.1 hs).1))
   have HZ := hide hZ
   clear hZ
   go_wp2_with fail
   refine (pickedPr_any P (hereB ch) _ _ _ _ (HC.out.below HB (Nat.le_refl _)).2.1 (picks_here h0) ent_here (by omega)).mono ?_
   rintro e V3 ⟨u, rfl, hor, hb3⟩
   have hs4 := hb3.size
   replace k0 := zC k0 hb3
   replace k1 := zC k1 hb3
   replace k2 := zC k2 hb3
   replace h0 := zC h0 hb3
   replace HB := tm HB hb3
   rw [← HH.out] at hor
   obtain ⟨o, c, rfl⟩ := own_slc hor
   have HRH := hide hor
   clear hor
   clear hb3
   go_wp2_with fail
   obtain ⟨V5, hV⟩ : ∃ V5, V5 = V3.alloc (.cells #[.slice o H.length c] 26) := ⟨_, rfl⟩
   rw [← hV]
   obtain ⟨g5, hg'⟩ : ∃ g5, g5 = V3.heap.size := ⟨_, rfl⟩
   have hg : g5 = V3.heap.size := hg'
   rw [← hg']
   have hbN := bn hV
   have hg5 : V3.heap.size ≤ g5 := by omega
   have hl5 := ln hV hg
   have hzV5 : V5.heap.size = g5 + 1 := by rw [hV, hg]; simp
   have t0 : V5.cell? ⟨g5, 0, none⟩ = some (.slice o H.length c) := by rw [hV, hg]; exact new_cell V3 _ rfl _ _ _ _ rfl
   have hs6 := hbN.size
   replace k0 := zC k0 hbN
   replace k1 := zC k1 hbN
   replace k2 := zC k2 hbN
   replace h0 := zC h0 hbN
   replace HRH := zO HRH hbN
   replace HB := tm HB hbN
   clear hV hg hg' hbN
   clear hzV5
   have hcbV := cell_in k0
   have hhbV := cell_in h0
   have hghV := cell_in t0
   refine (tunnelFlows_any _).mono ?_
   rintro e V50 ⟨u, rfl, hfr, hbT⟩
   obtain ⟨vo0, vc0, rfl⟩ := hfr.slc
   have HF0 : Hid (FR V50 V5.heap.size (.slice vo0 tunnelFl.length vc0) (portsTo P H 0)) := by simpa [portsTo] using hide hfr
   have t0v := cell_beh t0 hbT (Nat.le_refl _)
   have hsp := HB.size
   clear hfr
   have HBp : Hid (Below w.heap.size w V5) := hide HB
   clear HB
   generalize tunnelFl.length = n0 at *
   go_wp2_with fail
   clear t0v
   go_loopw [8, 31] (fun v i wr => ∃ k : Nat, k ≤ H.length ∧ i = .int .i64 k ∧ Hid (FR wr V5.heap.size v (portsTo P H k)) ∧ Below V5.heap.size V5 wr) (fun _ i _ => H.length - (intOf i).toNat)
   case atStart => exact ⟨0, by omega, rfl, HF0, hbT⟩
   case round =>
    clear HF0 hbT
    obtain ⟨k, hk, rfl, HF, hbr⟩ := hrel
    have hgs : V5.heap.size ≤ wr.heap.size := hbr.size
    by_cases hlt : k < H.length
    ·obtain ⟨b, off, cap, e1, hcap, -, g0, g1, g2, g3, g4⟩ := pr_at (RowAt.below (RowAt.of_own prC_len (by decide) HRH.out) hbr (Nat.le_refl _)) hlt
     simp only [Value.slice.injEq, true_and] at e1
     obtain ⟨rfl, rfl⟩ := e1
     have HNX := hide (portsTo_next (P := P) hlt)
     have hln := portsTo_len P H k
     have HET : Hid (H.getD k pr0 = ⟨(H.getD k pr0).i, (H.getD k pr0).s, (H.getD k pr0).m, (H.getD k pr0).p, (H.getD k pr0).c⟩) := rfl
     rw [HET.out] at HNX
     clear HET
     generalize (H.getD k pr0).i = y0 at *
     generalize (H.getD k pr0).s = y1 at *
     generalize (H.getD k pr0).m = y2 at *
     generalize (H.getD k pr0).p = y3 at *
     generalize (H.getD k pr0).c = y4 at *
     generalize hFK : portsTo P H k = FK at *
     have HFK := hide hFK
     clear hFK
     obtain ⟨vo, vc, rfl⟩ := HF.out.slc
     obtain ⟨NF, hNF⟩ : ∃ NF, NF = FK.length := ⟨_, rfl⟩
     rw [← hNF] at HF hln ⊢
     have HNN := hide hNF
     clear hNF
     have q1 : (0 : Int) ≤ (k : Int) := by omega
     have q2 : (k : Int) < (H.length : Int) := by omega
     have HUB := hide HF.out.lt
     have vk0 := cell_beh k0 hbr (Nat.le_refl _)
     have vk1 := cell_beh k1 hbr (Nat.le_refl _)
     have vk2 := cell_beh k2 hbr (Nat.le_refl _)
     have vh0 := cell_beh h0 hbr (Nat.le_refl _)
     have vt0 := cell_beh t0 hbr (Nat.le_refl _)
     have HBw0 := HBp.out.trans (hbr.mono hsp)
     have hcb := cell_in vk0
     have hcb2 : ¬ cb = wr.heap.size := by omega
     have hhb := cell_in vh0
     have hhb2 : ¬ hb_ = wr.heap.size := by omega
     go_wp2_with fail
     clear hcb2 hhb2
     obtain ⟨W9, hW9⟩ : ∃ W9, W9 = wr.alloc (.cells #[.int .i64 y0, .int .i64 y1, .int .i64 y2, .int .i64 y3, .int .i64 y4] 71) := ⟨_, rfl⟩
     rw [← hW9]
     have hbW : Below wr.heap.size wr W9 := by rw [hW9]; exact alloc_below _ _
     clear hW9 g0 g1 g2 g3 g4
     have HBw := HBw0.trans (hbW.mono HBw0.size)
     have hsW := hbW.size
     refine (portFlows_any S P A s1 p1 a1 s2 p2 a2 ⟨y0, y1, y2, y3, y4⟩ W9 (HC.out.below HBw (Nat.le_refl _)) (by omega)).mono ?_
     rintro e w1 ⟨u2, rfl, hf2, hb2⟩
     obtain ⟨lo2, hm2, ho2, hk2⟩ := hf2
     have hl2 : lo2.length = (portFl P ⟨y0, y1, y2, y3, y4⟩).length := by rw [← hm2, List.length_map]
     obtain ⟨g9, c9, rfl, hg90, hg91⟩ := own_blk ho2 (by rw [hl2]; exact (show 0 < 6 by decide))
     have hsw2 := hb2.size
     have hb12 := hbW.trans (hb2.mono hbW.size)
     have HF2 := hide (HF.out.below hb12 (Nat.le_refl _))
     have HCS := hide (ho2.cells rfl)
     have HK2 : Hid (∀ y ∈ lo2, FvIn w1 V5.heap.size (.slice vo NF vc) y) := hide (fun y hy => ((hk2 y hy).far (fun g e => Nat.lt_of_lt_of_le (HUB.out g e) hsW)).less (by omega))
     have HM2 := hide hm2
     have hl3 : lo2.length ≤ 1000 := by rw [hl2]; exact (show 6 ≤ 1000 by decide)
     have hl4 : 0 < lo2.length := (by rw [hl2]; exact (show 0 < 6 by decide))
     obtain ⟨n2, hn2⟩ : ∃ n2, n2 = lo2.length := ⟨_, rfl⟩
     rw [← hn2] at hl3 hl4 ⊢
     have HN2 := hide hn2
     clear hn2 hl2 ho2 hk2 hm2
     go_wp2_with (at_builtin; refine wpList_appFR rfl _ _ rfl V5.heap.size (.slice vo NF vc) FK rfl (unhide HF2) ⟨g9, 0, none⟩ n2 c9 lo2 rfl HN2.out.symm (unhide HCS) (unhide HK2) hl4 (by rw [← HNN.out]; omega) (by omega) ?_)
     intro gq cq wq hfq hgq haq
     have HE2 : Hid (FR wq V5.heap.size (.slice (some ⟨gq, 0, none⟩) (FK.length + n2) cq) (portsTo P H (k + 1))) := by rw [HNX.out, ← HM2.out]; exact hide hfq
     have hb3 : Below V5.heap.size V5 wq := (hbr.trans (hb12.mono hbr.size)).grown hgq (by omega) HF2.out.ge
     clear hfq hgq haq HF2 HCS HK2 HUB HNX HF
     rw [← HNN.out] at HE2 ⊢
     go_wp2_with fail
     go_roundw
     case rel => exact ⟨k + 1, by omega, by go_num, HE2, hb3⟩
     case measure => simp [intOf]; omega
    ·obtain rfl : k = H.length := by omega
     have hln := portsTo_len P H H.length
     have HBk : Hid (Below w.heap.size w wr) := hide (HBp.out.trans (hbr.mono hsp))
     replace k0 := zC k0 hbr
     replace k1 := zC k1 hbr
     replace k2 := zC k2 hbr
     replace h0 := zC h0 hbr
     replace t0 := zC t0 hbr
     have HRHw := hide (own_below HRH.out (hbr.mono (Nat.le_refl _)))
     have hnz : 0 < (portsTo P H H.length).length := by unfold portsTo; rw [List.length_append]; have : tunnelFl.length = 2 := rfl; omega
     obtain ⟨lof, hmf, hof, hkf⟩ := HF.out
     have hlf : lof.length = (portsTo P H H.length).length := by rw [← hmf, List.length_map]
     obtain ⟨gF, cF, rfl, hgF0, hgF1⟩ := own_blk hof (by omega)
     rw [hlf] at HF ⊢
     clear hmf hof hkf hlf hnz
     generalize hG : portsTo P H H.length = G at *
     have HG := hide hG
     clear hG
     have HBc := HBk
     clear hbr
     obtain ⟨NG, hNG⟩ : ∃ NG, NG = G.length := ⟨_, rfl⟩
     rw [← hNG] at HF hln ⊢
     have HNG := hide hNG
     clear hNG
     go_wp2_with fail
     have HB := HBc.out
     clear HBc
     refine (pickedSw_any S (fun s => H.any (isOfB s.i)) _ _ _ _ (HC.out.below HB (Nat.le_refl _)).1 (picks_any2 t0 (RowAt.of_own prC_len (by decide) HRHw.out) (by omega)) ent_any (by omega)).mono ?_
     rintro e V201 ⟨u, rfl, hor, hb201⟩
     have hs202 := hb201.size
     replace k0 := zC k0 hb201
     replace k1 := zC k1 hb201
     replace k2 := zC k2 hb201
     replace h0 := zC h0 hb201
     replace t0 := zC t0 hb201
     replace HRHw := zO HRHw hb201
     replace HF := hide (HF.out.below hb201 (Nat.le_refl _))
     replace HB := tm HB hb201
     rw [← HZ.out] at hor
     obtain ⟨zo, zc, rfl⟩ := own_slc hor
     have HRN : Hid (∀ m g, (Value.slice zo m zc).ownBlock = some g → gF < g) := hide (fun m g e => by have := own_ge hor g (by cases zo <;> exact e); omega)
     have HRZ := hide hor
     clear hor
     clear hb201
     have HBz : Hid (Below w.heap.size w V201) := hide HB
     have hsz := HB.size
     have hgw : w.heap.size ≤ gF := by omega
     have hgv : gF < V201.heap.size := by omega
     clear HB
     go_wp2_with fail
     go_loopw [8, 46] (fun v i wq => ∃ k : Nat, k ≤ Z.length ∧ i = .int .i64 k ∧ Hid (FR wq V5.heap.size v (switchesTo S P A ch G Z k)) ∧ Hid (∀ g, v.ownBlock = some g → g = gF ∨ V201.heap.size ≤ g) ∧ Hid (V201.grownBy wq (some gF))) (fun _ i _ => Z.length - (intOf i).toNat)
     case atStart => exact ⟨0, by omega, rfl, by simpa [switchesTo] using HF, hide (by simp [Value.ownBlock]), hide ⟨rfl, rfl, rfl, Nat.le_refl _, fun _ _ _ => rfl⟩⟩
     case round =>
      clear HF
      obtain ⟨k, hk, rfl, HF, HVB, HGR⟩ := hrel
      have hgs2 : V201.heap.size ≤ wr.heap.size := HGR.out.size
      by_cases hlt : k < Z.length
      ·have HR1 := hide (HRZ.out.kept HGR.out (.inr (fun e => absurd (HRN.out _ _ e) (by omega))))
       obtain ⟨b, off, cap, e1, hcap, -, g0, g1, g2⟩ := sw_at (RowAt.of_own swC_len (by decide) HR1.out) hlt
       simp only [Value.slice.injEq, true_and] at e1
       obtain ⟨rfl, rfl⟩ := e1
       have hyb := HZB.out (Z.getD k sw0) (by rw [List.getD_eq_getElem?_getD, List.getElem?_eq_getElem hlt]; exact List.getElem_mem _)
       have HNX := hide (switchesTo_next (S := S) (P := P) (A := A) (ch := ch) (G := G) hlt)
       have hln2 := switchesTo_len S P A ch G Z (by omega) (by omega) k (by omega)
       have HET : Hid (Z.getD k sw0 = ⟨(Z.getD k sw0).i, (Z.getD k sw0).t, (Z.getD k sw0).g⟩) := rfl
       rw [HET.out] at HNX
       rw [← HNG.out] at hln2
       clear HET HR1
       generalize (Z.getD k sw0).i = y0 at *
       generalize (Z.getD k sw0).t = y1 at *
       generalize (Z.getD k sw0).g = y2 at *
       obtain ⟨hy0, hy1⟩ := hyb
       generalize hFK : switchesTo S P A ch G Z k = FK at *
       have HFK := hide hFK
       clear hFK
       obtain ⟨vo, vc, rfl⟩ := HF.out.slc
       obtain ⟨NF, hNF⟩ : ∃ NF, NF = FK.length := ⟨_, rfl⟩
       rw [← hNF] at HF hln2 HVB ⊢
       have HNN := hide hNF
       clear hNF
       have q1 : (0 : Int) ≤ (k : Int) := by omega
       have q2 : (k : Int) < (Z.length : Int) := by omega
       have HUB := hide HF.out.lt
       have vk0 := far_cell HGR.out k0 (by omega)
       have vk1 := far_cell HGR.out k1 (by omega)
       have vk2 := far_cell HGR.out k2 (by omega)
       have vh0 := far_cell HGR.out h0 (by omega)
       have vt0 := far_cell HGR.out t0 (by omega)
       have HBw0 := HBz.out.grown HGR.out hsz (fun k e => by cases e; omega)
       have hcb := cell_in vk0
       have hcb2 : ¬ cb = wr.heap.size := by omega
       have hhb := cell_in vh0
       have hhb2 : ¬ hb_ = wr.heap.size := by omega
       go_wp2_with fail
       clear hcb2 hhb2
       obtain ⟨W9, hW9⟩ : ∃ W9, W9 = wr.alloc (.cells #[.int .i64 y0, .int .i64 y1, .int .i64 y2] 59) := ⟨_, rfl⟩
       rw [← hW9]
       have hbW : Below wr.heap.size wr W9 := by rw [hW9]; exact alloc_below _ _
       clear hW9 g0 g1 g2
       have HBw := HBw0.trans (hbW.mono HBw0.size)
       have hsW := hbW.size
       refine (switchFlows_any S P A s1 p1 a1 s2 p2 a2 ⟨y0, y1, y2⟩ ch W9 (HC.out.below HBw (Nat.le_refl _)) (by omega) (by omega) (by omega) hy0 hy1 HPB.out HAB.out (HSA.out _ _) (HSA.out _ _)).mono ?_
       rintro e w1 ⟨u2, rfl, hf2, hb2⟩
       obtain ⟨lo2, hm2, ho2, hk2⟩ := hf2
       have hl2 : lo2.length = (switchFl S P A ⟨y0, y1, y2⟩ ch).length := by rw [← hm2, List.length_map]
       obtain ⟨g9, c9, rfl, hg90, hg91⟩ := own_blk ho2 (by rw [hl2]; exact (switchFl_len _ _ _ _ _).1)
       have hsw2 := hb2.size
       have hb12 := hbW.trans (hb2.mono hbW.size)
       have HF2 := hide (HF.out.below hb12 (Nat.le_refl _))
       have HCS := hide (ho2.cells rfl)
       have HK2 : Hid (∀ y ∈ lo2, FvIn w1 V5.heap.size (.slice vo NF vc) y) := hide (fun y hy => ((hk2 y hy).far (fun g e => Nat.lt_of_lt_of_le (HUB.out g e) hsW)).less (by omega))
       have HM2 := hide hm2
       have hl3 : lo2.length ≤ 1000 := by rw [hl2]; have := (switchFl_len S P A ⟨y0, y1, y2⟩ ch).2; omega
       have hl4 : 0 < lo2.length := (by rw [hl2]; exact (switchFl_len _ _ _ _ _).1)
       obtain ⟨n2, hn2⟩ : ∃ n2, n2 = lo2.length := ⟨_, rfl⟩
       rw [← hn2] at hl3 hl4 ⊢
       have HN2 := hide hn2
       clear hn2 hl2 ho2 hk2 hm2
       go_wp2_with (at_builtin; refine wpList_appFR rfl _ _ rfl V5.heap.size (.slice vo NF vc) FK rfl (unhide HF2) ⟨g9, 0, none⟩ n2 c9 lo2 rfl HN2.out.symm (unhide HCS) (unhide HK2) hl4 (by rw [← HNN.out]; omega) (by omega) ?_)
       intro gq cq wq hfq hgq haq
       have HE2 : Hid (FR wq V5.heap.size (.slice (some ⟨gq, 0, none⟩) (FK.length + n2) cq) (switchesTo S P A ch G Z (k + 1))) := by rw [HNX.out, ← HM2.out]; exact hide hfq
       have HGR2 : Hid (V201.grownBy wq (some gF)) := hide (grownT (grown_of_below HGR.out hb12) hgq HVB.out)
       have HVB2 : Hid (∀ g, (Value.slice (some ⟨gq, 0, none⟩) (FK.length + n2) cq).ownBlock = some g → g = gF ∨ V201.heap.size ≤ g) := hide (fun g e => by
        have e2 : gq = g := by simpa [Value.ownBlock] using e
        subst e2
        rcases haq with h | h
        ·exact HVB.out _ h
        ·exact .inr (by omega))
       clear hfq hgq haq HF2 HCS HK2 HUB HNX HF
       rw [← HNN.out] at HE2 HVB2 ⊢
       go_wp2_with fail
       go_roundw
       case rel => exact ⟨k + 1, by omega, by go_num, HE2, HVB2, HGR2⟩
       case measure => simp [intOf]; omega
      ·obtain rfl : k = Z.length := by omega
       have hln2 := switchesTo_len S P A ch G Z (by omega) (by omega) Z.length (Nat.le_refl _)
       have HCE : Hid (switchesTo S P A ch G Z Z.length = comp S P A ch) := by rw [HCT.out]; exact hide rfl
       rw [← HNG.out] at hln2
       rw [HCE.out] at HF hln2
       have HFS := hide HF.out.fsAt
       have HBe : Hid (Below w.heap.size w wr) := hide (HBz.out.grown HGR.out hsz (fun k e => by cases e; omega))
       obtain ⟨fo, fc, rfl⟩ := HF.out.slc
       have HST := hide (sort_any _ (comp S P A ch) wr HFS.out (by omega) (HSM.out (by omega) (by omega)))
       rw [← HLz.out] at HST
       clear HF HVB HGR HFS
       generalize (comp S P A ch).length = NC at *
       go_wp2_with fail
       refine (unhide HST).mono ?_
       rintro e wz ⟨u, rfl, hu, hbz⟩
       have HU := hide hu
       have HBf := hide (HBe.out.trans (hbz.mono HBe.out.size))
       obtain ⟨uo, uc, hus, _, _⟩ := hu
       rw [hus] at HU ⊢
       clear hus hbz HST
       generalize (cmL S P A ch).length = NL at *
       go_wp2_with fail
       go_ret2
       exact ⟨_, by rw [HE.out]; rfl, HU.out, HBf.out⟩
  ·have HE : Hid (cmE S P A ch = 2) := by
    refine hide ?_
    unfold cmE
    rw [if_pos hm, if_neg (by omega)]
   have HLz : Hid (cmL S P A ch = []) := by
    refine hide ?_
    unfold cmL
    rw [if_neg (by rw [HE.out]; decide)]
   rw [if_pos hm]
   clear hm
   go_wp2_with fail
   all_goals go_ret2
   all_goals exact ⟨_, by rw [HE.out]; rfl, by rw [HLz.out]; exact ⟨none, 0, rfl, fun _ => rfl, .inl rfl⟩, HB⟩
 ·replace hm : may S P A = false := by simpa using hm
  have HE : Hid (cmE S P A ch = 8) := by
   refine hide ?_
   unfold cmE
   rw [if_neg (by rw [hm]; simp)]
  have HLz : Hid (cmL S P A ch = []) := by
   refine hide ?_
   unfold cmL
   rw [if_neg (by rw [HE.out]; decide)]
  rw [hm]
  clear hm
  go_wp2_with fail
  go_ret2
  exact ⟨_, by rw [HE.out]; rfl, by rw [HLz.out]; exact ⟨none, 0, rfl, fun _ => rfl, .inl rfl⟩, HB⟩
end Go.Proofs.YtncdininppehkaaGreat

namespace Go.Proofs.YtncdininppehkaaGreat
open Go.RowKit
set_option linter.unusedVariables false
set_option maxRecDepth 100000
def th (f : Fl) (ys : List Fl) : Nat → Bool
 | 0 => false
 | m + 1 => th f ys m || (plc f (ys.getD m fl0) == 0)
def lf (xs ys : List Fl) : Nat → List Fl
 | 0 => []
 | k + 1 => if th (xs.getD k fl0) ys ys.length then lf xs ys k else lf xs ys k ++ [xs.getD k fl0]
theorem lf_length (xs ys : List Fl) : ∀ k, (lf xs ys k).length ≤ k
 | 0 => by simp [lf]
 | k + 1 => by
  have := lf_length xs ys k
  unfold lf
  split
  ·omega
  ·simp; omega
theorem lf_mem (xs ys : List Fl) : ∀ k, k ≤ xs.length → ∀ x ∈ lf xs ys k, x ∈ xs
 | 0, _, x, hx => by simp [lf] at hx
 | k + 1, hk, x, hx => by
  have hf : xs.getD k fl0 ∈ xs := by
   rw [List.getD_eq_getElem?_getD, List.getElem?_eq_getElem (by omega : k < xs.length)]
   exact List.getElem_mem _
  unfold lf at hx
  split at hx
  ·exact lf_mem xs ys k (by omega) x hx
  ·rcases List.mem_append.1 hx with h | h
   ·exact lf_mem xs ys k (by omega) x h
   ·simp at h; subst h; exact hf
theorem own_fsAt {w0 w : World} {B : Nat} {v : Value} {l : List Fv} (h : w.ownsRow B 90 4 v l.length (C l)) (hh : ∀ x ∈ l, Held w x) : FsAt w v (l.map Fv.f) := by
 obtain ⟨o, c, rfl, hc, hg⟩ := own_form h
 by_cases hz : l.length = 0
 ·refine ⟨o, c, by simp, ?_, .inl (by simpa using hz)⟩
  intro ho
  subst ho
  obtain ⟨_, ⟨hv, _⟩ | ⟨g', cap', cur, hv, _⟩⟩ := h
  ·simp only [Value.slice.injEq] at hv; exact hv.2.2
  ·simp at hv
 ·obtain ⟨g, rfl⟩ := hg (by omega)
  exact row_fsAt h hh
theorem fsAt_one {w : World} {a : Option Addr} {cap k : Nat} {fs : List Fl} (h : FsAt w (.slice a fs.length cap) fs) (hk : k < fs.length) : ∃ b off, a = some ⟨b, off, none⟩ ∧ fs.length ≤ cap ∧ FlAt w b (off + k * 4) (fs.getD k fl0) := by
 obtain ⟨a1, c1, h1, _, h0 | ⟨b, off, h2, h3, h4⟩⟩ := h
 ·omega
 ·simp only [Value.slice.injEq] at h1
  obtain ⟨rfl, _, rfl⟩ := h1
  exact ⟨b, off, h2, h3, h4 k hk⟩
theorem getD_in {fs : List Fl} {k : Nat} (h : k < fs.length) : fs.getD k fl0 ∈ fs := by
 rw [List.getD_eq_getElem?_getD, List.getElem?_eq_getElem h]; exact List.getElem_mem h
end Go.Proofs.YtncdininppehkaaGreat

namespace Go.Proofs.YtncdininppehkaaGreat
open Go.RowKit
set_option linter.unusedVariables false
set_option maxRecDepth 100000
theorem plc_le_lt {a b c : Fl} (h1 : plc a b ≤ 0) (h2 : plc b c < 0) : plc a c < 0 := by
 rcases Int.lt_or_eq_of_le h1 with h | h
 ·exact plc_trans h h2
 ·rw [plc_zero h]; exact h2
def Srt0 (l : List Fl) : Prop := ∀ i j, i < j → j < l.length → plc (l.getD i fl0) (l.getD j fl0) ≤ 0
theorem srt0_lt {l : List Fl} (h : Srt0 l) {i j : Nat} {t : Fl} (hij : i ≤ j) (hj : j < l.length) (hl : plc (l.getD j fl0) t < 0) : plc (l.getD i fl0) t < 0 := by
 rcases Nat.lt_or_eq_of_le hij with e | e
 ·exact plc_le_lt (h i j e hj) hl
 ·rw [e]; exact hl
theorem srt0_ge {l : List Fl} (h : Srt0 l) {i j : Nat} {t : Fl} (hij : i ≤ j) (hj : j < l.length) (hl : 0 ≤ plc (l.getD i fl0) t) : 0 ≤ plc (l.getD j fl0) t := Int.not_lt.1 fun e => absurd (srt0_lt h hij hj e) (Int.not_lt.2 hl)
theorem getD_iff {l : List Fl} {t : Fl} : t ∈ l ↔ ∃ i, i < l.length ∧ l.getD i fl0 = t := by
 constructor
 ·intro h
  obtain ⟨i, hi, e⟩ := List.getElem_of_mem h
  exact ⟨i, hi, by rw [List.getD_eq_getElem?_getD, List.getElem?_eq_getElem hi]; exact e⟩
 ·rintro ⟨i, hi, e⟩
  rw [← e]; exact getD_in hi
theorem th_iff (f : Fl) (ys : List Fl) : ∀ m, th f ys m = true ↔ ∃ i, i < m ∧ ys.getD i fl0 = f
 | 0 => by simp [th]
 | m + 1 => by
  have ih := th_iff f ys m
  rw [th, Bool.or_eq_true, ih, beq_iff_eq]
  constructor
  ·rintro (⟨i, hi, e⟩ | e)
   ·exact ⟨i, by omega, e⟩
   ·exact ⟨m, by omega, (plc_zero e).symm⟩
  ·rintro ⟨i, hi, e⟩
   by_cases him : i = m
   ·subst him; right; rw [e]; exact plc_self f
   ·exact .inl ⟨i, by omega, e⟩
theorem th_mem (f : Fl) (ys : List Fl) : th f ys ys.length = true ↔ f ∈ ys := by rw [th_iff, getD_iff]
set_option maxHeartbeats 4000000 in
theorem search_any (l : List Fl) (t : Fl) (o ta tb : Option Addr) (cap tc td g : Nat) (w : World) (hF : FsAt w (.slice o l.length cap) l) (hS : Srt0 l) (hO : OrdAt w g) (h1 : MsAt w (.slice ta t.ms.length tc) t.ms) (h2 : DsAt w (.slice tb t.ds.length td) t.ds)
  (l1 : t.ms.length ≤ 2000000) (l2 : t.ds.length ≤ 2000000) (hl : l.length ≤ 2000000) (hs : ∀ f ∈ l, f.ms.length ≤ 2000000 ∧ f.ds.length ≤ 2000000) :
  Calls Tryz.prog 175 #[.slice o l.length cap, .agg #[.int .i64 t.t, .int .i64 t.p, .slice ta t.ms.length tc, .slice tb t.ds.length td], .func (.func 132) #[] #[.pointer (some ⟨g, 0, none⟩)]] w fun e w' => ∃ i fd, e = .returned (.tuple #[.int .i64 i, .bool fd]) ∧ (fd = true ↔ t ∈ l) ∧ Grw w w' := by
 have HF := hide hF
 have HS := hide hS
 have HC : Hid (∀ (W : World) (x : Fl) (xa xb : Option Addr) (xc xe : Nat), Grw w W → MsAt w (.slice xa x.ms.length xc) x.ms → DsAt w (.slice xb x.ds.length xe) x.ds → x.ms.length ≤ 2000000 → x.ds.length ≤ 2000000 → Calls Tryz.prog 132 #[.agg #[.int .i64 x.t, .int .i64 x.p, .slice xa x.ms.length xc, .slice xb x.ds.length xe], .agg #[.int .i64 t.t, .int .i64 t.p, .slice ta t.ms.length tc, .slice tb t.ds.length td], .pointer (some ⟨g, 0, none⟩)] W fun e w' => e = .returned (.int .i64 (plc x t)) ∧ Grw W w') := fun W x xa xb xc xe hW k1 k2 k3 k4 => by
  have := order_any x t xa ta xb tb xc tc xe td g W (hO.below hW.below) (k1.below hW.below (Nat.le_refl _)) (k2.below hW.below (Nat.le_refl _)) (h1.below hW.below (Nat.le_refl _)) (h2.below hW.below (Nat.le_refl _)) k3 k4 l1 l2
  rw [ordF_plc] at this
  exact this
 have HB := hide hs
 clear hs hF hS hO h1 h2
 go_enter Tryz.func175, Tryz.ntmps175
 go_wp2_with fail
 go_loopw [9, 10, 11] (fun i j _ wr => ∃ p q : Nat, p ≤ q ∧ q ≤ l.length ∧ i = .int .i64 p ∧ j = .int .i64 q ∧ Hid (∀ k, k < p → plc (l.getD k fl0) t < 0) ∧ Hid (∀ k, q ≤ k → k < l.length → 0 ≤ plc (l.getD k fl0) t) ∧ Grw (w.alloc (.cells #[.int .i64 t.t, .int .i64 t.p, .slice ta t.ms.length tc, .slice tb t.ds.length td] 90)) wr) (fun i j _ _ => (intOf j).toNat - (intOf i).toNat)
 case atStart => exact ⟨0, l.length, by omega, by omega, rfl, rfl, hide (fun k h => by omega), hide (fun k a b => by omega), Grw.refl _⟩
 case round =>
  obtain ⟨p, q, hpq, hq, rfl, rfl, HP, HQ, hgr⟩ := hrel
  have HG := hide hgr
  have hgw : Grw w wr := ((Grw.refl w).alloc _).trans hgr
  have t0 : wr.cell? ⟨w.heap.size, 0, none⟩ = some (.int .i64 t.t) := cell_below (by simp) hgr.below (Nat.le_refl _)
  have t1 : wr.cell? ⟨w.heap.size, 1, none⟩ = some (.int .i64 t.p) := cell_below (by simp) hgr.below (Nat.le_refl _)
  have t2 : wr.cell? ⟨w.heap.size, 2, none⟩ = some (.slice ta t.ms.length tc) := cell_below (by simp) hgr.below (Nat.le_refl _)
  have t3 : wr.cell? ⟨w.heap.size, 3, none⟩ = some (.slice tb t.ds.length td) := cell_below (by simp) hgr.below (Nat.le_refl _)
  have hbox : w.heap.size < wr.heap.size := by have := hgr.below.size; simp at this; omega
  by_cases hlt : p < q
  ·obtain ⟨h, hh⟩ : ∃ h : Nat, h = (p + q) / 2 := ⟨_, rfl⟩
   have hm : h < l.length := by omega
   have e : ((p : Int) + (q : Int)) / 2 = (h : Int) := by omega
   have hph : p ≤ h := by omega
   have hhq : h < q := by omega
   clear hh
   obtain ⟨b, off, rfl, hcap, hcell⟩ := fsAt_one HF.out hm
   obtain ⟨g0, g1, gm, gd, g2, g3, hms, hds⟩ := hcell
   have hbd := HB.out _ (getD_in hm)
   have HMM := hide hms
   have HDD := hide hds
   have a0 := cell_below g0 hgw.below (Nat.le_refl _)
   have a1 := cell_below g1 hgw.below (Nat.le_refl _)
   have a2 := cell_below g2 hgw.below (Nat.le_refl _)
   have a3 := cell_below g3 hgw.below (Nat.le_refl _)
   obtain ⟨xa, xc, rfl, -, -⟩ := hms
   obtain ⟨xb, xe, rfl, -, -⟩ := hds
   have HX : Hid (∀ W : World, Grw w W → Calls Tryz.prog 132 #[.agg #[.int .i64 (l.getD h fl0).t, .int .i64 (l.getD h fl0).p, .slice xa (l.getD h fl0).ms.length xc, .slice xb (l.getD h fl0).ds.length xe], .agg #[.int .i64 t.t, .int .i64 t.p, .slice ta t.ms.length tc, .slice tb t.ds.length td], .pointer (some ⟨g, 0, none⟩)] W fun e w' => e = .returned (.int .i64 (plc (l.getD h fl0) t)) ∧ Grw W w') := fun W hW => HC.out W (l.getD h fl0) xa xb xc xe hW HMM.out HDD.out hbd.1 hbd.2
   have HLT : Hid (plc (l.getD h fl0) t < 0 → ∀ k, k < h + 1 → plc (l.getD k fl0) t < 0) := fun hR k hk => srt0_lt HS.out (by omega) hm hR
   have HGE : Hid (0 ≤ plc (l.getD h fl0) t → ∀ k, h ≤ k → k < l.length → 0 ≤ plc (l.getD k fl0) t) := fun hR k hk hkl => srt0_ge HS.out hk hkl hR
   clear g0 g1 g2 g3 hbd HMM HDD HC HS HB
   generalize plc (l.getD h fl0) t = R at *
   generalize (l.getD h fl0).t = x0 at *
   generalize (l.getD h fl0).p = x1 at *
   generalize (l.getD h fl0).ms.length = x2 at *
   generalize (l.getD h fl0).ds.length = x3 at *
   have q1 : (0 : Int) ≤ (h : Int) := by omega
   have q2 : (h : Int) < (l.length : Int) := by omega
   go_wp2_with fail
   clear e
   go_region_held3 (fun w' => (w'.cell? ⟨b, off + h * 4, none⟩ = some (.int .i64 x0) ∧ w'.cell? ⟨b, off + h * 4 + 1, none⟩ = some (.int .i64 x1) ∧ w'.cell? ⟨b, off + h * 4 + 2, none⟩ = some (.slice xa x2 xc) ∧ w'.cell? ⟨b, off + h * 4 + 3, none⟩ = some (.slice xb x3 xe)) ∧ w'.cell? ⟨w.heap.size, 0, none⟩ = some (.int .i64 t.t) ∧ w'.cell? ⟨w.heap.size, 1, none⟩ = some (.int .i64 t.p) ∧ w'.cell? ⟨w.heap.size, 2, none⟩ = some (.slice ta t.ms.length tc) ∧ w'.cell? ⟨w.heap.size, 3, none⟩ = some (.slice tb t.ds.length td)) (go_keep)
    (first | (go_at_call 132; refine (unhide HX _ hgw.drew).mono ?_; rintro e w1 ⟨rfl, hg1⟩; have hgB : Grw wr w1 := (Grw.refl wr).drew.trans hg1; have hb1 := hgB.below; have z0 := cell_below a0 hb1 (Nat.le_refl _); have z1 := cell_below a1 hb1 (Nat.le_refl _); have z2 := cell_below a2 hb1 (Nat.le_refl _); have z3 := cell_below a3 hb1 (Nat.le_refl _); have z4 := cell_below t0 hb1 (Nat.le_refl _); have z5 := cell_below t1 hb1 (Nat.le_refl _); have z6 := cell_below t2 hb1 (Nat.le_refl _); have z7 := cell_below t3 hb1 (Nat.le_refl _)))
   have hG1 := HG.out.trans hgB
   have HG1 := hide hG1
   clear hG1 hgB hb1 hg1 hgr hgw HG a0 a1 a2 a3 t0 t1 t2 t3 z0 z1 z2 z3 z4 z5 z6 z7 HX hbox
   by_cases hR : R < 0
   ·have HN := hide (HLT.out hR)
    clear HLT HGE HP
    go_wp2_with fail
    go_roundw
    case rel => exact ⟨h + 1, q, by omega, by omega, by go_num, rfl, HN, HQ, HG1.out⟩
    case measure => simp [intOf]; omega
   ·have HN := hide (HGE.out (Int.not_lt.1 hR))
    clear HLT HGE HQ
    go_wp2_with fail
    go_roundw
    case rel => exact ⟨p, h, by omega, by omega, rfl, by go_num, HP, HN, HG1.out⟩
    case measure => simp [intOf]; omega
  ·have hpq' : p = q := by omega
   subst hpq'
   by_cases hpl : p < l.length
   ·obtain ⟨b, off, rfl, hcap, hcell⟩ := fsAt_one HF.out hpl
    obtain ⟨g0, g1, gm, gd, g2, g3, hms, hds⟩ := hcell
    have hbd := HB.out _ (getD_in hpl)
    have HMM := hide hms
    have HDD := hide hds
    have a0 := cell_below g0 hgw.below (Nat.le_refl _)
    have a1 := cell_below g1 hgw.below (Nat.le_refl _)
    have a2 := cell_below g2 hgw.below (Nat.le_refl _)
    have a3 := cell_below g3 hgw.below (Nat.le_refl _)
    obtain ⟨xa, xc, rfl, -, -⟩ := hms
    obtain ⟨xb, xe, rfl, -, -⟩ := hds
    have HX : Hid (∀ W : World, Grw w W → Calls Tryz.prog 132 #[.agg #[.int .i64 (l.getD p fl0).t, .int .i64 (l.getD p fl0).p, .slice xa (l.getD p fl0).ms.length xc, .slice xb (l.getD p fl0).ds.length xe], .agg #[.int .i64 t.t, .int .i64 t.p, .slice ta t.ms.length tc, .slice tb t.ds.length td], .pointer (some ⟨g, 0, none⟩)] W fun e w' => e = .returned (.int .i64 (plc (l.getD p fl0) t)) ∧ Grw W w') := fun W hW => HC.out W (l.getD p fl0) xa xb xc xe hW HMM.out HDD.out hbd.1 hbd.2
    have HIF : Hid ((plc (l.getD p fl0) t == 0) = true ↔ t ∈ l) := by
     show _ ↔ _
     rw [beq_iff_eq]
     constructor
     ·intro hz
      rw [← plc_zero hz]; exact getD_in hpl
     ·intro hmem
      obtain ⟨i, hi, hit⟩ := getD_iff.1 hmem
      have hip : p ≤ i := Nat.le_of_not_lt fun hc => by
       have := HP.out i hc
       rw [hit, plc_self] at this
       omega
      have h0 := HQ.out p (Nat.le_refl _) hpl
      rcases Nat.lt_or_eq_of_le hip with hlt2 | heq
      ·have := HS.out p i hlt2 hi
       rw [hit] at this
       omega
      ·rw [heq, hit]; exact plc_self t
    clear g0 g1 g2 g3 hbd HMM HDD HC HS HB HP HQ
    generalize plc (l.getD p fl0) t = R at *
    generalize (l.getD p fl0).t = x0 at *
    generalize (l.getD p fl0).p = x1 at *
    generalize (l.getD p fl0).ms.length = x2 at *
    generalize (l.getD p fl0).ds.length = x3 at *
    have q1 : (0 : Int) ≤ (p : Int) := by omega
    have q2 : (p : Int) < (l.length : Int) := by omega
    go_wp2_with fail
    go_region_held3 (fun w' => (w'.cell? ⟨b, off + p * 4, none⟩ = some (.int .i64 x0) ∧ w'.cell? ⟨b, off + p * 4 + 1, none⟩ = some (.int .i64 x1) ∧ w'.cell? ⟨b, off + p * 4 + 2, none⟩ = some (.slice xa x2 xc) ∧ w'.cell? ⟨b, off + p * 4 + 3, none⟩ = some (.slice xb x3 xe)) ∧ w'.cell? ⟨w.heap.size, 0, none⟩ = some (.int .i64 t.t) ∧ w'.cell? ⟨w.heap.size, 1, none⟩ = some (.int .i64 t.p) ∧ w'.cell? ⟨w.heap.size, 2, none⟩ = some (.slice ta t.ms.length tc) ∧ w'.cell? ⟨w.heap.size, 3, none⟩ = some (.slice tb t.ds.length td)) (go_keep)
     (first | (go_at_call 132; refine (unhide HX _ hgw.drew).mono ?_; rintro e w1 ⟨rfl, hg1⟩; have hgB : Grw wr w1 := (Grw.refl wr).drew.trans hg1; have hb1 := hgB.below; have z0 := cell_below a0 hb1 (Nat.le_refl _); have z1 := cell_below a1 hb1 (Nat.le_refl _); have z2 := cell_below a2 hb1 (Nat.le_refl _); have z3 := cell_below a3 hb1 (Nat.le_refl _); have z4 := cell_below t0 hb1 (Nat.le_refl _); have z5 := cell_below t1 hb1 (Nat.le_refl _); have z6 := cell_below t2 hb1 (Nat.le_refl _); have z7 := cell_below t3 hb1 (Nat.le_refl _)))
    have HG1 := hide (hgw.trans hgB)
    clear hgB hb1 hg1 hgr hgw HG a0 a1 a2 a3 t0 t1 t2 t3 z0 z1 z2 z3 z4 z5 z6 z7 HX hbox
    go_wp2_with fail
    go_ret2
    exact ⟨_, _, rfl, HIF.out, HG1.out⟩
   ·have HNO : Hid (¬t ∈ l) := fun hmem => by
     obtain ⟨i, hi, hit⟩ := getD_iff.1 hmem
     have := HP.out i (by omega)
     rw [hit, plc_self] at this
     omega
    have HGW := hide hgw
    clear HP HQ HC HS HB hgr HG hgw t0 t1 t2 t3
    go_wp2_with fail
    go_quiet (fail)
    go_wp2_with fail
    go_ret2
    exact ⟨_, false, rfl, by simp [HNO.out], HGW.out.drewN _⟩
end Go.Proofs.YtncdininppehkaaGreat

namespace Go.Proofs.YtncdininppehkaaGreat
open Go.RowKit
set_option linter.unusedVariables false
set_option maxRecDepth 100000
set_option maxHeartbeats 2000000 in
theorem gone_any (x : Fv) (l : List Fl) (o : Option Addr) (cap sb ob g : Nat) (w : World) (hF : FsAt w (.slice o l.length cap) l) (hS : Srt0 l) (hE : EqAt w ob g) (hb : w.cell? ⟨sb, 0, none⟩ = some (.slice o l.length cap)) (hx : Held w x) (l1 : x.f.ms.length ≤ 2000000) (l2 : x.f.ds.length ≤ 2000000)
  (hl : l.length ≤ 2000000) (hs : ∀ f ∈ l, f.ms.length ≤ 2000000 ∧ f.ds.length ≤ 2000000) :
  Calls Tryz.prog 174 #[.agg #[.int .i64 x.f.t, .int .i64 x.f.p, x.mv, x.dv], .pointer (some ⟨sb, 0, none⟩), .pointer (some ⟨ob, 0, none⟩)] w fun e w' => ∃ fd, e = .returned (.bool fd) ∧ (fd = true ↔ x.f ∈ l) ∧ Grw w w' := by
 have HX := hide hx
 have HE := hide hE
 have HF := hide hF
 have he0 := hE.1
 have hobl := cell_lt he0
 have hsbl := cell_lt hb
 obtain ⟨⟨xa, xc, e1, _⟩, ⟨xb, xe, e2, _⟩⟩ := hx
 obtain ⟨xf, xm, xd⟩ := x
 simp only at e1 e2 l1 l2
 subst e1 e2
 have hA : Grw w (w.alloc (.cells #[.int .i64 xf.t, .int .i64 xf.p, .slice xa xf.ms.length xc, .slice xb xf.ds.length xe] 90)) := (Grw.refl w).alloc _
 have HC : Hid (∀ W : World, Below w.heap.size w W → Calls Tryz.prog 175 #[.slice o l.length cap, .agg #[.int .i64 xf.t, .int .i64 xf.p, .slice xa xf.ms.length xc, .slice xb xf.ds.length xe], .func (.func 132) #[] #[.pointer (some ⟨g, 0, none⟩)]] W fun e w' => ∃ i fd, e = .returned (.tuple #[.int .i64 i, .bool fd]) ∧ (fd = true ↔ xf ∈ l) ∧ Grw W w') := fun W hW =>
  search_any l xf o xa xb cap xc xe g W (HF.out.below hW (Nat.le_refl _)) hS (HE.out.2.below hW) (HX.out.1.below hW (Nat.le_refl _)) (HX.out.2.below hW (Nat.le_refl _)) l1 l2 hl hs
 clear HX HE HF hE hF hS hs
 simp only
 go_enter Tryz.func174, Tryz.ntmps174
 go_wp2_with fail
 refine (unhide HC _ hA.below).mono ?_
 rintro e w1 ⟨i, fd, rfl, hfd, hg1⟩
 have hg := hA.trans hg1
 have HD := hide hfd
 have HG := hide hg
 clear hfd hg hg1 hA HC
 go_wp2_with fail
 go_ret
 exact ⟨fd, rfl, HD.out, HG.out⟩
section
variable {w : World} {blk : Nat}
def Tests (w : World) (blk sb ob : Nat) (lo : List Fv) (del : Fl → Bool) : Prop := ∀ (W : World) (x : Fv), w.grownBy W (some blk) → x ∈ lo → Calls Tryz.prog 174 #[.agg #[.int .i64 x.f.t, .int .i64 x.f.p, x.mv, x.dv], .pointer (some ⟨sb, 0, none⟩), .pointer (some ⟨ob, 0, none⟩)] W fun e w' => e = .returned (.bool (del x.f)) ∧ Grw W w'
set_option maxHeartbeats 4000000 in
theorem index_any (lo : List Fv) (del : Fl → Bool) (B cap sb ob : Nat) (hown : w.ownsRow B 90 4 (.slice (some ⟨blk, 0, none⟩) lo.length cap) lo.length (C lo)) (hT : Tests w blk sb ob lo del) (hok : ∀ x ∈ lo, Held w x) (hl : lo.length ≤ 2000000) :
  Calls Tryz.prog 198 #[.slice (some ⟨blk, 0, none⟩) lo.length cap, .func (.func 174) #[] #[.pointer (some ⟨sb, 0, none⟩), .pointer (some ⟨ob, 0, none⟩)]] w fun e w' => ∃ r : Int, e = .returned (.int .i64 r) ∧ ((r = -1 ∧ ∀ i, i < lo.length → del (lo.getD i fv0).f = false) ∨ ∃ k : Nat, k < lo.length ∧ r = k ∧ (∀ i, i < k → del (lo.getD i fv0).f = false) ∧ del (lo.getD k fv0).f = true) ∧ Grw w w' := by
 have HO := hide hown
 have HT := hide hT
 have HK := hide hok
 have hcap : lo.length ≤ cap := by
  obtain ⟨_, ⟨h, _⟩ | ⟨g', cap', cur, hv, _, _, hnc, _⟩⟩ := hown
  ·simp at h
  ·simp only [Value.slice.injEq] at hv; omega
 have hblkw := (own_at hown).2
 clear hown hT hok
 go_enter Tryz.func198, Tryz.ntmps198
 go_wp2_with fail
 go_loopw [8] (fun i wr => ∃ k : Nat, k ≤ lo.length ∧ i = .int .i64 k ∧ Hid (∀ j, j < k → del (lo.getD j fv0).f = false) ∧ Grw w wr) (fun i _ => lo.length - (intOf i).toNat)
 case atStart => exact ⟨0, by omega, rfl, hide (fun j h => absurd h (by omega)), Grw.refl _⟩
 case round =>
  obtain ⟨k, hk, rfl, HALL, hgr⟩ := hrel
  have hbel := hgr.below
  have hgb : w.grownBy wr (some blk) := Below.grown1 hbel
  have HOr := hide (own_below HO.out hbel)
  have hblkr := Nat.lt_of_lt_of_le hblkw hbel.size
  by_cases hlt : k < lo.length
  ·obtain ⟨a0, a1, a2, a3⟩ := row_cells HOr.out hlt
   have hX := getD_mem hlt
   have HXo := hide (HK.out _ hX)
   have HST : Hid (∀ W : World, w.grownBy W (some blk) → Calls Tryz.prog 174 #[.agg #[.int .i64 (lo.getD k fv0).f.t, .int .i64 (lo.getD k fv0).f.p, (lo.getD k fv0).mv, (lo.getD k fv0).dv], .pointer (some ⟨sb, 0, none⟩), .pointer (some ⟨ob, 0, none⟩)] W fun e w' => e = .returned (.bool (del (lo.getD k fv0).f)) ∧ Grw W w') := fun W hW => HT.out W _ hW hX
   have HNX : Hid (del (lo.getD k fv0).f = false → ∀ j, j < k + 1 → del (lo.getD j fv0).f = false) := fun h j hj => by
    by_cases e : j = k
    ·subst e; exact h
    ·exact HALL.out j (by omega)
   have HFD : Hid (del (lo.getD k fv0).f = true → (∀ i, i < k → del (lo.getD i fv0).f = false) ∧ del (lo.getD k fv0).f = true) := fun h => ⟨HALL.out, h⟩
   obtain ⟨R, hRd⟩ : ∃ R, R = del (lo.getD k fv0).f := ⟨_, rfl⟩
   rw [← hRd] at HST HNX
   have HRD := hide hRd
   clear hRd
   obtain ⟨⟨xa, xc, e1, _⟩, ⟨xb, xe, e2, _⟩⟩ := HXo.out
   rw [e1] at a2 HST
   rw [e2] at a3 HST
   clear e1 e2 HXo hX HALL
   obtain ⟨xt, hxt⟩ : ∃ z, z = (lo.getD k fv0).f.t := ⟨_, rfl⟩
   obtain ⟨xp, hxp⟩ : ∃ z, z = (lo.getD k fv0).f.p := ⟨_, rfl⟩
   obtain ⟨xml, hxml⟩ : ∃ z, z = (lo.getD k fv0).f.ms.length := ⟨_, rfl⟩
   obtain ⟨xdl, hxdl⟩ : ∃ z, z = (lo.getD k fv0).f.ds.length := ⟨_, rfl⟩
   rw [← hxt] at a0 HST
   rw [← hxp] at a1 HST
   rw [← hxml] at a2 HST
   rw [← hxdl] at a3 HST
   clear hxt hxp hxml hxdl
   have q1 : (0 : Int) ≤ (k : Int) := by omega
   have q2 : (k : Int) < (lo.length : Int) := by omega
   have HGD : Hid (∀ n, w.grownBy (wr.drewN n) (some blk)) := fun n => ⟨hgb.os, hgb.tape, hgb.output, hgb.size, hgb.block⟩
   clear hgb
   go_wp2_with fail
   refine (unhide HST _ (Below.grown1 hbel)).mono ?_
   rintro e w1 ⟨rfl, hg1⟩
   have HG1 := hide (hgr.trans hg1)
   clear hg1 hgr hbel HGD HST HOr a0 a1 a2 a3
   cases R
   ·have HN := hide (HNX.out rfl)
    clear HNX HFD HRD
    go_wp2_with fail
    go_roundw
    case rel => exact ⟨k + 1, by omega, by go_num, HN, HG1.out⟩
    case measure => simp [intOf]; omega
   ·have HN := hide (HFD.out HRD.out.symm)
    clear HNX HFD HRD
    go_wp2_with fail
    go_ret
    exact ⟨_, rfl, .inr ⟨k, hlt, rfl, HN.out.1, HN.out.2⟩, HG1.out⟩
  ·have hkl : k = lo.length := by omega
   have HN : Hid (∀ i, i < lo.length → del (lo.getD i fv0).f = false) := fun i hi => HALL.out i (by omega)
   have HG1 := hide hgr
   clear HALL hkl hgr hbel hgb HOr
   go_wp2_with fail
   go_ret
   exact ⟨_, rfl, .inl ⟨rfl, HN.out⟩, HG1.out⟩
end
end Go.Proofs.YtncdininppehkaaGreat

namespace Go.Proofs.YtncdininppehkaaGreat
open Go.RowKit
set_option linter.unusedVariables false
set_option maxRecDepth 100000
def kp (del : Fl → Bool) (lo : List Fv) (j : Nat) : List Fv := (lo.take j).filter fun x => !del x.f
theorem kp_succ (del : Fl → Bool) (lo : List Fv) (j : Nat) (h : j < lo.length) : kp del lo (j + 1) = if del (lo.getD j fv0).f = true then kp del lo j else kp del lo j ++ [lo.getD j fv0] := by
 unfold kp
 rw [List.take_succ_eq_append_getElem h, List.filter_append]
 have e : lo.getD j fv0 = lo[j] := by simp [List.getD, List.getElem?_eq_getElem h]
 rw [e]
 by_cases hd : del lo[j].f = true
 ·rw [if_pos hd]; simp [hd]
 ·rw [if_neg hd]; simp [hd]
theorem kp_all (del : Fl → Bool) (lo : List Fv) : ∀ j, j ≤ lo.length → (∀ i, i < j → del (lo.getD i fv0).f = false) → kp del lo j = lo.take j
 | 0, _, _ => by simp [kp]
 | j + 1, hj, h => by
  rw [kp_succ del lo j (by omega), if_neg (by rw [h j (by omega)]; simp), kp_all del lo j (by omega) (fun i hi => h i (by omega)), List.take_succ_eq_append_getElem (by omega)]
  simp [List.getD, List.getElem?_eq_getElem (show j < lo.length by omega)]
theorem kp_le (del : Fl → Bool) (lo : List Fv) (j : Nat) : (kp del lo j).length ≤ j := by
 unfold kp
 exact Nat.le_trans (List.length_filter_le _ _) (by simp; omega)
section
variable {w : World} {blk : Nat}
set_option maxHeartbeats 8000000 in
theorem delete_any (lo : List Fv) (del : Fl → Bool) (B cap sb ob : Nat) (hown : w.ownsRow B 90 4 (.slice (some ⟨blk, 0, none⟩) lo.length cap) lo.length (C lo)) (hT : Tests w blk sb ob lo del) (hok : ∀ x ∈ lo, Held w x) (hl : lo.length ≤ 2000000) :
  Calls Tryz.prog 173 #[.slice (some ⟨blk, 0, none⟩) lo.length cap, .func (.func 174) #[] #[.pointer (some ⟨sb, 0, none⟩), .pointer (some ⟨ob, 0, none⟩)]] w fun e w' => e = .returned (.slice (some ⟨blk, 0, none⟩) (kp del lo lo.length).length cap) ∧ w'.ownsRow B 90 4 (.slice (some ⟨blk, 0, none⟩) (kp del lo lo.length).length cap) (kp del lo lo.length).length (C (kp del lo lo.length)) ∧ w.grownBy w' (some blk) := by
 have HO := hide hown
 have HT := hide hT
 have HK := hide hok
 have hcap : lo.length ≤ cap := by
  obtain ⟨_, ⟨h, _⟩ | ⟨g', cap', cur, hv, _, _, hnc, _⟩⟩ := hown
  ·simp at h
  ·simp only [Value.slice.injEq] at hv; omega
 have hblkw := (own_at hown).2
 clear hown hT hok
 go_enter Tryz.func173, Tryz.ntmps173
 go_wp2_with fail
 refine (index_any lo del B cap sb ob HO.out HT.out HK.out hl).mono ?_
 rintro e w1 ⟨r, rfl, hr, hg1⟩
 have HO1 := hide (own_below HO.out hg1.below)
 have HG1 := hide (Below.grown1 (row := some blk) hg1.below)
 clear hg1
 rcases hr with ⟨rfl, hall⟩ | ⟨k, hk, rfl, hall, hdel⟩
 ·have HE : Hid (kp del lo lo.length = lo) := by
   show _ = _
   rw [kp_all del lo lo.length (Nat.le_refl _) hall, List.take_length]
  clear hall
  go_wp2_with fail
  go_ret
  rw [HE.out]
  exact ⟨rfl, HO1.out, HG1.out⟩
 ·have HD0 : Hid (kp del lo (k + 1) = lo.take k) := by
   show _ = _
   rw [kp_succ del lo k hk, if_pos hdel, kp_all del lo k (by omega) hall]
  clear hall hdel
  have hne : ((k : Int) == -1) = false := beq_eq_false_iff_ne.mpr (by omega)
  go_wp2_with fail
  rename World => W0
  go_loopw [5, 6, 7] (fun p j _ wq => ∃ (jj pp : Nat) (r : List Fv), p = .int .i64 pp ∧ j = .int .i64 jj ∧ jj ≤ lo.length ∧ pp + 1 ≤ jj ∧ Hid (r.length = lo.length ∧ r.take pp = kp del lo jj ∧ pp = (kp del lo jj).length ∧ ∀ i, jj ≤ i → r.getD i fv0 = lo.getD i fv0) ∧ Hid (wq.ownsRow B 90 4 (.slice (some ⟨blk, 0, none⟩) r.length cap) r.length (C r)) ∧ Hid (w.grownBy wq (some blk))) (fun _ j _ _ => lo.length - (intOf j).toNat)
  case atStart => exact ⟨k + 1, k, lo, rfl, by go_num, by omega, by omega, hide ⟨rfl, HD0.out.symm, by rw [HD0.out]; simp; omega, fun i _ => rfl⟩, HO1, HG1⟩
  case round =>
   clear HO1 HG1 HD0
   obtain ⟨jj, pp, r, rfl, rfl, hjl, hpp, HI, HOq, HGq⟩ := hrel
   have hblkq := (own_at HOq.out).2
   by_cases hlt2 : jj < lo.length
   ·obtain ⟨hrl, hrt, hrp, hrd⟩ := HI.out
    have hxl : jj < r.length := by omega
    obtain ⟨a0, a1, a2, a3⟩ := row_cells HOq.out hxl
    rw [hrd jj (Nat.le_refl _)] at a0 a1 a2 a3
    have hX := getD_mem hlt2
    have HXo := hide (HK.out _ hX)
    have HST : Hid (∀ W : World, w.grownBy W (some blk) → Calls Tryz.prog 174 #[.agg #[.int .i64 (lo.getD jj fv0).f.t, .int .i64 (lo.getD jj fv0).f.p, (lo.getD jj fv0).mv, (lo.getD jj fv0).dv], .pointer (some ⟨sb, 0, none⟩), .pointer (some ⟨ob, 0, none⟩)] W fun e w' => e = .returned (.bool (del (lo.getD jj fv0).f)) ∧ Grw W w') := fun W hW => HT.out W _ hW hX
    have HDN := hide (kp_succ del lo jj hlt2)
    obtain ⟨x, hxd⟩ : ∃ x, x = lo.getD jj fv0 := ⟨_, rfl⟩
    rw [← hxd] at HST HDN a0 a1 a2 a3 HXo
    clear hxd hX hrt hrp hrd
    have HIR := HI
    clear HI
    generalize del x.f = R at *
    obtain ⟨⟨xa', xc', e1, _⟩, ⟨xb', xe', e2, _⟩⟩ := HXo.out
    rw [e1] at a2 HST
    rw [e2] at a3 HST
    have HE1 := hide e1
    have HE2 := hide e2
    clear e1 e2 HXo
    obtain ⟨xt', hxt⟩ : ∃ z, z = x.f.t := ⟨_, rfl⟩
    obtain ⟨xp', hxp⟩ : ∃ z, z = x.f.p := ⟨_, rfl⟩
    obtain ⟨xml', hxml⟩ : ∃ z, z = x.f.ms.length := ⟨_, rfl⟩
    obtain ⟨xdl', hxdl⟩ : ∃ z, z = x.f.ds.length := ⟨_, rfl⟩
    rw [← hxt] at a0 HST
    rw [← hxp] at a1 HST
    rw [← hxml] at a2 HST HE1
    rw [← hxdl] at a3 HST HE2
    have HX4 : Hid (xt' = x.f.t ∧ xp' = x.f.p) := ⟨hxt, hxp⟩
    clear hxt hxp hxml hxdl
    have p1 : (0 : Int) ≤ (jj : Int) := by omega
    have p2 : (jj : Int) < (lo.length : Int) := by omega
    have hA : Grw wr (wr.alloc (.cells #[.int .i64 xt', .int .i64 xp', .slice xa' xml' xc', .slice xb' xdl' xe'] 90)) := (Grw.refl wr).alloc _
    have HGA := hide (grown_trans HGq.out (Below.grown1 (row := some blk) hA.below))
    go_wp2_with fail
    refine (unhide HST _ HGA.out).mono ?_
    rintro e w2 ⟨rfl, hg2⟩
    have z0 : w2.cell? ⟨wr.heap.size, 0, none⟩ = some (.int .i64 xt') := cell_below (by simp) hg2.below (Nat.le_refl _)
    have z1 : w2.cell? ⟨wr.heap.size, 1, none⟩ = some (.int .i64 xp') := cell_below (by simp) hg2.below (Nat.le_refl _)
    have z2 : w2.cell? ⟨wr.heap.size, 2, none⟩ = some (.slice xa' xml' xc') := cell_below (by simp) hg2.below (Nat.le_refl _)
    have z3 : w2.cell? ⟨wr.heap.size, 3, none⟩ = some (.slice xb' xdl' xe') := cell_below (by simp) hg2.below (Nat.le_refl _)
    have hb2 := (hA.trans hg2).below
    have HO2 := hide (own_below HOq.out hb2)
    have HG2 := hide (grown_trans HGq.out (Below.grown1 hb2))
    have hn1 : ¬blk = wr.heap.size := by omega
    have hn2 : ¬wr.heap.size = blk := by omega
    clear a0 a1 a2 a3 hg2 hb2 HST HOq HGq HGA hA
    cases R
    ·rw [if_neg (by simp)] at HDN
     have hppl : pp < r.length := by omega
     obtain ⟨c0, c1, c2, c3⟩ := row_cells HO2.out hppl
     have f0 := HO2.out.frozenAt (pp * 4)
     have f1 := HO2.out.frozenAt (pp * 4 + 1)
     have f2 := HO2.out.frozenAt (pp * 4 + 2)
     have f3 := HO2.out.frozenAt (pp * 4 + 3)
     have HO4 := hide (own_set4 HO2.out pp x hppl)
     rw [← HX4.out.1, ← HX4.out.2, HE1.out, HE2.out] at HO4
     have HG4 := hide (grown_set (j := pp * 4 + 3) (v := .slice xb' xdl' xe') (grown_set (j := pp * 4 + 2) (v := .slice xa' xml' xc') (grown_set (j := pp * 4 + 1) (v := .int .i64 xp') (grown_set (j := pp * 4) (v := .int .i64 xt') HG2.out))))
     have HN : Hid ((r.set pp x).length = lo.length ∧ (r.set pp x).take (pp + 1) = kp del lo (jj + 1) ∧ pp + 1 = (kp del lo (jj + 1)).length ∧ ∀ i, jj + 1 ≤ i → (r.set pp x).getD i fv0 = lo.getD i fv0) := by
      obtain ⟨n1, n2, n3, n4⟩ := HIR.out
      rw [HDN.out]
      refine hide ⟨by simpa using n1, ?_, by simp; omega, fun i hi => ?_⟩
      ·rw [← n2]
       rw [List.take_succ_eq_append_getElem (by simpa using hppl), List.take_set_of_le (Nat.le_refl _)]
       simp
      ·rw [← n4 i (by omega)]
       simp [List.getD, show ¬ pp = i by omega]
     generalize (r.getD pp fv0).f.t = ct at *
     generalize (r.getD pp fv0).f.p = cp at *
     generalize (r.getD pp fv0).mv = cmv at *
     generalize (r.getD pp fv0).dv = cdv at *
     have t1 : (0 : Int) ≤ (pp : Int) := by omega
     have t2 : (pp : Int) < (lo.length : Int) := by omega
     clear HDN HIR HE1 HE2 HX4 HO2 HG2
     go_wp2_with fail
     go_roundw
     case rel => exact ⟨jj + 1, pp + 1, r.set pp x, by go_num, by go_num, by omega, by omega, HN, HO4, HG4⟩
     case measure => simp [intOf]; omega
    ·rw [if_pos rfl] at HDN
     have HN : Hid (r.length = lo.length ∧ r.take pp = kp del lo (jj + 1) ∧ pp = (kp del lo (jj + 1)).length ∧ ∀ i, jj + 1 ≤ i → r.getD i fv0 = lo.getD i fv0) := by
      obtain ⟨n1, n2, n3, n4⟩ := HIR.out
      rw [HDN.out]
      exact hide ⟨n1, n2, n3, fun i hi => n4 i (by omega)⟩
     clear HDN HIR HE1 HE2 HX4
     go_wp2_with fail
     go_roundw
     case rel => exact ⟨jj + 1, pp, r, rfl, by go_num, by omega, by omega, HN, HO2, HG2⟩
     case measure => simp [intOf]; omega
   ·obtain ⟨hrl, hrt, hrp, hrd⟩ := HI.out
    have hend : jj = lo.length := by omega
    rw [hend] at hrt hrp
    have HPP := hide hrp
    have HOP : Hid (wr.ownsRow B 90 4 (.slice (some ⟨blk, 0, none⟩) pp cap) pp (C (kp del lo lo.length))) := by
     have := own_prefix HOq.out (show pp ≤ r.length by omega)
     rw [C_take, hrt] at this
     exact hide this
    have hpl : pp < lo.length := by omega
    obtain ⟨vs, hclr⟩ : ∃ vs, ∀ ty, (Builtin.clear_ #[31] ty #[.slice (some ⟨blk, pp * 4, none⟩) (lo.length - pp) (cap - pp)]).run Tryz.prog wr = .ok (.tuple #[]) (wr.setCells blk (pp * 4) vs) :=
     clear_flows wr blk (pp * 4) (lo.length - pp) (cap - pp) (by omega) (fun j hj => by rw [HOq.out.cellAt (pp * 4 + j) (by omega), List.getElem?_eq_getElem (by rw [C_len]; omega)]; rfl) (fun j hj => HOq.out.frozenAt _)
    have s1 : (lo.length : Int) ≤ (jj : Int) := by omega
    have s2 : (0 : Int) ≤ (pp : Int) := by omega
    have s3 : (pp : Int) ≤ (lo.length : Int) := by omega
    have s4 : (pp : Int) ≤ (cap : Int) := by omega
    have HOE := hide (own_setCells vs (pp * 4) wr HOP.out (Nat.le_refl _))
    have HGE := hide (grown_setCells vs (pp * 4) wr HGq.out)
    clear hrl hrt hrp hrd hend HOP HOq HGq HI hlt2 hjl hpp
    go_wp2_with (simp only [hclr])
    go_ret
    refine ⟨?_, ?_, HGE.out⟩
    ·rw [← HPP.out]; rfl
    ·rw [← HPP.out]; exact HOE.out
end
end Go.Proofs.YtncdininppehkaaGreat

namespace Go.Proofs.YtncdininppehkaaGreat
open Go.RowKit
set_option linter.unusedVariables false
set_option maxRecDepth 100000
theorem srt0_of {sl : List Fv} (h : sl.Pairwise fun a b => ¬ plc b.f a.f < 0) : Srt0 (sl.map Fv.f) := by
 intro i j hij hj
 have hj' : j < sl.length := by simpa using hj
 have hi' : i < sl.length := by omega
 have := List.pairwise_iff_getElem.1 h i j hi' hj' hij
 have e1 : (sl.map Fv.f).getD i fl0 = sl[i].f := by simp [List.getD, List.getElem?_eq_getElem hi']
 have e2 : (sl.map Fv.f).getD j fl0 = sl[j].f := by simp [List.getD, List.getElem?_eq_getElem hj']
 rw [e1, e2]
 exact Int.not_lt.1 fun hc => this ((plc_flip _ _).2 hc)
theorem kp_map (del : Fl → Bool) (lo : List Fv) : (kp del lo lo.length).map Fv.f = (lo.map Fv.f).filter fun f => !del f := by
 unfold kp
 rw [List.take_length, List.filter_map]
 rfl
theorem kp_mem {del : Fl → Bool} {lo : List Fv} {x : Fv} (h : x ∈ kp del lo lo.length) : x ∈ lo := by
 unfold kp at h
 rw [List.take_length] at h
 exact (List.mem_filter.1 h).1
set_option maxHeartbeats 1000000 in
theorem indexNone_any (p : Option Addr) (cap : Nat) (fv : Value) (w : World) : Calls Tryz.prog 198 #[.slice p 0 cap, fv] w fun e w' => e = .returned (.int .i64 (-1)) ∧ w' = w := by
 go_enter Tryz.func198, Tryz.ntmps198
 go_wp2_with fail
 refine wp_loop_rounds 1 ?_
 rw [rounds_succ]
 go_wp2_with fail
 go_ret
 exact ⟨rfl, rfl⟩
set_option maxHeartbeats 1000000 in
theorem deleteNone_any (p : Option Addr) (cap : Nat) (fv : Value) (w : World) : Calls Tryz.prog 173 #[.slice p 0 cap, fv] w fun e w' => e = .returned (.slice p 0 cap) ∧ w' = w := by
 go_enter Tryz.func173, Tryz.ntmps173
 go_wp2_with fail
 refine (indexNone_any p cap fv w).mono ?_
 rintro e w1 ⟨rfl, rfl⟩
 go_wp2_with fail
 go_ret
 exact ⟨rfl, rfl⟩
set_option maxHeartbeats 4000000 in
theorem without_any (vl vg : Value) (ls gs : List Fl) (w : World) (hF : FsAt w vl ls) (hG : FsAt w vg gs) (hl : ls.length ≤ 2000000) (hlg : gs.length ≤ 2000000) (hs : ∀ f ∈ ls, f.ms.length ≤ 2000000 ∧ f.ds.length ≤ 2000000) (hsg : ∀ f ∈ gs, f.ms.length ≤ 2000000 ∧ f.ds.length ≤ 2000000) :
  Calls Tryz.prog 137 #[vl, vg] w fun e w' => ∃ u, e = .returned u ∧ ∃ lo : List Fv, lo.map Fv.f = ls.filter (fun f => !th f gs gs.length) ∧ ∃ w4, (∀ x ∈ lo, Held w4 x) ∧ w'.ownsRow w4.heap.size 90 4 u lo.length (C lo) ∧ Below w.heap.size w w4 ∧ Below w4.heap.size w4 w' := by
 have HF := hide hF
 have HG := hide hG
 have HS := hide hs
 have HSG := hide hsg
 obtain ⟨a, cap, rfl, _, _⟩ := hF
 obtain ⟨a2, cap2, rfl, _, _⟩ := hG
 clear hs hsg
 go_enter Tryz.func137, Tryz.ntmps137
 go_wp2_with fail
 refine (fPlaces_any _).mono ?_
 rintro e w1 ⟨rfl, hw1⟩
 have hb1 : Below w.heap.size w w1 := by rw [hw1]; exact ((Below.refl _ _).alloc (Nat.le_refl _) _).alloc (by simp) _
 have HO1 : Hid (OrdAt w1 (w.heap.size + 1)) := by
  rw [hw1]
  have e : w.heap.size + 1 = (w.alloc sixO).heap.size := by simp
  refine hide ⟨w.heap.size, ?_, ?_⟩
  ·rw [e]; simp
  ·simp
 have hs1 := hb1.size
 clear hw1
 obtain ⟨G, hG⟩ : ∃ G, G = w.heap.size + 1 := ⟨_, rfl⟩
 rw [← hG] at HO1 ⊢
 clear hG
 go_wp2_with fail
 refine (ordered_any _ gs _ (HG.out.below hb1 (Nat.le_refl _)) hlg HSG.out).mono ?_
 rintro e w3 ⟨u, rfl, sl, hp, hsrt, hh, ho3, hb3⟩
 obtain ⟨so, sc, rfl, hsc, hsg⟩ := own_form ho3
 have hb03 := hb1.trans (hb3.mono hb1.size)
 have HO3 := hide (HO1.out.below hb3)
 have HFS : Hid (FsAt w3 (.slice so sl.length sc) (sl.map Fv.f)) := hide (own_fsAt (w0 := w) ho3 (fun x hx => (hh x hx).below hb3 (Nat.le_refl _)))
 have HSO := hide (srt0_of hsrt)
 have HPM : Hid (∀ f, f ∈ sl.map Fv.f ↔ f ∈ gs) := fun f => hp.mem_iff
 have HLN : Hid ((sl.map Fv.f).length ≤ 2000000) := by
  have := hp.length_eq
  exact hide (by omega)
 have HSL : Hid (∀ f ∈ sl.map Fv.f, f.ms.length ≤ 2000000 ∧ f.ds.length ≤ 2000000) := fun f hf => HSG.out f (hp.mem_iff.1 hf)
 have HML : Hid ((sl.map Fv.f).length = sl.length) := hide (List.length_map _)
 clear hp hh ho3 hsg hsrt hb3 HO1
 go_wp2_with fail
 obtain ⟨w4, hw4⟩ : ∃ w4, w4 = (w3.alloc (.cells #[.func (.func 132) #[] #[.pointer (some ⟨G, 0, none⟩)]] 100)).alloc (.cells #[.slice so sl.length sc] 31) := ⟨_, rfl⟩
 have hb34 : Below w3.heap.size w3 w4 := by rw [hw4]; exact ((Below.refl _ _).alloc (Nat.le_refl _) _).alloc (by simp) _
 have HB4 := hide (hb03.trans (hb34.mono hb03.size))
 have HE4 : Hid (EqAt w4 w3.heap.size G) := by
  refine hide ⟨by rw [hw4]; simp, HO3.out.below hb34⟩
 have HC4 : Hid (w4.cell? ⟨w3.heap.size + 1, 0, none⟩ = some (.slice so sl.length sc)) := by
  rw [hw4]
  have e : w3.heap.size + 1 = (w3.alloc (.cells #[.func (.func 132) #[] #[.pointer (some ⟨G, 0, none⟩)]] 100)).heap.size := by simp
  rw [e]
  exact hide (by simp)
 have HF4 := hide (HFS.out.below hb34 (Nat.le_refl _))
 rw [← hw4]
 clear hw4 hb34 HO3 HFS
 obtain ⟨OB, hOB⟩ : ∃ OB, OB = w3.heap.size := ⟨_, rfl⟩
 rw [← hOB] at HE4 HC4 ⊢
 clear hOB
 refine (freshFl_any _ ls w4 (HF.out.below HB4.out (Nat.le_refl _)) hl).mono ?_
 rintro e w5 ⟨v, lo, rfl, hlm, hh5, ho5, hb5⟩
 have HLM := hide hlm
 have HH5 := hide hh5
 have HO5 := hide ho5
 have HLL : Hid (lo.length ≤ 2000000) := by
  have := congrArg List.length hlm
  rw [List.length_map] at this
  exact hide (by omega)
 have HBD : Hid (∀ x ∈ lo, x.f.ms.length ≤ 2000000 ∧ x.f.ds.length ≤ 2000000) := fun x hx => HS.out x.f (by rw [← hlm]; exact List.mem_map_of_mem hx)
 clear hlm hh5
 by_cases h0 : lo.length = 0
 ·obtain ⟨ua, uc, rfl, -, -⟩ := own_form ho5
  obtain rfl := List.eq_nil_of_length_eq_zero h0
  have HNL : Hid (ls = []) := HLM.out.symm
  clear ho5 HLM
  go_wp2_with fail
  refine (deleteNone_any _ _ _ _).mono ?_
  rintro e w6 ⟨rfl, rfl⟩
  have HB5 := hide hb5
  go_wp2_with fail
  go_ret
  exact ⟨_, rfl, [], by rw [HNL.out]; rfl, w4, by simp, HO5.out, HB4.out, HB5.out⟩
 ·obtain ⟨blk, uc, rfl, _⟩ := ho5.form (by omega)
  obtain ⟨hblk0, hblk1⟩ := own_at ho5
  clear ho5
  have HW : Hid (∀ W : World, w5.grownBy W (some blk) → Below w4.heap.size w4 W) := fun W hW => hb5.grown hW hb5.size (by simp; omega)
  have HTS : Hid (Tests w5 blk (OB + 1) OB lo (fun f => th f gs gs.length)) := fun W x hW hx => by
   have hbW := HW.out W hW
   have hlen := HML.out
   have hFW := HF4.out.below hbW (Nat.le_refl _)
   rw [← hlen] at hFW
   have hcW := cell_below HC4.out hbW (Nat.le_refl _)
   rw [← hlen] at hcW
   refine (gone_any x (sl.map Fv.f) so sc (OB + 1) OB G W hFW HSO.out (HE4.out.below hbW) hcW ((HH5.out x hx).below hbW (Nat.le_refl _)) (HBD.out x hx).1 (HBD.out x hx).2 HLN.out HSL.out).mono ?_
   rintro e w' ⟨fd, rfl, hfd, hg⟩
   refine ⟨?_, hg⟩
   have : fd = th x.f gs gs.length := by
    rw [Bool.eq_iff_iff, hfd, th_mem]
    exact HPM.out x.f
   rw [this]
  have HHH : Hid (∀ x ∈ lo, Held w5 x) := fun x hx => (HH5.out x hx).below hb5 (Nat.le_refl _)
  clear hb5
  go_wp2_with fail
  refine (delete_any lo (fun f => th f gs gs.length) w4.heap.size uc (OB + 1) OB HO5.out HTS.out HHH.out HLL.out).mono ?_
  rintro e w6 ⟨rfl, ho6, hg6⟩
  have HO6 := hide ho6
  have HB6 := hide (HW.out w6 hg6)
  clear ho6 hg6 HO5 HTS HHH
  go_wp2_with fail
  go_ret
  exact ⟨_, rfl, kp (fun f => th f gs gs.length) lo lo.length, by rw [kp_map, HLM.out], w4, fun x hx => HH5.out x (kp_mem hx), HO6.out, HB4.out, HB6.out⟩
end Go.Proofs.YtncdininppehkaaGreat

namespace Go.Proofs.YtncdininppehkaaGreat
open Go.RowKit
set_option linter.unusedVariables false
set_option maxRecDepth 100000
def lft (xs ys : List Fl) : List Fl := xs.filter fun f => !th f ys ys.length
theorem lf_take (xs ys : List Fl) : ∀ k, k ≤ xs.length → lf xs ys k = (xs.take k).filter fun f => !th f ys ys.length
 | 0, _ => by simp [lf]
 | k + 1, hk => by
  have h : k < xs.length := by omega
  have e : xs.getD k fl0 = xs[k] := by simp [List.getD, List.getElem?_eq_getElem h]
  rw [lf, lf_take xs ys k (by omega), List.take_succ_eq_append_getElem h, List.filter_append, e]
  by_cases hd : th xs[k] ys ys.length = true
  ·rw [if_pos hd]; simp [hd]
  ·rw [if_neg hd]; simp [hd]
theorem lf_lft (xs ys : List Fl) : lf xs ys xs.length = lft xs ys := by
 rw [lf_take xs ys _ (Nat.le_refl _), List.take_length]; rfl
theorem lft_length (xs ys : List Fl) : (lft xs ys).length ≤ xs.length := List.length_filter_le _ _
theorem lft_mem {xs ys : List Fl} {f : Fl} (h : f ∈ lft xs ys) : f ∈ xs := (List.mem_filter.1 h).1
def Few (fs : List Fl) : Prop := fs.length ≤ 2000000 ∧ ∀ f ∈ fs, f.ms.length ≤ 2000000 ∧ f.ds.length ≤ 2000000
theorem Few.lft {xs ys : List Fl} (h : Few xs) : Few (lft xs ys) := ⟨Nat.le_trans (lft_length xs ys) h.1, fun f hf => h.2 f (lft_mem hf)⟩
theorem Few.srt {xs : List Fl} (h : Few xs) : Few (srt xs xs.length) := ⟨Nat.le_trans (srt_length xs xs.length) h.1, fun f hf => h.2 f (srt_mem xs xs.length (Nat.le_refl _) f hf)⟩
theorem withoutF_any (vl vg : Value) (ls gs : List Fl) (w : World) (hF : FsAt w vl ls) (hG : FsAt w vg gs) (hl : Few ls) (hg : Few gs) :
  Calls Tryz.prog 137 #[vl, vg] w fun e w' => ∃ u, e = .returned u ∧ FsAt w' u (lft ls gs) ∧ Below w.heap.size w w' := by
 refine (without_any vl vg ls gs w hF hG hl.1 hg.1 hl.2 hg.2).mono ?_
 rintro e w' ⟨u, rfl, lo, hm, w4, hh, ho, hb, hb'⟩
 have := own_fsAt (w0 := w) ho (fun x hx => (hh x hx).below hb' (Nat.le_refl _))
 rw [hm] at this
 exact ⟨u, rfl, this, hb.trans (hb'.mono hb.size)⟩
theorem fs_slice {w : World} {v : Value} {fs : List Fl} (h : FsAt w v fs) : ∃ a cap, v = .slice a fs.length cap := by
 obtain ⟨a, cap, h, _⟩ := h
 exact ⟨a, cap, h⟩
set_option maxHeartbeats 2000000 in
theorem diff_any (va vb : Value) (xs ys : List Fl) (w : World) (hA : FsAt w va xs) (hB : FsAt w vb ys) (hx : Few xs) (hy : Few ys) :
  Calls Tryz.prog 93 #[va, vb] w fun e w' => ∃ u v, e = .returned (.tuple #[u, v]) ∧ FsAt w' u (srt (lft ys xs) (lft ys xs).length) ∧ FsAt w' v (srt (lft xs ys) (lft xs ys).length) ∧ Below w.heap.size w w' := by
 have HA := hide hA
 have HB := hide hB
 have HX := hide hx
 have HY := hide hy
 obtain ⟨a, cap, rfl⟩ := fs_slice hA
 obtain ⟨a2, cap2, rfl⟩ := fs_slice hB
 clear hA hB hx hy
 go_enter Tryz.func93, Tryz.ntmps93
 go_wp2_with fail
 refine (withoutF_any _ _ ys xs _ HB.out HA.out HY.out HX.out).mono ?_
 rintro e w1 ⟨u1, rfl, hu1, hb1⟩
 have HU1 := hide hu1
 obtain ⟨p1, c1, rfl⟩ := fs_slice hu1
 clear hu1
 go_wp2_with fail
 refine (sort_any _ (lft ys xs) _ HU1.out HY.out.lft.1 HY.out.lft.2).mono ?_
 rintro e w2 ⟨u2, rfl, hu2, hb2⟩
 have HU2 := hide hu2
 obtain ⟨p2, c2, rfl⟩ := fs_slice hu2
 have hb02 := hb1.trans (hb2.mono hb1.size)
 clear hu2 hb1 hb2 HU1
 go_wp2_with fail
 refine (withoutF_any _ _ xs ys _ (HA.out.below hb02 (Nat.le_refl _)) (HB.out.below hb02 (Nat.le_refl _)) HX.out HY.out).mono ?_
 rintro e w3 ⟨u3, rfl, hu3, hb3⟩
 have HU3 := hide hu3
 obtain ⟨p3, c3, rfl⟩ := fs_slice hu3
 clear hu3
 go_wp2_with fail
 refine (sort_any _ (lft xs ys) _ HU3.out HX.out.lft.1 HX.out.lft.2).mono ?_
 rintro e w4 ⟨u4, rfl, hu4, hb4⟩
 have HU4 := hide hu4
 obtain ⟨p4, c4, rfl⟩ := fs_slice hu4
 have hb24 := hb3.trans (hb4.mono hb3.size)
 have HU5 := hide (HU2.out.below hb24 (Nat.le_refl _))
 have HBB := hide (hb02.trans (hb24.mono hb02.size))
 clear hu4 hb3 hb4 HU3 hb24 hb02 HU2
 go_wp2_with fail
 go_ret2
 exact ⟨_, _, rfl, HU5.out, HU4.out, HBB.out⟩
end Go.Proofs.YtncdininppehkaaGreat

namespace Go.Proofs.YtncdininppehkaaGreat
open Go.RowKit
set_option linter.unusedVariables false
set_option maxRecDepth 100000
theorem srt_in (l : List Fl) (x : Fl) : x ∈ srt l l.length ↔ x ∈ l := by
 rw [(srt_srt l l.length (Nat.le_refl _)).2, List.take_length]
theorem srt_same {a b : List Fl} (h : ∀ x, x ∈ a ↔ x ∈ b) : srt a a.length = srt b b.length :=
 srt_is (srt_srt a a.length (Nat.le_refl _)).1 fun x => by rw [srt_in]; exact h x
end Go.Proofs.YtncdininppehkaaGreat

namespace Go.Proofs.YtncdininppehkaaGreat
open Go.RowKit
set_option linter.unusedVariables false
set_option maxRecDepth 100000
theorem come_lo {w : World} {ad : Addr} {cap : Nat} {fs : List Fl} (h : FsAt w (.slice (some ad) fs.length cap) fs) : ∃ lc : List Fv, lc.map Fv.f = fs ∧ lc.length = fs.length ∧ (∀ x ∈ lc, Held w x) ∧ ∀ j u, (C lc)[j]? = some u → w.cell? (ad.add j) = some u := by
 obtain ⟨_, _, lo, h1, h2, h3⟩ := fs_lo h
 have hll : lo.length = fs.length := by rw [← h1]; simp
 refine ⟨lo, h1, hll, h2, ?_⟩
 rcases h3 with h | ⟨b, off, h4, _, h5⟩
 ·intro j u hj
  rw [List.eq_nil_of_length_eq_zero h] at hj
  simp [C] at hj
 ·cases h4
  exact h5
def Keeps (w : World) (u : Value) (lo : List Fv) : Prop := ∀ W : World, w.grownBy W u.ownBlock → ∀ x ∈ lo, Held W x
theorem keeps_now {w : World} {u : Value} {lo : List Fv} (h : Keeps w u lo) : ∀ x ∈ lo, Held w x := h w (grown_refl w _)
theorem keeps_without {w4 w1 : World} {u : Value} {lo : List Fv} (hh : ∀ x ∈ lo, Held w4 x) (ho : w1.ownsRow w4.heap.size 90 4 u lo.length (C lo)) (hb : Below w4.heap.size w4 w1) : Keeps w1 u lo := fun W hW x hx =>
 (hh x hx).below (hb.grown hW hb.size (own_ge ho)) (Nat.le_refl _)
theorem keeps_left {w1 : World} {B : Nat} {u : Value} {lo : List Fv} (hr : Rows2 w1 B u lo (.slice none 0 0) []) : Keeps w1 u lo := fun W hW x hx => by
 have h := hr.oks x (by simp [hx])
 have := h.1.kept hW h.2.1 h.2.2.1
 exact ⟨this.1, this.2.1⟩
theorem put_fsAt {w w1 w2 : World} {B : Nat} {u v : Value} {lo lc : List Fv} (hk : Keeps w1 u lo) (hc : ∀ x ∈ lc, Held w x) (hb : Below w.heap.size w w2) (hg : w1.grownBy w2 u.ownBlock) (ho : w2.ownsRow B 90 4 v (lo.length + lc.length) (C lo ++ C lc)) : FsAt w2 v (lo.map Fv.f ++ lc.map Fv.f) := by
 rw [← List.map_append]
 rw [← C_append, ← List.length_append] at ho
 refine own_fsAt (w0 := w) ho fun x hx => ?_
 rcases List.mem_append.1 hx with h | h
 ·exact hk w2 hg x h
 ·exact (hc x h).below hb (Nat.le_refl _)
theorem append_none (p : Option Addr) (n c : Nat) (h : n ≤ c) (w : World) (ty : TypeId) : (Builtin.append_ #[31, 31] ty #[.slice p n c, .slice none 0 0]).run Tryz.prog w = .ok (.slice p n c) w := by
 obtain ⟨i0, hi, hz0, hz1, hz2⟩ := info_parts infoFlow
 cases p <;> simp [Builtin.append_, run_underlying Tryz.underlying31, sizeOf, typeInfo, hi, Builtin.lenOf, Builtin.firstCells, h, storeCells]
theorem wpList_appendNone {ops : Array Oper} {rest : List Oper} {o : Oper} {a : Act} {Q : Exit → Act → World → Prop} {w : World} (hgd : o.guard = none) (s x : Operand)
  (ho : o.op = .call { callee := .builtin .append, args := #[s, x], argTypes := #[31, 31] }) (p : Option Addr) (n c : Nat) (h : n ≤ c) (hs : a.eval s = .slice p n c) (hx : a.eval x = .slice none 0 0)
  (hK : wpList Tryz.prog ops Q rest (a.put o.dst (.slice p n c)) w) : wpList Tryz.prog ops Q (o :: rest) a w := by
 refine wpList_plain hgd fun K hK' => ?_
 have hr := append_none p n c h w o.type
 unfold Oper.wp execOp
 simp only [ho, resolve, invoke, builtin, Sem.run_bind, Sem.run_pure, Result.andThen_ok, List.map_toArray, List.map_cons, List.map_nil, hs, hx, hr]
 exact hK' _ _ hK
theorem FsOwn.less {w : World} {B B' : Nat} {u : Value} {fs : List Fl} (h : FsOwn w B u fs) (hB : B' ≤ B) : FsOwn w B' u fs := ⟨h.1, h.2.imp id fun ⟨blk, cap, lo, e1, e2, ho, hx⟩ => ⟨blk, cap, lo, e1, e2, own_less ho hB, fun x hx' => ⟨(hx x hx').1, fun g hg => Nat.le_trans hB ((hx x hx').2.1 g hg), fun g hg => Nat.le_trans hB ((hx x hx').2.2 g hg)⟩⟩⟩
set_option maxHeartbeats 2000000 in
theorem patch_own (vl vc vg : Value) (ls cs gs : List Fl) (w : World) (hL : FsAt w vl ls) (hC : FsAt w vc cs) (hG : FsAt w vg gs) (fl : Few ls) (fc : Few cs) (fg : Few gs) (hsum : ls.length + cs.length ≤ 2000000) :
  Calls Tryz.prog 94 #[vl, vc, vg] w fun e w' => ∃ u, e = .returned u ∧ FsOwn w' w.heap.size u (srt (lft ls gs ++ cs) (lft ls gs ++ cs).length) ∧ Below w.heap.size w w' := by
 obtain ⟨i0, hi, hz0, hz1, hz2⟩ := info_parts infoFlow
 have HL := hide hL
 have HC := hide hC
 have HG := hide hG
 have HFL := hide fl
 have HFG := hide fg
 have HFW : Hid (Few (lft ls gs ++ cs)) := by
  refine hide ⟨?_, fun f hf => ?_⟩
  ·have := lft_length ls gs
   rw [List.length_append]; omega
  ·rcases List.mem_append.1 hf with h | h
   ·exact fl.2 f (lft_mem h)
   ·exact fc.2 f h
 obtain ⟨a, cap, rfl⟩ := fs_slice hL
 obtain ⟨a3, cap3, rfl⟩ := fs_slice hG
 obtain ⟨a2, cap2, rfl, hn2, hL2⟩ := hC
 have hlls := fl.1
 clear hL hG fl fc fg
 cases a2 with
 | none =>
  obtain rfl := hn2 rfl
  have h0 : cs.length = 0 := by
   rcases hL2 with h | ⟨_, _, h, _⟩
   ·exact h
   ·simp at h
  obtain rfl := List.eq_nil_of_length_eq_zero h0
  clear hL2 h0 hn2
  rw [show ([] : List Fl).length = 0 from rfl]
  rw [List.append_nil] at HFW ⊢
  go_enter Tryz.func94, Tryz.ntmps94
  go_wp2_with fail
  refine (withoutF_any _ _ ls gs _ HL.out HG.out HFL.out HFG.out).mono ?_
  rintro e w1 ⟨u, rfl, hu, hb1⟩
  have HU := hide hu
  obtain ⟨p1, c1, rfl, hpn, hpl⟩ := hu
  have hc1 : (lft ls gs).length ≤ c1 := by
   rcases hpl with h | ⟨_, _, _, h, _⟩
   ·omega
   ·exact h
  clear hpl hpn
  go_wp2_with (at_builtin; refine wpList_appendNone rfl _ _ rfl p1 (lft ls gs).length c1 hc1 rfl rfl ?_)
  refine (sort_own _ (lft ls gs) _ HU.out HFW.out.1 HFW.out.2).mono ?_
  rintro e w2 ⟨u2, rfl, hu2, hb2⟩
  have HU2 := hide (hu2.less hb1.size)
  obtain ⟨p2, c2, rfl⟩ := fs_slice hu2.1
  have HB2 := hide (hb1.trans (hb2.mono hb1.size))
  clear hu2 hb1 hb2 HU
  go_wp2_with fail
  go_ret
  exact ⟨_, rfl, HU2.out, HB2.out⟩
 | some ad =>
  obtain ⟨lc, hlc, hlcl, hhc, hcell⟩ := come_lo HC.out
  have HLC := hide hlc
  have HHC := hide hhc
  have HCL := hide hcell
  have HCN : Hid ((C lc).length = cs.length * 4) := by
   rw [← hlcl]; exact hide (C_len lc)
  have HLL := hide hlcl
  clear hL2 hn2 hlc hhc hcell hlcl
  go_enter Tryz.func94, Tryz.ntmps94
  go_wp2_with fail
  refine (without_any _ _ ls gs _ HL.out HG.out HFL.out.1 HFG.out.1 HFL.out.2 HFG.out.2).mono ?_
  rintro e w1 ⟨u, rfl, lo, hm, w4, hh, ho, hb4, hb41⟩
  have HM := hide hm
  have HKP := hide (keeps_without hh ho hb41)
  have HO := hide ho
  have hb1 := hb4.trans (hb41.mono hb4.size)
  have hs4 := hb4.size
  have hs41 := hb41.size
  have hll : lo.length ≤ ls.length := by
   have := congrArg List.length hm
   rw [List.length_map] at this
   rw [this]; exact List.length_filter_le _ _
  have HCW : Hid (∀ j u, (C lc)[j]? = some u → w1.cell? (ad.add j) = some u) := fun j u hj => by
   have h := HCL.out j u hj
   have hsp : (ad.add j).spot = none := World.cell?_spot h
   rcases hq : ad.add j with ⟨bb, oo, ss⟩
   rw [hq] at h hsp
   simp only at hsp
   subst hsp
   exact cell_below h hb1 (Nat.le_refl _)
  clear hm hh ho hb4 hb41
  go_wp2_with (at_builtin; refine wpList_append_own _ rfl _ _ 31 rfl w4.heap.size 90 i0 _ 4 64 Tryz.underlying31 hi hz0 hz1 hz2 rfl (by decide) _ _ _ rfl (unhide HO) ad cs.length cap2 (C lc) rfl (unhide HCN) (unhide HCW) (held_one (unhide HHC)) ?a1 ?a2 ?a3 ?_)
  case a1 => unfold maxLen; omega
  case a2 => omega
  case a3 => exact hs41
  intro v2 w2 ho2 hg2 _
  have hb2 : Below w.heap.size w w2 := hb1.grown hg2 hb1.size (fun g e => Nat.le_trans hs4 (own_ge HO.out g e))
  have HF2 : Hid (FsAt w2 v2 (lft ls gs ++ cs)) := by
   have := put_fsAt HKP.out HHC.out hb2 hg2 (by rw [HLL.out]; exact ho2)
   rw [HM.out, HLC.out] at this
   exact hide this
  obtain ⟨p2, c2, hv2⟩ := fs_slice HF2.out
  have HSRT := hide (sort_own v2 (lft ls gs ++ cs) w2 HF2.out HFW.out.1 HFW.out.2)
  obtain ⟨N, hN⟩ : ∃ N, N = (lft ls gs ++ cs).length := ⟨_, rfl⟩
  rw [← hN] at hv2
  subst hv2
  clear hN ho2 hg2 HO HKP HCW HCL hb1 HF2
  go_wp2_with fail
  refine (unhide HSRT).mono ?_
  rintro e w3 ⟨u3, rfl, hu3, hb3⟩
  have HU3 := hide (hu3.less hb2.size)
  obtain ⟨p3, c3, hv3⟩ := fs_slice hu3.1
  obtain ⟨N3, hN3⟩ : ∃ N3, N3 = (srt (lft ls gs ++ cs) (lft ls gs ++ cs).length).length := ⟨_, rfl⟩
  rw [← hN3] at hv3
  subst hv3
  have HB3 := hide (hb2.trans (hb3.mono hb2.size))
  clear hu3 hb2 hb3 hN3 HSRT
  go_wp2_with fail
  go_ret
  exact ⟨_, rfl, HU3.out, HB3.out⟩
theorem patch_any (vl vc vg : Value) (ls cs gs : List Fl) (w : World) (hL : FsAt w vl ls) (hC : FsAt w vc cs) (hG : FsAt w vg gs) (fl : Few ls) (fc : Few cs) (fg : Few gs) (hsum : ls.length + cs.length ≤ 2000000) :
  Calls Tryz.prog 94 #[vl, vc, vg] w fun e w' => ∃ u, e = .returned u ∧ FsAt w' u (srt (lft ls gs ++ cs) (lft ls gs ++ cs).length) ∧ Below w.heap.size w w' :=
 (patch_own vl vc vg ls cs gs w hL hC hG fl fc fg hsum).mono fun e w' ⟨u, h1, h2, h3⟩ => ⟨u, h1, h2.1, h3⟩
end Go.Proofs.YtncdininppehkaaGreat

namespace Go.Proofs.YtncdininppehkaaGreat
set_option linter.unusedVariables false
theorem lft_in (xs ys : List Fl) (x : Fl) : x ∈ lft xs ys ↔ x ∈ xs ∧ ¬x ∈ ys := by
 unfold lft
 rw [List.mem_filter]
 constructor
 ·rintro ⟨h1, h2⟩
  refine ⟨h1, fun h => ?_⟩
  rw [(th_mem x ys).2 h] at h2
  simp at h2
 ·rintro ⟨h1, h2⟩
  refine ⟨h1, ?_⟩
  cases h : th x ys ys.length
  ·rfl
  ·exact absurd ((th_mem x ys).1 h) h2
theorem srt_self {b : List Fl} (h : Srt b) : srt b b.length = b := (srt_is h fun _ => Iff.rfl).symm
theorem lft_srt {xs : List Fl} (ys : List Fl) (h : Srt xs) : Srt (lft xs ys) := List.Pairwise.filter _ h
theorem lft_none (b : List Fl) : lft b b = [] := by
 refine List.eq_nil_iff_forall_not_mem.2 fun x hx => ?_
 obtain ⟨h1, h2⟩ := (lft_in b b x).1 hx
 exact h2 h1
theorem patch_leads {a b : List Fl} (ha : Srt a) (hb : Srt b) : srt (lft a (lft a b) ++ lft b a) (lft a (lft a b) ++ lft b a).length = b := by
 refine (srt_is hb fun x => ?_).symm
 rw [List.mem_append, lft_in, lft_in, lft_in]
 constructor
 ·intro h
  by_cases hx : x ∈ a
  ·exact .inl ⟨hx, fun k => k.2 h⟩
  ·exact .inr ⟨h, hx⟩
 ·rintro (⟨h1, h2⟩ | ⟨h1, _⟩)
  ·exact Classical.not_not.1 fun k => h2 ⟨h1, k⟩
  ·exact h1
theorem filter_parts {α : Type} (p : α → Bool) : ∀ l : List α, (l.filter p).length + (l.filter fun x => !p x).length = l.length
 | [] => rfl
 | x :: r => by
  have ih := filter_parts p r
  cases h : p x <;> simp [h] <;> omega
theorem patch_counts {a b : List Fl} (ha : Srt a) (hb : Srt b) : a.length + (lft b a).length = b.length + (lft a b).length := by
 have h1 := filter_parts (fun f => th f b b.length) a
 have h2 := filter_parts (fun f => th f a a.length) b
 have e : a.filter (fun f => th f b b.length) = b.filter (fun f => th f a a.length) := by
  refine srt_unique _ _ (List.Pairwise.filter _ ha) (List.Pairwise.filter _ hb) fun x => ?_
  rw [List.mem_filter, List.mem_filter, th_mem, th_mem]
  exact ⟨fun ⟨p, q⟩ => ⟨q, p⟩, fun ⟨p, q⟩ => ⟨q, p⟩⟩
 rw [e] at h1
 unfold lft
 omega
end Go.Proofs.YtncdininppehkaaGreat

namespace Go.Proofs.YtncdininppehkaaGreat
open Go.RowKit
set_option linter.unusedVariables false
set_option maxRecDepth 100000
theorem ms_keep {X : Nat → Prop} {w : World} {v : Value} {ms : List Mt} (h : MsAt w v ms) (hX : ∀ g, v.ownBlock = some g → ¬ X g) : Kept X w fun w' => MsAt w' v ms := fun w' hk => by
 obtain ⟨a, cap, rfl, hn, h0 | ⟨b, off, rfl, hc, hL⟩⟩ := h
 ·exact ⟨a, cap, rfl, hn, .inl h0⟩
 ·refine ⟨_, cap, rfl, hn, .inr ⟨b, off, rfl, hc, fun i hi => ?_⟩⟩
  obtain ⟨h1, h2, h3⟩ := hL i hi
  have hb := hk.2 b (hX b rfl) (cell_in h1)
  rw [cell_same hb, cell_same hb, cell_same hb]
  exact ⟨h1, h2, h3⟩
theorem ds_keep {X : Nat → Prop} {w : World} {v : Value} {ds : List Do} (h : DsAt w v ds) (hX : ∀ g, v.ownBlock = some g → ¬ X g) : Kept X w fun w' => DsAt w' v ds := fun w' hk => by
 obtain ⟨a, cap, rfl, hn, h0 | ⟨b, off, rfl, hc, hL⟩⟩ := h
 ·exact ⟨a, cap, rfl, hn, .inl h0⟩
 ·refine ⟨_, cap, rfl, hn, .inr ⟨b, off, rfl, hc, fun i hi => ?_⟩⟩
  obtain ⟨h1, h2, h3⟩ := hL i hi
  have hb := hk.2 b (hX b rfl) (cell_in h1)
  rw [cell_same hb, cell_same hb, cell_same hb]
  exact ⟨h1, h2, h3⟩
theorem fsOwn_keep {X : Nat → Prop} {w : World} {B : Nat} {u : Value} {fs : List Fl} (h : FsOwn w B u fs) (hX : ∀ k, X k → k < B) : Kept X w fun w' => FsAt w' u fs := fun w' hk => by
 have hno : ∀ g, B ≤ g → ¬ X g := fun g hg hx => by have := hX g hx; omega
 rcases h.2 with h0 | ⟨blk, cap, lo, rfl, rfl, ho, hx⟩
 ·obtain ⟨a, cap, e, hn, _⟩ := h.1
  exact ⟨a, cap, e, hn, .inl h0⟩
 ·have ho' := own_keep ho (fun g hg => hno g (own_ge ho g hg)) w' hk
  exact row_fsAt ho' (fun x hx' => ⟨ms_keep (hx x hx').1.1 (fun g hg => hno g ((hx x hx').2.1 g hg)) w' hk, ds_keep (hx x hx').1.2 (fun g hg => hno g ((hx x hx').2.2 g hg)) w' hk⟩)
theorem KAt.put {w : World} {ks : List Value} {K : Nat → List Fl} (h : KAt w ks K) {m : Nat} (hm : m < 6) {u : Value} {fs : List Fl} (hu : FsAt w u fs) (hl : fs.length ≤ 140737488355328) : KAt w (ks.set m u) (fun i => if i = m then fs else K i) := by
 refine ⟨by rw [List.length_set]; exact h.1, fun i hi v hv => ?_⟩
 by_cases e : i = m
 ·subst e
  rw [List.getElem?_set_self (by rw [h.1]; exact hi)] at hv
  cases hv
  simp only [if_true]
  exact ⟨hu, hl⟩
 ·rw [List.getElem?_set_ne (Ne.symm e)] at hv
  simp only [if_neg e]
  exact h.2 i hi v hv
def Kok (K : Nat → List Fl) : Prop := ∀ i, (Srt (K i) ∧ (K i).length ≤ 100000) ∧ Few (K i)
def synK (S : List Sw) (P : List Pr) (A : List Ac) (K : Nat → List Fl) (ch : Int) : Nat → List Fl := if cmE S P A ch = 0 then (fun i => if i = ch.toNat then cmL S P A ch else K i) else K
theorem cmE_zero {S : List Sw} {P : List Pr} {A : List Ac} {ch : Int} (h : cmE S P A ch = 0) : may S P A = true ∧ 0 ≤ ch ∧ ch ≤ 5 := by
 unfold cmE at h
 by_cases hm : may S P A = true
 ·rw [if_pos hm] at h
  by_cases hc : 0 ≤ ch ∧ ch ≤ 5
  ·exact ⟨hm, hc⟩
  ·rw [if_neg hc] at h; omega
 ·rw [if_neg hm] at h; omega
theorem comp_len {S : List Sw} {P : List Pr} {A : List Ac} (ch : Int) (h : may S P A = true) : (comp S P A ch).length ≤ 10000 := by
 obtain ⟨h1, h2, h3⟩ := may_parts h
 have a1 := (sw_all h1).1
 have a2 := (pr_all h1 h2).1
 have a3 := (ac_all h3).1
 rw [comp_to]
 have b1 := portsTo_len P (P.filter (hereB ch)) (P.filter (hereB ch)).length
 have b2 := List.length_filter_le (hereB ch) P
 have b3 := List.length_filter_le (fun s : Sw => (P.filter (hereB ch)).any (isOfB s.i)) S
 have b4 := switchesTo_len S P A ch (portsTo P (P.filter (hereB ch)) (P.filter (hereB ch)).length) (S.filter fun s => (P.filter (hereB ch)).any (isOfB s.i)) a2 a3 _ (Nat.le_refl _)
 omega
theorem small_of {f : Fl} (h : flFault f = 0) : Small f := by
 by_cases hs : 12 < f.ms.length ∨ 100 < f.ds.length
 ·rw [flFault_size hs] at h; omega
 ·exact ⟨by omega, by omega⟩
theorem cmL_ok {S : List Sw} {P : List Pr} {A : List Ac} {ch : Int} (h : cmE S P A ch = 0) : (Srt (cmL S P A ch) ∧ (cmL S P A ch).length ≤ 100000) ∧ Few (cmL S P A ch) := by
 obtain ⟨hm, c0, c1⟩ := cmE_zero h
 have hl := comp_len ch hm
 have hf : Few (comp S P A ch) := ⟨by omega, fun f hf => small_of (comp_may hm c0 c1 f hf)⟩
 unfold cmL
 rw [if_pos h]
 have := srt_length (comp S P A ch) (comp S P A ch).length
 exact ⟨⟨(srt_srt _ _ (Nat.le_refl _)).1, by omega⟩, hf.srt⟩
theorem Kok.syn {K : Nat → List Fl} (h : Kok K) (S : List Sw) (P : List Pr) (A : List Ac) (ch : Int) : Kok (synK S P A K ch) := by
 unfold synK
 split
 ·rename_i he
  intro i
  by_cases e : i = ch.toNat
  ·simp only [if_pos e]; exact cmL_ok he
  ·simp only [if_neg e]; exact h i
 ·exact h
set_option maxHeartbeats 4000000 in
theorem synced_any (S : List Sw) (P : List Pr) (A : List Ac) (s1 p1 a1 : Option Addr) (s2 p2 a2 : Nat) (K : Nat → List Fl) (ks : List Value) (ch : Int) (X : Nat → Prop) (w : World) (hX : ∀ k, X k → k < w.heap.size) (hK : Kept X w fun W => KAt W ks K) (hC : CfAt w (.slice s1 S.length s2) (.slice p1 P.length p2) (.slice a1 A.length a2) S P A) (h1 : S.length ≤ 1000) (h2 : P.length ≤ 1000) (h3 : A.length ≤ 1000) (hSA : ∀ s b, SortsAc (rulesB A s b)) (hO : Kok K) :
  Calls Tryz.prog 47 #[.agg ks.toArray, .agg #[.slice s1 S.length s2, .slice p1 P.length p2, .slice a1 A.length a2], .int .i64 ch] w fun e w' => ∃ ks', e = .returned (.tuple #[.agg ks'.toArray, .int .i64 (cmE S P A ch)]) ∧ Kept X w' (fun W => KAt W ks' (synK S P A K ch)) ∧ Below w.heap.size w w' := by
 have HSA := hide hSA
 have HO := hide hO
 have HX := hide hX
 have HSK : Hid (synK S P A K ch = if cmE S P A ch = 0 then (fun i => if i = ch.toNat then cmL S P A ch else K i) else K) := rfl
 have HL : Hid (ks.length = 6) := hide hK.here.1
 have HON := hide (ones6 hK.here)
 obtain ⟨W0, hW0⟩ : ∃ W0, W0 = ((w.alloc (.cells ks.toArray 106)).alloc (.cells #[.slice s1 S.length s2, .slice p1 P.length p2, .slice a1 A.length a2] 29)).alloc (.cells #[.slice none 0 0, .slice none 0 0, .slice none 0 0, .slice none 0 0, .slice none 0 0, .slice none 0 0] 106) := ⟨_, rfl⟩
 have kb : Below w.heap.size w W0 := by rw [hW0]; exact (((Below.refl _ w).alloc (Nat.le_refl _) _).alloc (by simp) _).alloc (by simp; omega) _
 have HB0 : Hid (Box W0 w.heap.size ks) := by rw [hW0]; exact hide (((Box.new w ks 106).alloc _).alloc _)
 have HB1 : Hid (Box W0 (w.heap.size + 1) [.slice s1 S.length s2, .slice p1 P.length p2, .slice a1 A.length a2]) := by rw [hW0]; have h := (Box.new (w.alloc (.cells ks.toArray 106)) [.slice s1 S.length s2, .slice p1 P.length p2, .slice a1 A.length a2] 29).alloc (.cells #[.slice none 0 0, .slice none 0 0, .slice none 0 0, .slice none 0 0, .slice none 0 0, .slice none 0 0] 106); simpa using hide h
 have HB2 : Hid (Box W0 (w.heap.size + 1 + 1) [.slice none 0 0, .slice none 0 0, .slice none 0 0, .slice none 0 0, .slice none 0 0, .slice none 0 0]) := by rw [hW0]; have h := Box.new ((w.alloc (.cells ks.toArray 106)).alloc (.cells #[.slice s1 S.length s2, .slice p1 P.length p2, .slice a1 A.length a2] 29)) [.slice none 0 0, .slice none 0 0, .slice none 0 0, .slice none 0 0, .slice none 0 0, .slice none 0 0] 106; simpa using hide h
 have HW0 : Hid (((w.alloc (.cells ks.toArray 106)).alloc (.cells #[.slice s1 S.length s2, .slice p1 P.length p2, .slice a1 A.length a2] 29)).alloc (.cells #[.slice none 0 0, .slice none 0 0, .slice none 0 0, .slice none 0 0, .slice none 0 0, .slice none 0 0] 106) = W0) := hW0.symm
 clear hW0
 obtain ⟨X', hX'⟩ : ∃ X' : Nat → Prop, X' = fun k => X k ∨ (w.heap.size ≤ k ∧ k < w.heap.size + 3) := ⟨_, rfl⟩
 have HX1 : Hid (∀ k, X k → X' k) := by rw [hX']; exact hide (fun k h => .inl h)
 have HX2 : Hid (∀ k, w.heap.size ≤ k → k < w.heap.size + 3 → X' k) := by rw [hX']; exact hide (fun k h h' => .inr ⟨h, h'⟩)
 have HX3 : Hid (∀ k, X' k → k < w.heap.size + 3) := by rw [hX']; exact hide (fun k h => by rcases h with h | h; have := HX.out k h; omega; exact h.2)
 have HKA := hide ((hK.but (X' := X') (fun k h => by rw [hX'] at h; rcases h with h | h; exact .inl h; exact .inr h.1)).below kb)
 clear hX'
 have HC := hide (hC.below kb (Nat.le_refl _))
 have HCM := hide (compile_any S P A s1 p1 a1 s2 p2 a2 ch W0 HC.out (by omega) (by omega) (by omega) HSA.out (fun hm c0 c1 f hf => small_of (comp_may hm c0 c1 f hf)))
 have HFL := hide (fun h => cmL_ok (S := S) (P := P) (A := A) (ch := ch) h)
 have HCZ := hide (fun h => cmE_zero (S := S) (P := P) (A := A) (ch := ch) h)
 clear hK hC hSA hO hX
 generalize cmE S P A ch = E at *
 generalize cmL S P A ch = L at *
 go_enter Tryz.func47, Tryz.ntmps47
 go_wp2_with (first | rw [HW0.out] | (refine wpList_load_mid rfl 29 (.tmp 4) rfl (w.heap.size + 1) 0 rfl _ _ HB1.out.range Tryz.underlying29 rfl sizeConf ?_))
 refine (unhide HCM).mono ?_
 rintro e w1 ⟨u1, rfl, hu1, hb1⟩
 have HU1 := hide hu1
 obtain ⟨q1, c1, rfl⟩ := fs_slice hu1
 have s0 := HB2.out.lt
 replace HB0 := hide (HB0.out.below hb1)
 replace HB2 := hide (HB2.out.below hb1)
 replace HKA := hide (HKA.out.below hb1)
 replace kb := kb.trans (hb1.mono kb.size)
 have s1' := hb1.size
 clear hu1 hb1 HCM HC HB1 HSA
 by_cases hE : E = 0
 ·subst hE
  obtain ⟨hm, c0, c1'⟩ := HCZ.out rfl
  have HLK := hide (HFL.out rfl)
  obtain ⟨m, rfl⟩ := Int.eq_ofNat_of_zero_le c0
  have hm6 : m < 6 := by omega
  clear hm HCZ HFL HW0
  simp only [Int.toNat_natCast, if_true] at HSK
  obtain ⟨kv, hkv⟩ := six_at HL.out hm6
  have HF := hide (HKA.out.here.2 m hm6 kv hkv).1
  have ck := HB0.out.cell m kv hkv
  obtain ⟨fa, fc, rfl⟩ := fs_slice HF.out
  have q0 : (0 : Int) ≤ (m : Int) := by omega
  have q6 : (m : Int) < 6 := by omega
  have HKM := hide (HO.out m)
  go_wp2_with fail
  refine (diff_any _ _ (K m) L w1 HF.out HU1.out HKM.out.2 HLK.out.2).mono ?_
  rintro e w2 ⟨u2, u3, rfl, hu2, hu3, hb2⟩
  rw [srt_self (lft_srt _ HLK.out.1.1)] at hu2
  rw [srt_self (lft_srt _ HKM.out.1.1)] at hu3
  have HU2 := hide hu2
  have HU3 := hide hu3
  obtain ⟨q2, c2, rfl⟩ := fs_slice hu2
  obtain ⟨q3, c3, rfl⟩ := fs_slice hu3
  replace HF := hide (HF.out.below hb2 (Nat.le_refl _))
  replace HB0 := hide (HB0.out.below hb2)
  replace HB2 := hide (HB2.out.below hb2)
  replace HKA := hide (HKA.out.below hb2)
  replace kb := kb.trans (hb2.mono kb.size)
  replace ck := HB0.out.cell m _ hkv
  have s2' := hb2.size
  clear hu2 hu3 hb2 HU1
  go_wp2_with fail
  refine (patch_own _ _ _ (K m) (lft L (K m)) (lft (K m) L) w2 HF.out HU2.out HU3.out HKM.out.2 HLK.out.2.lft HKM.out.2.lft (by have := HKM.out.1.2; have := HLK.out.1.2; have := lft_length L (K m); omega)).mono ?_
  rintro e w3 ⟨u4, rfl, hu4, hb3⟩
  rw [patch_leads HKM.out.1.1 HLK.out.1.1] at hu4
  have HU4 := hide (fsOwn_keep (X := X') hu4 (fun k hk => by have := HX3.out k hk; omega))
  obtain ⟨q4, c4, hv4⟩ := fs_slice hu4.1
  subst hv4
  replace HB0 := hide (HB0.out.below hb3)
  replace HB2 := hide (HB2.out.below hb3)
  replace HKA := hide (HKA.out.below hb3)
  replace kb := kb.trans (hb3.mono kb.size)
  have fz := HB0.out.2 m (by rw [HL.out]; exact hm6)
  have s3' := hb3.size
  have hLl : L.length ≤ 140737488355328 := by have := HLK.out.1.2; omega
  obtain ⟨kn, hkn⟩ : ∃ kn, kn = ks.set m (.slice q4 L.length c4) := ⟨_, rfl⟩
  have HKN : Hid (Kept X' w3 fun W => KAt W kn (synK S P A K m)) := by rw [HSK.out, hkn]; exact hide (fun W hk => (HKA.out W hk).put hm6 (HU4.out W hk) hLl)
  have HKL : Hid (kn.length = 6) := hide HKN.out.here.1
  have HKO := hide (ones6 HKN.out.here)
  obtain ⟨W4, hW4⟩ : ∃ W4, W4 = w3.setCell ⟨w.heap.size, m, none⟩ (.slice q4 L.length c4) := ⟨_, rfl⟩
  have HN0 : Hid (Box W4 w.heap.size kn) := by rw [hW4, hkn]; exact hide (HB0.out.set1 m _ (by rw [HL.out]; exact hm6))
  have HN2 : Hid (Box W4 (w.heap.size + 1 + 1) [.slice none 0 0, .slice none 0 0, .slice none 0 0, .slice none 0 0, .slice none 0 0, .slice none 0 0]) := by rw [hW4]; exact hide (HB2.out.set1_far (by omega) m _)
  replace HKN : Hid (Kept X' W4 fun W => KAt W kn (synK S P A K m)) := by rw [hW4]; exact hide (HKN.out.set (HX2.out _ (Nat.le_refl _) (by omega)) m [_])
  have kb4 : Below w.heap.size w W4 := by rw [hW4]; exact kb.setCell (p := ⟨w.heap.size, m, none⟩) (Nat.le_refl _) _
  have HW4 : Hid (w3.setCell ⟨w.heap.size, m, none⟩ (.slice q4 L.length c4) = W4) := hW4.symm
  clear hW4 hkn
  replace ck := HB0.out.cell m _ hkv
  clear hu4 hb3 HU2 HU3 HF HU4 HKA HB0 HB2 kb
  go_wp2_with (first | rw [HW4.out] | (refine wpList_load_mid rfl 106 (.tmp 3) rfl w.heap.size 0 rfl _ _ HN0.out.range Tryz.underlying106 rfl (by rw [HKL.out]; exact sizeKn) ?_) | (refine wpList_store_mid rfl 106 (.tmp 6) (.tmp 38) rfl (w.heap.size + 1 + 1) 0 _ rfl rfl (by show World.there _ _ _ kn.length; rw [HKL.out]; exact HN2.out.fit 6 rfl) (by show _ = some kn.length; rw [HKL.out]; exact sizeKn) HKO.out ?_))
  refine bodyPost_ret (v := .tuple #[.agg kn.toArray, .int .i64 0]) ?_ rfl ⟨kn, rfl, ?_, setCells_below _ (by omega) _ _ kb4⟩
  ·exact results_ct (cs := kn) Tryz.results47 rfl (HN2.out.set kn (by rw [HKL.out]; rfl)).range Tryz.underlying106 rfl (by rw [HKL.out]; exact sizeKn)
  ·exact (HKN.out.set (b := w.heap.size + 1 + 1) (HX2.out _ (by omega) (by omega)) 0 kn).but (fun k hk => .inl (HX1.out k hk))
 ·have hEb : (E != 0) = true := by simpa using hE
  rw [if_neg hE] at HSK
  go_wp2_with (first | (refine wpList_load_mid rfl 106 (.tmp 3) rfl w.heap.size 0 rfl _ _ HB0.out.range Tryz.underlying106 rfl (by rw [HL.out]; exact sizeKn) ?_) | (refine wpList_store_mid rfl 106 (.tmp 6) (.tmp 20) rfl (w.heap.size + 1 + 1) 0 _ rfl rfl (by show World.there _ _ _ ks.length; rw [HL.out]; exact HB2.out.fit 6 rfl) (by show _ = some ks.length; rw [HL.out]; exact sizeKn) HON.out ?_))
  refine bodyPost_ret (v := .tuple #[.agg ks.toArray, .int .i64 E]) ?_ rfl ⟨ks, rfl, ?_, setCells_below _ (by omega) _ _ kb⟩
  ·exact results_ct (cs := ks) Tryz.results47 rfl (HB2.out.set ks (by rw [HL.out]; rfl)).range Tryz.underlying106 rfl (by rw [HL.out]; exact sizeKn)
  ·rw [HSK.out]
   exact (HKA.out.set (b := w.heap.size + 1 + 1) (HX2.out _ (by omega) (by omega)) 0 ks).but (fun k hk => .inl (HX1.out k hk))
end Go.Proofs.YtncdininppehkaaGreat
