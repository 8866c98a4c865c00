/-
  What flow.Run answers.
-/
import Derived.Test.YtonhfgdnkkkikacFr
import Derived.Test.YtonhfgdnkkkikacWe
import Derived.Test.YtonhfgdnkkkikacFc
import Derived.Test.YtonhfgdnkkkikacFc2
import Derived.Test.YtonhfgdnkkkikacFc3
import Derived.Deep.RegionLaw
import Derived.Deep.AppendLies
namespace Go.Proofs.Ytonhfgdnkkkikac
open Go.RowKit
set_option linter.unusedVariables false
set_option maxRecDepth 100000

theorem infoSent : (Try.prog.info? 49).map (fun i => (i.zero, i.size, i.bytes)) = some (some (.agg #[.int .i64 0, .int .i64 0, .int .i64 0, .int .i64 0, .int .i64 0, .int .i64 0, .int .i64 0, .int .i64 0, .int .i64 0, .int .i64 0, .int .i64 0, .int .i64 0, .string ByteArray.empty]), 13, 112) := by kernel_rfl

theorem pkt_parts {F : List Int} {n : Nat} (h : pktFault F n = 0) : F.all wordB = true ∧ n ≤ 40 := by
  unfold pktFault at h
  split at h
  · rename_i h1
    split at h
    · omega
    · exact ⟨h1, by omega⟩
  · omega
theorem len10 {F : List Int} (h : F.length = 10) : ∃ f0 f1 f2 f3 f4 f5 f6 f7 f8 f9, F = [f0, f1, f2, f3, f4, f5, f6, f7, f8, f9] := by
  match F, h with
  | [f0, f1, f2, f3, f4, f5, f6, f7, f8, f9], _ => exact ⟨f0, f1, f2, f3, f4, f5, f6, f7, f8, f9, rfl⟩

/-- A packet lies at a block that may be written. -/
def PkF (w : World) (b : Nat) (F : List Int) (body : ByteArray) : Prop := PkAt w b F body ∧ ∀ i, w.frozen? ⟨b, i, none⟩ = false
theorem PkF.below {w w' : World} {b B : Nat} {F : List Int} {body : ByteArray} (h : PkF w b F body) (hb : Below B w w') (hB : b < B) : PkF w' b F body :=
  ⟨h.1.below hb hB, fun i => (hb.frozen (p := ⟨b, i, none⟩) hB).trans (h.2 i)⟩
theorem PkF.cells {w : World} {b : Nat} {body : ByteArray} {f0 f1 f2 f3 f4 f5 f6 f7 f8 f9 : Int} (h : PkF w b [f0, f1, f2, f3, f4, f5, f6, f7, f8, f9] body) : w.cell? ⟨b, 0, none⟩ = some (.int .i64 f0) ∧ w.cell? ⟨b, 1, none⟩ = some (.int .i64 f1) ∧ w.cell? ⟨b, 2, none⟩ = some (.int .i64 f2) ∧ w.cell? ⟨b, 3, none⟩ = some (.int .i64 f3) ∧ w.cell? ⟨b, 4, none⟩ = some (.int .i64 f4) ∧ w.cell? ⟨b, 5, none⟩ = some (.int .i64 f5) ∧ w.cell? ⟨b, 6, none⟩ = some (.int .i64 f6) ∧ w.cell? ⟨b, 7, none⟩ = some (.int .i64 f7) ∧ w.cell? ⟨b, 8, none⟩ = some (.int .i64 f8) ∧ w.cell? ⟨b, 9, none⟩ = some (.int .i64 f9) ∧ w.cell? ⟨b, 10, none⟩ = some (.string body) :=
  ⟨h.1.2.1 0 (by omega), h.1.2.1 1 (by omega), h.1.2.1 2 (by omega), h.1.2.1 3 (by omega), h.1.2.1 4 (by omega), h.1.2.1 5 (by omega), h.1.2.1 6 (by omega), h.1.2.1 7 (by omega), h.1.2.1 8 (by omega), h.1.2.1 9 (by omega), h.1.2.2⟩
theorem ownB {w w' : World} {B e size n : Nat} {v : Value} {xs : List Value} (h : w.ownsRow B e size v n xs) (hb : Below w.heap.size w w') : w'.ownsRow B e size v n xs := by
  refine h.kept (w' := w') (row := none) ⟨hb.os, hb.tape, hb.output, hb.size, fun k hk _ => hb.block k hk⟩ ?_
  cases v.ownBlock
  · exact .inl rfl
  · exact .inr (by simp)
theorem addf (b j : Nat) : (⟨b, 0, none⟩ : Addr).add j = ⟨b, j, none⟩ := by by_cases h : j = 0 <;> simp [Addr.add, h]
theorem news13 (w : World) (t : TypeId) (dk dn f0 f1 f2 f3 f4 f5 f6 f7 f8 f9 : Int) (body : ByteArray) : ∀ j u, (S body [⟨dk, dn, [f0, f1, f2, f3, f4, f5, f6, f7, f8, f9]⟩])[j]? = some u → (w.alloc (.cells #[.int .i64 dk, .int .i64 dn, .int .i64 f0, .int .i64 f1, .int .i64 f2, .int .i64 f3, .int .i64 f4, .int .i64 f5, .int .i64 f6, .int .i64 f7, .int .i64 f8, .int .i64 f9, .string body] t)).cell? ((⟨w.heap.size, 0, none⟩ : Addr).add j) = some u := by
  intro j u hj
  have hl : j < 13 := by
    rcases Nat.lt_or_ge j 13 with h | h
    · exact h
    · rw [List.getElem?_eq_none (by simpa [S] using h)] at hj; simp at hj
  have hc : j = 0 ∨ j = 1 ∨ j = 2 ∨ j = 3 ∨ j = 4 ∨ j = 5 ∨ j = 6 ∨ j = 7 ∨ j = 8 ∨ j = 9 ∨ j = 10 ∨ j = 11 ∨ j = 12 := by omega
  rcases hc with rfl | rfl | rfl | rfl | rfl | rfl | rfl | rfl | rfl | rfl | rfl | rfl | rfl
  all_goals (simp [S] at hj; subst hj; simp [Addr.add])
theorem S_one (body : ByteArray) (l : List Sn) : ∀ u ∈ S body l, u.oneCell' = true := by
  intro u hu
  simp only [S, List.mem_flatMap] at hu
  obtain ⟨x, _, hu⟩ := hu
  simp only [List.mem_cons, List.not_mem_nil, or_false] at hu
  rcases hu with rfl | rfl | rfl | rfl | rfl | rfl | rfl | rfl | rfl | rfl | rfl | rfl | rfl
  all_goals rfl
theorem PkF.set1 {w : World} {b i : Nat} {F : List Int} {body : ByteArray} (h : PkF w b F body) (x : Int) (hi : i < 10) : PkF (w.setCell ⟨b, i, none⟩ (.int .i64 x)) b (F.set i x) body := by
  obtain ⟨⟨hl, hc, hbd⟩, hf⟩ := h
  refine ⟨⟨by simp [hl], fun j hj => ?_, ?_⟩, fun j => by rw [World.frozen?_setCell]; exact hf j⟩
  · by_cases e : j = i
    · subst e
      rw [World.cell?_setCell_same _ _ _ (hc j hj)]
      simp [List.getD, hl, hj]
    · rw [World.cell?_setCell_other _ _ _ _ (by simp), hc j hj]
      have e' : ¬ i = j := fun h => e h.symm
      simp [List.getD, e']
  · rw [World.cell?_setCell_other _ _ _ _ (by simp)]
    exact hbd
/-- Ten fields written. -/
def set10 (w : World) (b : Nat) (g0 g1 g2 g3 g4 g5 g6 g7 g8 g9 : Int) : World :=
  (((((((((w.setCell ⟨b, 0, none⟩ (.int .i64 g0)).setCell ⟨b, 1, none⟩ (.int .i64 g1)).setCell ⟨b, 2, none⟩ (.int .i64 g2)).setCell ⟨b, 3, none⟩ (.int .i64 g3)).setCell ⟨b, 4, none⟩ (.int .i64 g4)).setCell ⟨b, 5, none⟩ (.int .i64 g5)).setCell ⟨b, 6, none⟩ (.int .i64 g6)).setCell ⟨b, 7, none⟩ (.int .i64 g7)).setCell ⟨b, 8, none⟩ (.int .i64 g8)).setCell ⟨b, 9, none⟩ (.int .i64 g9)
theorem PkF.set10 {w : World} {b : Nat} {f0 f1 f2 f3 f4 f5 f6 f7 f8 f9 : Int} {body : ByteArray} (h : PkF w b [f0, f1, f2, f3, f4, f5, f6, f7, f8, f9] body) (g0 g1 g2 g3 g4 g5 g6 g7 g8 g9 : Int) : PkF (set10 w b g0 g1 g2 g3 g4 g5 g6 g7 g8 g9) b [g0, g1, g2, g3, g4, g5, g6, g7, g8, g9] body :=
  (((((((((h.set1 g0 (i := 0) (by omega)).set1 g1 (i := 1) (by omega)).set1 g2 (i := 2) (by omega)).set1 g3 (i := 3) (by omega)).set1 g4 (i := 4) (by omega)).set1 g5 (i := 5) (by omega)).set1 g6 (i := 6) (by omega)).set1 g7 (i := 7) (by omega)).set1 g8 (i := 8) (by omega)).set1 g9 (i := 9) (by omega)
theorem set10_below {w : World} {b : Nat} (g0 g1 g2 g3 g4 g5 g6 g7 g8 g9 : Int) {B : Nat} (hb : B ≤ b) {a : World} (h : Below B a w) : Below B a (set10 w b g0 g1 g2 g3 g4 g5 g6 g7 g8 g9) :=
  (((((((((h.setCell hb _).setCell hb _).setCell hb _).setCell hb _).setCell hb _).setCell hb _).setCell hb _).setCell hb _).setCell hb _).setCell hb _
theorem ownS {w : World} {B e size n : Nat} {v : Value} {xs : List Value} (h : w.ownsRow B e size v n xs) {a : Addr} (ha : a.block < B) (u : Value) : (w.setCell a u).ownsRow B e size v n xs := by
  obtain ⟨h0, h | ⟨g, cap, cur, h1, h2, h3, h4⟩⟩ := h
  · exact ⟨h0, .inl h⟩
  · exact ⟨h0, .inr ⟨g, cap, cur, h1, h2, (Below.heap_setCell w a u g (by omega)).trans h3, h4⟩⟩
theorem set10_own {w : World} {b : Nat} (g0 g1 g2 g3 g4 g5 g6 g7 g8 g9 : Int) {B e size n : Nat} {v : Value} {xs : List Value} (h : w.ownsRow B e size v n xs) (hb : b < B) : (set10 w b g0 g1 g2 g3 g4 g5 g6 g7 g8 g9).ownsRow B e size v n xs :=
  ownS (ownS (ownS (ownS (ownS (ownS (ownS (ownS (ownS (ownS h hb _) hb _) hb _) hb _) hb _) hb _) hb _) hb _) hb _) hb _
theorem set10_size (w : World) (b : Nat) (g0 g1 g2 g3 g4 g5 g6 g7 g8 g9 : Int) : (set10 w b g0 g1 g2 g3 g4 g5 g6 g7 g8 g9).heap.size = w.heap.size := by simp [set10]
theorem below_grown1 {w w' : World} {row : Option Nat} {B : Nat} (hg : w.grownBy w' row) (hB : B ≤ w.heap.size) (hr : ∀ k, row = some k → B ≤ k) : Below B w w' := (Below.refl B w).grown hg hB hr

set_option maxHeartbeats 16000000 in
theorem fRun_ok (f0 f1 f2 f3 f4 f5 f6 f7 f8 f9 : Int) (body : ByteArray) (v : Value) (fs : List Fl) (w : World) (hL : FsAt w v fs) (hz : fsFault fs = 0) (hp : pktFault [f0, f1, f2, f3, f4, f5, f6, f7, f8, f9] body.size = 0) (hm : fs.length ≤ 5000) :
    Calls Try.prog 15 #[v, pkt f0 f1 f2 f3 f4 f5 f6 f7 f8 f9 body] w fun e w' => ∃ u, e = .returned (.tuple #[u, .int .i64 0]) ∧ w'.ownsRow w.heap.size 49 13 u (ran fs [f0, f1, f2, f3, f4, f5, f6, f7, f8, f9]).length (S body (ran fs [f0, f1, f2, f3, f4, f5, f6, f7, f8, f9])) ∧ Below w.heap.size w w' := by
  obtain ⟨i0, hi, hz0, hz1, hz2⟩ := info_parts infoSent
  obtain ⟨hall, hbs⟩ := pkt_parts hp
  have HWF : Hid (WF [f0, f1, f2, f3, f4, f5, f6, f7, f8, f9]) := wf_of_all rfl hall
  have HL := hide hL
  have HZ := hide hz
  have HP := hide hp
  have hbm : body.size ≤ maxLen := by unfold maxLen; omega
  obtain ⟨a, cap, rfl, hn, _⟩ := hL
  obtain ⟨RES, hRES⟩ : ∃ R, R = ran fs [f0, f1, f2, f3, f4, f5, f6, f7, f8, f9] := ⟨_, rfl⟩
  rw [← hRES]
  have HRES := hide hRES
  clear hRES hall hz hp
  go_enter Try.func15, Try.ntmps15
  go_wp2_with fail
  obtain ⟨W0, hW0⟩ : ∃ W0, W0 = w.alloc (.cells #[.int .i64 f0, .int .i64 f1, .int .i64 f2, .int .i64 f3, .int .i64 f4, .int .i64 f5, .int .i64 f6, .int .i64 f7, .int .i64 f8, .int .i64 f9, .string body] 32) := ⟨_, rfl⟩
  have c0 : W0.cell? ⟨w.heap.size, 0, none⟩ = some (.int .i64 f0) := by rw [hW0]; simp
  have c1 : W0.cell? ⟨w.heap.size, 1, none⟩ = some (.int .i64 f1) := by rw [hW0]; simp
  have c2 : W0.cell? ⟨w.heap.size, 2, none⟩ = some (.int .i64 f2) := by rw [hW0]; simp
  have c3 : W0.cell? ⟨w.heap.size, 3, none⟩ = some (.int .i64 f3) := by rw [hW0]; simp
  have c4 : W0.cell? ⟨w.heap.size, 4, none⟩ = some (.int .i64 f4) := by rw [hW0]; simp
  have c5 : W0.cell? ⟨w.heap.size, 5, none⟩ = some (.int .i64 f5) := by rw [hW0]; simp
  have c6 : W0.cell? ⟨w.heap.size, 6, none⟩ = some (.int .i64 f6) := by rw [hW0]; simp
  have c7 : W0.cell? ⟨w.heap.size, 7, none⟩ = some (.int .i64 f7) := by rw [hW0]; simp
  have c8 : W0.cell? ⟨w.heap.size, 8, none⟩ = some (.int .i64 f8) := by rw [hW0]; simp
  have c9 : W0.cell? ⟨w.heap.size, 9, none⟩ = some (.int .i64 f9) := by rw [hW0]; simp
  have cb : W0.cell? ⟨w.heap.size, 10, none⟩ = some (.string body) := by rw [hW0]; simp
  have hfr0 : ∀ i, W0.frozen? ⟨w.heap.size, i, none⟩ = false := fun i => by rw [hW0]; simp
  have hb0 : Below w.heap.size w W0 := by rw [hW0]; exact (Below.refl _ _).alloc (Nat.le_refl _) _
  have hz0' : w.heap.size < W0.heap.size := by rw [hW0]; simp
  rw [← hW0]
  clear hW0
  have HFR0 := hide hfr0
  clear hfr0
  refine (fCheck_any _ fs _ (HL.out.below hb0 (Nat.le_refl _)) (by omega)).mono ?_
  rintro e w1 ⟨rfl, hb1⟩
  rw [HZ.out]
  replace c0 := cell_below c0 hb1 (Nat.le_refl _)
  replace c1 := cell_below c1 hb1 (Nat.le_refl _)
  replace c2 := cell_below c2 hb1 (Nat.le_refl _)
  replace c3 := cell_below c3 hb1 (Nat.le_refl _)
  replace c4 := cell_below c4 hb1 (Nat.le_refl _)
  replace c5 := cell_below c5 hb1 (Nat.le_refl _)
  replace c6 := cell_below c6 hb1 (Nat.le_refl _)
  replace c7 := cell_below c7 hb1 (Nat.le_refl _)
  replace c8 := cell_below c8 hb1 (Nat.le_refl _)
  replace c9 := cell_below c9 hb1 (Nat.le_refl _)
  replace cb := cell_below cb hb1 (Nat.le_refl _)
  go_wp2_with fail
  refine (checkPacket_any f0 f1 f2 f3 f4 f5 f6 f7 f8 f9 body _ hbm).mono ?_
  rintro e w2 ⟨rfl, hb2⟩
  rw [HP.out]
  replace c0 := cell_below c0 hb2 (Nat.le_refl _)
  replace c1 := cell_below c1 hb2 (Nat.le_refl _)
  replace c2 := cell_below c2 hb2 (Nat.le_refl _)
  replace c3 := cell_below c3 hb2 (Nat.le_refl _)
  replace c4 := cell_below c4 hb2 (Nat.le_refl _)
  replace c5 := cell_below c5 hb2 (Nat.le_refl _)
  replace c6 := cell_below c6 hb2 (Nat.le_refl _)
  replace c7 := cell_below c7 hb2 (Nat.le_refl _)
  replace c8 := cell_below c8 hb2 (Nat.le_refl _)
  replace c9 := cell_below c9 hb2 (Nat.le_refl _)
  replace cb := cell_below cb hb2 (Nat.le_refl _)
  have hb12 : Below W0.heap.size W0 w2 := hb1.trans (hb2.mono hb1.size)
  have HFR : Hid (∀ i, w2.frozen? ⟨w.heap.size, i, none⟩ = false) := fun i => (hb12.frozen (p := ⟨w.heap.size, i, none⟩) hz0').trans (HFR0.out i)
  have hb02 : Below w.heap.size w w2 := hb0.trans (hb12.mono hb0.size)
  have hs2 : w.heap.size < w2.heap.size := Nat.lt_of_lt_of_le hz0' hb12.size
  clear hb1 hb2 hb12 hb0 hz0' HFR0 W0 w1
  have HPK : Hid (PkF w2 w.heap.size [f0, f1, f2, f3, f4, f5, f6, f7, f8, f9] body) := hide ⟨⟨rfl, fun i hi => by
      have hc : i = 0 ∨ i = 1 ∨ i = 2 ∨ i = 3 ∨ i = 4 ∨ i = 5 ∨ i = 6 ∨ i = 7 ∨ i = 8 ∨ i = 9 := by omega
      rcases hc with rfl | rfl | rfl | rfl | rfl | rfl | rfl | rfl | rfl | rfl
      all_goals assumption, cb⟩, HFR.out⟩
  clear c0 c1 c2 c3 c4 c5 c6 c7 c8 c9 cb HFR HP
  obtain ⟨F0, hF0⟩ : ∃ F0 : List Int, F0 = [f0, f1, f2, f3, f4, f5, f6, f7, f8, f9] := ⟨_, rfl⟩
  rw [← hF0] at HPK HWF HRES
  clear hF0
  go_wp2_with fail
  go_loopw [8, 9] (fun o t wr => ∃ (j : Nat) (s : St), Hid (WF s.F) ∧ (j : Int) ≤ s.t ∧ s.t ≤ 8 ∧ s.out.length ≤ 100 * j ∧ t = .int .i64 s.t ∧ Hid (runN fs (8 - j) s = runN fs 8 ⟨F0, 0, []⟩) ∧ Hid (PkF wr w.heap.size s.F body) ∧ Hid (wr.ownsRow (w.heap.size + 1) 49 13 o s.out.length (S body s.out)) ∧ Below w.heap.size w wr ∧ w.heap.size < wr.heap.size) (fun _ t _ => 8 - (intOf t).toNat)
  case atStart => exact ⟨0, ⟨F0, 0, []⟩, HWF, by simp, by simp, by simp, rfl, hide rfl, HPK, hide (World.ownsRow_nil _ _ _ _), hb02, hs2⟩
  case round =>
    clear HPK hb02 hs2 HWF
    obtain ⟨j, s, HWF, hj1, ht8, hol, rfl, HRN, HPK, HOW, hbel, hsz⟩ := hrel
    obtain ⟨SF, st, so⟩ := s
    simp only at HWF hj1 ht8 hol HRN HPK HOW
    by_cases ht : st < 8
    · obtain ⟨f0, f1, f2, f3, f4, f5, f6, f7, f8, f9, rfl⟩ := len10 HWF.out.1
      have htd : decide (st < 8) = true := by simpa using ht
      have HTB : Hid (runN fs (8 - j) ⟨[f0, f1, f2, f3, f4, f5, f6, f7, f8, f9], st, so⟩ = runN fs (8 - (j + 1)) (table fs ⟨[f0, f1, f2, f3, f4, f5, f6, f7, f8, f9], st, so⟩)) := by
        show _ = _
        have e : 8 - j = (8 - (j + 1)) + 1 := by omega
        rw [e]
        show (if 7 < st then _ else _) = _
        rw [if_neg (by omega)]
      obtain ⟨c0, c1, c2, c3, c4, c5, c6, c7, c8, c9, cb⟩ := HPK.out.cells
      obtain ⟨oo, oc, rfl, hoc, hog⟩ : ∃ oo oc, u8 = .slice oo so.length oc ∧ so.length ≤ oc ∧ (0 < so.length → ∃ g, oo = some ⟨g, 0, none⟩) := by
        obtain ⟨_, ⟨rfl, h0⟩ | ⟨g, cap, cur, rfl, _, _, hc, _⟩⟩ := HOW.out
        · exact ⟨none, 0, by rw [h0], by omega, fun h => absurd h (by omega)⟩
        · exact ⟨_, cap, rfl, hc, fun _ => ⟨g, rfl⟩⟩
      go_wp2_with fail
      refine (pick_any f0 f1 f2 f3 f4 f5 f6 f7 f8 f9 _ fs st w wr HWF.out HL.out hbel HZ.out hm).mono ?_
      rintro e w1 ⟨u, rfl, hds, hb1⟩
      have HPK1 := hide (HPK.out.below hb1 hsz)
      have HOW1 := hide (ownB HOW.out hb1)
      have hbel1 := hbel.trans (hb1.mono hbel.size)
      have hsz1 := Nat.lt_of_lt_of_le hsz hb1.size
      clear HPK HOW hb1 c0 c1 c2 c3 c4 c5 c6 c7 c8 c9 cb hbel hsz
      obtain ⟨ds, hdsd⟩ : ∃ ds, ds = dsOf fs (bestTo fs [f0, f1, f2, f3, f4, f5, f6, f7, f8, f9] st fs.length) := ⟨_, rfl⟩
      have HTD : Hid (table fs ⟨[f0, f1, f2, f3, f4, f5, f6, f7, f8, f9], st, so⟩ = stepTo ⟨[f0, f1, f2, f3, f4, f5, f6, f7, f8, f9], 8, so⟩ ds ds.length) := by show _ = _; rw [hdsd]; rfl
      have HDB : Hid (ds.length ≤ 100 ∧ ∀ k, k < ds.length → doB st ds k = true) := by
        have hbi := bestTo_best fs [f0, f1, f2, f3, f4, f5, f6, f7, f8, f9] st fs.length
        rw [hdsd]
        unfold dsOf
        rcases hbi with ⟨hb, _⟩ | ⟨i, hb, _, hi, hf, _⟩
        · rw [hb]; exact hide ⟨by simp, fun k hk => by simp at hk⟩
        · rw [hb, if_neg (by omega), Int.toNat_natCast]
          have hk := ok_flow HZ.out hi
          have hft : (fs.getD i fl0).t = st := by
            unfold fitB at hf
            simp only [Bool.and_eq_true, beq_iff_eq] at hf
            exact hf.1
          exact hide ⟨hk.2.2.1, by rw [← hft]; exact hk.2.2.2.2.2.2.2.2⟩
      rw [← hdsd] at hds
      clear hdsd
      have HDS := hide hds
      obtain ⟨da, dcap, rfl, hdn, _⟩ := hds
      have hdl := HDB.out.1
      have HOK : Hid (∀ k, k ≤ ds.length → Ok st (100 * j + k) (stepTo ⟨[f0, f1, f2, f3, f4, f5, f6, f7, f8, f9], 8, so⟩ ds k)) := fun k hk => Ok.stepTo ⟨HWF.out, by simp; omega, by simp, by simp; omega⟩ HDB.out.2 k hk
      go_wp2_with fail
      rename World => W1
      go_loopw [8, 9, 32] (fun o t i wq => ∃ (k : Nat), k ≤ ds.length ∧ i = .int .i64 k ∧ t = .int .i64 (stepTo ⟨[f0, f1, f2, f3, f4, f5, f6, f7, f8, f9], 8, so⟩ ds k).t ∧ Hid (PkF wq w.heap.size (stepTo ⟨[f0, f1, f2, f3, f4, f5, f6, f7, f8, f9], 8, so⟩ ds k).F body) ∧ Hid (wq.ownsRow (w.heap.size + 1) 49 13 o (stepTo ⟨[f0, f1, f2, f3, f4, f5, f6, f7, f8, f9], 8, so⟩ ds k).out.length (S body (stepTo ⟨[f0, f1, f2, f3, f4, f5, f6, f7, f8, f9], 8, so⟩ ds k).out)) ∧ Below w.heap.size w wq ∧ w.heap.size < wq.heap.size) (fun _ _ i _ => ds.length - (intOf i).toNat)
      case atStart => exact ⟨0, by omega, rfl, rfl, HPK1, HOW1, hbel1, hsz1⟩
      case round =>
        clear HPK1 HOW1 hbel1 hsz1
        obtain ⟨k, hk, rfl, rfl, HPK, HOW, hbel, hsz⟩ := hrel
        by_cases hlt : k < ds.length
        · have HSTEP : Hid (stepTo ⟨[f0, f1, f2, f3, f4, f5, f6, f7, f8, f9], 8, so⟩ ds (k + 1) = step (stepTo ⟨[f0, f1, f2, f3, f4, f5, f6, f7, f8, f9], 8, so⟩ ds k) (ds.getD k do0)) := rfl
          have HOKk := hide (HOK.out k (by omega))
          have hpd := doB_parts (HDB.out.2 k hlt)
          obtain ⟨db, doff, rfl, hdc, hcell⟩ : ∃ b off, da = some ⟨b, off, none⟩ ∧ ds.length ≤ dcap ∧ ∀ i, i < ds.length → w.cell? ⟨b, off + i * 3, none⟩ = some (.int .i64 (ds.getD i do0).k) ∧ w.cell? ⟨b, off + i * 3 + 1, none⟩ = some (.int .i64 (ds.getD i do0).a) ∧ w.cell? ⟨b, off + i * 3 + 2, none⟩ = some (.int .i64 (ds.getD i do0).n) := by
            obtain ⟨a', cap', hv, hn', hL⟩ := HDS.out
            simp only [Value.slice.injEq] at hv
            obtain ⟨rfl, _, rfl⟩ := hv
            rcases hL with h0 | h
            · omega
            · exact h
          obtain ⟨g0, g1, g2⟩ := hcell k hlt
          have m0 := cell_below g0 hbel (Nat.le_refl _)
          have m1 := cell_below g1 hbel (Nat.le_refl _)
          have m2 := cell_below g2 hbel (Nat.le_refl _)
          clear g0 g1 g2 hcell
          generalize stepTo ⟨[f0, f1, f2, f3, f4, f5, f6, f7, f8, f9], 8, so⟩ ds k = s0 at *
          generalize ds.getD k do0 = d at *
          obtain ⟨dk, dA, dn⟩ := d
          obtain ⟨SF, st1, so1⟩ := s0
          simp only at hpd m0 m1 m2 HPK HOW
          obtain ⟨hw0, _, hw8, hwo⟩ := HOKk.out
          simp only at hw0 hw8 hwo
          have HW0 := hide hw0
          obtain ⟨p0, p1, p2, p3, p4, p5, p6, p7, p8, p9, rfl⟩ := len10 hw0.1
          clear hw0
          obtain ⟨c0, c1, c2, c3, c4, c5, c6, c7, c8, c9, cb⟩ := HPK.out.cells
          obtain ⟨oo, oc, rfl, hoc, hog⟩ : ∃ oo oc, u8 = .slice oo so1.length oc ∧ so1.length ≤ oc ∧ (0 < so1.length → ∃ g, oo = some ⟨g, 0, none⟩) := by
            obtain ⟨_, ⟨rfl, h0⟩ | ⟨g, cap, cur, rfl, _, _, hc, _⟩⟩ := HOW.out
            · exact ⟨none, 0, by rw [h0], by omega, fun h => absurd h (by omega)⟩
            · exact ⟨_, cap, rfl, hc, fun _ => ⟨g, rfl⟩⟩
          have hA : ∀ o : Obj, Below wr.heap.size wr (wr.alloc o) := fun o => (Below.refl _ _).alloc (Nat.le_refl _) o
          rcases hpd with ⟨rfl, a0, a1, hn1⟩ | ⟨rfl, a0, a1, n0, n1⟩ | ⟨rfl, a0, a1⟩ | ⟨rfl, n0, n1⟩ | ⟨rfl, hn1⟩ | ⟨rfl, n0, n1⟩
          · obtain ⟨q, rfl⟩ := Int.eq_ofNat_of_zero_le a0
            have HS1 : Hid (stepTo ⟨[f0, f1, f2, f3, f4, f5, f6, f7, f8, f9], 8, so⟩ ds (k + 1) = ⟨([p0, p1, p2, p3, p4, p5, p6, p7, p8, p9] : List Int).set q (dn), st1, so1⟩) := by show _ = _; rw [HSTEP.out]; unfold step doF; simp
            go_wp2_with fail
            refine (changedPut_any p0 p1 p2 p3 p4 p5 p6 p7 p8 p9 q dn _ (by omega)).mono ?_
            rintro e w3 ⟨g0, g1, g2, g3, g4, g5, g6, g7, g8, g9, rfl, hG, hb3⟩
            have HG := hide hG
            clear hG HSTEP
            have hb3' : Below wr.heap.size wr w3 := (hA _).trans (hb3.mono (hA _).size)
            have HPK3 := hide (HPK.out.below hb3' hsz)
            have HOW3 := hide (ownB HOW.out hb3')
            obtain ⟨c0, c1, c2, c3, c4, c5, c6, c7, c8, c9, cb⟩ := HPK3.out.cells
            have z0 := HPK3.out.2 0
            have z1 := HPK3.out.2 1
            have z2 := HPK3.out.2 2
            have z3 := HPK3.out.2 3
            have z4 := HPK3.out.2 4
            have z5 := HPK3.out.2 5
            have z6 := HPK3.out.2 6
            have z7 := HPK3.out.2 7
            have z8 := HPK3.out.2 8
            have z9 := HPK3.out.2 9
            have HPK4 := hide (HPK3.out.set10 g0 g1 g2 g3 g4 g5 g6 g7 g8 g9)
            rw [HG.out] at HPK4
            have HOW4 := hide (set10_own g0 g1 g2 g3 g4 g5 g6 g7 g8 g9 HOW3.out (Nat.lt_succ_self _))
            have hbel4 := set10_below g0 g1 g2 g3 g4 g5 g6 g7 g8 g9 (Nat.le_refl _) (hbel.trans (hb3'.mono hbel.size))
            have hsz4 : w.heap.size < (set10 w3 w.heap.size g0 g1 g2 g3 g4 g5 g6 g7 g8 g9).heap.size := by rw [set10_size]; have := hb3'.size; omega
            have HW4 : Hid (set10 w3 w.heap.size g0 g1 g2 g3 g4 g5 g6 g7 g8 g9 = (((((((((w3.setCell ⟨w.heap.size, 0, none⟩ (.int .i64 g0)).setCell ⟨w.heap.size, 1, none⟩ (.int .i64 g1)).setCell ⟨w.heap.size, 2, none⟩ (.int .i64 g2)).setCell ⟨w.heap.size, 3, none⟩ (.int .i64 g3)).setCell ⟨w.heap.size, 4, none⟩ (.int .i64 g4)).setCell ⟨w.heap.size, 5, none⟩ (.int .i64 g5)).setCell ⟨w.heap.size, 6, none⟩ (.int .i64 g6)).setCell ⟨w.heap.size, 7, none⟩ (.int .i64 g7)).setCell ⟨w.heap.size, 8, none⟩ (.int .i64 g8)).setCell ⟨w.heap.size, 9, none⟩ (.int .i64 g9)) := rfl
            generalize set10 w3 w.heap.size g0 g1 g2 g3 g4 g5 g6 g7 g8 g9 = w4 at *
            go_wp2_with fail
            rw [← HW4.out]
            go_roundw
            case rel => exact ⟨k + 1, by omega, by go_num, by rw [HS1.out], by rw [HS1.out]; exact HPK4, by rw [HS1.out]; exact HOW4, hbel4, hsz4⟩
            case measure => simp [intOf]; omega
          · obtain ⟨q, rfl⟩ := Int.eq_ofNat_of_zero_le a0
            obtain ⟨m, rfl⟩ := Int.eq_ofNat_of_zero_le n0
            have HS1 : Hid (stepTo ⟨[f0, f1, f2, f3, f4, f5, f6, f7, f8, f9], 8, so⟩ ds (k + 1) = ⟨([p0, p1, p2, p3, p4, p5, p6, p7, p8, p9] : List Int).set q (([p0, p1, p2, p3, p4, p5, p6, p7, p8, p9] : List Int).getD m 0), st1, so1⟩) := by show _ = _; rw [HSTEP.out]; unfold step doF; simp
            go_wp2_with fail
            refine (changedCopy_any p0 p1 p2 p3 p4 p5 p6 p7 p8 p9 q m _ (by omega) (by omega)).mono ?_
            rintro e w3 ⟨g0, g1, g2, g3, g4, g5, g6, g7, g8, g9, rfl, hG, hb3⟩
            have HG := hide hG
            clear hG HSTEP
            have hb3' : Below wr.heap.size wr w3 := (hA _).trans (hb3.mono (hA _).size)
            have HPK3 := hide (HPK.out.below hb3' hsz)
            have HOW3 := hide (ownB HOW.out hb3')
            obtain ⟨c0, c1, c2, c3, c4, c5, c6, c7, c8, c9, cb⟩ := HPK3.out.cells
            have z0 := HPK3.out.2 0
            have z1 := HPK3.out.2 1
            have z2 := HPK3.out.2 2
            have z3 := HPK3.out.2 3
            have z4 := HPK3.out.2 4
            have z5 := HPK3.out.2 5
            have z6 := HPK3.out.2 6
            have z7 := HPK3.out.2 7
            have z8 := HPK3.out.2 8
            have z9 := HPK3.out.2 9
            have HPK4 := hide (HPK3.out.set10 g0 g1 g2 g3 g4 g5 g6 g7 g8 g9)
            rw [HG.out] at HPK4
            have HOW4 := hide (set10_own g0 g1 g2 g3 g4 g5 g6 g7 g8 g9 HOW3.out (Nat.lt_succ_self _))
            have hbel4 := set10_below g0 g1 g2 g3 g4 g5 g6 g7 g8 g9 (Nat.le_refl _) (hbel.trans (hb3'.mono hbel.size))
            have hsz4 : w.heap.size < (set10 w3 w.heap.size g0 g1 g2 g3 g4 g5 g6 g7 g8 g9).heap.size := by rw [set10_size]; have := hb3'.size; omega
            have HW4 : Hid (set10 w3 w.heap.size g0 g1 g2 g3 g4 g5 g6 g7 g8 g9 = (((((((((w3.setCell ⟨w.heap.size, 0, none⟩ (.int .i64 g0)).setCell ⟨w.heap.size, 1, none⟩ (.int .i64 g1)).setCell ⟨w.heap.size, 2, none⟩ (.int .i64 g2)).setCell ⟨w.heap.size, 3, none⟩ (.int .i64 g3)).setCell ⟨w.heap.size, 4, none⟩ (.int .i64 g4)).setCell ⟨w.heap.size, 5, none⟩ (.int .i64 g5)).setCell ⟨w.heap.size, 6, none⟩ (.int .i64 g6)).setCell ⟨w.heap.size, 7, none⟩ (.int .i64 g7)).setCell ⟨w.heap.size, 8, none⟩ (.int .i64 g8)).setCell ⟨w.heap.size, 9, none⟩ (.int .i64 g9)) := rfl
            generalize set10 w3 w.heap.size g0 g1 g2 g3 g4 g5 g6 g7 g8 g9 = w4 at *
            go_wp2_with fail
            rw [← HW4.out]
            go_roundw
            case rel => exact ⟨k + 1, by omega, by go_num, by rw [HS1.out], by rw [HS1.out]; exact HPK4, by rw [HS1.out]; exact HOW4, hbel4, hsz4⟩
            case measure => simp [intOf]; omega
          · obtain ⟨q, rfl⟩ := Int.eq_ofNat_of_zero_le a0
            have HS1 : Hid (stepTo ⟨[f0, f1, f2, f3, f4, f5, f6, f7, f8, f9], 8, so⟩ ds (k + 1) = ⟨([p0, p1, p2, p3, p4, p5, p6, p7, p8, p9] : List Int).set q (if 0 < ([p0, p1, p2, p3, p4, p5, p6, p7, p8, p9] : List Int).getD q 0 then ([p0, p1, p2, p3, p4, p5, p6, p7, p8, p9] : List Int).getD q 0 - 1 else 0), st1, so1⟩) := by show _ = _; rw [HSTEP.out]; unfold step doF; simp
            go_wp2_with fail
            refine (changedLess_any p0 p1 p2 p3 p4 p5 p6 p7 p8 p9 q dn _ (by omega) (fun i => HW0.out.bd i)).mono ?_
            rintro e w3 ⟨g0, g1, g2, g3, g4, g5, g6, g7, g8, g9, rfl, hG, hb3⟩
            have HG := hide hG
            clear hG HSTEP
            have hb3' : Below wr.heap.size wr w3 := (hA _).trans (hb3.mono (hA _).size)
            have HPK3 := hide (HPK.out.below hb3' hsz)
            have HOW3 := hide (ownB HOW.out hb3')
            obtain ⟨c0, c1, c2, c3, c4, c5, c6, c7, c8, c9, cb⟩ := HPK3.out.cells
            have z0 := HPK3.out.2 0
            have z1 := HPK3.out.2 1
            have z2 := HPK3.out.2 2
            have z3 := HPK3.out.2 3
            have z4 := HPK3.out.2 4
            have z5 := HPK3.out.2 5
            have z6 := HPK3.out.2 6
            have z7 := HPK3.out.2 7
            have z8 := HPK3.out.2 8
            have z9 := HPK3.out.2 9
            have HPK4 := hide (HPK3.out.set10 g0 g1 g2 g3 g4 g5 g6 g7 g8 g9)
            rw [HG.out] at HPK4
            have HOW4 := hide (set10_own g0 g1 g2 g3 g4 g5 g6 g7 g8 g9 HOW3.out (Nat.lt_succ_self _))
            have hbel4 := set10_below g0 g1 g2 g3 g4 g5 g6 g7 g8 g9 (Nat.le_refl _) (hbel.trans (hb3'.mono hbel.size))
            have hsz4 : w.heap.size < (set10 w3 w.heap.size g0 g1 g2 g3 g4 g5 g6 g7 g8 g9).heap.size := by rw [set10_size]; have := hb3'.size; omega
            have HW4 : Hid (set10 w3 w.heap.size g0 g1 g2 g3 g4 g5 g6 g7 g8 g9 = (((((((((w3.setCell ⟨w.heap.size, 0, none⟩ (.int .i64 g0)).setCell ⟨w.heap.size, 1, none⟩ (.int .i64 g1)).setCell ⟨w.heap.size, 2, none⟩ (.int .i64 g2)).setCell ⟨w.heap.size, 3, none⟩ (.int .i64 g3)).setCell ⟨w.heap.size, 4, none⟩ (.int .i64 g4)).setCell ⟨w.heap.size, 5, none⟩ (.int .i64 g5)).setCell ⟨w.heap.size, 6, none⟩ (.int .i64 g6)).setCell ⟨w.heap.size, 7, none⟩ (.int .i64 g7)).setCell ⟨w.heap.size, 8, none⟩ (.int .i64 g8)).setCell ⟨w.heap.size, 9, none⟩ (.int .i64 g9)) := rfl
            generalize set10 w3 w.heap.size g0 g1 g2 g3 g4 g5 g6 g7 g8 g9 = w4 at *
            go_wp2_with fail
            rw [← HW4.out]
            go_roundw
            case rel => exact ⟨k + 1, by omega, by go_num, by rw [HS1.out], by rw [HS1.out]; exact HPK4, by rw [HS1.out]; exact HOW4, hbel4, hsz4⟩
            case measure => simp [intOf]; omega
          · have HS1 : Hid (stepTo ⟨[f0, f1, f2, f3, f4, f5, f6, f7, f8, f9], 8, so⟩ ds (k + 1) = ⟨[p0, p1, p2, p3, p4, p5, p6, p7, p8, p9], dn, so1⟩) := by show _ = _; rw [HSTEP.out]; unfold step; simp
            go_wp2_with fail
            go_roundw
            case rel => exact ⟨k + 1, by omega, by go_num, by rw [HS1.out], by rw [HS1.out]; exact hide (HPK.out.below (hA _) hsz), by rw [HS1.out]; exact hide (ownB HOW.out (hA _)), hbel.trans ((hA _).mono hbel.size), by simp; omega⟩
            case measure => simp [intOf]; omega
          · have HS1 : Hid (stepTo ⟨[f0, f1, f2, f3, f4, f5, f6, f7, f8, f9], 8, so⟩ ds (k + 1) = ⟨[p0, p1, p2, p3, p4, p5, p6, p7, p8, p9], st1, so1 ++ [⟨5, dn, [p0, p1, p2, p3, p4, p5, p6, p7, p8, p9]⟩]⟩) := by show _ = _; rw [HSTEP.out]; unfold step; simp
            obtain ⟨W2, hW2⟩ : ∃ W2, W2 = wr.alloc (.cells #[.int .i64 5, .int .i64 dA, .int .i64 dn] 38) := ⟨_, rfl⟩
            obtain ⟨W3, hW3⟩ : ∃ W3, W3 = W2.alloc (.cells #[.int .i64 5, .int .i64 dn, .int .i64 p0, .int .i64 p1, .int .i64 p2, .int .i64 p3, .int .i64 p4, .int .i64 p5, .int .i64 p6, .int .i64 p7, .int .i64 p8, .int .i64 p9, .string body] 49) := ⟨_, rfl⟩
            have hb3 : Below wr.heap.size wr W3 := by rw [hW3, hW2]; exact (hA _).alloc (by simp) _
            have hsz3 : wr.heap.size < W3.heap.size := by rw [hW3, hW2]; simp; omega
            have HOW3 := hide (ownB HOW.out hb3)
            have HPK3 := hide (HPK.out.below hb3 hsz)
            have HNW := hide (news13 W2 49 5 dn p0 p1 p2 p3 p4 p5 p6 p7 p8 p9 body)
            have eW2 : W2.heap.size = wr.heap.size + 1 := by rw [hW2]; simp
            rw [← hW3, eW2] at HNW
            have HW3 : Hid ((wr.alloc (.cells #[.int .i64 5, .int .i64 dA, .int .i64 dn] 38)).alloc (.cells #[.int .i64 5, .int .i64 dn, .int .i64 p0, .int .i64 p1, .int .i64 p2, .int .i64 p3, .int .i64 p4, .int .i64 p5, .int .i64 p6, .int .i64 p7, .int .i64 p8, .int .i64 p9, .string body] 49) = W3) := by show _ = _; rw [hW3, hW2]
            clear hW2 hW3 HPK HOW HSTEP
            go_wp2_with (at_builtin; rw [HW3.out]; refine wpList_append_own _ rfl _ _ 42 rfl (w.heap.size + 1) 49 i0 _ 13 112 Try.underlying42 hi hz0 hz1 hz2 rfl (by decide) _ _ _ rfl (unhide HOW3) ⟨wr.heap.size + 1, 0, none⟩ 1 1 (S body [⟨5, dn, [p0, p1, p2, p3, p4, p5, p6, p7, p8, p9]⟩]) rfl rfl ?a1 ?a2 ?a3 ?a4 ?a5 ?_)
            case a1 => exact fun j u hj => by have := HNW.out j u hj; rwa [addf] at this
            case a2 => exact S_one _ _
            case a3 => unfold maxLen; omega
            case a4 => omega
            case a5 => omega
            intro v4 w4 ho4 hg4 _
            have hb4 : Below (w.heap.size + 1) W3 w4 := below_grown1 hg4 (by omega) (own_ge HOW3.out)
            have HPK4 := hide (HPK3.out.below hb4 (by omega))
            have hbel4 : Below w.heap.size w w4 := (hbel.trans (hb3.mono hbel.size)).trans (hb4.mono (Nat.le_succ _))
            have hsz4 := hb4.size
            have HOW4 : Hid (w4.ownsRow (w.heap.size + 1) 49 13 v4 (so1 ++ ([⟨5, dn, [p0, p1, p2, p3, p4, p5, p6, p7, p8, p9]⟩] : List Sn)).length (S body (so1 ++ ([⟨5, dn, [p0, p1, p2, p3, p4, p5, p6, p7, p8, p9]⟩] : List Sn)))) := by
              refine hide ?_
              rw [S_append, List.length_append]; exact ho4
            obtain ⟨vo4, vc4, rfl⟩ : ∃ a c, v4 = .slice a (so1.length + 1) c := by
              obtain ⟨_, ⟨rfl, h0⟩ | ⟨g, cap, cur, rfl, _⟩⟩ := ho4
              · omega
              · exact ⟨_, _, rfl⟩
            clear ho4 hg4 HOW3 HPK3 hb3 hb4 HNW HW3 m0 m1 m2 c0 c1 c2 c3 c4 c5 c6 c7 c8 c9 cb
            go_wp2_with fail
            go_roundw
            case rel => exact ⟨k + 1, by omega, by go_num, by rw [HS1.out], by rw [HS1.out]; exact HPK4, by rw [HS1.out]; exact HOW4, hbel4, by omega⟩
            case measure => simp [intOf]; omega
          · have HS1 : Hid (stepTo ⟨[f0, f1, f2, f3, f4, f5, f6, f7, f8, f9], 8, so⟩ ds (k + 1) = ⟨[p0, p1, p2, p3, p4, p5, p6, p7, p8, p9], st1, so1 ++ [⟨6, dn, [p0, p1, p2, p3, p4, p5, p6, p7, p8, p9]⟩]⟩) := by show _ = _; rw [HSTEP.out]; unfold step; simp
            obtain ⟨W2, hW2⟩ : ∃ W2, W2 = wr.alloc (.cells #[.int .i64 6, .int .i64 dA, .int .i64 dn] 38) := ⟨_, rfl⟩
            obtain ⟨W3, hW3⟩ : ∃ W3, W3 = W2.alloc (.cells #[.int .i64 6, .int .i64 dn, .int .i64 p0, .int .i64 p1, .int .i64 p2, .int .i64 p3, .int .i64 p4, .int .i64 p5, .int .i64 p6, .int .i64 p7, .int .i64 p8, .int .i64 p9, .string body] 49) := ⟨_, rfl⟩
            have hb3 : Below wr.heap.size wr W3 := by rw [hW3, hW2]; exact (hA _).alloc (by simp) _
            have hsz3 : wr.heap.size < W3.heap.size := by rw [hW3, hW2]; simp; omega
            have HOW3 := hide (ownB HOW.out hb3)
            have HPK3 := hide (HPK.out.below hb3 hsz)
            have HNW := hide (news13 W2 49 6 dn p0 p1 p2 p3 p4 p5 p6 p7 p8 p9 body)
            have eW2 : W2.heap.size = wr.heap.size + 1 := by rw [hW2]; simp
            rw [← hW3, eW2] at HNW
            have HW3 : Hid ((wr.alloc (.cells #[.int .i64 6, .int .i64 dA, .int .i64 dn] 38)).alloc (.cells #[.int .i64 6, .int .i64 dn, .int .i64 p0, .int .i64 p1, .int .i64 p2, .int .i64 p3, .int .i64 p4, .int .i64 p5, .int .i64 p6, .int .i64 p7, .int .i64 p8, .int .i64 p9, .string body] 49) = W3) := by show _ = _; rw [hW3, hW2]
            clear hW2 hW3 HPK HOW HSTEP
            go_wp2_with (at_builtin; rw [HW3.out]; refine wpList_append_own _ rfl _ _ 42 rfl (w.heap.size + 1) 49 i0 _ 13 112 Try.underlying42 hi hz0 hz1 hz2 rfl (by decide) _ _ _ rfl (unhide HOW3) ⟨wr.heap.size + 1, 0, none⟩ 1 1 (S body [⟨6, dn, [p0, p1, p2, p3, p4, p5, p6, p7, p8, p9]⟩]) rfl rfl ?a1 ?a2 ?a3 ?a4 ?a5 ?_)
            case a1 => exact fun j u hj => by have := HNW.out j u hj; rwa [addf] at this
            case a2 => exact S_one _ _
            case a3 => unfold maxLen; omega
            case a4 => omega
            case a5 => omega
            intro v4 w4 ho4 hg4 _
            have hb4 : Below (w.heap.size + 1) W3 w4 := below_grown1 hg4 (by omega) (own_ge HOW3.out)
            have HPK4 := hide (HPK3.out.below hb4 (by omega))
            have hbel4 : Below w.heap.size w w4 := (hbel.trans (hb3.mono hbel.size)).trans (hb4.mono (Nat.le_succ _))
            have hsz4 := hb4.size
            have HOW4 : Hid (w4.ownsRow (w.heap.size + 1) 49 13 v4 (so1 ++ ([⟨6, dn, [p0, p1, p2, p3, p4, p5, p6, p7, p8, p9]⟩] : List Sn)).length (S body (so1 ++ ([⟨6, dn, [p0, p1, p2, p3, p4, p5, p6, p7, p8, p9]⟩] : List Sn)))) := by
              refine hide ?_
              rw [S_append, List.length_append]; exact ho4
            obtain ⟨vo4, vc4, rfl⟩ : ∃ a c, v4 = .slice a (so1.length + 1) c := by
              obtain ⟨_, ⟨rfl, h0⟩ | ⟨g, cap, cur, rfl, _⟩⟩ := ho4
              · omega
              · exact ⟨_, _, rfl⟩
            clear ho4 hg4 HOW3 HPK3 hb3 hb4 HNW HW3 m0 m1 m2 c0 c1 c2 c3 c4 c5 c6 c7 c8 c9 cb
            go_wp2_with fail
            go_roundw
            case rel => exact ⟨k + 1, by omega, by go_num, by rw [HS1.out], by rw [HS1.out]; exact HPK4, by rw [HS1.out]; exact HOW4, hbel4, by omega⟩
            case measure => simp [intOf]; omega
        · have hkl : k = ds.length := by omega
          subst hkl
          have hok := HOK.out ds.length (Nat.le_refl _)
          rw [← HTD.out] at hok HPK HOW
          rw [← HTD.out]
          rw [HTB.out] at HRN
          clear HOK HTD HTB HDS HDB
          generalize table fs ⟨[f0, f1, f2, f3, f4, f5, f6, f7, f8, f9], st, so⟩ = s1 at *
          obtain ⟨hw0, hw7, hw8, hwo⟩ := hok
          have HW0 := hide hw0
          clear hw0
          go_wp2_with fail
          go_roundw
          case rel => exact ⟨j + 1, s1, HW0, by omega, hw8, by omega, rfl, HRN, HPK, HOW, hbel, hsz⟩
          case measure => simp [intOf]; omega
    · have htd : decide (st < 8) = false := by simpa using ht
      have HEND : Hid (so = RES) := by
        show _ = _
        have h1 := HRN.out
        rw [runN_end fs _ (by show 7 < st; omega)] at h1
        rw [HRES.out]
        unfold ran
        rw [← h1]
      go_wp2_with fail
      go_ret2
      exact ⟨_, rfl, by rw [← HEND.out]; exact own_less HOW.out (Nat.le_succ _), hbel⟩

end Go.Proofs.Ytonhfgdnkkkikac
