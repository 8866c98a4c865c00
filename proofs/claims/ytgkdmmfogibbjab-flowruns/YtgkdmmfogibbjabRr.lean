/-
  What the document's RanOf answers, where flows and packet may be.
-/
import Derived.Test.YtgkdmmfogibbjabFn
import Derived.Test.YtgkdmmfogibbjabRp
namespace Go.Proofs.Ytgkdmmfogibbjab
open Go.RowKit
set_option linter.unusedVariables false
set_option maxRecDepth 100000

theorem wrapZ (n : Int) (h0 : -1 ≤ n) (h1 : n ≤ 1000000) : IntKind.i64.wrap n = n := by
  simp [IntKind.wrap, IntKind.bits, IntKind.signed]
  split <;> omega
/-- Does a flow fit, as far as q of its matches tell? -/
def okTo (F : List Int) (t : Int) (f : Fl) (q : Nat) : Bool := (f.t == t) && (f.ms.take q).all fun m => mk (F.getD m.f.toNat 0) m.m == m.v
theorem okTo_succ (F : List Int) (t : Int) (f : Fl) (q : Nat) (h : q < f.ms.length) : okTo F t f (q + 1) = (okTo F t f q && (mk (F.getD (f.ms.getD q mt0).f.toNat 0) (f.ms.getD q mt0).m == (f.ms.getD q mt0).v)) := by
  unfold okTo
  rw [List.take_add_one, List.all_append]
  simp [List.getD, List.getElem?_eq_getElem h, Bool.and_assoc]
theorem okTo_end (F : List Int) (t : Int) (f : Fl) : okTo F t f f.ms.length = fitB F t f := by
  unfold okTo fitB fitsB
  rw [List.take_length]

set_option maxHeartbeats 16000000 in
theorem ranOf_ok (f0 f1 f2 f3 f4 f5 f6 f7 f8 f9 : Int) (body : ByteArray) (v : Value) (fs : List Fl) (w : World) (hL : FsAt w v fs) (hz : fsFault fs = 0) (hp : pktFault [f0, f1, f2, f3, f4, f5, f6, f7, f8, f9] body.size = 0) (hm : fs.length ≤ 5000) :
    Calls Try.prog 19 #[v, pkt f0 f1 f2 f3 f4 f5 f6 f7 f8 f9 body] w fun e w' => ∃ u, e = .returned (.tuple #[u, .int .i64 0]) ∧ w'.ownsRow w.heap.size 72 13 u (ran fs [f0, f1, f2, f3, f4, f5, f6, f7, f8, f9]).length (S body (ran fs [f0, f1, f2, f3, f4, f5, f6, f7, f8, f9])) ∧ Below w.heap.size w w' := by
  obtain ⟨i0, hi, hz0, hz1, hz2⟩ := info_parts infoSent
  obtain ⟨hall, hbs⟩ := pkt_parts hp
  have HWF : Hid (WF [f0, f1, f2, f3, f4, f5, f6, f7, f8, f9]) := wf_of_all rfl hall
  have HL := hide hL
  have HZ := hide hz
  have HP := hide hp
  have hbm : body.size ≤ maxLen := by unfold maxLen; omega
  obtain ⟨a, cap, rfl, hn, _⟩ := hL
  obtain ⟨RES, hRES⟩ : ∃ R, R = ran fs [f0, f1, f2, f3, f4, f5, f6, f7, f8, f9] := ⟨_, rfl⟩
  rw [← hRES]
  have HRES := hide hRES
  clear hRES hall hz hp
  go_enter Try.func19, Try.ntmps19
  go_wp2_with fail
  obtain ⟨W0, hW0⟩ : ∃ W0, W0 = w.alloc (.cells #[.int .i64 f0, .int .i64 f1, .int .i64 f2, .int .i64 f3, .int .i64 f4, .int .i64 f5, .int .i64 f6, .int .i64 f7, .int .i64 f8, .int .i64 f9, .string body] 42) := ⟨_, rfl⟩
  have c0 : W0.cell? ⟨w.heap.size, 0, none⟩ = some (.int .i64 f0) := by rw [hW0]; simp
  have c1 : W0.cell? ⟨w.heap.size, 1, none⟩ = some (.int .i64 f1) := by rw [hW0]; simp
  have c2 : W0.cell? ⟨w.heap.size, 2, none⟩ = some (.int .i64 f2) := by rw [hW0]; simp
  have c3 : W0.cell? ⟨w.heap.size, 3, none⟩ = some (.int .i64 f3) := by rw [hW0]; simp
  have c4 : W0.cell? ⟨w.heap.size, 4, none⟩ = some (.int .i64 f4) := by rw [hW0]; simp
  have c5 : W0.cell? ⟨w.heap.size, 5, none⟩ = some (.int .i64 f5) := by rw [hW0]; simp
  have c6 : W0.cell? ⟨w.heap.size, 6, none⟩ = some (.int .i64 f6) := by rw [hW0]; simp
  have c7 : W0.cell? ⟨w.heap.size, 7, none⟩ = some (.int .i64 f7) := by rw [hW0]; simp
  have c8 : W0.cell? ⟨w.heap.size, 8, none⟩ = some (.int .i64 f8) := by rw [hW0]; simp
  have c9 : W0.cell? ⟨w.heap.size, 9, none⟩ = some (.int .i64 f9) := by rw [hW0]; simp
  have cb : W0.cell? ⟨w.heap.size, 10, none⟩ = some (.string body) := by rw [hW0]; simp
  have hfr0 : ∀ i, W0.frozen? ⟨w.heap.size, i, none⟩ = false := fun i => by rw [hW0]; simp
  have hb0 : Below w.heap.size w W0 := by rw [hW0]; exact (Below.refl _ _).alloc (Nat.le_refl _) _
  have hz0' : w.heap.size < W0.heap.size := by rw [hW0]; simp
  rw [← hW0]
  clear hW0
  have HFR0 := hide hfr0
  clear hfr0
  refine (flowsFault_any _ fs _ (HL.out.below hb0 (Nat.le_refl _)) (by omega)).mono ?_
  rintro e w1 ⟨rfl, hb1⟩
  rw [HZ.out]
  replace c0 := cell_below c0 hb1 (Nat.le_refl _)
  replace c1 := cell_below c1 hb1 (Nat.le_refl _)
  replace c2 := cell_below c2 hb1 (Nat.le_refl _)
  replace c3 := cell_below c3 hb1 (Nat.le_refl _)
  replace c4 := cell_below c4 hb1 (Nat.le_refl _)
  replace c5 := cell_below c5 hb1 (Nat.le_refl _)
  replace c6 := cell_below c6 hb1 (Nat.le_refl _)
  replace c7 := cell_below c7 hb1 (Nat.le_refl _)
  replace c8 := cell_below c8 hb1 (Nat.le_refl _)
  replace c9 := cell_below c9 hb1 (Nat.le_refl _)
  replace cb := cell_below cb hb1 (Nat.le_refl _)
  go_wp2_with fail
  refine (packetFault_any f0 f1 f2 f3 f4 f5 f6 f7 f8 f9 body _ hbm).mono ?_
  rintro e w2 ⟨rfl, hb2⟩
  rw [HP.out]
  replace c0 := cell_below c0 hb2 (Nat.le_refl _)
  replace c1 := cell_below c1 hb2 (Nat.le_refl _)
  replace c2 := cell_below c2 hb2 (Nat.le_refl _)
  replace c3 := cell_below c3 hb2 (Nat.le_refl _)
  replace c4 := cell_below c4 hb2 (Nat.le_refl _)
  replace c5 := cell_below c5 hb2 (Nat.le_refl _)
  replace c6 := cell_below c6 hb2 (Nat.le_refl _)
  replace c7 := cell_below c7 hb2 (Nat.le_refl _)
  replace c8 := cell_below c8 hb2 (Nat.le_refl _)
  replace c9 := cell_below c9 hb2 (Nat.le_refl _)
  replace cb := cell_below cb hb2 (Nat.le_refl _)
  have hb12 : Below W0.heap.size W0 w2 := hb1.trans (hb2.mono hb1.size)
  have HFR : Hid (∀ i, w2.frozen? ⟨w.heap.size, i, none⟩ = false) := fun i => (hb12.frozen (p := ⟨w.heap.size, i, none⟩) hz0').trans (HFR0.out i)
  have hb02 : Below w.heap.size w w2 := hb0.trans (hb12.mono hb0.size)
  have hs2 : w.heap.size < w2.heap.size := Nat.lt_of_lt_of_le hz0' hb12.size
  clear hb1 hb2 hb12 hb0 hz0' HFR0 W0 w1
  have HPK : Hid (PkF w2 w.heap.size [f0, f1, f2, f3, f4, f5, f6, f7, f8, f9] body) := hide ⟨⟨rfl, fun i hi => by
      have hc : i = 0 ∨ i = 1 ∨ i = 2 ∨ i = 3 ∨ i = 4 ∨ i = 5 ∨ i = 6 ∨ i = 7 ∨ i = 8 ∨ i = 9 := by omega
      rcases hc with rfl | rfl | rfl | rfl | rfl | rfl | rfl | rfl | rfl | rfl
      all_goals assumption, cb⟩, HFR.out⟩
  clear c0 c1 c2 c3 c4 c5 c6 c7 c8 c9 cb HFR HP
  obtain ⟨F0, hF0⟩ : ∃ F0 : List Int, F0 = [f0, f1, f2, f3, f4, f5, f6, f7, f8, f9] := ⟨_, rfl⟩
  rw [← hF0] at HPK HWF HRES
  clear hF0
  go_wp2_with fail
  go_loopw [7, 8] (fun o t wr => ∃ (j : Nat) (s : St), Hid (WF s.F) ∧ (j : Int) ≤ s.t ∧ s.t ≤ 8 ∧ s.out.length ≤ 100 * j ∧ t = .int .i64 s.t ∧ Hid (runN fs (8 - j) s = runN fs 8 ⟨F0, 0, []⟩) ∧ Hid (PkF wr w.heap.size s.F body) ∧ Hid (wr.ownsRow (w.heap.size + 1) 72 13 o s.out.length (S body s.out)) ∧ Below w.heap.size w wr ∧ w.heap.size < wr.heap.size) (fun _ t _ => 8 - (intOf t).toNat)
  case atStart => exact ⟨0, ⟨F0, 0, []⟩, HWF, by simp, by simp, by simp, rfl, hide rfl, HPK, hide (World.ownsRow_nil _ _ _ _), hb02, hs2⟩
  case round =>
    clear HPK hb02 hs2 HWF
    obtain ⟨j, s, HWF, hj1, ht8, hol, rfl, HRN, HPK, HOW, hbel, hsz⟩ := hrel
    obtain ⟨SF, st, so⟩ := s
    simp only at HWF hj1 ht8 hol HRN HPK HOW
    by_cases ht : st ≤ 7
    · obtain ⟨f0, f1, f2, f3, f4, f5, f6, f7, f8, f9, rfl⟩ := len10 HWF.out.1
      have htd : decide (st ≤ 7) = true := by simpa using ht
      have HTB : Hid (runN fs (8 - j) ⟨[f0, f1, f2, f3, f4, f5, f6, f7, f8, f9], st, so⟩ = runN fs (8 - (j + 1)) (table fs ⟨[f0, f1, f2, f3, f4, f5, f6, f7, f8, f9], st, so⟩)) := by
        show _ = _
        have e : 8 - j = (8 - (j + 1)) + 1 := by omega
        rw [e]
        show (if 7 < st then _ else _) = _
        rw [if_neg (by omega)]
      obtain ⟨oo, oc, rfl, hoc, hog⟩ : ∃ oo oc, u7 = .slice oo so.length oc ∧ so.length ≤ oc ∧ (0 < so.length → ∃ g, oo = some ⟨g, 0, none⟩) := by
        obtain ⟨_, ⟨rfl, h0⟩ | ⟨g, cap, cur, rfl, _, _, hc, _⟩⟩ := HOW.out
        · exact ⟨none, 0, by rw [h0], by omega, fun h => absurd h (by omega)⟩
        · exact ⟨_, cap, rfl, hc, fun _ => ⟨g, rfl⟩⟩
      have hwl : IntKind.i64.wrap ((fs.length : Int) - 1) = (fs.length : Int) - 1 := wrapZ _ (by omega) (by omega)
      obtain ⟨F, hFd⟩ : ∃ F : List Int, F = [f0, f1, f2, f3, f4, f5, f6, f7, f8, f9] := ⟨_, rfl⟩
      rw [← hFd] at HWF HRN HPK HTB
      clear hFd
      go_wp2_with fail
      obtain ⟨WP, hWP⟩ : ∃ WP, WP = wr := ⟨_, rfl⟩
      rw [← hWP] at HPK HOW hbel hsz ⊢
      clear hWP wr
      go_loopw [9, 10] (fun o i wq => ∃ (k : Nat) (B : Int), k ≤ fs.length ∧ i = .int .i64 ((k : Int) - 1) ∧ o = .int .i64 B ∧ Hid (Best fs F st k fs.length B) ∧ Below WP.heap.size WP wq) (fun _ i _ => (intOf i + 1).toNat)
      case atStart => exact ⟨fs.length, -1, Nat.le_refl _, rfl, rfl, hide (.inl ⟨rfl, fun i h1 h2 => absurd h1 (by omega)⟩), Below.refl _ _⟩
      case round =>
        obtain ⟨k, B, hk, rfl, rfl, HBE, hbq⟩ := hrel
        have hbel1 : Below w.heap.size w wr := hbel.trans (hbq.mono hbel.size)
        have HPK1 := hide (HPK.out.below hbq hsz)
        have HOW1 := hide (ownB HOW.out hbq)
        have hsz1 := Nat.lt_of_lt_of_le hsz hbq.size
        rcases Nat.eq_zero_or_pos k with h0 | h0
        · subst h0
          rw [show (((0 : Nat) : Int) - 1) = -1 from rfl]
          have HBB : Hid (B = bestTo fs F st fs.length) := hide (HBE.out.unique (bestTo_best fs F st fs.length))
          obtain ⟨ds, hdsd⟩ : ∃ ds, ds = dsOf fs (bestTo fs F st fs.length) := ⟨_, rfl⟩
          have HTD : Hid (table fs ⟨F, st, so⟩ = stepTo ⟨F, 8, so⟩ ds ds.length) := by show _ = _; rw [hdsd]; rfl
          have HDB : Hid (ds.length ≤ 100 ∧ ∀ k, k < ds.length → doB st ds k = true) := by
            have hbi := bestTo_best fs F st fs.length
            rw [hdsd]
            unfold dsOf
            rcases hbi with ⟨hb, _⟩ | ⟨i, hb, _, hi, hf, _⟩
            · rw [hb]; exact hide ⟨by simp, fun k hk => by simp at hk⟩
            · rw [hb, if_neg (by omega), Int.toNat_natCast]
              have hk := ok_flow HZ.out hi
              have hft : (fs.getD i fl0).t = st := by
                unfold fitB at hf
                simp only [Bool.and_eq_true, beq_iff_eq] at hf
                exact hf.1
              exact hide ⟨hk.2.2.1, by rw [← hft]; exact hk.2.2.2.2.2.2.2.2⟩
          rw [← HBB.out] at hdsd
          have HDSD := hide hdsd
          have hBb : -1 ≤ B ∧ B < fs.length := by
            rcases HBE.out with ⟨h, _⟩ | ⟨y, h, _, h2, _⟩ <;> omega
          clear HBB HBE hdsd
          have hdl := HDB.out.1
          have HOK : Hid (∀ k, k ≤ ds.length → Ok st (100 * j + k) (stepTo ⟨F, 8, so⟩ ds k)) := fun k hk => Ok.stepTo ⟨HWF.out, by simp; omega, by simp, by simp; omega⟩ HDB.out.2 k hk
          have HEX : Hid (B < 0 → ds.length = 0) := fun h => by rw [HDSD.out]; unfold dsOf; rw [if_pos h]; rfl
          have HCE : Hid (∀ y : Nat, B = y → ∃ b off, a = some ⟨b, off, none⟩ ∧ fs.length ≤ cap ∧ y < fs.length ∧ ∃ dv, w.cell? ⟨b, off + y * 4 + 3, none⟩ = some dv ∧ DsAt w dv ds) := fun y hy => by
            have hyl : y < fs.length := by omega
            obtain ⟨b, off, h1, _, h2, h3⟩ := fs_cell HL.out hyl
            obtain ⟨_, _, mv, dv, _, p3, _, hd⟩ := h3 y hyl
            refine ⟨b, off, h1, h2, hyl, dv, p3, ?_⟩
            rw [HDSD.out]; unfold dsOf; rw [if_neg (by omega), hy, Int.toNat_natCast]; exact hd
          clear HDSD
          go_wp2_with fail
          obtain ⟨WQ, hWQ⟩ : ∃ WQ, WQ = wr := ⟨_, rfl⟩
          rw [← hWQ] at hbq hbel1 HPK1 HOW1 hsz1 ⊢
          clear hWQ wr
          go_loopw [7, 8, 14] (fun o t i wq => ∃ (k : Nat), k ≤ ds.length ∧ i = .int .i64 k ∧ t = .int .i64 (stepTo ⟨F, 8, so⟩ ds k).t ∧ Hid (PkF wq w.heap.size (stepTo ⟨F, 8, so⟩ ds k).F body) ∧ Hid (wq.ownsRow (w.heap.size + 1) 72 13 o (stepTo ⟨F, 8, so⟩ ds k).out.length (S body (stepTo ⟨F, 8, so⟩ ds k).out)) ∧ Below w.heap.size w wq ∧ w.heap.size < wq.heap.size) (fun _ _ i _ => ds.length - (intOf i).toNat)
          case atStart => exact ⟨0, by omega, rfl, rfl, HPK1, HOW1, hbel1, hsz1⟩
          case round =>
            clear HPK1 HOW1 hbel1 hsz1 HPK HOW hbel hsz hbq
            obtain ⟨k, hk, rfl, rfl, HPK, HOW, hbel, hsz⟩ := hrel
            by_cases hB : B < 0
            · have hd0 := HEX.out hB
              have hk0 : k = 0 := by omega
              subst hk0
              have hBd : decide (0 ≤ B) = false := by simp; omega
              have hok := HOK.out ds.length (Nat.le_refl _)
              rw [← HTD.out] at hok
              rw [hd0] at HTD
              rw [← HTD.out] at HPK HOW
              rw [← HTD.out]
              rw [HTB.out] at HRN
              clear HOK HTD HTB HDB HCE HEX
              generalize table fs ⟨F, st, so⟩ = s1 at *
              obtain ⟨hw0, hw7, hw8, hwo⟩ := hok
              have HW0 := hide hw0
              clear hw0
              go_wp2_with fail
              go_roundw
              case rel => exact ⟨j + 1, s1, HW0, by omega, hw8, by omega, rfl, HRN, HPK, HOW, hbel, hsz⟩
              case measure => simp [intOf]; omega
            · obtain ⟨y, rfl⟩ := Int.eq_ofNat_of_zero_le (show 0 ≤ B by omega)
              obtain ⟨b, off, rfl, hcap, hyl, dv, p3', hds⟩ := HCE.out y rfl
              have hyli : (y : Int) < fs.length := by omega
              have p3 := cell_below p3' hbel (Nat.le_refl _)
              have HDS := hide hds
              obtain ⟨da, dcap, rfl, hdn, _⟩ := hds
              by_cases hlt : k < ds.length
              · have HSTEP : Hid (stepTo ⟨F, 8, so⟩ ds (k + 1) = step (stepTo ⟨F, 8, so⟩ ds k) (ds.getD k do0)) := rfl
                have HOKk := hide (HOK.out k (by omega))
                have hpd := doB_parts (HDB.out.2 k hlt)
                obtain ⟨db, doff, rfl, hdc, hcell⟩ : ∃ b off, da = some ⟨b, off, none⟩ ∧ ds.length ≤ dcap ∧ ∀ i, i < ds.length → w.cell? ⟨b, off + i * 3, none⟩ = some (.int .i64 (ds.getD i do0).k) ∧ w.cell? ⟨b, off + i * 3 + 1, none⟩ = some (.int .i64 (ds.getD i do0).a) ∧ w.cell? ⟨b, off + i * 3 + 2, none⟩ = some (.int .i64 (ds.getD i do0).n) := by
                  obtain ⟨a', cap', hv, hn', hL⟩ := HDS.out
                  simp only [Value.slice.injEq] at hv
                  obtain ⟨rfl, _, rfl⟩ := hv
                  rcases hL with h0 | h
                  · omega
                  · exact h
                obtain ⟨g0, g1, g2⟩ := hcell k hlt
                have m0 := cell_below g0 hbel (Nat.le_refl _)
                have m1 := cell_below g1 hbel (Nat.le_refl _)
                have m2 := cell_below g2 hbel (Nat.le_refl _)
                clear g0 g1 g2 hcell HCE HEX
                generalize stepTo ⟨F, 8, so⟩ ds k = s0 at *
                generalize ds.getD k do0 = d at *
                obtain ⟨dk, dA, dn⟩ := d
                obtain ⟨SF, st1, so1⟩ := s0
                simp only at hpd m0 m1 m2 HPK HOW
                obtain ⟨hw0, _, hw8, hwo⟩ := HOKk.out
                simp only at hw0 hw8 hwo
                have HW0 := hide hw0
                clear hw0
                obtain ⟨oo1, oc1, rfl, hoc1, hog1⟩ : ∃ oo oc, u7 = .slice oo so1.length oc ∧ so1.length ≤ oc ∧ (0 < so1.length → ∃ g, oo = some ⟨g, 0, none⟩) := by
                  obtain ⟨_, ⟨rfl, h0⟩ | ⟨g, cap, cur, rfl, _, _, hc, _⟩⟩ := HOW.out
                  · exact ⟨none, 0, by rw [h0], by omega, fun h => absurd h (by omega)⟩
                  · exact ⟨_, cap, rfl, hc, fun _ => ⟨g, rfl⟩⟩
                have hA : ∀ o : Obj, Below wr.heap.size wr (wr.alloc o) := fun o => (Below.refl _ _).alloc (Nat.le_refl _) o
                rcases hpd with ⟨rfl, a0, a1, hn1⟩ | ⟨rfl, a0, a1, n0, n1⟩ | ⟨rfl, a0, a1⟩ | ⟨rfl, n0, n1⟩ | ⟨rfl, hn1⟩ | ⟨rfl, n0, n1⟩
                · obtain ⟨q, rfl⟩ := Int.eq_ofNat_of_zero_le a0
                  have hq : q < 10 := by omega
                  have hqi : (q : Int) < 10 := by omega
                  have HS1 : Hid (stepTo ⟨F, 8, so⟩ ds (k + 1) = ⟨SF.set q dn, st1, so1⟩) := by show _ = _; rw [HSTEP.out]; unfold step doF; simp
                  have cq := HPK.out.1.2.1 q hq
                  have zq := HPK.out.2 q
                  have HP1 := hide (HPK.out.set1 (i := q) dn hq)
                  have HO1 := hide (ownS HOW.out (a := ⟨w.heap.size, q, none⟩) (Nat.lt_succ_self _) (.int .i64 dn))
                  have hbel2 := hbel.setCell (p := ⟨w.heap.size, q, none⟩) (Nat.le_refl _) (.int .i64 dn)
                  clear HSTEP
                  generalize SF.getD q 0 = xq at *
                  go_wp2_with fail
                  go_roundw
                  case rel => exact ⟨k + 1, by omega, by go_num, by rw [HS1.out], by rw [HS1.out]; exact hide (HP1.out.below ((Below.refl _ _).alloc (Nat.le_refl _) _) (by simp; omega)), by rw [HS1.out]; exact hide (ownB HO1.out ((Below.refl _ _).alloc (Nat.le_refl _) _)), hbel2.alloc hbel2.size _, by simp; omega⟩
                  case measure => simp [intOf]; omega
                · obtain ⟨q, rfl⟩ := Int.eq_ofNat_of_zero_le a0
                  obtain ⟨m, rfl⟩ := Int.eq_ofNat_of_zero_le n0
                  have hq : q < 10 := by omega
                  have hqi : (q : Int) < 10 := by omega
                  have hm10 : m < 10 := by omega
                  have hmi : (m : Int) < 10 := by omega
                  have HS1 : Hid (stepTo ⟨F, 8, so⟩ ds (k + 1) = ⟨SF.set q (SF.getD m 0), st1, so1⟩) := by show _ = _; rw [HSTEP.out]; unfold step doF; simp
                  have cq := HPK.out.1.2.1 q hq
                  have cm := HPK.out.1.2.1 m hm10
                  have zq := HPK.out.2 q
                  have HP1 := hide (HPK.out.set1 (i := q) (SF.getD m 0) hq)
                  have HO1 := hide (ownS HOW.out (a := ⟨w.heap.size, q, none⟩) (Nat.lt_succ_self _) (.int .i64 (SF.getD m 0)))
                  have hbel2 := hbel.setCell (p := ⟨w.heap.size, q, none⟩) (Nat.le_refl _) (.int .i64 (SF.getD m 0))
                  clear HSTEP
                  generalize SF.getD q 0 = xq at *
                  generalize SF.getD m 0 = xm at *
                  go_wp2_with fail
                  go_region
                  all_goals go_wp2
                  all_goals
                    go_roundw
                    case rel => exact ⟨k + 1, by omega, by go_num, by rw [HS1.out], by rw [HS1.out]; exact hide (HP1.out.below (((Below.refl _ _).alloc (Nat.le_refl _) _).drew) (by simp; omega)), by rw [HS1.out]; exact hide (ownB HO1.out (((Below.refl _ _).alloc (Nat.le_refl _) _).drew)), (hbel2.alloc hbel2.size _).drew, by simp; omega⟩
                    case measure => simp [intOf]; omega
                · obtain ⟨q, rfl⟩ := Int.eq_ofNat_of_zero_le a0
                  have hq : q < 10 := by omega
                  have hqi : (q : Int) < 10 := by omega
                  have HS1 : Hid (stepTo ⟨F, 8, so⟩ ds (k + 1) = ⟨SF.set q (if 0 < SF.getD q 0 then SF.getD q 0 - 1 else 0), st1, so1⟩) := by show _ = _; rw [HSTEP.out]; unfold step doF; simp
                  have cq := HPK.out.1.2.1 q hq
                  have zq := HPK.out.2 q
                  have hxb := HW0.out.bd q
                  have HSS : Hid (SF.getD q 0 = 0 → SF.set q 0 = SF) := fun h => by
                    have hl := HW0.out.1
                    refine List.ext_getElem? fun i => ?_
                    rw [List.getElem?_set]
                    by_cases e : q = i
                    · subst e
                      have hql : q < SF.length := by omega
                      simp [List.getD, List.getElem?_eq_getElem hql] at h
                      simp [hql, h]
                    · simp [e]
                  have HP1 := hide (HPK.out.set1 (i := q) (SF.getD q 0 - 1) hq)
                  have HO1 := hide (ownS HOW.out (a := ⟨w.heap.size, q, none⟩) (Nat.lt_succ_self _) (.int .i64 (SF.getD q 0 - 1)))
                  have hbel2 := hbel.setCell (p := ⟨w.heap.size, q, none⟩) (Nat.le_refl _) (.int .i64 (SF.getD q 0 - 1))
                  clear HSTEP
                  generalize SF.getD q 0 = xq at *
                  by_cases hx0 : 0 < xq
                  · have hwx : IntKind.i64.wrap (xq - 1) = xq - 1 := wrapZ _ (by omega) (by omega)
                    rw [if_pos hx0] at HS1
                    go_wp2_with fail
                    go_region
                    all_goals go_wp2
                    all_goals
                      go_roundw
                      case rel => exact ⟨k + 1, by omega, by go_num, by rw [HS1.out], by rw [HS1.out]; exact hide (HP1.out.below (((Below.refl _ _).alloc (Nat.le_refl _) _).drew) (by simp; omega)), by rw [HS1.out]; exact hide (ownB HO1.out (((Below.refl _ _).alloc (Nat.le_refl _) _).drew)), (hbel2.alloc hbel2.size _).drew, by simp; omega⟩
                      case measure => simp [intOf]; omega
                  · rw [if_neg hx0, HSS.out (by omega)] at HS1
                    go_wp2_with fail
                    go_roundw
                    case rel => exact ⟨k + 1, by omega, by go_num, by rw [HS1.out], by rw [HS1.out]; exact hide (HPK.out.below (hA _) hsz), by rw [HS1.out]; exact hide (ownB HOW.out (hA _)), hbel.trans ((hA _).mono hbel.size), by simp; omega⟩
                    case measure => simp [intOf]; omega
                · have HS1 : Hid (stepTo ⟨F, 8, so⟩ ds (k + 1) = ⟨SF, dn, so1⟩) := by show _ = _; rw [HSTEP.out]; unfold step; simp
                  go_wp2_with fail
                  go_roundw
                  case rel => exact ⟨k + 1, by omega, by go_num, by rw [HS1.out], by rw [HS1.out]; exact hide (HPK.out.below (hA _) hsz), by rw [HS1.out]; exact hide (ownB HOW.out (hA _)), hbel.trans ((hA _).mono hbel.size), by simp; omega⟩
                  case measure => simp [intOf]; omega
                · obtain ⟨p0, p1, p2, p3, p4, p5, p6, p7, p8, p9, rfl⟩ := len10 HW0.out.1
                  obtain ⟨c0, c1, c2, c3, c4, c5, c6, c7, c8, c9, cb⟩ := HPK.out.cells
                  have HS1 : Hid (stepTo ⟨F, 8, so⟩ ds (k + 1) = ⟨[p0, p1, p2, p3, p4, p5, p6, p7, p8, p9], st1, so1 ++ [⟨5, dn, [p0, p1, p2, p3, p4, p5, p6, p7, p8, p9]⟩]⟩) := by show _ = _; rw [HSTEP.out]; unfold step; simp
                  obtain ⟨W2, hW2⟩ : ∃ W2, W2 = wr.alloc (.cells #[.int .i64 5, .int .i64 dA, .int .i64 dn] 68) := ⟨_, rfl⟩
                  obtain ⟨W3, hW3⟩ : ∃ W3, W3 = W2.alloc (.cells #[.int .i64 5, .int .i64 dn, .int .i64 p0, .int .i64 p1, .int .i64 p2, .int .i64 p3, .int .i64 p4, .int .i64 p5, .int .i64 p6, .int .i64 p7, .int .i64 p8, .int .i64 p9, .string body] 72) := ⟨_, rfl⟩
                  have hb3 : Below wr.heap.size wr W3 := by rw [hW3, hW2]; exact (hA _).alloc (by simp) _
                  have hsz3 : wr.heap.size < W3.heap.size := by rw [hW3, hW2]; simp; omega
                  have HOW3 := hide (ownB HOW.out hb3)
                  have HPK3 := hide (HPK.out.below hb3 hsz)
                  have HNW := hide (news13 W2 72 5 dn p0 p1 p2 p3 p4 p5 p6 p7 p8 p9 body)
                  have eW2 : W2.heap.size = wr.heap.size + 1 := by rw [hW2]; simp
                  rw [← hW3, eW2] at HNW
                  have HW3 : Hid ((wr.alloc (.cells #[.int .i64 5, .int .i64 dA, .int .i64 dn] 68)).alloc (.cells #[.int .i64 5, .int .i64 dn, .int .i64 p0, .int .i64 p1, .int .i64 p2, .int .i64 p3, .int .i64 p4, .int .i64 p5, .int .i64 p6, .int .i64 p7, .int .i64 p8, .int .i64 p9, .string body] 72) = W3) := by show _ = _; rw [hW3, hW2]
                  clear hW2 hW3 HPK HOW HSTEP
                  go_wp2_with (at_builtin; rw [HW3.out]; refine wpList_append_own _ rfl _ _ 45 rfl (w.heap.size + 1) 72 i0 _ 13 112 Try.underlying45 hi hz0 hz1 hz2 rfl (by decide) _ _ _ rfl (unhide HOW3) ⟨wr.heap.size + 1, 0, none⟩ 1 1 (S body [⟨5, dn, [p0, p1, p2, p3, p4, p5, p6, p7, p8, p9]⟩]) rfl rfl ?a1 ?a2 ?a3 ?a4 ?a5 ?_)
                  case a1 => exact fun j u hj => by have := HNW.out j u hj; rwa [addf] at this
                  case a2 => exact S_one _ _
                  case a3 => unfold maxLen; omega
                  case a4 => omega
                  case a5 => omega
                  intro v4 w4 ho4 hg4 _
                  have hb4 : Below (w.heap.size + 1) W3 w4 := below_grown1 hg4 (by omega) (own_ge HOW3.out)
                  have HPK4 := hide (HPK3.out.below hb4 (by omega))
                  have hbel4 : Below w.heap.size w w4 := (hbel.trans (hb3.mono hbel.size)).trans (hb4.mono (Nat.le_succ _))
                  have hsz4 := hb4.size
                  have HOW4 : Hid (w4.ownsRow (w.heap.size + 1) 72 13 v4 (so1 ++ ([⟨5, dn, [p0, p1, p2, p3, p4, p5, p6, p7, p8, p9]⟩] : List Sn)).length (S body (so1 ++ ([⟨5, dn, [p0, p1, p2, p3, p4, p5, p6, p7, p8, p9]⟩] : List Sn)))) := by
                    refine hide ?_
                    rw [S_append, List.length_append]; exact ho4
                  obtain ⟨vo4, vc4, rfl⟩ : ∃ a c, v4 = .slice a (so1.length + 1) c := by
                    obtain ⟨_, ⟨rfl, h0⟩ | ⟨g, cap, cur, rfl, _⟩⟩ := ho4
                    · omega
                    · exact ⟨_, _, rfl⟩
                  clear ho4 hg4 HOW3 HPK3 hb3 hb4 HNW HW3 m0 m1 m2 c0 c1 c2 c3 c4 c5 c6 c7 c8 c9 cb
                  go_wp2_with fail
                  go_roundw
                  case rel => exact ⟨k + 1, by omega, by go_num, by rw [HS1.out], by rw [HS1.out]; exact HPK4, by rw [HS1.out]; exact HOW4, hbel4, by omega⟩
                  case measure => simp [intOf]; omega
                · obtain ⟨p0, p1, p2, p3, p4, p5, p6, p7, p8, p9, rfl⟩ := len10 HW0.out.1
                  obtain ⟨c0, c1, c2, c3, c4, c5, c6, c7, c8, c9, cb⟩ := HPK.out.cells
                  have HS1 : Hid (stepTo ⟨F, 8, so⟩ ds (k + 1) = ⟨[p0, p1, p2, p3, p4, p5, p6, p7, p8, p9], st1, so1 ++ [⟨6, dn, [p0, p1, p2, p3, p4, p5, p6, p7, p8, p9]⟩]⟩) := by show _ = _; rw [HSTEP.out]; unfold step; simp
                  obtain ⟨W2, hW2⟩ : ∃ W2, W2 = wr.alloc (.cells #[.int .i64 6, .int .i64 dA, .int .i64 dn] 68) := ⟨_, rfl⟩
                  obtain ⟨W3, hW3⟩ : ∃ W3, W3 = W2.alloc (.cells #[.int .i64 6, .int .i64 dn, .int .i64 p0, .int .i64 p1, .int .i64 p2, .int .i64 p3, .int .i64 p4, .int .i64 p5, .int .i64 p6, .int .i64 p7, .int .i64 p8, .int .i64 p9, .string body] 72) := ⟨_, rfl⟩
                  have hb3 : Below wr.heap.size wr W3 := by rw [hW3, hW2]; exact (hA _).alloc (by simp) _
                  have hsz3 : wr.heap.size < W3.heap.size := by rw [hW3, hW2]; simp; omega
                  have HOW3 := hide (ownB HOW.out hb3)
                  have HPK3 := hide (HPK.out.below hb3 hsz)
                  have HNW := hide (news13 W2 72 6 dn p0 p1 p2 p3 p4 p5 p6 p7 p8 p9 body)
                  have eW2 : W2.heap.size = wr.heap.size + 1 := by rw [hW2]; simp
                  rw [← hW3, eW2] at HNW
                  have HW3 : Hid ((wr.alloc (.cells #[.int .i64 6, .int .i64 dA, .int .i64 dn] 68)).alloc (.cells #[.int .i64 6, .int .i64 dn, .int .i64 p0, .int .i64 p1, .int .i64 p2, .int .i64 p3, .int .i64 p4, .int .i64 p5, .int .i64 p6, .int .i64 p7, .int .i64 p8, .int .i64 p9, .string body] 72) = W3) := by show _ = _; rw [hW3, hW2]
                  clear hW2 hW3 HPK HOW HSTEP
                  go_wp2_with (at_builtin; rw [HW3.out]; refine wpList_append_own _ rfl _ _ 45 rfl (w.heap.size + 1) 72 i0 _ 13 112 Try.underlying45 hi hz0 hz1 hz2 rfl (by decide) _ _ _ rfl (unhide HOW3) ⟨wr.heap.size + 1, 0, none⟩ 1 1 (S body [⟨6, dn, [p0, p1, p2, p3, p4, p5, p6, p7, p8, p9]⟩]) rfl rfl ?a1 ?a2 ?a3 ?a4 ?a5 ?_)
                  case a1 => exact fun j u hj => by have := HNW.out j u hj; rwa [addf] at this
                  case a2 => exact S_one _ _
                  case a3 => unfold maxLen; omega
                  case a4 => omega
                  case a5 => omega
                  intro v4 w4 ho4 hg4 _
                  have hb4 : Below (w.heap.size + 1) W3 w4 := below_grown1 hg4 (by omega) (own_ge HOW3.out)
                  have HPK4 := hide (HPK3.out.below hb4 (by omega))
                  have hbel4 : Below w.heap.size w w4 := (hbel.trans (hb3.mono hbel.size)).trans (hb4.mono (Nat.le_succ _))
                  have hsz4 := hb4.size
                  have HOW4 : Hid (w4.ownsRow (w.heap.size + 1) 72 13 v4 (so1 ++ ([⟨6, dn, [p0, p1, p2, p3, p4, p5, p6, p7, p8, p9]⟩] : List Sn)).length (S body (so1 ++ ([⟨6, dn, [p0, p1, p2, p3, p4, p5, p6, p7, p8, p9]⟩] : List Sn)))) := by
                    refine hide ?_
                    rw [S_append, List.length_append]; exact ho4
                  obtain ⟨vo4, vc4, rfl⟩ : ∃ a c, v4 = .slice a (so1.length + 1) c := by
                    obtain ⟨_, ⟨rfl, h0⟩ | ⟨g, cap, cur, rfl, _⟩⟩ := ho4
                    · omega
                    · exact ⟨_, _, rfl⟩
                  clear ho4 hg4 HOW3 HPK3 hb3 hb4 HNW HW3 m0 m1 m2 c0 c1 c2 c3 c4 c5 c6 c7 c8 c9 cb
                  go_wp2_with fail
                  go_roundw
                  case rel => exact ⟨k + 1, by omega, by go_num, by rw [HS1.out], by rw [HS1.out]; exact HPK4, by rw [HS1.out]; exact HOW4, hbel4, by omega⟩
                  case measure => simp [intOf]; omega
              · have hkl : k = ds.length := by omega
                subst hkl
                have hok := HOK.out ds.length (Nat.le_refl _)
                rw [← HTD.out] at hok HPK HOW
                rw [← HTD.out]
                rw [HTB.out] at HRN
                clear HOK HTD HTB HDB HDS HCE HEX
                generalize table fs ⟨F, st, so⟩ = s1 at *
                obtain ⟨hw0, hw7, hw8, hwo⟩ := hok
                have HW0 := hide hw0
                clear hw0
                go_wp2_with fail
                go_roundw
                case rel => exact ⟨j + 1, s1, HW0, by omega, hw8, by omega, rfl, HRN, HPK, HOW, hbel, hsz⟩
                case measure => simp [intOf]; omega
        · obtain ⟨ii, rfl⟩ : ∃ ii, k = ii + 1 := ⟨k - 1, by omega⟩
          have e1 : ((ii + 1 : Nat) : Int) - 1 = (ii : Int) := by omega
          rw [e1]
          have hil : ii < fs.length := by omega
          have hii : (0 : Int) ≤ (ii : Int) := by omega
          have hwi : IntKind.i64.wrap ((ii : Int) - 1) = (ii : Int) - 1 := wrapZ _ (by omega) (by omega)
          obtain ⟨b, off, rfl, _, hcap, hcell⟩ := fs_cell HL.out hil
          have hf := (hcell ii hil).below hbel1 (Nat.le_refl _)
          have HOK := hide (ok_flow HZ.out hil)
          have HBC : Hid (∀ (W : World), Below w.heap.size w W → ∀ y : Nat, y < fs.length → W.cell? ⟨b, off + y * 4 + 1, none⟩ = some (.int .i64 (fs.getD y fl0).p)) := fun W hW y hy => (((hcell y hy).below hW (Nat.le_refl _)).2.1)
          have HBD : Hid (fitB F st (fs.getD ii fl0) = true → (B < 0 ∨ (fs.getD B.toNat fl0).p ≤ (fs.getD ii fl0).p) → Best fs F st ii fs.length ii) := fun h1 h2 => HBE.out.down hil h1 h2
          have HBS : Hid ((fitB F st (fs.getD ii fl0) = true → 0 ≤ B ∧ (fs.getD ii fl0).p < (fs.getD B.toNat fl0).p) → Best fs F st ii fs.length B) := fun h1 => HBE.out.stay hil h1
          have hBb : -1 ≤ B ∧ B < fs.length := by
            rcases HBE.out with ⟨h, _⟩ | ⟨y, h, _, h2, _⟩ <;> omega
          have HFW : Hid (FlAt w b (off + ii * 4) (fs.getD ii fl0)) := hcell ii hil
          generalize fs.getD ii fl0 = f at *
          clear hcell HBE
          obtain ⟨p0, p1, mv, dv, p2, p3, hms, hds⟩ := hf
          obtain ⟨ma, mcap, rfl, hmn, hmL⟩ := hms
          obtain ⟨da, dcap, rfl, hdn, hdL⟩ := hds
          clear hdL hdn p3
          have heq : ((f.t) == st) = okTo F st f 0 := by unfold okTo; simp
          go_wp2_with fail
          clear heq
          obtain ⟨WQ, hWQ⟩ : ∃ WQ, WQ = wr := ⟨_, rfl⟩
          rw [← hWQ] at hbq hbel1 HPK1 HOW1 hsz1 p0 p1 p2 hmL ⊢
          clear hWQ wr
          go_loopw [11, 12] (fun o i wz => ∃ (q : Nat), q ≤ f.ms.length ∧ i = .int .i64 q ∧ o = .bool (okTo F st f q) ∧ Below WQ.heap.size WQ wz) (fun _ i _ => f.ms.length - (intOf i).toNat)
          case atStart => exact ⟨0, by omega, rfl, rfl, Below.refl _ _⟩
          case round =>
            obtain ⟨q, hq, rfl, rfl, hbz⟩ := hrel
            have r2 := cell_below p2 hbz (Nat.le_refl _)
            have hszz := hbz.size
            have hszr : w.heap.size < wr.heap.size := by omega
            have hml : f.ms.length ≤ 12 := HOK.out.2.1
            by_cases hql : q < f.ms.length
            · obtain ⟨mb, moff, rfl, hmc, hmcell⟩ : ∃ mb moff, ma = some ⟨mb, moff, none⟩ ∧ f.ms.length ≤ mcap ∧ ∀ i, i < f.ms.length → WQ.cell? ⟨mb, moff + i * 3, none⟩ = some (.int .i64 (f.ms.getD i mt0).f) ∧ WQ.cell? ⟨mb, moff + i * 3 + 1, none⟩ = some (.int .i64 (f.ms.getD i mt0).m) ∧ WQ.cell? ⟨mb, moff + i * 3 + 2, none⟩ = some (.int .i64 (f.ms.getD i mt0).v) := by
                rcases hmL with h0 | h
                · omega
                · exact h
              obtain ⟨g0, g1, g2⟩ := hmcell q hql
              have m0' := cell_below g0 hbz (Nat.le_refl _)
              have m1' := cell_below g1 hbz (Nat.le_refl _)
              have m2' := cell_below g2 hbz (Nat.le_refl _)
              have hMk := HOK.out.2.2.2.2.2.2.2.1 q hql
              have HSU := hide (okTo_succ F st f q hql)
              clear g0 g1 g2 hmcell hmL
              generalize f.ms.getD q mt0 = M at *
              obtain ⟨mf, mm, mv⟩ := M
              simp only at m0' m1' m2' HSU
              simp only [matchB, fieldB, Bool.and_eq_true, decide_eq_true_eq] at hMk
              obtain ⟨⟨⟨⟨x0, x1⟩, y1⟩, y2⟩, _⟩ := hMk
              obtain ⟨z, rfl⟩ := Int.eq_ofNat_of_zero_le x0
              rw [Int.toNat_natCast] at HSU
              have hz10 : z < 10 := by omega
              have cz := (HPK1.out.below hbz hsz1).1.2.1 z hz10
              obtain ⟨v0, v1⟩ := HWF.out.bd z
              obtain ⟨u0, u1⟩ : 0 ≤ mm ∧ mm ≤ 65535 := by simpa [wordB] using y1
              generalize F.getD z 0 = x at *
              have hzi : (z : Int) < 10 := by omega
              obtain ⟨R1, hR1⟩ : ∃ R1, R1 = okTo F st f (q + 1) := ⟨_, rfl⟩
              have HR1E : Hid (okTo F st f (q + 1) = R1) := hR1.symm
              rw [← hR1] at HSU
              clear hR1
              generalize okTo F st f q = R0 at *
              cases R0
              · have HR1 : Hid (R1 = false) := by show _ = _; rw [HSU.out]; rfl
                clear HSU
                go_wp2_with fail
                go_quiet (fail)
                go_wp2
                go_roundw
                case rel => exact ⟨q + 1, by omega, by go_num, by rw [HR1E.out, HR1.out], below_drewN (hbz.alloc hszz _) _⟩
                case measure => simp [intOf]; omega
              · have HR1 : Hid (R1 = (mk x mm == mv)) := by show _ = _; rw [HSU.out]; rfl
                clear HSU
                go_wp2_with fail
                go_quiet ((go_at_call 32; exact Calls.quiet_of_same (masked_any _ _ _ v0 v1 u0 u1)))
                go_wp2
                go_roundw
                case rel => exact ⟨q + 1, by omega, by go_num, by rw [HR1E.out, HR1.out], below_drewN (hbz.alloc hszz _) _⟩
                case measure => simp [intOf]; omega
            · have hqe : q = f.ms.length := by omega
              subst hqe
              have HFB := hide (okTo_end F st f)
              have hbelz : Below w.heap.size w wr := hbel1.trans (hbz.mono hbel1.size)
              have r1 := cell_below p1 hbz (Nat.le_refl _)
              have hbqz : Below WP.heap.size WP wr := hbq.trans (hbz.mono hbq.size)
              rw [HFB.out]
              clear HFB HOK
              generalize fitB F st f = R at *
              cases R
              · have HR := hide (HBS.out (fun h => by simp at h))
                clear HBD HBS HBC HFW
                go_wp2_with fail
                go_quiet (fail)
                go_wp2
                go_roundw
                case rel => exact ⟨ii, B, by omega, rfl, rfl, HR, below_drewN hbqz _⟩
                case measure => simp [intOf]
              · by_cases hB : B < 0
                · have HR := hide (HBD.out rfl (.inl hB))
                  clear HBD HBS HBC HFW
                  go_wp2_with fail
                  go_quiet (fail)
                  go_wp2
                  go_roundw
                  case rel => exact ⟨ii, ii, by omega, rfl, rfl, HR, below_drewN hbqz _⟩
                  case measure => simp [intOf]
                · obtain ⟨y, rfl⟩ := Int.eq_ofNat_of_zero_le (show 0 ≤ B by omega)
                  have cy := HBC.out wr hbelz y (by omega)
                  rw [Int.toNat_natCast] at HBD HBS
                  have hyl : (y : Int) < fs.length := by omega
                  generalize (fs.getD y fl0).p = P at *
                  by_cases hp : P ≤ f.p
                  · have HR := hide (HBD.out rfl (.inr hp))
                    clear HBD HBS HBC HFW
                    go_wp2_with fail
                    go_quiet (fail)
                    go_wp2
                    go_roundw
                    case rel => exact ⟨ii, ii, by omega, rfl, rfl, HR, below_drewN hbqz _⟩
                    case measure => simp [intOf]
                  · have HR := hide (HBS.out (fun _ => ⟨by omega, by omega⟩))
                    clear HBD HBS HBC HFW
                    go_wp2_with fail
                    go_quiet (fail)
                    go_wp2
                    go_roundw
                    case rel => exact ⟨ii, y, by omega, rfl, rfl, HR, below_drewN hbqz _⟩
                    case measure => simp [intOf]
    · have htd : decide (st ≤ 7) = false := by simpa using ht
      have HEND : Hid (so = RES) := by
        show _ = _
        have h1 := HRN.out
        rw [runN_end fs _ (by show 7 < st; omega)] at h1
        rw [HRES.out]
        unfold ran
        rw [← h1]
      go_wp2_with fail
      go_ret2
      exact ⟨_, rfl, by rw [← HEND.out]; exact own_less HOW.out (Nat.le_succ _), hbel⟩

end Go.Proofs.Ytgkdmmfogibbjab
