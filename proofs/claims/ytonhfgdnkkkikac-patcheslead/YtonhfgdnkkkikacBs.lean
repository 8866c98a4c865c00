/-
  slices.BinarySearchFunc at flows in their places.
-/
import Derived.Test.YtonhfgdnkkkikacSk
import Derived.Test.YtonhfgdnkkkikacRlo
namespace Go.Proofs.Ytonhfgdnkkkikac
open Go.RowKit
set_option linter.unusedVariables false
set_option maxRecDepth 100000

theorem plc_le_lt {a b c : Fl} (h1 : plc a b ≤ 0) (h2 : plc b c < 0) : plc a c < 0 := by
  rcases Int.lt_or_eq_of_le h1 with h | h
  · exact plc_trans h h2
  · rw [plc_zero h]; exact h2
/-- In their places, some perhaps more than once. -/
def Srt0 (l : List Fl) : Prop := ∀ i j, i < j → j < l.length → plc (l.getD i fl0) (l.getD j fl0) ≤ 0
theorem srt0_lt {l : List Fl} (h : Srt0 l) {i j : Nat} {t : Fl} (hij : i ≤ j) (hj : j < l.length) (hl : plc (l.getD j fl0) t < 0) : plc (l.getD i fl0) t < 0 := by
  rcases Nat.lt_or_eq_of_le hij with e | e
  · exact plc_le_lt (h i j e hj) hl
  · rw [e]; exact hl
theorem srt0_ge {l : List Fl} (h : Srt0 l) {i j : Nat} {t : Fl} (hij : i ≤ j) (hj : j < l.length) (hl : 0 ≤ plc (l.getD i fl0) t) : 0 ≤ plc (l.getD j fl0) t := Int.not_lt.1 fun e => absurd (srt0_lt h hij hj e) (Int.not_lt.2 hl)
theorem getD_iff {l : List Fl} {t : Fl} : t ∈ l ↔ ∃ i, i < l.length ∧ l.getD i fl0 = t := by
  constructor
  · intro h
    obtain ⟨i, hi, e⟩ := List.getElem_of_mem h
    exact ⟨i, hi, by rw [List.getD_eq_getElem?_getD, List.getElem?_eq_getElem hi]; exact e⟩
  · rintro ⟨i, hi, e⟩
    rw [← e]; exact getD_in hi
theorem th_iff (f : Fl) (ys : List Fl) : ∀ m, th f ys m = true ↔ ∃ i, i < m ∧ ys.getD i fl0 = f
  | 0 => by simp [th]
  | m + 1 => by
    have ih := th_iff f ys m
    rw [th, Bool.or_eq_true, ih, beq_iff_eq]
    constructor
    · rintro (⟨i, hi, e⟩ | e)
      · exact ⟨i, by omega, e⟩
      · exact ⟨m, by omega, (plc_zero e).symm⟩
    · rintro ⟨i, hi, e⟩
      by_cases him : i = m
      · subst him; right; rw [e]; exact plc_self f
      · exact .inl ⟨i, by omega, e⟩
theorem th_mem (f : Fl) (ys : List Fl) : th f ys ys.length = true ↔ f ∈ ys := by rw [th_iff, getD_iff]

set_option maxHeartbeats 4000000 in
theorem search_any (l : List Fl) (t : Fl) (o ta tb : Option Addr) (cap tc td g : Nat) (w : World) (hF : FsAt w (.slice o l.length cap) l) (hS : Srt0 l) (hO : OrdAt w g) (h1 : MsAt w (.slice ta t.ms.length tc) t.ms) (h2 : DsAt w (.slice tb t.ds.length td) t.ds)
    (l1 : t.ms.length ≤ 2000000) (l2 : t.ds.length ≤ 2000000) (hl : l.length ≤ 2000000) (hs : ∀ f ∈ l, f.ms.length ≤ 2000000 ∧ f.ds.length ≤ 2000000) :
    Calls Try.prog 53 #[.slice o l.length cap, .agg #[.int .i64 t.t, .int .i64 t.p, .slice ta t.ms.length tc, .slice tb t.ds.length td], .func (.func 89) #[] #[.pointer (some ⟨g, 0, none⟩)]] w fun e w' => ∃ i fd, e = .returned (.tuple #[.int .i64 i, .bool fd]) ∧ (fd = true ↔ t ∈ l) ∧ Grw w w' := by
  have HF := hide hF
  have HS := hide hS
  have HC : Hid (∀ (W : World) (x : Fl) (xa xb : Option Addr) (xc xe : Nat), Grw w W → MsAt w (.slice xa x.ms.length xc) x.ms → DsAt w (.slice xb x.ds.length xe) x.ds → x.ms.length ≤ 2000000 → x.ds.length ≤ 2000000 → Calls Try.prog 89 #[.agg #[.int .i64 x.t, .int .i64 x.p, .slice xa x.ms.length xc, .slice xb x.ds.length xe], .agg #[.int .i64 t.t, .int .i64 t.p, .slice ta t.ms.length tc, .slice tb t.ds.length td], .pointer (some ⟨g, 0, none⟩)] W fun e w' => e = .returned (.int .i64 (plc x t)) ∧ Grw W w') := fun W x xa xb xc xe hW k1 k2 k3 k4 => by
    have := order_any x t xa ta xb tb xc tc xe td g W (hO.below hW.below) (k1.below hW.below (Nat.le_refl _)) (k2.below hW.below (Nat.le_refl _)) (h1.below hW.below (Nat.le_refl _)) (h2.below hW.below (Nat.le_refl _)) k3 k4 l1 l2
    rw [ordF_plc] at this
    exact this
  have HB := hide hs
  clear hs hF hS hO h1 h2
  go_enter Try.func53, Try.ntmps53
  go_wp2_with fail
  go_loopw [9, 10, 11] (fun i j _ wr => ∃ p q : Nat, p ≤ q ∧ q ≤ l.length ∧ i = .int .i64 p ∧ j = .int .i64 q ∧ Hid (∀ k, k < p → plc (l.getD k fl0) t < 0) ∧ Hid (∀ k, q ≤ k → k < l.length → 0 ≤ plc (l.getD k fl0) t) ∧ Grw (w.alloc (.cells #[.int .i64 t.t, .int .i64 t.p, .slice ta t.ms.length tc, .slice tb t.ds.length td] 41)) wr) (fun i j _ _ => (intOf j).toNat - (intOf i).toNat)
  case atStart => exact ⟨0, l.length, by omega, by omega, rfl, rfl, hide (fun k h => by omega), hide (fun k a b => by omega), Grw.refl _⟩
  case round =>
    obtain ⟨p, q, hpq, hq, rfl, rfl, HP, HQ, hgr⟩ := hrel
    have HG := hide hgr
    have hgw : Grw w wr := ((Grw.refl w).alloc _).trans hgr
    have t0 : wr.cell? ⟨w.heap.size, 0, none⟩ = some (.int .i64 t.t) := cell_below (by simp) hgr.below (Nat.le_refl _)
    have t1 : wr.cell? ⟨w.heap.size, 1, none⟩ = some (.int .i64 t.p) := cell_below (by simp) hgr.below (Nat.le_refl _)
    have t2 : wr.cell? ⟨w.heap.size, 2, none⟩ = some (.slice ta t.ms.length tc) := cell_below (by simp) hgr.below (Nat.le_refl _)
    have t3 : wr.cell? ⟨w.heap.size, 3, none⟩ = some (.slice tb t.ds.length td) := cell_below (by simp) hgr.below (Nat.le_refl _)
    have hbox : w.heap.size < wr.heap.size := by have := hgr.below.size; simp at this; omega
    by_cases hlt : p < q
    · obtain ⟨h, hh⟩ : ∃ h : Nat, h = (p + q) / 2 := ⟨_, rfl⟩
      have hm : h < l.length := by omega
      have e : ((p : Int) + (q : Int)) / 2 = (h : Int) := by omega
      have hph : p ≤ h := by omega
      have hhq : h < q := by omega
      clear hh
      obtain ⟨b, off, rfl, hcap, hcell⟩ := fsAt_one HF.out hm
      obtain ⟨g0, g1, gm, gd, g2, g3, hms, hds⟩ := hcell
      have hbd := HB.out _ (getD_in hm)
      have HMM := hide hms
      have HDD := hide hds
      have a0 := cell_below g0 hgw.below (Nat.le_refl _)
      have a1 := cell_below g1 hgw.below (Nat.le_refl _)
      have a2 := cell_below g2 hgw.below (Nat.le_refl _)
      have a3 := cell_below g3 hgw.below (Nat.le_refl _)
      obtain ⟨xa, xc, rfl, -, -⟩ := hms
      obtain ⟨xb, xe, rfl, -, -⟩ := hds
      have HX : Hid (∀ W : World, Grw w W → Calls Try.prog 89 #[.agg #[.int .i64 (l.getD h fl0).t, .int .i64 (l.getD h fl0).p, .slice xa (l.getD h fl0).ms.length xc, .slice xb (l.getD h fl0).ds.length xe], .agg #[.int .i64 t.t, .int .i64 t.p, .slice ta t.ms.length tc, .slice tb t.ds.length td], .pointer (some ⟨g, 0, none⟩)] W fun e w' => e = .returned (.int .i64 (plc (l.getD h fl0) t)) ∧ Grw W w') := fun W hW => HC.out W (l.getD h fl0) xa xb xc xe hW HMM.out HDD.out hbd.1 hbd.2
      have HLT : Hid (plc (l.getD h fl0) t < 0 → ∀ k, k < h + 1 → plc (l.getD k fl0) t < 0) := fun hR k hk => srt0_lt HS.out (by omega) hm hR
      have HGE : Hid (0 ≤ plc (l.getD h fl0) t → ∀ k, h ≤ k → k < l.length → 0 ≤ plc (l.getD k fl0) t) := fun hR k hk hkl => srt0_ge HS.out hk hkl hR
      clear g0 g1 g2 g3 hbd HMM HDD HC HS HB
      generalize plc (l.getD h fl0) t = R at *
      generalize (l.getD h fl0).t = x0 at *
      generalize (l.getD h fl0).p = x1 at *
      generalize (l.getD h fl0).ms.length = x2 at *
      generalize (l.getD h fl0).ds.length = x3 at *
      have q1 : (0 : Int) ≤ (h : Int) := by omega
      have q2 : (h : Int) < (l.length : Int) := by omega
      go_wp2_with fail
      clear e
      go_region_held3 (fun w' => (w'.cell? ⟨b, off + h * 4, none⟩ = some (.int .i64 x0) ∧ w'.cell? ⟨b, off + h * 4 + 1, none⟩ = some (.int .i64 x1) ∧ w'.cell? ⟨b, off + h * 4 + 2, none⟩ = some (.slice xa x2 xc) ∧ w'.cell? ⟨b, off + h * 4 + 3, none⟩ = some (.slice xb x3 xe)) ∧ w'.cell? ⟨w.heap.size, 0, none⟩ = some (.int .i64 t.t) ∧ w'.cell? ⟨w.heap.size, 1, none⟩ = some (.int .i64 t.p) ∧ w'.cell? ⟨w.heap.size, 2, none⟩ = some (.slice ta t.ms.length tc) ∧ w'.cell? ⟨w.heap.size, 3, none⟩ = some (.slice tb t.ds.length td)) (go_keep)
        (first | (go_at_call 89; refine (unhide HX _ hgw.drew).mono ?_; rintro e w1 ⟨rfl, hg1⟩; have hgB : Grw wr w1 := (Grw.refl wr).drew.trans hg1; have hb1 := hgB.below; have z0 := cell_below a0 hb1 (Nat.le_refl _); have z1 := cell_below a1 hb1 (Nat.le_refl _); have z2 := cell_below a2 hb1 (Nat.le_refl _); have z3 := cell_below a3 hb1 (Nat.le_refl _); have z4 := cell_below t0 hb1 (Nat.le_refl _); have z5 := cell_below t1 hb1 (Nat.le_refl _); have z6 := cell_below t2 hb1 (Nat.le_refl _); have z7 := cell_below t3 hb1 (Nat.le_refl _)))
      have hG1 := HG.out.trans hgB
      have HG1 := hide hG1
      clear hG1 hgB hb1 hg1 hgr hgw HG a0 a1 a2 a3 t0 t1 t2 t3 z0 z1 z2 z3 z4 z5 z6 z7 HX hbox
      by_cases hR : R < 0
      · have HN := hide (HLT.out hR)
        clear HLT HGE HP
        go_wp2_with fail
        go_roundw
        case rel => exact ⟨h + 1, q, by omega, by omega, by go_num, rfl, HN, HQ, HG1.out⟩
        case measure => simp [intOf]; omega
      · have HN := hide (HGE.out (Int.not_lt.1 hR))
        clear HLT HGE HQ
        go_wp2_with fail
        go_roundw
        case rel => exact ⟨p, h, by omega, by omega, rfl, by go_num, HP, HN, HG1.out⟩
        case measure => simp [intOf]; omega
    · have hpq' : p = q := by omega
      subst hpq'
      by_cases hpl : p < l.length
      · obtain ⟨b, off, rfl, hcap, hcell⟩ := fsAt_one HF.out hpl
        obtain ⟨g0, g1, gm, gd, g2, g3, hms, hds⟩ := hcell
        have hbd := HB.out _ (getD_in hpl)
        have HMM := hide hms
        have HDD := hide hds
        have a0 := cell_below g0 hgw.below (Nat.le_refl _)
        have a1 := cell_below g1 hgw.below (Nat.le_refl _)
        have a2 := cell_below g2 hgw.below (Nat.le_refl _)
        have a3 := cell_below g3 hgw.below (Nat.le_refl _)
        obtain ⟨xa, xc, rfl, -, -⟩ := hms
        obtain ⟨xb, xe, rfl, -, -⟩ := hds
        have HX : Hid (∀ W : World, Grw w W → Calls Try.prog 89 #[.agg #[.int .i64 (l.getD p fl0).t, .int .i64 (l.getD p fl0).p, .slice xa (l.getD p fl0).ms.length xc, .slice xb (l.getD p fl0).ds.length xe], .agg #[.int .i64 t.t, .int .i64 t.p, .slice ta t.ms.length tc, .slice tb t.ds.length td], .pointer (some ⟨g, 0, none⟩)] W fun e w' => e = .returned (.int .i64 (plc (l.getD p fl0) t)) ∧ Grw W w') := fun W hW => HC.out W (l.getD p fl0) xa xb xc xe hW HMM.out HDD.out hbd.1 hbd.2
        have HIF : Hid ((plc (l.getD p fl0) t == 0) = true ↔ t ∈ l) := by
          show _ ↔ _
          rw [beq_iff_eq]
          constructor
          · intro hz
            rw [← plc_zero hz]; exact getD_in hpl
          · intro hmem
            obtain ⟨i, hi, hit⟩ := getD_iff.1 hmem
            have hip : p ≤ i := Nat.le_of_not_lt fun hc => by
              have := HP.out i hc
              rw [hit, plc_self] at this
              omega
            have h0 := HQ.out p (Nat.le_refl _) hpl
            rcases Nat.lt_or_eq_of_le hip with hlt2 | heq
            · have := HS.out p i hlt2 hi
              rw [hit] at this
              omega
            · rw [heq, hit]; exact plc_self t
        clear g0 g1 g2 g3 hbd HMM HDD HC HS HB HP HQ
        generalize plc (l.getD p fl0) t = R at *
        generalize (l.getD p fl0).t = x0 at *
        generalize (l.getD p fl0).p = x1 at *
        generalize (l.getD p fl0).ms.length = x2 at *
        generalize (l.getD p fl0).ds.length = x3 at *
        have q1 : (0 : Int) ≤ (p : Int) := by omega
        have q2 : (p : Int) < (l.length : Int) := by omega
        go_wp2_with fail
        go_region_held3 (fun w' => (w'.cell? ⟨b, off + p * 4, none⟩ = some (.int .i64 x0) ∧ w'.cell? ⟨b, off + p * 4 + 1, none⟩ = some (.int .i64 x1) ∧ w'.cell? ⟨b, off + p * 4 + 2, none⟩ = some (.slice xa x2 xc) ∧ w'.cell? ⟨b, off + p * 4 + 3, none⟩ = some (.slice xb x3 xe)) ∧ w'.cell? ⟨w.heap.size, 0, none⟩ = some (.int .i64 t.t) ∧ w'.cell? ⟨w.heap.size, 1, none⟩ = some (.int .i64 t.p) ∧ w'.cell? ⟨w.heap.size, 2, none⟩ = some (.slice ta t.ms.length tc) ∧ w'.cell? ⟨w.heap.size, 3, none⟩ = some (.slice tb t.ds.length td)) (go_keep)
          (first | (go_at_call 89; refine (unhide HX _ hgw.drew).mono ?_; rintro e w1 ⟨rfl, hg1⟩; have hgB : Grw wr w1 := (Grw.refl wr).drew.trans hg1; have hb1 := hgB.below; have z0 := cell_below a0 hb1 (Nat.le_refl _); have z1 := cell_below a1 hb1 (Nat.le_refl _); have z2 := cell_below a2 hb1 (Nat.le_refl _); have z3 := cell_below a3 hb1 (Nat.le_refl _); have z4 := cell_below t0 hb1 (Nat.le_refl _); have z5 := cell_below t1 hb1 (Nat.le_refl _); have z6 := cell_below t2 hb1 (Nat.le_refl _); have z7 := cell_below t3 hb1 (Nat.le_refl _)))
        have HG1 := hide (hgw.trans hgB)
        clear hgB hb1 hg1 hgr hgw HG a0 a1 a2 a3 t0 t1 t2 t3 z0 z1 z2 z3 z4 z5 z6 z7 HX hbox
        go_wp2_with fail
        go_ret2
        exact ⟨_, _, rfl, HIF.out, HG1.out⟩
      · have HNO : Hid (¬t ∈ l) := fun hmem => by
          obtain ⟨i, hi, hit⟩ := getD_iff.1 hmem
          have := HP.out i (by omega)
          rw [hit, plc_self] at this
          omega
        have HGW := hide hgw
        clear HP HQ HC HS HB hgr HG hgw t0 t1 t2 t3
        go_wp2_with fail
        go_quiet (fail)
        go_wp2_with fail
        go_ret2
        exact ⟨_, false, rfl, by simp [HNO.out], HGW.out.drewN _⟩

end Go.Proofs.Ytonhfgdnkkkikac
