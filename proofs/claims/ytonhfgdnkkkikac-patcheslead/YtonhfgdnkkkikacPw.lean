/-
  The walk of PatchesLead, out of what Flows and FrameTells answer.
-/
import Derived.Test.YtonhfgdnkkkikacPl
import Derived.Test.YtonhfgdnkkkikacKq
namespace Go.Proofs.Ytonhfgdnkkkikac
open Go.RowKit
set_option linter.unusedVariables false
set_option maxRecDepth 100000

/-- What is asked of dyeworkskeep.Flows at one argument. -/
def FlowsSay (w : World) (v : Value) : Prop := ∀ W : World, Below w.heap.size w W → Calls Try.prog 16 #[v, .int .i64 20] W fun e w' => ∃ u, e = .returned u ∧ ∃ fs, FsAt w' u fs ∧ Few fs ∧ fs.length ≤ 20 ∧ Below W.heap.size W w'
/-- What is asked of dyeworkskeep.FrameTells. -/
def TellsSay : Prop := ∀ W : World, Calls Try.prog 18 #[] W fun e w' => e = .returned (.bool true) ∧ Below W.heap.size W w'

/-- A row in its places, of at most twenty flows. -/
structure Row20 (w : World) (a : Option Addr) (c : Nat) (l : List Fl) : Prop where
  at' : FsAt w (.slice a l.length c) l
  few : Few l
  srt : Srt l
  le : l.length ≤ 20
theorem row20 {w : World} {u : Value} {fs : List Fl} (h : FsAt w u (srt fs fs.length)) (hf : Few fs) (hl : fs.length ≤ 20) : ∃ a c l, u = .slice a l.length c ∧ Row20 w a c l := by
  obtain ⟨a, c, rfl⟩ := fs_slice h
  exact ⟨a, c, _, rfl, h, hf.srt, (srt_srt fs fs.length (Nat.le_refl _)).1, Nat.le_trans (srt_length fs fs.length) hl⟩
theorem Row20.below {w w' : World} {B : Nat} {a : Option Addr} {c : Nat} {l : List Fl} (h : Row20 w a c l) (hb : Below B w w') (hB : w.heap.size ≤ B) : Row20 w' a c l := ⟨h.at'.below hb hB, h.few, h.srt, h.le⟩

set_option maxHeartbeats 4000000 in
theorem patchesLead_walk (hT : TellsSay) (la ma : Option Addr) (ln lc mn mc : Nat) (w : World) (hL : FlowsSay w (.slice la ln lc)) (hM : FlowsSay w (.slice ma mn mc)) :
    Calls Try.prog 7 #[.slice la ln lc, .slice ma mn mc] w fun e w' => e = .returned (.bool true) ∧ Below w.heap.size w w' := by
  have HT := hide hT
  have HL := hide hL
  have HM := hide hM
  clear hT hL hM
  go_enter Try.func7, Try.ntmps7
  go_wp2_with fail
  refine (unhide HT _).mono ?_
  rintro e w1 ⟨rfl, hb1⟩
  go_wp2_with fail
  refine (unhide HL _ hb1).mono ?_
  rintro e w2 ⟨u2, rfl, fs, hF2, hfew2, hle2, hb2⟩
  have HF2 := hide hF2
  have HW2 := hide hfew2
  have hb02 := hb1.trans (hb2.mono hb1.size)
  obtain ⟨p2, c2, hv2⟩ := fs_slice hF2
  subst hv2
  clear hF2 hfew2 hb1 hb2
  go_wp2_with fail
  refine (sort_any _ fs _ HF2.out HW2.out.1 HW2.out.2).mono ?_
  rintro e w3 ⟨u3, rfl, hF3, hb3⟩
  obtain ⟨p3, c3, A, rfl, hA⟩ := row20 hF3 HW2.out hle2
  have HA := hide hA
  have hb03 := hb02.trans (hb3.mono hb02.size)
  clear hA hF3 hle2 HF2 HW2 hb02 hb3
  go_wp2_with fail
  refine (unhide HM _ hb03).mono ?_
  rintro e w4 ⟨u4, rfl, gs, hF4, hfew4, hle4, hb4⟩
  have HF4 := hide hF4
  have HW4 := hide hfew4
  have hb04 := hb03.trans (hb4.mono hb03.size)
  have HA4 := hide (HA.out.below hb4 (Nat.le_refl _))
  obtain ⟨p4, c4, hv4⟩ := fs_slice hF4
  subst hv4
  clear hF4 hfew4 hb03 hb4 HA
  go_wp2_with fail
  refine (sort_any _ gs _ HF4.out HW4.out.1 HW4.out.2).mono ?_
  rintro e w5 ⟨u5, rfl, hF5, hb5⟩
  obtain ⟨p5, c5, B, rfl, hB⟩ := row20 hF5 HW4.out hle4
  have HB := hide hB
  have hb05 := hb04.trans (hb5.mono hb04.size)
  have HA5 := hide (HA4.out.below hb5 (Nat.le_refl _))
  clear hB hF5 hle4 HF4 HW4 hb04 hb5 HA4
  go_wp2_with fail
  refine (diff_any _ _ A B _ HA5.out.at' HB.out.at' HA5.out.few HB.out.few).mono ?_
  rintro e w6 ⟨u6, v6, rfl, hu6, hv6, hb6⟩
  rw [srt_self (lft_srt A HB.out.srt)] at hu6
  rw [srt_self (lft_srt B HA5.out.srt)] at hv6
  have HC6 := hide hu6
  have HG6 := hide hv6
  obtain ⟨p6, c6, e6⟩ := fs_slice hu6
  obtain ⟨q6, d6, f6⟩ := fs_slice hv6
  subst e6 f6
  have hb06 := hb05.trans (hb6.mono hb05.size)
  have HA6 := hide (HA5.out.below hb6 (Nat.le_refl _))
  have HB6 := hide (HB.out.below hb6 (Nat.le_refl _))
  clear hu6 hv6 hb05 hb6 HA5 HB
  go_wp2_with fail
  refine (diff_any _ _ B B _ HB6.out.at' HB6.out.at' HB6.out.few HB6.out.few).mono ?_
  rintro e w7 ⟨u7, v7, rfl, hu7, hv7, hb7⟩
  rw [lft_none] at hu7 hv7
  obtain ⟨p7, c7, e7⟩ := fs_slice hu7
  obtain ⟨q7, d7, f7⟩ := fs_slice hv7
  rw [show (srt ([] : List Fl) ([] : List Fl).length).length = 0 from rfl] at e7 f7
  subst e7 f7
  have hb07 := hb06.trans (hb7.mono hb06.size)
  have HA7 := hide (HA6.out.below hb7 (Nat.le_refl _))
  have HB7 := hide (HB6.out.below hb7 (Nat.le_refl _))
  have HC7 := hide (HC6.out.below hb7 (Nat.le_refl _))
  have HG7 := hide (HG6.out.below hb7 (Nat.le_refl _))
  have HCNT := hide (patch_counts HA7.out.srt HB7.out.srt)
  have HLE : Hid ((lft B A).length ≤ 20 ∧ (lft A B).length ≤ 20) := ⟨Nat.le_trans (lft_length B A) HB7.out.le, Nat.le_trans (lft_length A B) HA7.out.le⟩
  clear hu7 hv7 hb06 hb7 HA6 HB6 HC6 HG6
  have hla := HA7.out.le
  have hlb := HB7.out.le
  have HP := hide (patch_any _ _ _ A (lft B A) (lft A B) w7 HA7.out.at' HC7.out HG7.out HA7.out.few HB7.out.few.lft HA7.out.few.lft (by have := HLE.out.1; omega))
  have HSO := hide (fun W (hW : Below w7.heap.size w7 W) => sort_any _ B W (HB7.out.below hW (Nat.le_refl _)).at' HB7.out.few.1 HB7.out.few.2)
  have HQ : Hid (∀ (W : World) (u v : Value), FsAt W u B → FsAt W v B → Calls Try.prog 20 #[u, v] W fun e w' => e = .returned (.bool true) ∧ Grw W w') := fun W u v h1 h2 => keepSame_any u v B W h1 h2 HB7.out.few
  have HSELF := hide (srt_self HB7.out.srt)
  have HLEAD := hide (patch_leads HA7.out.srt HB7.out.srt)
  obtain ⟨nC, hnC⟩ : ∃ n, n = (lft B A).length := ⟨_, rfl⟩
  obtain ⟨nG, hnG⟩ : ∃ n, n = (lft A B).length := ⟨_, rfl⟩
  rw [← hnC] at HP HCNT HLE ⊢
  rw [← hnG] at HP HCNT HLE ⊢
  clear hnC hnG
  have hcnt := HCNT.out
  have hle := HLE.out
  have hcn : ((A.length : Int) - (nG : Int)) + (nC : Int) = (B.length : Int) := by omega
  clear hcnt HCNT HLE
  go_wp2_with fail
  refine (unhide HP).mono ?_
  rintro e w8 ⟨u8, rfl, hu8, hb8⟩
  rw [HLEAD.out] at hu8
  have HU8 := hide hu8
  obtain ⟨p8, c8, e8⟩ := fs_slice hu8
  subst e8
  have HB8 := hide (HB7.out.below hb8 (Nat.le_refl _))
  clear hu8
  go_wp2_with fail
  refine (unhide HQ _ _ _ HU8.out HB8.out.at').mono ?_
  rintro e w9 ⟨rfl, hg9⟩
  have hb79 := hb8.trans (hg9.below.mono hb8.size)
  clear hg9
  go_wp2_with fail
  refine (unhide HSO _ hb79).mono ?_
  rintro e wA ⟨uA, rfl, huA, hbA⟩
  rw [HSELF.out] at huA
  have HUA := hide huA
  obtain ⟨pA, cA, eA⟩ := fs_slice huA
  subst eA
  have hb7A := hb79.trans (hbA.mono hb79.size)
  have HBA := hide (HB7.out.below hb7A (Nat.le_refl _))
  clear huA hbA hb79
  go_wp2_with fail
  refine (unhide HQ _ _ _ HUA.out HBA.out.at').mono ?_
  rintro e wB ⟨rfl, hgB⟩
  have HEND := hide (hb07.trans ((hb7A.trans (hgB.below.mono hb7A.size)).mono hb07.size))
  clear hgB
  go_wp2_with fail
  go_ret
  exact ⟨rfl, HEND.out⟩

end Go.Proofs.Ytonhfgdnkkkikac
