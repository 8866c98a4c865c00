/-
  slices.IndexFunc and slices.DeleteFunc at flows, by flow.without's own test; what that test answers.
-/
import Derived.Test.YtonhfgdnkkkikacBs
namespace Go.Proofs.Ytonhfgdnkkkikac
open Go.RowKit
set_option linter.unusedVariables false
set_option maxRecDepth 100000

set_option maxHeartbeats 2000000 in
/-- flow.without's test: is the flow among those that are gone? -/
theorem gone_any (x : Fv) (l : List Fl) (o : Option Addr) (cap sb ob g : Nat) (w : World) (hF : FsAt w (.slice o l.length cap) l) (hS : Srt0 l) (hE : EqAt w ob g) (hb : w.cell? ⟨sb, 0, none⟩ = some (.slice o l.length cap)) (hx : Held w x) (l1 : x.f.ms.length ≤ 2000000) (l2 : x.f.ds.length ≤ 2000000)
    (hl : l.length ≤ 2000000) (hs : ∀ f ∈ l, f.ms.length ≤ 2000000 ∧ f.ds.length ≤ 2000000) :
    Calls Try.prog 52 #[.agg #[.int .i64 x.f.t, .int .i64 x.f.p, x.mv, x.dv], .pointer (some ⟨sb, 0, none⟩), .pointer (some ⟨ob, 0, none⟩)] w fun e w' => ∃ fd, e = .returned (.bool fd) ∧ (fd = true ↔ x.f ∈ l) ∧ Grw w w' := by
  have HX := hide hx
  have HE := hide hE
  have HF := hide hF
  have he0 := hE.1
  have hobl := cell_lt he0
  have hsbl := cell_lt hb
  obtain ⟨⟨xa, xc, e1, _⟩, ⟨xb, xe, e2, _⟩⟩ := hx
  obtain ⟨xf, xm, xd⟩ := x
  simp only at e1 e2 l1 l2
  subst e1 e2
  have hA : Grw w (w.alloc (.cells #[.int .i64 xf.t, .int .i64 xf.p, .slice xa xf.ms.length xc, .slice xb xf.ds.length xe] 41)) := (Grw.refl w).alloc _
  have HC : Hid (∀ W : World, Below w.heap.size w W → Calls Try.prog 53 #[.slice o l.length cap, .agg #[.int .i64 xf.t, .int .i64 xf.p, .slice xa xf.ms.length xc, .slice xb xf.ds.length xe], .func (.func 89) #[] #[.pointer (some ⟨g, 0, none⟩)]] W fun e w' => ∃ i fd, e = .returned (.tuple #[.int .i64 i, .bool fd]) ∧ (fd = true ↔ xf ∈ l) ∧ Grw W w') := fun W hW =>
    search_any l xf o xa xb cap xc xe g W (HF.out.below hW (Nat.le_refl _)) hS (HE.out.2.below hW) (HX.out.1.below hW (Nat.le_refl _)) (HX.out.2.below hW (Nat.le_refl _)) l1 l2 hl hs
  clear HX HE HF hE hF hS hs
  simp only
  go_enter Try.func52, Try.ntmps52
  go_wp2_with fail
  refine (unhide HC _ hA.below).mono ?_
  rintro e w1 ⟨i, fd, rfl, hfd, hg1⟩
  have hg := hA.trans hg1
  have HD := hide hfd
  have HG := hide hg
  clear hfd hg hg1 hA HC
  go_wp2_with fail
  go_ret
  exact ⟨fd, rfl, HD.out, HG.out⟩

section
variable {w : World} {blk : Nat}

/-- What is asked of a test of flows. -/
def Tests (w : World) (blk sb ob : Nat) (lo : List Fv) (del : Fl → Bool) : Prop := ∀ (W : World) (x : Fv), w.grownBy W (some blk) → x ∈ lo → Calls Try.prog 52 #[.agg #[.int .i64 x.f.t, .int .i64 x.f.p, x.mv, x.dv], .pointer (some ⟨sb, 0, none⟩), .pointer (some ⟨ob, 0, none⟩)] W fun e w' => e = .returned (.bool (del x.f)) ∧ Grw W w'

set_option maxHeartbeats 4000000 in
theorem index_any (lo : List Fv) (del : Fl → Bool) (B cap sb ob : Nat) (hown : w.ownsRow B 41 4 (.slice (some ⟨blk, 0, none⟩) lo.length cap) lo.length (C lo)) (hT : Tests w blk sb ob lo del) (hok : ∀ x ∈ lo, Held w x) (hl : lo.length ≤ 2000000) :
    Calls Try.prog 81 #[.slice (some ⟨blk, 0, none⟩) lo.length cap, .func (.func 52) #[] #[.pointer (some ⟨sb, 0, none⟩), .pointer (some ⟨ob, 0, none⟩)]] w fun e w' => ∃ r : Int, e = .returned (.int .i64 r) ∧ ((r = -1 ∧ ∀ i, i < lo.length → del (lo.getD i fv0).f = false) ∨ ∃ k : Nat, k < lo.length ∧ r = k ∧ (∀ i, i < k → del (lo.getD i fv0).f = false) ∧ del (lo.getD k fv0).f = true) ∧ Grw w w' := by
  have HO := hide hown
  have HT := hide hT
  have HK := hide hok
  have hcap : lo.length ≤ cap := by
    obtain ⟨_, ⟨h, _⟩ | ⟨g', cap', cur, hv, _, _, hnc, _⟩⟩ := hown
    · simp at h
    · simp only [Value.slice.injEq] at hv; omega
  have hblkw := (own_at hown).2
  clear hown hT hok
  go_enter Try.func81, Try.ntmps81
  go_wp2_with fail
  go_loopw [8] (fun i wr => ∃ k : Nat, k ≤ lo.length ∧ i = .int .i64 k ∧ Hid (∀ j, j < k → del (lo.getD j fv0).f = false) ∧ Grw w wr) (fun i _ => lo.length - (intOf i).toNat)
  case atStart => exact ⟨0, by omega, rfl, hide (fun j h => absurd h (by omega)), Grw.refl _⟩
  case round =>
    obtain ⟨k, hk, rfl, HALL, hgr⟩ := hrel
    have hbel := hgr.below
    have hgb : w.grownBy wr (some blk) := Below.grown1 hbel
    have HOr := hide (own_below HO.out hbel)
    have hblkr := Nat.lt_of_lt_of_le hblkw hbel.size
    by_cases hlt : k < lo.length
    · obtain ⟨a0, a1, a2, a3⟩ := row_cells HOr.out hlt
      have hX := getD_mem hlt
      have HXo := hide (HK.out _ hX)
      have HST : Hid (∀ W : World, w.grownBy W (some blk) → Calls Try.prog 52 #[.agg #[.int .i64 (lo.getD k fv0).f.t, .int .i64 (lo.getD k fv0).f.p, (lo.getD k fv0).mv, (lo.getD k fv0).dv], .pointer (some ⟨sb, 0, none⟩), .pointer (some ⟨ob, 0, none⟩)] W fun e w' => e = .returned (.bool (del (lo.getD k fv0).f)) ∧ Grw W w') := fun W hW => HT.out W _ hW hX
      have HNX : Hid (del (lo.getD k fv0).f = false → ∀ j, j < k + 1 → del (lo.getD j fv0).f = false) := fun h j hj => by
        by_cases e : j = k
        · subst e; exact h
        · exact HALL.out j (by omega)
      have HFD : Hid (del (lo.getD k fv0).f = true → (∀ i, i < k → del (lo.getD i fv0).f = false) ∧ del (lo.getD k fv0).f = true) := fun h => ⟨HALL.out, h⟩
      obtain ⟨R, hRd⟩ : ∃ R, R = del (lo.getD k fv0).f := ⟨_, rfl⟩
      rw [← hRd] at HST HNX
      have HRD := hide hRd
      clear hRd
      obtain ⟨⟨xa, xc, e1, _⟩, ⟨xb, xe, e2, _⟩⟩ := HXo.out
      rw [e1] at a2 HST
      rw [e2] at a3 HST
      clear e1 e2 HXo hX HALL
      obtain ⟨xt, hxt⟩ : ∃ z, z = (lo.getD k fv0).f.t := ⟨_, rfl⟩
      obtain ⟨xp, hxp⟩ : ∃ z, z = (lo.getD k fv0).f.p := ⟨_, rfl⟩
      obtain ⟨xml, hxml⟩ : ∃ z, z = (lo.getD k fv0).f.ms.length := ⟨_, rfl⟩
      obtain ⟨xdl, hxdl⟩ : ∃ z, z = (lo.getD k fv0).f.ds.length := ⟨_, rfl⟩
      rw [← hxt] at a0 HST
      rw [← hxp] at a1 HST
      rw [← hxml] at a2 HST
      rw [← hxdl] at a3 HST
      clear hxt hxp hxml hxdl
      have q1 : (0 : Int) ≤ (k : Int) := by omega
      have q2 : (k : Int) < (lo.length : Int) := by omega
      have HGD : Hid (∀ n, w.grownBy (wr.drewN n) (some blk)) := fun n => ⟨hgb.os, hgb.tape, hgb.output, hgb.size, hgb.block⟩
      clear hgb
      go_wp2_with fail
      refine (unhide HST _ (Below.grown1 hbel)).mono ?_
      rintro e w1 ⟨rfl, hg1⟩
      have HG1 := hide (hgr.trans hg1)
      clear hg1 hgr hbel HGD HST HOr a0 a1 a2 a3
      cases R
      · have HN := hide (HNX.out rfl)
        clear HNX HFD HRD
        go_wp2_with fail
        go_roundw
        case rel => exact ⟨k + 1, by omega, by go_num, HN, HG1.out⟩
        case measure => simp [intOf]; omega
      · have HN := hide (HFD.out HRD.out.symm)
        clear HNX HFD HRD
        go_wp2_with fail
        go_ret
        exact ⟨_, rfl, .inr ⟨k, hlt, rfl, HN.out.1, HN.out.2⟩, HG1.out⟩
    · have hkl : k = lo.length := by omega
      have HN : Hid (∀ i, i < lo.length → del (lo.getD i fv0).f = false) := fun i hi => HALL.out i (by omega)
      have HG1 := hide hgr
      clear HALL hkl hgr hbel hgb HOr
      go_wp2_with fail
      go_ret
      exact ⟨_, rfl, .inl ⟨rfl, HN.out⟩, HG1.out⟩

end
end Go.Proofs.Ytonhfgdnkkkikac
