/-
  What the document's LeftOf answers.
-/
import Derived.Test.YtonhfgdnkkkikacRso
import Derived.Test.YtonhfgdnkkkikacSk
namespace Go.Proofs.Ytonhfgdnkkkikac
open Go.RowKit
set_option linter.unusedVariables false
set_option maxRecDepth 100000

/-- Is it there among the first of some flows? -/
def th (f : Fl) (ys : List Fl) : Nat → Bool
  | 0 => false
  | m + 1 => th f ys m || (plc f (ys.getD m fl0) == 0)
/-- Those that are not there. -/
def lf (xs ys : List Fl) : Nat → List Fl
  | 0 => []
  | k + 1 => if th (xs.getD k fl0) ys ys.length then lf xs ys k else lf xs ys k ++ [xs.getD k fl0]
theorem lf_length (xs ys : List Fl) : ∀ k, (lf xs ys k).length ≤ k
  | 0 => by simp [lf]
  | k + 1 => by
    have := lf_length xs ys k
    unfold lf
    split
    · omega
    · simp; omega
theorem lf_mem (xs ys : List Fl) : ∀ k, k ≤ xs.length → ∀ x ∈ lf xs ys k, x ∈ xs
  | 0, _, x, hx => by simp [lf] at hx
  | k + 1, hk, x, hx => by
    have hf : xs.getD k fl0 ∈ xs := by
      rw [List.getD_eq_getElem?_getD, List.getElem?_eq_getElem (by omega : k < xs.length)]
      exact List.getElem_mem _
    unfold lf at hx
    split at hx
    · exact lf_mem xs ys k (by omega) x hx
    · rcases List.mem_append.1 hx with h | h
      · exact lf_mem xs ys k (by omega) x h
      · simp at h; subst h; exact hf

/-- A row of flows of the call's own, what they hold lying below. -/
theorem own_fsAt {w0 w : World} {B : Nat} {v : Value} {l : List Fv} (h : w.ownsRow B 41 4 v l.length (C l)) (hh : ∀ x ∈ l, Held w x) : FsAt w v (l.map Fv.f) := by
  obtain ⟨o, c, rfl, hc, hg⟩ := own_form h
  by_cases hz : l.length = 0
  · refine ⟨o, c, by simp, ?_, .inl (by simpa using hz)⟩
    intro ho
    subst ho
    obtain ⟨_, ⟨hv, _⟩ | ⟨g', cap', cur, hv, _⟩⟩ := h
    · simp only [Value.slice.injEq] at hv; exact hv.2.2
    · simp at hv
  · obtain ⟨g, rfl⟩ := hg (by omega)
    exact row_fsAt h hh

/-- One of the flows that lie there. -/
theorem fsAt_one {w : World} {a : Option Addr} {cap k : Nat} {fs : List Fl} (h : FsAt w (.slice a fs.length cap) fs) (hk : k < fs.length) : ∃ b off, a = some ⟨b, off, none⟩ ∧ fs.length ≤ cap ∧ FlAt w b (off + k * 4) (fs.getD k fl0) := by
  obtain ⟨a1, c1, h1, _, h0 | ⟨b, off, h2, h3, h4⟩⟩ := h
  · omega
  · simp only [Value.slice.injEq] at h1
    obtain ⟨rfl, _, rfl⟩ := h1
    exact ⟨b, off, h2, h3, h4 k hk⟩
theorem getD_in {fs : List Fl} {k : Nat} (h : k < fs.length) : fs.getD k fl0 ∈ fs := by
  rw [List.getD_eq_getElem?_getD, List.getElem?_eq_getElem h]; exact List.getElem_mem h

set_option maxHeartbeats 4000000 in
theorem leftOf_any (va vb : Value) (xs ys : List Fl) (w : World) (hA : FsAt w va xs) (hB : FsAt w vb ys) (hla : xs.length ≤ 2000000) (hlb : ys.length ≤ 2000000)
    (hsa : ∀ f ∈ xs, f.ms.length ≤ 2000000 ∧ f.ds.length ≤ 2000000) (hsb : ∀ f ∈ ys, f.ms.length ≤ 2000000 ∧ f.ds.length ≤ 2000000) :
    Calls Try.prog 10 #[va, vb] w fun e w' => ∃ vo, e = .returned vo ∧ ∃ lo B, w.heap.size ≤ B ∧ lo.map Fv.f = srt (lf xs ys xs.length) (lf xs ys xs.length).length ∧ Rows2 w' B vo lo (.slice none 0 0) [] ∧ Below w.heap.size w w' := by
  obtain ⟨i0, hi, hz0, hz1, hz2⟩ := info_parts infoFlow
  have HA := hide hA
  have HB := hide hB
  obtain ⟨a, cap, rfl, -, -⟩ := hA
  obtain ⟨a2, cap2, rfl, -, -⟩ := hB
  have HSA := hide hsa
  have HSB := hide hsb
  clear hsa hsb
  go_enter Try.func10, Try.ntmps10
  go_wp2_with fail
  go_loopw [5, 6] (fun o i wr => ∃ (k : Nat) (lo : List Fv), k ≤ xs.length ∧ i = .int .i64 k ∧ Hid (lo.map Fv.f = lf xs ys k) ∧ Hid (wr.ownsRow w.heap.size 41 4 o lo.length (C lo)) ∧ Hid (∀ x ∈ lo, Held w x) ∧ Below w.heap.size w wr) (fun _ i _ => xs.length - (intOf i).toNat)
  case atStart => exact ⟨0, [], by omega, rfl, hide rfl, hide ⟨rfl, .inl ⟨rfl, rfl⟩⟩, hide (by simp), Below.refl _ _⟩
  case round =>
    obtain ⟨k, lo, hk, rfl, HM, HR, HH, hb⟩ := hrel
    have hlo : lo.length ≤ k := by
      have := congrArg List.length HM.out
      rw [List.length_map] at this
      rw [this]; exact lf_length xs ys k
    by_cases hlt : k < xs.length
    · obtain ⟨oo, oc, rfl, hoc, hog⟩ := own_form HR.out
      obtain ⟨b, off, rfl, hcap, hcell⟩ := fsAt_one HA.out hlt
      have HFL := hide hcell
      clear hcell
      obtain ⟨hf1, hf2⟩ := HSA.out _ (getD_in hlt)
      have HLK : Hid (lf xs ys (k + 1) = if th (xs.getD k fl0) ys ys.length then lf xs ys k else lf xs ys k ++ [xs.getD k fl0]) := rfl
      generalize xs.getD k fl0 = f at *
      generalize lf xs ys k = lk at *
      go_wp2_with fail
      rename World => W1
      go_loopw [7, 8] (fun d j wr => ∃ (m : Nat) (dn : Bool), m ≤ ys.length ∧ j = .int .i64 m ∧ d = .bool dn ∧ Hid (dn = th f ys m) ∧ Hid (wr.ownsRow w.heap.size 41 4 (.slice oo lo.length oc) lo.length (C lo)) ∧ Below w.heap.size w wr) (fun _ j _ => ys.length - (intOf j).toNat)
      case atStart => exact ⟨0, false, by omega, rfl, rfl, hide rfl, HR, hb⟩
      case round =>
        clear HR hb
        obtain ⟨m, dn, hm, rfl, rfl, HD, HR, hq⟩ := hrel
        obtain ⟨f0, f1, mv, dv, f2, f3, hms, hds⟩ := HFL.out
        have HHF : Hid (Held w ⟨f, mv, dv⟩) := hide ⟨hms, hds⟩
        have HMS := hide (hms.below hq (Nat.le_refl _))
        have HDS := hide (hds.below hq (Nat.le_refl _))
        replace f0 := cell_below f0 hq (Nat.le_refl _)
        replace f1 := cell_below f1 hq (Nat.le_refl _)
        replace f2 := cell_below f2 hq (Nat.le_refl _)
        replace f3 := cell_below f3 hq (Nat.le_refl _)
        obtain ⟨ma, mc, rfl, -, -⟩ := hms
        obtain ⟨da, dc, rfl, -, -⟩ := hds
        by_cases hml : m < ys.length
        · have HT : Hid (th f ys (m + 1) = (th f ys m || (plc f (ys.getD m fl0) == 0))) := rfl
          obtain ⟨b2, off2, rfl, hcap2, hcell2⟩ := fsAt_one HB.out hml
          obtain ⟨fb1, fb2⟩ := HSB.out _ (getD_in hml)
          obtain ⟨q0, q1, xm, xd, q2, q3, hxm, hxd⟩ := hcell2.below hq (Nat.le_refl _)
          clear hcell2
          generalize ys.getD m fl0 = xf at *
          have HXM := hide hxm
          have HXD := hide hxd
          obtain ⟨xo, xc, rfl, -, -⟩ := hxm
          obtain ⟨xo', xc', rfl, -, -⟩ := hxd
          cases dn
          · go_wp2_with fail
            go_region_held3 (fun w' => (w'.cell? ⟨b, off + k * 4, none⟩ = some (.int .i64 (f).t) ∧ w'.cell? ⟨b, off + k * 4 + 1, none⟩ = some (.int .i64 (f).p) ∧ w'.cell? ⟨b, off + k * 4 + 2, none⟩ = some (.slice ma (f).ms.length mc) ∧ w'.cell? ⟨b, off + k * 4 + 3, none⟩ = some (.slice da (f).ds.length dc)) ∧
                w'.cell? ⟨b2, off2 + m * 4, none⟩ = some (.int .i64 xf.t) ∧ w'.cell? ⟨b2, off2 + m * 4 + 1, none⟩ = some (.int .i64 xf.p) ∧ w'.cell? ⟨b2, off2 + m * 4 + 2, none⟩ = some (.slice xo xf.ms.length xc) ∧ w'.cell? ⟨b2, off2 + m * 4 + 3, none⟩ = some (.slice xo' xf.ds.length xc')) (go_keep)
              (first | (go_at_call 24; refine (places_any (f) xf _ _ _ _ _ (HMS.out.below ((Below.refl _ _).drew) (Nat.le_refl _)) (HDS.out.below ((Below.refl _ _).drew) (Nat.le_refl _)) (HXM.out.below ((Below.refl _ _).drew) (Nat.le_refl _)) (HXD.out.below ((Below.refl _ _).drew) (Nat.le_refl _)) hf1 hf2 fb1 fb2).mono ?_; rintro e w3 ⟨rfl, hb3⟩; have hb3' : Below wr.heap.size wr w3 := ((Below.refl _ wr).drew).trans hb3; have c0 := cell_below f0 hb3' (Nat.le_refl _); have c1 := cell_below f1 hb3' (Nat.le_refl _); have c2 := cell_below f2 hb3' (Nat.le_refl _); have c3 := cell_below f3 hb3' (Nat.le_refl _); have d0 := cell_below q0 hb3' (Nat.le_refl _); have d1 := cell_below q1 hb3' (Nat.le_refl _); have d2 := cell_below q2 hb3' (Nat.le_refl _); have d3 := cell_below q3 hb3' (Nat.le_refl _)))
            all_goals
              have HR3 := hide (own_below HR.out hb3')
              have hq3 : Below w.heap.size w w3 := hq.trans (hb3'.mono hq.size)
              have HT' : Hid (th f ys (m + 1) = (plc f xf == 0)) := by
                show _ = _
                rw [HT.out, ← HD.out]; simp
              clear HT HR hb3 hb3' hq f0 f1 f2 f3 q0 q1 q2 q3 HMS HDS HXM HXD c0 c1 c2 c3 d0 d1 d2 d3
              go_wp2_with fail
              go_roundw
              case rel => exact ⟨m + 1, plc f xf == 0, by omega, by go_num, by first | rfl | (congr 1), hide HT'.out.symm, HR3, hq3⟩
              case measure => simp [intOf]; omega
          · have HT' : Hid (th f ys (m + 1) = true) := by
              show _ = _
              rw [HT.out, ← HD.out]; rfl
            clear HT f0 f1 f2 f3 q0 q1 q2 q3 HMS HDS HXM HXD
            go_wp2_with fail
            go_quiet (fail)
            go_wp2_with fail
            go_roundw
            case rel => exact ⟨m + 1, true, by omega, by go_num, rfl, hide HT'.out.symm, HR, hq.trans ⟨rfl, rfl, rfl, Nat.le_refl _, fun _ _ => rfl⟩⟩
            case measure => simp [intOf]; omega
        · have hml' : m = ys.length := by omega
          subst hml'
          have hszr : w.heap.size ≤ wr.heap.size := hq.size
          cases dn
          · have HP : Hid (lf xs ys (k + 1) = lo.map Fv.f ++ [f]) := by
              show _ = _
              rw [HLK.out, ← HD.out, HM.out]; rfl
            have own4 := hide (HR.out.alloc (.cells #[.int .i64 f.t, .int .i64 f.p, .slice ma f.ms.length mc, .slice da f.ds.length dc] 41))
            have NEWS4 := hide (news4 wr ⟨f, .slice ma f.ms.length mc, .slice da f.ds.length dc⟩)
            clear HMS HDS HD HLK
            go_wp2_with (at_builtin; refine wpList_append_lies _ rfl (.tmp 36) (.tmp 41) 22 rfl w.heap.size 41 i0 _ 4 64 Try.underlying22 hi hz0 hz1 hz2 rfl (by decide) _ _ _ rfl (unhide own4) ⟨wr.heap.size, 0, none⟩ 1 1 (C [⟨f, .slice ma f.ms.length mc, .slice da f.ds.length dc⟩]) rfl rfl (unhide NEWS4) (HHF.out).one (by decide) ?h63 ?hby ?hba _ rfl ?_)
            case h63 => unfold maxLen; omega
            case hby => omega
            case hba => first | omega | (simp; omega)
            intro g5 cap5 w5 ho5 hg5 hat5 _
            have hq5 : Below w.heap.size w w5 := (hq.alloc hszr _).grown hg5 (by simp; omega) (own_ge (unhide own4))
            have HO5 : Hid (w5.ownsRow w.heap.size 41 4 (.slice (some ⟨g5, 0, none⟩) (lo.length + 1) cap5) (lo ++ [(⟨f, .slice ma f.ms.length mc, .slice da f.ds.length dc⟩ : Fv)]).length (C (lo ++ [⟨f, .slice ma f.ms.length mc, .slice da f.ds.length dc⟩]))) := by
              rw [C_append, List.length_append]
              exact ho5
            clear ho5 hg5 hat5 own4 NEWS4 HR hq f0 f1 f2 f3
            go_wp2_with fail
            go_roundw
            case rel =>
              refine ⟨k + 1, lo ++ [⟨f, .slice ma f.ms.length mc, .slice da f.ds.length dc⟩], by omega, by go_num, hide (by rw [HP.out]; simp), HO5, hide fun x hx => ?_, hq5⟩
              rcases List.mem_append.1 hx with h | h
              · exact HH.out x h
              · simp at h; subst h; exact HHF.out
            case measure => simp [intOf]; omega
          · have HP : Hid (lf xs ys (k + 1) = lo.map Fv.f) := by
              show _ = _
              rw [HLK.out, ← HD.out, HM.out]; rfl
            clear HMS HDS HD HLK f0 f1 f2 f3
            go_wp2_with fail
            go_roundw
            case rel => exact ⟨k + 1, lo, by omega, by go_num, hide HP.out.symm, HR, HH, hq⟩
            case measure => simp [intOf]; omega
    · have hkl : k = xs.length := by omega
      subst hkl
      have HFA := hide (own_fsAt (w0 := w) HR.out (fun x hx => (HH.out x hx).below hb (Nat.le_refl _)))
      rw [HM.out] at HFA
      have HL : Hid ((lf xs ys xs.length).length ≤ 2000000) := Nat.le_trans (lf_length xs ys xs.length) hla
      have HS : Hid (∀ f ∈ lf xs ys xs.length, f.ms.length ≤ 2000000 ∧ f.ds.length ≤ 2000000) := fun f hf => HSA.out f (lf_mem xs ys xs.length (Nat.le_refl _) f hf)
      obtain ⟨oo, oc, rfl, hoc, hog⟩ := own_form HR.out
      go_wp2_with fail
      refine (sortedOf_any _ (lf xs ys xs.length) _ HFA.out HL.out HS.out).mono ?_
      rintro e w2 ⟨vo, l2, rfl, hm2, hr2, hb2⟩
      have HM2 := hide hm2
      have HR2 := hide hr2
      have hq2 : Below w.heap.size w w2 := hb.trans (hb2.mono hb.size)
      have hsz := hb.size
      have HSZ := hide hsz
      obtain ⟨po, pc, rfl, -, -⟩ := own_form hr2.out
      clear hm2 hr2 hb2 hsz
      go_wp2_with fail
      go_ret
      exact ⟨_, rfl, l2, _, HSZ.out, HM2.out, HR2.out, hq2⟩

end Go.Proofs.Ytonhfgdnkkkikac
