/-
  What the document's SortedOf answers.
-/
import Derived.Test.YtonhfgdnkkkikacSv
import Derived.Test.YtonhfgdnkkkikacRpl
import Derived.Deep.RegionLaw
namespace Go.Proofs.Ytonhfgdnkkkikac
open Go.RowKit
set_option linter.unusedVariables false
set_option maxRecDepth 100000

theorem infoFlow : (Try.prog.info? 41).map (fun i => (i.zero, i.size, i.bytes)) = some (some (.agg #[.int .i64 0, .int .i64 0, .slice none 0 0, .slice none 0 0]), 4, 64) := by kernel_rfl
theorem own_form {w : World} {B e size n : Nat} {v : Value} {xs : List Value} (h : w.ownsRow B e size v n xs) : ∃ o c, v = .slice o n c ∧ n ≤ c ∧ (0 < n → ∃ g, o = some ⟨g, 0, none⟩) := by
  obtain ⟨_, ⟨rfl, rfl⟩ | ⟨g, cap, cur, rfl, _, _, hc, _⟩⟩ := h
  · exact ⟨none, 0, rfl, Nat.le_refl _, fun h => absurd h (by omega)⟩
  · exact ⟨_, cap, rfl, hc, fun _ => ⟨g, rfl⟩⟩
theorem apart_nil (u : Value) : Apart u (.slice none 0 0) := by
  unfold Apart
  cases u.ownBlock with
  | none => exact .inl rfl
  | some g => exact .inr (by simp [Value.ownBlock])
theorem rows2_nil (w : World) (B : Nat) : Rows2 w B (.slice none 0 0) [] (.slice none 0 0) [] :=
  ⟨⟨rfl, .inl ⟨rfl, rfl⟩⟩, ⟨rfl, .inl ⟨rfl, rfl⟩⟩, apart_nil _, fun x hx => by simp at hx⟩
theorem Rows2.shift {w : World} {B : Nat} {vo vn : Value} {lo ln : List Fv} (h : Rows2 w B vo lo vn ln) : Rows2 w B vn ln (.slice none 0 0) [] :=
  ⟨h.next, ⟨rfl, .inl ⟨rfl, rfl⟩⟩, apart_nil _, fun x hx => by
    have := h.oks x (by simp at hx; simp [hx])
    exact ⟨this.1, this.2.2.2.1, this.2.2.2.2, apart_nil _, apart_nil _⟩⟩

theorem apart_new {w : World} {B e size n : Nat} {u v : Value} {xs : List Value} (h : w.ownsRow B e size u n xs) (hv : ∀ g, v.ownBlock = some g → g < B) : Apart u v := by
  obtain ⟨_, ⟨rfl, _⟩ | ⟨g, cap, cur, rfl, hB, _⟩⟩ := h
  · exact .inl rfl
  · refine .inr fun e => ?_
    have := hv g (by rw [← e]; rfl)
    omega
theorem fv_copy {w : World} {B : Nat} {f : Fl} {mv dv : Value} (h1 : w.ownsRow B 35 3 mv f.ms.length (M f.ms)) (h2 : w.ownsRow B 38 3 dv f.ds.length (D f.ds)) : FvOk w ⟨f, mv, dv⟩ :=
  ⟨.of_own h1, .of_own h2, fun g e => own_lt h1 e, fun g e => own_lt h2 e⟩
theorem news4 (w : World) (x : Fv) : ∀ j u, (C [x])[j]? = some u → (w.alloc (.cells #[.int .i64 x.f.t, .int .i64 x.f.p, x.mv, x.dv] 41)).cell? ((⟨w.heap.size, 0, none⟩ : Addr).add j) = some u := by
  intro j u hj
  match j, hj with
  | 0, hj => simp [C] at hj; subst hj; simp [Addr.add]
  | 1, hj => simp [C] at hj; subst hj; simp [Addr.add]
  | 2, hj => simp [C] at hj; subst hj; simp [Addr.add]
  | 3, hj => simp [C] at hj; subst hj; simp [Addr.add]
theorem nx_mem (f : Fl) (out : List Fl) : ∀ k, k ≤ out.length → ∀ x ∈ (nx f out k).1, x = f ∨ x ∈ out
  | 0, _, x, hx => by simp [nx] at hx
  | k + 1, hk, x, hx => by
    have ho : out.getD k fl0 ∈ out := by
      rw [List.getD_eq_getElem?_getD, List.getElem?_eq_getElem (by omega : k < out.length)]
      exact List.getElem_mem _
    have ih := nx_mem f out k (by omega) x
    unfold nx at hx
    simp only at hx
    split at hx
    · simp only [List.mem_append, List.mem_cons, List.not_mem_nil, or_false] at hx
      rcases hx with hx | rfl | rfl
      · exact ih hx
      · exact .inl rfl
      · exact .inr ho
    · simp only [List.mem_append, List.mem_cons, List.not_mem_nil, or_false] at hx
      rcases hx with hx | rfl
      · exact ih hx
      · exact .inr ho
theorem srt_mem (l : List Fl) : ∀ k, k ≤ l.length → ∀ x ∈ srt l k, x ∈ l
  | 0, _, x, hx => by simp [srt] at hx
  | k + 1, hk, x, hx => by
    have hf : l.getD k fl0 ∈ l := by
      rw [List.getD_eq_getElem?_getD, List.getElem?_eq_getElem (by omega : k < l.length)]
      exact List.getElem_mem _
    have ih := srt_mem l k (by omega) x
    have hm := nx_mem (l.getD k fl0) (srt l k) (srt l k).length (Nat.le_refl _) x
    unfold srt put1 at hx
    split at hx
    · rcases hm hx with rfl | h
      · exact hf
      · exact ih h
    · simp only [List.mem_append, List.mem_singleton] at hx
      rcases hx with hx | rfl
      · rcases hm hx with rfl | h
        · exact hf
        · exact ih h
      · exact hf

set_option maxRecDepth 100000 in
set_option maxHeartbeats 8000000 in
theorem sortedOf_any (v : Value) (fs : List Fl) (w : World) (hF : FsAt w v fs) (hl : fs.length ≤ 2000000) (hs : ∀ f ∈ fs, f.ms.length ≤ 2000000 ∧ f.ds.length ≤ 2000000) :
    Calls Try.prog 25 #[v] w fun e w' => ∃ vo lo, e = .returned vo ∧ lo.map Fv.f = srt fs fs.length ∧ Rows2 w' w.heap.size vo lo (.slice none 0 0) [] ∧ Below w.heap.size w w' := by
  obtain ⟨i0, hi, hz0, hz1, hz2⟩ := info_parts infoFlow
  have HF := hide hF
  obtain ⟨a, cap, rfl, hn, hL⟩ := hF
  have HS := hide hs
  clear hL hs
  go_enter Try.func25, Try.ntmps25
  go_wp2_with fail
  go_loopw [3, 4] (fun o i wr => ∃ (k : Nat) (lo : List Fv), k ≤ fs.length ∧ i = .int .i64 k ∧ Hid (lo.map Fv.f = srt fs k) ∧ Hid (Rows2 wr w.heap.size o lo (.slice none 0 0) []) ∧ Below w.heap.size w wr) (fun _ i _ => fs.length - (intOf i).toNat)
  case atStart => exact ⟨0, [], by omega, rfl, hide rfl, hide (rows2_nil _ _), Below.refl _ _⟩
  case round =>
    obtain ⟨k, lo, hk, rfl, HM, HR, hb⟩ := hrel
    by_cases hlt : k < fs.length
    · obtain ⟨oo, oc, rfl, hoc, hog⟩ := own_form HR.out.out
      have hlo : lo.length ≤ k := by
        have := congrArg List.length HM.out
        rw [List.length_map] at this
        rw [this]; exact srt_length fs k
      obtain ⟨a', cap', ha', hn', hL⟩ := HF.out.below hb (Nat.le_refl _)
      simp only [Value.slice.injEq] at ha'
      obtain ⟨rfl, _, rfl⟩ := ha'
      obtain ⟨b, off, rfl, hcap, hcell⟩ : ∃ b off, a = some ⟨b, off, none⟩ ∧ fs.length ≤ cap ∧ FlAt w b (off + k * 4) (fs.getD k fl0) := by
        obtain ⟨a1, c1, h1, _, h0 | ⟨b, off, h2, h3, h4⟩⟩ := HF.out
        · omega
        · simp only [Value.slice.injEq] at h1
          obtain ⟨rfl, _, rfl⟩ := h1
          exact ⟨b, off, h2, h3, h4 k hlt⟩
      have HFL := hide hcell
      clear hL hn' hcell
      have hfl : (fs.getD k fl0).ms.length ≤ 2000000 ∧ (fs.getD k fl0).ds.length ≤ 2000000 := HS.out _ (by
        rw [List.getD_eq_getElem?_getD, List.getElem?_eq_getElem hlt]; exact List.getElem_mem hlt)
      obtain ⟨hf1, hf2⟩ := hfl
      have HSK : Hid (srt fs (k + 1) = put1 (fs.getD k fl0) (srt fs k)) := rfl
      have HLB : Hid (∀ x ∈ lo, x.f.ms.length ≤ 2000000 ∧ x.f.ds.length ≤ 2000000) := fun x hx => HS.out x.f (srt_mem fs k hk x.f (by rw [← HM.out]; exact List.mem_map_of_mem hx))
      clear HS
      generalize fs.getD k fl0 = f at *
      generalize srt fs k = sk at *
      go_wp2_with fail
      rename World => W1
      go_loopw [5, 6, 7, 8] (fun n d j c wr => ∃ (m : Nat) (ln : List Fv) (dn : Bool), m ≤ lo.length ∧ j = .int .i64 m ∧ d = .bool dn ∧ Hid (ln.map Fv.f = (nx f sk m).1) ∧ Hid (dn = (nx f sk m).2) ∧ Hid (Rows2 wr w.heap.size (.slice oo lo.length oc) lo n ln) ∧ Below w.heap.size w wr) (fun _ _ j _ _ => lo.length - (intOf j).toNat)
      case atStart => exact ⟨0, [], false, by omega, rfl, rfl, hide rfl, hide rfl, HR, hb⟩
      case round =>
        clear HR hb
        obtain ⟨m, ln, dn, hm, rfl, rfl, HN, HD, HQ, hq⟩ := hrel
        obtain ⟨f0, f1, mv, dv, f2, f3, hms, hds⟩ := HFL.out.below hq (Nat.le_refl _)
        have HMS := hide hms
        have HDS := hide hds
        obtain ⟨ma, mc, rfl, -, -⟩ := hms
        obtain ⟨da, dc, rfl, -, -⟩ := hds
        by_cases hml : m < lo.length
        · have HNX : Hid ((sk).getD m fl0 = (lo.getD m fv0).f) := by
            show _ = _
            rw [← HM.out]
            simp [List.getD, List.getElem?_eq_getElem hml]
          obtain ⟨g, rfl⟩ := hog (by omega)
          obtain ⟨e0, e1, e2, e3⟩ := C_at lo m hml
          have q0 := (HQ.out.out.cellAt (m * 4) (by omega)).trans e0
          have q1 := (HQ.out.out.cellAt (m * 4 + 1) (by omega)).trans e1
          have q2 := (HQ.out.out.cellAt (m * 4 + 2) (by omega)).trans e2
          have q3 := (HQ.out.out.cellAt (m * 4 + 3) (by omega)).trans e3
          clear e0 e1 e2 e3
          have hxm : lo.getD m fv0 ∈ lo ++ ln := by
            rw [List.getD_eq_getElem?_getD, List.getElem?_eq_getElem hml]
            exact List.mem_append_left _ (List.getElem_mem hml)
          have HX := hide (HQ.out.oks _ hxm)
          have HFB := HLB.out (lo.getD m fv0) (by rw [List.getD_eq_getElem?_getD, List.getElem?_eq_getElem hml]; exact List.getElem_mem hml)
          obtain ⟨fb1, fb2⟩ := HFB
          clear hxm
          have HK : Hid (∀ (L : List Fl) (D : Bool), nx f (sk) m = (L, D) → nx f (sk) (m + 1) = if plc f (lo.getD m fv0).f < 0 ∧ (D || (plc f (lo.getD m fv0).f == 0)) = false then (L ++ [f, (lo.getD m fv0).f], true) else (L ++ [(lo.getD m fv0).f], D || (plc f (lo.getD m fv0).f == 0))) := fun L D h => by
            rw [nx, HNX.out, h]
          clear HNX
          have HLM : Hid (lo.getD m fv0 ∈ lo) := by
            rw [List.getD_eq_getElem?_getD, List.getElem?_eq_getElem hml]; exact List.getElem_mem hml
          generalize hx : lo.getD m fv0 = x at *
          have HLX := hide hx
          clear hx
          obtain ⟨xf, xmv, xdv⟩ := x
          obtain ⟨⟨xo, xc, hx1⟩, ⟨xo', xc', hx2⟩⟩ := HX.out.1.slices
          simp only at hx1 hx2 q0 q1 q2 q3 fb1 fb2
          subst hx1 hx2
          have hgw : g < wr.heap.size := (own_at HQ.out.out).2
          have hbw : b < wr.heap.size := cell_lt f0
          go_wp2_with fail
          go_region_held3 (fun w' => (w'.cell? ⟨b, off + k * 4, none⟩ = some (.int .i64 (f).t) ∧ w'.cell? ⟨b, off + k * 4 + 1, none⟩ = some (.int .i64 (f).p) ∧ w'.cell? ⟨b, off + k * 4 + 2, none⟩ = some (.slice ma (f).ms.length mc) ∧ w'.cell? ⟨b, off + k * 4 + 3, none⟩ = some (.slice da (f).ds.length dc)) ∧
              w'.cell? ⟨g, m * 4, none⟩ = some (.int .i64 xf.t) ∧ w'.cell? ⟨g, m * 4 + 1, none⟩ = some (.int .i64 xf.p) ∧ w'.cell? ⟨g, m * 4 + 2, none⟩ = some (.slice xo xf.ms.length xc) ∧ w'.cell? ⟨g, m * 4 + 3, none⟩ = some (.slice xo' xf.ds.length xc')) (go_keep)
            (first | (go_at_call 24; refine (places_any (f) xf _ _ _ _ _ (HMS.out.below ((Below.refl _ _).drew) (Nat.le_refl _)) (HDS.out.below ((Below.refl _ _).drew) (Nat.le_refl _)) (HX.out.1.1.below ((Below.refl _ _).drew) (Nat.le_refl _)) (HX.out.1.2.1.below ((Below.refl _ _).drew) (Nat.le_refl _)) hf1 hf2 fb1 fb2).mono ?_; rintro e w3 ⟨rfl, hb3⟩; have hb3' : Below wr.heap.size wr w3 := ((Below.refl _ wr).drew).trans hb3; have c0 := cell_below f0 hb3' (Nat.le_refl _); have c1 := cell_below f1 hb3' (Nat.le_refl _); have c2 := cell_below f2 hb3' (Nat.le_refl _); have c3 := cell_below f3 hb3' (Nat.le_refl _); have d0 := cell_below q0 hb3' (Nat.le_refl _); have d1 := cell_below q1 hb3' (Nat.le_refl _); have d2 := cell_below q2 hb3' (Nat.le_refl _); have d3 := cell_below q3 hb3' (Nat.le_refl _)))
          have HK' : Hid (∀ (L : List Fl) (D : Bool), nx f sk m = (L, D) → nx f sk (m + 1) = if plc f xf < 0 ∧ (D || (plc f xf == 0)) = false then (L ++ [f, xf], true) else (L ++ [xf], D || (plc f xf == 0))) := HK.out
          have HQ3 := hide (HQ.out.below hb3')
          have hq3 : Below w.heap.size w w3 := hq.trans (hb3'.mono hq.size)
          have HX3 : Hid (FvOk w3 ⟨xf, .slice xo xf.ms.length xc, .slice xo' xf.ds.length xc'⟩) := hide (HX.out.1.below hb3')
          have HA := hide HX.out.2
          have HMS3 := hide (HMS.out.below hb3' (Nat.le_refl _))
          have HDS3 := hide (HDS.out.below hb3' (Nat.le_refl _))
          have HFL3 := hide (HFL.out.below hq3 (Nat.le_refl _))
          have hnl : (nx f sk m).1.length = ln.length := by rw [← HN.out, List.length_map]
          have hln : ln.length ≤ 2000001 := by have := (nx_length f sk m).1; omega
          have HNM := hide (show nx f sk m = (ln.map Fv.f, dn) by rw [HN.out, HD.out])
          clear hnl HK HQ HX hb3 hb3' hq f0 f1 f2 f3 q0 q1 q2 q3 HMS HDS HN HD hbw
          generalize plc f xf = c at *
          have hsz3 : w.heap.size ≤ w3.heap.size := hq3.size
          have own1 := hide (HQ3.out.next.alloc (.cells #[.int .i64 xf.t, .int .i64 xf.p, .slice xo xf.ms.length xc, .slice xo' xf.ds.length xc'] 41))
          have NEWS1 : Hid (∀ j u, (C [⟨xf, .slice xo xf.ms.length xc, .slice xo' xf.ds.length xc'⟩])[j]? = some u → (w3.alloc (.cells #[.int .i64 xf.t, .int .i64 xf.p, .slice xo xf.ms.length xc, .slice xo' xf.ds.length xc'] 41)).cell? ((⟨w3.heap.size, 0, none⟩ : Addr).add j) = some u) := by
            intro j u hj
            match j, hj with
            | 0, hj => simp [C] at hj; subst hj; simp [Addr.add]
            | 1, hj => simp [C] at hj; subst hj; simp [Addr.add]
            | 2, hj => simp [C] at hj; subst hj; simp [Addr.add]
            | 3, hj => simp [C] at hj; subst hj; simp [Addr.add]
          by_cases hins : c < 0 ∧ dn = false
          · obtain ⟨t, rfl⟩ := hins
            have HV : Hid (nx f sk (m + 1) = (ln.map Fv.f ++ [f, xf], true)) := by
              show _ = _
              rw [HK'.out _ _ HNM.out, if_pos]
              refine ⟨t, ?_⟩
              simp; omega
            clear HK' HNM own1 NEWS1
            have hto : ∀ g', (Value.slice (some ⟨g, 0, none⟩) lo.length oc).ownBlock = some g' → g' < w3.heap.size := fun g' e => own_lt HQ3.out.out e
            have htn : ∀ g', u5.ownBlock = some g' → g' < w3.heap.size := fun g' e => own_lt HQ3.out.next e
            have HTO := hide hto
            have HTN := hide htn
            clear hto htn
            go_wp2_with fail
            refine (flowCopy_any f _ _ _ HMS3.out HDS3.out hf1 hf2).mono ?_
            rintro e w4 ⟨ymv, ydv, rfl, om, od, hb4⟩
            have HY := hide (fv_copy om od)
            have HY1 := hide (apart_new om HTO.out)
            have HY2 := hide (apart_new od HTO.out)
            have HY3 := hide (apart_new om HTN.out)
            have HY4 := hide (apart_new od HTN.out)
            obtain ⟨⟨yo, yc, hy1⟩, ⟨yo', yc', hy2⟩⟩ := HY.out.slices
            simp only at hy1 hy2
            subst hy1 hy2
            have HQ4 := hide (HQ3.out.below hb4)
            have HX4 := hide (HX3.out.below hb4)
            have hq4 : Below w.heap.size w w4 := hq3.trans (hb4.mono hsz3)
            have hsz4 : w.heap.size ≤ w4.heap.size := hq4.size
            clear om od hb4 HQ3 HX3 hq3 hsz3 HTO HTN HMS3 HDS3 HFL3 c0 c1 c2 c3 d0 d1 d2 d3
            have own4 := hide (HQ4.out.next.alloc (.cells #[.int .i64 f.t, .int .i64 f.p, .slice yo f.ms.length yc, .slice yo' f.ds.length yc'] 41))
            have NEWS4 := hide (news4 w4 ⟨f, .slice yo f.ms.length yc, .slice yo' f.ds.length yc'⟩)
            go_wp2_with (at_builtin; refine wpList_append_lies _ rfl (.tmp 38) (.tmp 44) 22 rfl w.heap.size 41 i0 _ 4 64 Try.underlying22 hi hz0 hz1 hz2 rfl (by decide) _ _ _ rfl (unhide own4) ⟨w4.heap.size, 0, none⟩ 1 1 (C [⟨f, .slice yo f.ms.length yc, .slice yo' f.ds.length yc'⟩]) rfl rfl (unhide NEWS4) (HY.out).one (by decide) ?h63 ?hby ?hba _ rfl ?_)
            case h63 => unfold maxLen; omega
            case hby => omega
            case hba => first | omega | (simp; omega)
            intro g5 cap5 w5 ho5 hg5 hat5 _
            have hbA : Below w4.heap.size w4 (w4.alloc (.cells #[.int .i64 f.t, .int .i64 f.p, .slice yo f.ms.length yc, .slice yo' f.ds.length yc'] 41)) := (Below.refl _ _).alloc (Nat.le_refl _) _
            have HQ5 := hide ((HQ4.out.below hbA).app (HY.out.below hbA) HY1.out HY2.out HY3.out HY4.out ho5 hg5 hat5 (by simp))
            have hq5 : Below w.heap.size w w5 := (hq4.alloc hsz4 _).grown hg5 (by simp; omega) (own_ge (unhide own4))
            have hsz5 : w.heap.size ≤ w5.heap.size := hq5.size
            have HZ := hide (HQ5.out.oks ⟨xf, .slice xo xf.ms.length xc, .slice xo' xf.ds.length xc'⟩ (by
              have := HLM.out
              exact List.mem_append_left _ this))
            obtain ⟨e0, e1, e2, e3⟩ := C_at lo m hml
            have d0 := (HQ5.out.out.cellAt (m * 4) (by omega)).trans e0
            have d1 := (HQ5.out.out.cellAt (m * 4 + 1) (by omega)).trans e1
            have d2 := (HQ5.out.out.cellAt (m * 4 + 2) (by omega)).trans e2
            have d3 := (HQ5.out.out.cellAt (m * 4 + 3) (by omega)).trans e3
            rw [HLX.out] at d0 d1 d2 d3
            simp only at d0 d1 d2 d3
            clear e0 e1 e2 e3 ho5 hg5 hat5 hbA own4 NEWS4 HQ4 hq4 hsz4 HY HY1 HY2 HY3 HY4 HX4
            have own5 := hide (HQ5.out.next.alloc (.cells #[.int .i64 xf.t, .int .i64 xf.p, .slice xo xf.ms.length xc, .slice xo' xf.ds.length xc'] 41))
            have NEWS5 := hide (news4 w5 ⟨xf, .slice xo xf.ms.length xc, .slice xo' xf.ds.length xc'⟩)
            have hl5 : (ln ++ [(⟨f, .slice yo f.ms.length yc, .slice yo' f.ds.length yc'⟩ : Fv)]).length = ln.length + 1 := by simp
            have HL5 := hide hl5
            rw [hl5] at own5
            clear hl5
            go_wp2_with (at_builtin; refine wpList_append_lies _ rfl (.tmp 46) (.tmp 51) 22 rfl w.heap.size 41 i0 _ 4 64 Try.underlying22 hi hz0 hz1 hz2 rfl (by decide) _ _ _ rfl (unhide own5) ⟨w5.heap.size, 0, none⟩ 1 1 (C [⟨xf, .slice xo xf.ms.length xc, .slice xo' xf.ds.length xc'⟩]) rfl rfl (unhide NEWS5) (HZ.out.1).one (by decide) ?h63 ?hby ?hba _ rfl ?_)
            case h63 => unfold maxLen; omega
            case hby => omega
            case hba => first | omega | (simp; omega)
            intro g6 cap6 w6 ho6 hg6 hat6 _
            have hbB : Below w5.heap.size w5 (w5.alloc (.cells #[.int .i64 xf.t, .int .i64 xf.p, .slice xo xf.ms.length xc, .slice xo' xf.ds.length xc'] 41)) := (Below.refl _ _).alloc (Nat.le_refl _) _
            have T6 : Hid (Rows2 w6 w.heap.size (.slice (some ⟨g, 0, none⟩) lo.length oc) lo (.slice (some ⟨g6, 0, none⟩) (ln.length + 1 + 1) cap6) (ln ++ [⟨f, .slice yo f.ms.length yc, .slice yo' f.ds.length yc'⟩] ++ [⟨xf, .slice xo xf.ms.length xc, .slice xo' xf.ds.length xc'⟩])) := by
              have t := Rows2.app (g := g6) (cap := cap6) (HQ5.out.below hbB) (HZ.out.1.below hbB) HZ.out.2.1 HZ.out.2.2.1 HZ.out.2.2.2.1 HZ.out.2.2.2.2 (by rw [HL5.out]; exact ho6) hg6 hat6 (by simp)
              rw [HL5.out] at t
              exact hide t
            have hq6 : Below w.heap.size w w6 := (hq5.alloc hsz5 _).grown hg6 (by simp; omega) (own_ge (unhide own5))
            clear ho6 hg6 hat6 hbB own5 NEWS5 HQ5 hq5 d0 d1 d2 d3 HZ
            go_wp2_with fail
            go_roundw
            case rel => exact ⟨m + 1, ln ++ [⟨f, .slice yo f.ms.length yc, .slice yo' f.ds.length yc'⟩] ++ [⟨xf, .slice xo xf.ms.length xc, .slice xo' xf.ds.length xc'⟩], true, by omega, by go_num, rfl, hide (by rw [HV.out]; simp), hide (by rw [HV.out]), T6, hq6⟩
            case measure => simp [intOf]; omega
          · have HV : Hid (nx f sk (m + 1) = (ln.map Fv.f ++ [xf], dn || (c == 0))) := by
              show _ = _
              rw [HK'.out _ _ HNM.out, if_neg]
              rintro ⟨h1, h2⟩
              simp at h2
              exact hins ⟨h1, h2.1⟩
            clear HK' HNM
            rcases Int.lt_trichotomy c 0 with t | t | t
            · have hdn : dn = true := by
                cases dn
                · exact absurd ⟨t, rfl⟩ hins
                · rfl
              subst hdn
              go_wp2_with (at_builtin; refine wpList_append_lies _ rfl (.tmp 46) (.tmp 51) 22 rfl w.heap.size 41 i0 _ 4 64 Try.underlying22 hi hz0 hz1 hz2 rfl (by decide) _ _ _ rfl (unhide own1) ⟨w3.heap.size, 0, none⟩ 1 1 (C [⟨xf, .slice xo xf.ms.length xc, .slice xo' xf.ds.length xc'⟩]) rfl rfl (unhide NEWS1) HX3.out.one (by decide) ?h63 ?hby ?hba _ rfl ?_)
              case h63 => unfold maxLen; omega
              case hby => omega
              case hba => first | omega | (simp; omega)
              intro g4 cap4 w4 ho4 hg4 hat _
              have hbA : Below w3.heap.size w3 (w3.alloc (.cells #[.int .i64 xf.t, .int .i64 xf.p, .slice xo xf.ms.length xc, .slice xo' xf.ds.length xc'] 41)) := (Below.refl _ _).alloc (Nat.le_refl _) _
              have T4 := hide ((HQ3.out.below hbA).app (HX3.out.below hbA) HA.out.1 HA.out.2.1 HA.out.2.2.1 HA.out.2.2.2 ho4 hg4 hat (by simp))
              have hq4 : Below w.heap.size w w4 := (hq3.alloc hsz3 _).grown hg4 (by simp; omega) (own_ge (unhide own1))
              clear ho4 hg4 hat hbA own1 NEWS1 HQ3 hq3
              go_wp2_with fail
              go_roundw
              case rel => exact ⟨m + 1, ln ++ [⟨xf, .slice xo xf.ms.length xc, .slice xo' xf.ds.length xc'⟩], true, by omega, by go_num, rfl, hide (by rw [HV.out]; simp), hide (by rw [HV.out]; simp), T4, hq4⟩
              case measure => simp [intOf]; omega
            · subst t
              go_wp2_with (at_builtin; refine wpList_append_lies _ rfl (.tmp 46) (.tmp 51) 22 rfl w.heap.size 41 i0 _ 4 64 Try.underlying22 hi hz0 hz1 hz2 rfl (by decide) _ _ _ rfl (unhide own1) ⟨w3.heap.size, 0, none⟩ 1 1 (C [⟨xf, .slice xo xf.ms.length xc, .slice xo' xf.ds.length xc'⟩]) rfl rfl (unhide NEWS1) HX3.out.one (by decide) ?h63 ?hby ?hba _ rfl ?_)
              case h63 => unfold maxLen; omega
              case hby => omega
              case hba => first | omega | (simp; omega)
              intro g4 cap4 w4 ho4 hg4 hat _
              have hbA : Below w3.heap.size w3 (w3.alloc (.cells #[.int .i64 xf.t, .int .i64 xf.p, .slice xo xf.ms.length xc, .slice xo' xf.ds.length xc'] 41)) := (Below.refl _ _).alloc (Nat.le_refl _) _
              have T4 := hide ((HQ3.out.below hbA).app (HX3.out.below hbA) HA.out.1 HA.out.2.1 HA.out.2.2.1 HA.out.2.2.2 ho4 hg4 hat (by simp))
              have hq4 : Below w.heap.size w w4 := (hq3.alloc hsz3 _).grown hg4 (by simp; omega) (own_ge (unhide own1))
              clear ho4 hg4 hat hbA own1 NEWS1 HQ3 hq3
              go_wp2_with fail
              go_roundw
              case rel => exact ⟨m + 1, ln ++ [⟨xf, .slice xo xf.ms.length xc, .slice xo' xf.ds.length xc'⟩], true, by omega, by go_num, rfl, hide (by rw [HV.out]; simp), hide (by rw [HV.out]; simp), T4, hq4⟩
              case measure => simp [intOf]; omega
            · have t0 : (c == 0) = false := beq_eq_false_iff_ne.mpr (by omega)
              go_wp2_with (at_builtin; refine wpList_append_lies _ rfl (.tmp 46) (.tmp 51) 22 rfl w.heap.size 41 i0 _ 4 64 Try.underlying22 hi hz0 hz1 hz2 rfl (by decide) _ _ _ rfl (unhide own1) ⟨w3.heap.size, 0, none⟩ 1 1 (C [⟨xf, .slice xo xf.ms.length xc, .slice xo' xf.ds.length xc'⟩]) rfl rfl (unhide NEWS1) HX3.out.one (by decide) ?h63 ?hby ?hba _ rfl ?_)
              case h63 => unfold maxLen; omega
              case hby => omega
              case hba => first | omega | (simp; omega)
              intro g4 cap4 w4 ho4 hg4 hat _
              have hbA : Below w3.heap.size w3 (w3.alloc (.cells #[.int .i64 xf.t, .int .i64 xf.p, .slice xo xf.ms.length xc, .slice xo' xf.ds.length xc'] 41)) := (Below.refl _ _).alloc (Nat.le_refl _) _
              have T4 := hide ((HQ3.out.below hbA).app (HX3.out.below hbA) HA.out.1 HA.out.2.1 HA.out.2.2.1 HA.out.2.2.2 ho4 hg4 hat (by simp))
              have hq4 : Below w.heap.size w w4 := (hq3.alloc hsz3 _).grown hg4 (by simp; omega) (own_ge (unhide own1))
              clear ho4 hg4 hat hbA own1 NEWS1 HQ3 hq3
              go_wp2_with fail
              go_roundw
              case rel => exact ⟨m + 1, ln ++ [⟨xf, .slice xo xf.ms.length xc, .slice xo' xf.ds.length xc'⟩], dn, by omega, by go_num, rfl, hide (by rw [HV.out]; simp), hide (by rw [HV.out]; simp [t0]), T4, hq4⟩
              case measure => simp [intOf]; omega
        · have hml' : m = lo.length := by omega
          subst hml'
          have hskl : sk.length = lo.length := by rw [← HM.out, List.length_map]
          have hnl : (nx f sk lo.length).1.length = ln.length := by rw [← HN.out, List.length_map]
          have hln : ln.length ≤ 2000001 := by have := (nx_length f sk lo.length).1; omega
          have hszr : w.heap.size ≤ wr.heap.size := hq.size
          cases dn
          · have HP : Hid (srt fs (k + 1) = ln.map Fv.f ++ [f]) := by
              show _ = _
              rw [HSK.out]; unfold put1; rw [hskl, ← HD.out, ← HN.out]; rfl
            clear HN HD HSK HM HLB hskl hnl
            have hto : ∀ g', (Value.slice oo lo.length oc).ownBlock = some g' → g' < wr.heap.size := fun g' e => own_lt HQ.out.out e
            have htn : ∀ g', u5.ownBlock = some g' → g' < wr.heap.size := fun g' e => own_lt HQ.out.next e
            have HTO := hide hto
            have HTN := hide htn
            clear hto htn
            go_wp2_with fail
            refine (flowCopy_any f _ _ _ HMS.out HDS.out hf1 hf2).mono ?_
            rintro e w4 ⟨ymv, ydv, rfl, om, od, hb4⟩
            have HY := hide (fv_copy om od)
            have HY1 := hide (apart_new om HTO.out)
            have HY2 := hide (apart_new od HTO.out)
            have HY3 := hide (apart_new om HTN.out)
            have HY4 := hide (apart_new od HTN.out)
            obtain ⟨⟨yo, yc, hy1⟩, ⟨yo', yc', hy2⟩⟩ := HY.out.slices
            simp only at hy1 hy2
            subst hy1 hy2
            have HQ4 := hide (HQ.out.below hb4)
            have hq4 : Below w.heap.size w w4 := hq.trans (hb4.mono hszr)
            have hsz4 : w.heap.size ≤ w4.heap.size := hq4.size
            clear om od hb4 HQ hq hszr HTO HTN HMS HDS f0 f1 f2 f3
            have own4 := hide (HQ4.out.next.alloc (.cells #[.int .i64 f.t, .int .i64 f.p, .slice yo f.ms.length yc, .slice yo' f.ds.length yc'] 41))
            have NEWS4 := hide (news4 w4 ⟨f, .slice yo f.ms.length yc, .slice yo' f.ds.length yc'⟩)
            go_wp2_with (at_builtin; refine wpList_append_lies _ rfl (.tmp 55) (.tmp 61) 22 rfl w.heap.size 41 i0 _ 4 64 Try.underlying22 hi hz0 hz1 hz2 rfl (by decide) _ _ _ rfl (unhide own4) ⟨w4.heap.size, 0, none⟩ 1 1 (C [⟨f, .slice yo f.ms.length yc, .slice yo' f.ds.length yc'⟩]) rfl rfl (unhide NEWS4) (HY.out).one (by decide) ?h63 ?hby ?hba _ rfl ?_)
            case h63 => unfold maxLen; omega
            case hby => omega
            case hba => first | omega | (simp; omega)
            intro g5 cap5 w5 ho5 hg5 hat5 _
            have hbA : Below w4.heap.size w4 (w4.alloc (.cells #[.int .i64 f.t, .int .i64 f.p, .slice yo f.ms.length yc, .slice yo' f.ds.length yc'] 41)) := (Below.refl _ _).alloc (Nat.le_refl _) _
            have HQ5 := hide ((HQ4.out.below hbA).app (HY.out.below hbA) HY1.out HY2.out HY3.out HY4.out ho5 hg5 hat5 (by simp)).shift
            have hq5 : Below w.heap.size w w5 := (hq4.alloc hsz4 _).grown hg5 (by simp; omega) (own_ge (unhide own4))
            clear ho5 hg5 hat5 hbA own4 NEWS4 HQ4 hq4 hsz4 HY HY1 HY2 HY3 HY4
            go_wp2_with fail
            go_roundw
            case rel => exact ⟨k + 1, ln ++ [⟨f, .slice yo f.ms.length yc, .slice yo' f.ds.length yc'⟩], by omega, by go_num, hide (by rw [HP.out]; simp), HQ5, hq5⟩
            case measure => simp [intOf]; omega
          · have HP : Hid (srt fs (k + 1) = ln.map Fv.f) := by
              show _ = _
              rw [HSK.out]; unfold put1; rw [hskl, ← HD.out, ← HN.out]; rfl
            have HQ5 := hide HQ.out.shift
            clear HN HD HSK HM HLB hskl hnl HQ HMS HDS
            go_wp2_with fail
            go_roundw
            case rel => exact ⟨k + 1, ln, by omega, by go_num, hide HP.out.symm, HQ5, hq⟩
            case measure => simp [intOf]; omega
    · have hkl : k = fs.length := by omega
      subst hkl
      go_wp2_with fail
      go_ret
      exact ⟨_, lo, rfl, HM.out, HR.out, hb⟩

end Go.Proofs.Ytonhfgdnkkkikac
