/-
  flow.fresh of flows that came in; flow.ordered: a new row of the flows in their places.
-/
import Derived.Test.YtonhfgdnkkkikacSf
import Derived.Test.YtonhfgdnkkkikacPo
namespace Go.Proofs.Ytonhfgdnkkkikac
open Go.RowKit
set_option linter.unusedVariables false
set_option maxRecDepth 100000

/-- Flows that came in, each with the slices that it holds. -/
theorem fs_lo {w : World} {a : Option Addr} {n cap : Nat} {fs : List Fl} (h : FsAt w (.slice a n cap) fs) : n = fs.length ∧ (a = none → cap = 0) ∧ ∃ lo : List Fv, lo.map Fv.f = fs ∧ (∀ x ∈ lo, Held w x) ∧ (lo.length = 0 ∨ ∃ b off, a = some ⟨b, off, none⟩ ∧ lo.length ≤ cap ∧ ∀ j u, (C lo)[j]? = some u → w.cell? ((⟨b, off, none⟩ : Addr).add j) = some u) := by
  obtain ⟨a', cap', hv, hn, hL⟩ := h
  simp only [Value.slice.injEq] at hv
  obtain ⟨rfl, rfl, rfl⟩ := hv
  refine ⟨rfl, hn, ?_⟩
  rcases hL with h0 | ⟨b, off, rfl, hcap, hc⟩
  · obtain rfl := List.eq_nil_of_length_eq_zero h0
    exact ⟨[], rfl, fun x hx => by simp at hx, .inl rfl⟩
  · have key : ∀ k, k ≤ fs.length → ∃ lo : List Fv, lo.map Fv.f = fs.take k ∧ (∀ x ∈ lo, Held w x) ∧ ∀ j u, (C lo)[j]? = some u → w.cell? ⟨b, off + j, none⟩ = some u := by
      intro k
      induction k with
      | zero => exact fun _ => ⟨[], by simp, fun x hx => by simp at hx, fun j u h => by simp [C] at h⟩
      | succ k ih =>
        intro hk
        obtain ⟨lo, h1, h2, h3⟩ := ih (by omega)
        obtain ⟨f0, f1, mv, dv, f2, f3, hm, hd⟩ := hc k (by omega)
        have hll : lo.length = k := by
          have := congrArg List.length h1
          simpa [Nat.min_eq_left (show k ≤ fs.length by omega)] using this
        have hcl : (C lo).length = k * 4 := by
          rw [← hll]
          clear h1 h2 h3 hll
          induction lo with
          | nil => rfl
          | cons x r ih => simp [C] at ih ⊢; omega
        refine ⟨lo ++ [⟨fs.getD k fl0, mv, dv⟩], ?_, fun x hx => ?_, fun j u hj => ?_⟩
        · rw [List.take_succ_eq_append_getElem (by omega), List.map_append, h1]
          simp [List.getD, List.getElem?_eq_getElem (show k < fs.length by omega)]
        · simp only [List.mem_append, List.mem_singleton] at hx
          rcases hx with hx | rfl
          · exact h2 x hx
          · exact ⟨hm, hd⟩
        · rw [C_append] at hj
          by_cases hjl : j < k * 4
          · rw [List.getElem?_append_left (by omega)] at hj
            exact h3 j u hj
          · rw [List.getElem?_append_right (by omega), hcl] at hj
            have hj4 : j - k * 4 = 0 ∨ j - k * 4 = 1 ∨ j - k * 4 = 2 ∨ j - k * 4 = 3 := by
              rcases Nat.lt_or_ge (j - k * 4) 4 with h | h
              · omega
              · rw [List.getElem?_eq_none (by simpa [C] using h)] at hj; simp at hj
            rcases hj4 with e | e | e | e
            · rw [e] at hj; simp [C] at hj; subst hj; rw [show off + j = off + k * 4 by omega]; exact f0
            · rw [e] at hj; simp [C] at hj; subst hj; rw [show off + j = off + k * 4 + 1 by omega]; exact f1
            · rw [e] at hj; simp [C] at hj; subst hj; rw [show off + j = off + k * 4 + 2 by omega]; exact f2
            · rw [e] at hj; simp [C] at hj; subst hj; rw [show off + j = off + k * 4 + 3 by omega]; exact f3
    obtain ⟨lo, h1, h2, h3⟩ := key fs.length (Nat.le_refl _)
    rw [List.take_length] at h1
    have hll : lo.length = fs.length := by rw [← h1]; simp
    refine ⟨lo, h1, h2, .inr ⟨b, off, rfl, by omega, fun j u hj => ?_⟩⟩
    have e : (⟨b, off, none⟩ : Addr).add j = ⟨b, off + j, none⟩ := by by_cases h : j = 0 <;> simp [Addr.add, h]
    rw [e]
    exact h3 j u hj
theorem C_len (lo : List Fv) : (C lo).length = lo.length * 4 := by
  induction lo with
  | nil => rfl
  | cons x r ih => simp [C] at ih ⊢; omega
theorem held_one {w : World} {lo : List Fv} (h : ∀ x ∈ lo, Held w x) : ∀ u ∈ C lo, u.oneCell' = true := by
  intro u hu
  simp only [C, List.mem_flatMap] at hu
  obtain ⟨x, hx, hu⟩ := hu
  exact (h x hx).one u (by simpa [C] using hu)

/-- flow.fresh of flows: a new row of the same flows. -/
theorem freshFl_any (v : Value) (fs : List Fl) (w : World) (hF : FsAt w v fs) (hl : fs.length ≤ 2000000) :
    Calls Try.prog 51 #[v] w fun e w' => ∃ u lo, e = .returned u ∧ lo.map Fv.f = fs ∧ (∀ x ∈ lo, Held w x) ∧ w'.ownsRow w.heap.size 41 4 u lo.length (C lo) ∧ Below w.heap.size w w' := by
  obtain ⟨a, cap, rfl, _, _⟩ := id hF
  obtain ⟨_, hn, lo, h1, h2, h3⟩ := fs_lo hF
  have hll : lo.length = fs.length := by rw [← h1]; simp
  cases a with
  | none =>
    obtain rfl := hn rfl
    have h0 : fs.length = 0 := by
      rcases h3 with h | ⟨_, _, h, _⟩
      · omega
      · simp at h
    have hlo : lo = [] := List.eq_nil_of_length_eq_zero (by omega)
    rw [h0]
    refine (freshNil_any w).mono ?_
    rintro e w' ⟨rfl, rfl⟩
    exact ⟨_, lo, rfl, h1, h2, by rw [hlo]; exact World.ownsRow_nil _ _ _ _, Below.refl _ _⟩
  | some ad =>
    have hnews : ∀ j u, (C lo)[j]? = some u → w.cell? (ad.add j) = some u := by
      rcases h3 with h | ⟨b, off, h4, _, h5⟩
      · intro j u hj
        rw [List.eq_nil_of_length_eq_zero h] at hj
        simp [C] at hj
      · cases h4
        exact h5
    refine (freshV_any ad fs.length cap (C lo) w (by rw [C_len, hll]) hnews (held_one h2) (by omega)).mono ?_
    rintro e w' ⟨u, rfl, ho, hb⟩
    exact ⟨u, lo, rfl, h1, h2, by rw [hll]; exact ho, hb⟩

/-- Of what a flow holds that lay there before a block came. -/
theorem Held.away {w : World} {x : Fv} (h : Held w x) {blk : Nat} (hb : w.heap.size ≤ blk) : (x.f.ms.length = 0 ∨ x.mv.ownBlock ≠ some blk) ∧ (x.f.ds.length = 0 ∨ x.dv.ownBlock ≠ some blk) := by
  obtain ⟨⟨a, c, h1, _, h2⟩, ⟨a', c', h3, _, h4⟩⟩ := h
  constructor
  · rcases h2 with h2 | ⟨b, off, rfl, _, h2⟩
    · exact .inl h2
    · rcases Nat.eq_zero_or_pos x.f.ms.length with h0 | h0
      · exact .inl h0
      · have := cell_lt (h2 0 h0).1
        exact .inr (by rw [h1]; simp [Value.ownBlock]; omega)
  · rcases h4 with h4 | ⟨b, off, rfl, _, h4⟩
    · exact .inl h4
    · rcases Nat.eq_zero_or_pos x.f.ds.length with h0 | h0
      · exact .inl h0
      · have := cell_lt (h4 0 h0).1
        exact .inr (by rw [h3]; simp [Value.ownBlock]; omega)

set_option maxHeartbeats 2000000 in
theorem ordered_any (v : Value) (fs : List Fl) (w : World) (hF : FsAt w v fs) (hl : fs.length ≤ 2000000) (hs : ∀ f ∈ fs, f.ms.length ≤ 2000000 ∧ f.ds.length ≤ 2000000) :
    Calls Try.prog 36 #[v] w fun e w' => ∃ u, e = .returned u ∧ ∃ lo : List Fv, (lo.map Fv.f).Perm fs ∧ (lo.Pairwise fun a b => ¬ plc b.f a.f < 0) ∧ (∀ x ∈ lo, Held w x) ∧ w'.ownsRow w.heap.size 41 4 u lo.length (C lo) ∧ Below w.heap.size w w' := by
  have HF := hide hF
  obtain ⟨a, cap, rfl, _, _⟩ := hF
  go_enter Try.func36, Try.ntmps36
  go_wp2_with fail
  refine (freshFl_any _ fs w HF.out hl).mono ?_
  rintro e w1 ⟨u, lo, rfl, hlo, hh, ho1, hb1⟩
  have HH := hide hh
  have HLO := hide hlo
  have HLL : Hid (lo.length ≤ 2000000) := hide (by have : lo.length = fs.length := by rw [← hlo]; simp
                                                   omega)
  clear hh hlo
  by_cases h0 : lo.length = 0
  · obtain ⟨ua, uc, rfl⟩ : ∃ a c, u = .slice a 0 c := by
      obtain ⟨_, ⟨rfl, _⟩ | ⟨g, cap, cur, rfl, _⟩⟩ := ho1
      · exact ⟨_, _, rfl⟩
      · exact ⟨_, _, by rw [h0]⟩
    have HO1 := hide ho1
    clear ho1
    go_wp2_with fail
    refine (fPlaces_below _).mono ?_
    rintro e w2 ⟨g, rfl, hb2⟩
    go_wp2_with fail
    refine (sortFunc_tiny _ 0 _ _ _ (by omega)).mono ?_
    rintro e w3 ⟨rfl, rfl⟩
    go_wp2_with fail
    go_ret
    obtain rfl := List.eq_nil_of_length_eq_zero h0
    exact ⟨_, rfl, [], by rw [HLO.out], List.Pairwise.nil, HH.out, own_below HO1.out hb2, hb1.trans (hb2.mono hb1.size)⟩
  · obtain ⟨blk, uc, rfl, _⟩ := ho1.form (by omega)
    have HO1 := hide ho1
    have hbl := own_at ho1
    clear ho1
    go_wp2_with fail
    refine (fPlaces_any _).mono ?_
    rintro e w2 ⟨rfl, hw2⟩
    have hgr2 : Below w1.heap.size w1 w2 := by rw [hw2]; exact ((Below.refl _ _).alloc (Nat.le_refl _) _).alloc (by simp) _
    have HOA : Hid (OrdAt2 w2 (w1.heap.size + 1) blk) := by
      rw [hw2]
      have e : w1.heap.size + 1 = (w1.alloc sixO).heap.size := by simp
      refine hide ⟨by omega, w1.heap.size, by omega, ?_, ?_⟩
      · rw [e]; simp
      · simp
    have hb12 := hb1.trans (hgr2.mono hb1.size)
    have HO2 := hide (own_below HO1.out hgr2)
    have HFO : Hid (∀ x ∈ lo, FoOk w2 blk x) := fun x hx => by
      have hx1 := HH.out x hx
      have hf : x.f ∈ fs := by rw [← HLO.out]; exact List.mem_map_of_mem hx
      obtain ⟨a1, a2⟩ := hx1.away (show w.heap.size ≤ blk from hbl.1)
      exact ⟨hx1.below hb12 (Nat.le_refl _), a1, a2, (hs x.f hf).1, (hs x.f hf).2⟩
    clear hw2 hgr2
    go_wp2_with fail
    refine (sortFunc_any w.heap.size uc (w1.heap.size + 1) lo HO2.out HFO.out HOA.out HLL.out).mono ?_
    rintro e w3 ⟨rfl, lo', hp, hsrt, ho3, hg3⟩
    have HP := hide hp
    have HS := hide hsrt
    have HO3 := hide ho3
    clear hp hsrt ho3
    go_wp2_with fail
    go_ret
    have hl' : lo'.length = lo.length := HP.out.length_eq
    exact ⟨_, rfl, lo', by rw [← HLO.out]; exact HP.out.map _, HS.out, fun x hx => HH.out x (HP.out.mem_iff.1 hx), by rw [hl']; exact HO3.out, hb12.grown hg3 hb12.size (fun k hk => by cases hk; exact hbl.1)⟩

end Go.Proofs.Ytonhfgdnkkkikac
