/- Texts joined: Xn. -/
import Derived.Deep.RegionHeld3
import Derived.Test.YtjcomoinggiedaaGreatJTopSilent6
namespace Go.Proofs.YtjcomoinggiedaaGreat
open Go.RowKit
set_option linter.unusedVariables false
set_option maxRecDepth 100000

theorem sizeFrK : (Tryz.prog.info? 32).map (·.size) = some 8 := by kernel_rfl
theorem wp_same0 {P : Program} {c : Code} {Q : Exit → Act → World → Prop} {a : Act} {w : World} (A1 : Act) (W1 : World) (h : c.wp P (fun e a' w' => e = .normal ∧ a' = A1 ∧ w' = W1) a w) (hq : Q .normal A1 W1) : c.wp P Q a w :=
  Code.wp_mono (fun e a' w' ⟨he, ha, hw⟩ => by subst he; subst ha; subst hw; exact hq) h
theorem fr_ok {dst src kind ips ipd ttl port : Int} {n : Nat} (hk : 1 ≤ kind ∧ kind ≤ 3) (h1 : 0 ≤ dst ∧ dst ≤ 65535) (h2 : 0 ≤ src ∧ src ≤ 65535) (h3 : 0 ≤ ips ∧ ips ≤ 65535) (h4 : 0 ≤ ipd ∧ ipd ≤ 65535) (h5 : 0 ≤ ttl ∧ ttl ≤ 255) (h6 : 0 ≤ port ∧ port ≤ 65535) (hn : n ≤ 40) (hl : kind = 3 ∨ ttl = 0 ∧ port = 0 ∧ n = 0) : fault dst src kind ips ipd ttl port n = 0 := by
  unfold fault
  rw [if_pos (by simp [kindB]; omega), if_pos (by simp [boundsB, wordB, lifeB]; omega), if_neg (by omega), if_neg]
  rintro ⟨a, b⟩
  rcases hl with h | ⟨rfl, rfl, rfl⟩
  · exact a h
  · simp [loadB] at b
/-- What the keepers' Frame answers. -/
def FrK (P : List Pr) (w : World) (e : Ending) (w' : World) : Prop := ∃ (id dst src kind ips ipd ttl port : Int) (body : ByteArray), e = .returned (.tuple #[.int .i64 id, fr dst src kind ips ipd ttl port body]) ∧ (fault dst src kind ips ipd ttl port body.size = 0 ∧ (P = [] ∧ id = 1 ∨ ∃ p ∈ P, id = p.i)) ∧ Below w.heap.size w w'
set_option maxHeartbeats 2000000 in
theorem frameK_any (s1 p1 a1 : Option Addr) (s2 p2 a2 : Nat) (S : List Sw) (P : List Pr) (A : List Ac) (x : Rw) (w : World) (hC : CfAt w (.slice s1 S.length s2) (.slice p1 P.length p2) (.slice a1 A.length a2) S P A) (hl : P.length ≤ 1000) (hP : ∀ p ∈ P, PrIn p) :
    Calls Tryz.prog 9 #[.agg #[.slice s1 S.length s2, .slice p1 P.length p2, .slice a1 A.length a2], .agg #[.int .i64 x.k, .int .i64 x.a, .int .i64 x.b, .int .i64 x.c]] w (FrK P w) := by
  have HP := hide hP
  have HC := hide hC.2.1
  obtain ⟨⟨xk0, xk1⟩, ⟨xa0, xa1⟩, ⟨xb0, xb1⟩, xc0, xc1⟩ := x.ok
  clear hC hP
  generalize x.k = r0 at *
  generalize x.a = r1 at *
  generalize x.b = r2 at *
  generalize x.c = r3 at *
  obtain ⟨W0, hW0⟩ : ∃ W0, W0 = ((w.alloc (.cells #[.slice s1 S.length s2, .slice p1 P.length p2, .slice a1 A.length a2] 29)).alloc (.cells #[.int .i64 r0, .int .i64 r1, .int .i64 r2, .int .i64 r3] 24)).alloc (.cells #[.int .i64 0, .int .i64 0, .int .i64 0, .int .i64 0, .int .i64 0, .int .i64 0, .int .i64 0, .string ⟨#[]⟩] 32) := ⟨_, rfl⟩
  have kb : Below w.heap.size w W0 := by rw [hW0]; exact (((Below.refl _ w).alloc (Nat.le_refl _) _).alloc (by simp) _).alloc (by simp; omega) _
  have B0 : Box W0 w.heap.size [.slice s1 S.length s2, .slice p1 P.length p2, .slice a1 A.length a2] := by rw [hW0]; exact ((Box.new w [.slice s1 S.length s2, .slice p1 P.length p2, .slice a1 A.length a2] 29).alloc _).alloc _
  have B1 : Box W0 (w.heap.size + 1) [.int .i64 r0, .int .i64 r1, .int .i64 r2, .int .i64 r3] := by rw [hW0]; have h := (Box.new (w.alloc (.cells #[.slice s1 S.length s2, .slice p1 P.length p2, .slice a1 A.length a2] 29)) [.int .i64 r0, .int .i64 r1, .int .i64 r2, .int .i64 r3] 24).alloc (.cells #[.int .i64 0, .int .i64 0, .int .i64 0, .int .i64 0, .int .i64 0, .int .i64 0, .int .i64 0, .string ⟨#[]⟩] 32); simpa using h
  have B2 : Box W0 (w.heap.size + 1 + 1) [.int .i64 0, .int .i64 0, .int .i64 0, .int .i64 0, .int .i64 0, .int .i64 0, .int .i64 0, .string ⟨#[]⟩] := by rw [hW0]; have h := Box.new ((w.alloc (.cells #[.slice s1 S.length s2, .slice p1 P.length p2, .slice a1 A.length a2] 29)).alloc (.cells #[.int .i64 r0, .int .i64 r1, .int .i64 r2, .int .i64 r3] 24)) [.int .i64 0, .int .i64 0, .int .i64 0, .int .i64 0, .int .i64 0, .int .i64 0, .int .i64 0, .string ⟨#[]⟩] 32; simpa using h
  have HB2 := hide B2
  have c1 := B0.cell 1 _ rfl
  have ra := B1.cell 1 _ rfl
  have rb := B1.cell 2 _ rfl
  have rc := B1.cell 3 _ rfl
  have rk := B1.cell 0 _ rfl
  have HW0 := hide hW0.symm
  replace HC := hide (RowAt.below HC.out kb (Nat.le_refl _))
  clear hW0 B0 B1 B2
  go_enter Tryz.func9, Tryz.ntmps9
  by_cases h0 : P.length = 0
  · have hp : P = [] := List.eq_nil_of_length_eq_zero h0
    have HPN := hide hp
    clear hp
    have h0i : ((P.length : Int) == 0) = true := by simp [h0]
    have HH0 := hide h0
    clear h0
    go_wp2_with (first | rw [HW0.out] | (refine wpList_store_mid rfl 32 (.tmp 5) (.tmp 13) rfl (w.heap.size + 1 + 1) 0 _ rfl rfl (HB2.out.fit 8 rfl) sizeFrK (ones rfl) ?_))
    refine bodyPost_ret (v := .tuple #[.int .i64 1, fr 0 0 3 0 0 2 0 ⟨#[]⟩]) ?_ rfl ⟨1, 0, 0, 3, 0, 0, 2, 0, ⟨#[]⟩, rfl, ⟨by decide, .inl ⟨HPN.out, rfl⟩⟩, setCells_below _ (by omega) _ _ kb⟩
    exact results_tc (cs := [.int .i64 0, .int .i64 0, .int .i64 3, .int .i64 0, .int .i64 0, .int .i64 2, .int .i64 0, .string ⟨#[]⟩]) Tryz.results9 rfl (HB2.out.set ([.int .i64 0, .int .i64 0, .int .i64 3, .int .i64 0, .int .i64 0, .int .i64 2, .int .i64 0, .string ⟨#[]⟩] : List Value) rfl).range Tryz.underlying32 rfl sizeFrK
  · have h0i : ((P.length : Int) == 0) = false := by simpa using h0
    have hn : (0 : Int) < (P.length : Int) := by omega
    obtain ⟨k0, k1⟩ := pk_in r1 P.length hn
    obtain ⟨j0, j1⟩ := pk_in r2 P.length hn
    have HPK := hide (fun W => picked_any r1 (P.length : Int) W xa0 xa1 hn (by omega))
    have HPJ := hide (fun W => picked_any r2 (P.length : Int) W xb0 xb1 hn (by omega))
    generalize pk r1 (P.length : Int) = ki at *
    generalize pk r2 (P.length : Int) = ji at *
    obtain ⟨k, rfl⟩ := Int.eq_ofNat_of_zero_le k0
    obtain ⟨j, rfl⟩ := Int.eq_ofNat_of_zero_le j0
    have hk : k < P.length := by omega
    have hj : j < P.length := by omega
    obtain ⟨pb, off, cap, e1, hcap, hpb, g0, g1, g2, g3, g4⟩ := pr_at HC.out hk
    simp only [Value.slice.injEq, true_and] at e1
    obtain ⟨rfl, rfl⟩ := e1
    obtain ⟨pb', off', cap', e2, hcap', hpb', y0, y1, y2, y3, y4⟩ := pr_at HC.out hj
    simp only [Value.slice.injEq, Option.some.injEq, Addr.mk.injEq, true_and, and_true] at e2
    obtain ⟨⟨rfl, rfl⟩, rfl⟩ := e2
    have HMK : Hid (P.getD k pr0 ∈ P) := by rw [List.getD_eq_getElem?_getD, List.getElem?_eq_getElem hk]; exact hide (List.getElem_mem hk)
    have HMJ : Hid (P.getD j pr0 ∈ P) := by rw [List.getD_eq_getElem?_getD, List.getElem?_eq_getElem hj]; exact hide (List.getElem_mem hj)
    generalize P.getD k pr0 = p at *
    generalize P.getD j pr0 = q at *
    have s0 := HB2.out.lt
    go_wp2_with (rw [HW0.out])
    apply wp_same0
    · go_region_held3 (fun w' => w'.cell? ⟨w.heap.size, 1, none⟩ = some (.slice (some ⟨pb, off, none⟩) P.length p2) ∧ w'.cell? ⟨w.heap.size + 1, 1, none⟩ = some (.int .i64 r1) ∧ w'.cell? ⟨pb, off + k * 5, none⟩ = some (.int .i64 p.i) ∧ w'.cell? ⟨pb, off + k * 5 + 1, none⟩ = some (.int .i64 p.s) ∧ w'.cell? ⟨pb, off + k * 5 + 2, none⟩ = some (.int .i64 p.m) ∧ w'.cell? ⟨pb, off + k * 5 + 3, none⟩ = some (.int .i64 p.p) ∧ w'.cell? ⟨pb, off + k * 5 + 4, none⟩ = some (.int .i64 p.c)) (go_keep) (first | (go_at_call 25; refine (unhide HPK _).mono ?_; rintro e w' ⟨rfl, rfl⟩))
      all_goals exact ⟨rfl, rfl, rfl⟩
    · obtain ⟨V3, hV3⟩ : ∃ V3, V3 = (W0.alloc (.cells #[.int .i64 p.i, .int .i64 p.s, .int .i64 p.m, .int .i64 p.p, .int .i64 p.c] 45)).drew := ⟨_, rfl⟩
      have hb3 : Below W0.heap.size W0 V3 := by rw [hV3]; exact ((Below.refl _ _).alloc (Nat.le_refl _) _).drew
      have HP3 : Hid (Box V3 W0.heap.size [.int .i64 p.i, .int .i64 p.s, .int .i64 p.m, .int .i64 p.p, .int .i64 p.c]) := by rw [hV3]; exact hide ((Box.new W0 [.int .i64 p.i, .int .i64 p.s, .int .i64 p.m, .int .i64 p.p, .int .i64 p.c] 45).below ((Below.refl _ _).drew))
      replace HB2 := hide (HB2.out.below hb3)
      replace kb := kb.trans (hb3.mono kb.size)
      replace c1 := cell_beh c1 hb3 (Nat.le_refl _)
      replace rb := cell_beh rb hb3 (Nat.le_refl _)
      replace rc := cell_beh rc hb3 (Nat.le_refl _)
      replace rk := cell_beh rk hb3 (Nat.le_refl _)
      replace y0 := cell_beh y0 hb3 (Nat.le_refl _)
      replace y1 := cell_beh y1 hb3 (Nat.le_refl _)
      replace y2 := cell_beh y2 hb3 (Nat.le_refl _)
      replace y3 := cell_beh y3 hb3 (Nat.le_refl _)
      replace y4 := cell_beh y4 hb3 (Nat.le_refl _)
      have HV3 := hide hV3.symm
      have sz3 := HP3.out.lt
      clear ra g0 g1 g2 g3 g4 HPK hb3 hV3 HC
      go_wp2_with (rw [HV3.out])
      clear HV3
      apply wp_same0
      · go_region_held3 (fun w' => w'.cell? ⟨w.heap.size, 1, none⟩ = some (.slice (some ⟨pb, off, none⟩) P.length p2) ∧ w'.cell? ⟨w.heap.size + 1, 2, none⟩ = some (.int .i64 r2) ∧ w'.cell? ⟨pb, off + j * 5, none⟩ = some (.int .i64 q.i) ∧ w'.cell? ⟨pb, off + j * 5 + 1, none⟩ = some (.int .i64 q.s) ∧ w'.cell? ⟨pb, off + j * 5 + 2, none⟩ = some (.int .i64 q.m) ∧ w'.cell? ⟨pb, off + j * 5 + 3, none⟩ = some (.int .i64 q.p) ∧ w'.cell? ⟨pb, off + j * 5 + 4, none⟩ = some (.int .i64 q.c)) (go_keep) (first | (go_at_call 25; refine (unhide HPJ _).mono ?_; rintro e w' ⟨rfl, rfl⟩))
        all_goals exact ⟨rfl, rfl, rfl⟩
      · obtain ⟨V4, hV4⟩ : ∃ V4, V4 = (V3.alloc (.cells #[.int .i64 q.i, .int .i64 q.s, .int .i64 q.m, .int .i64 q.p, .int .i64 q.c] 45)).drew := ⟨_, rfl⟩
        have hb4 : Below V3.heap.size V3 V4 := by rw [hV4]; exact ((Below.refl _ _).alloc (Nat.le_refl _) _).drew
        have HQ3 : Hid (Box V4 V3.heap.size [.int .i64 q.i, .int .i64 q.s, .int .i64 q.m, .int .i64 q.p, .int .i64 q.c]) := by rw [hV4]; exact hide ((Box.new V3 [.int .i64 q.i, .int .i64 q.s, .int .i64 q.m, .int .i64 q.p, .int .i64 q.c] 45).below ((Below.refl _ _).drew))
        replace HP3 := hide (HP3.out.below hb4)
        replace HB2 := hide (HB2.out.below hb4)
        replace kb := kb.trans (hb4.mono kb.size)
        replace rb := cell_beh rb hb4 (Nat.le_refl _)
        replace rc := cell_beh rc hb4 (Nat.le_refl _)
        replace rk := cell_beh rk hb4 (Nat.le_refl _)
        have HV4 := hide hV4.symm
        have sz4 := HQ3.out.lt
        have i2 := HP3.out.cell 2 _ rfl
        have i3 := HP3.out.cell 3 _ rfl
        have o2 := HQ3.out.cell 2 _ rfl
        have o3 := HQ3.out.cell 3 _ rfl
        obtain ⟨u0, u1⟩ := tdiv_in r3 4 (by omega) xc0 xc1
        have hwr := wrap_i64_in (r3.tdiv 4) u0 u1
        obtain ⟨t0, t1⟩ := pk_in r3 4 (by omega)
        obtain ⟨t2, t3⟩ := pk_in (r3.tdiv 4) 4 (by omega)
        clear c1 y0 y1 y2 y3 y4 HPJ hb4 hV4
        go_wp2_with (rw [HV4.out])
        clear HV4
        apply wp_same0
        · go_region_held3 (fun w' => w'.cell? ⟨W0.heap.size, 2, none⟩ = some (.int .i64 p.m) ∧ w'.cell? ⟨W0.heap.size, 3, none⟩ = some (.int .i64 p.p) ∧ w'.cell? ⟨V3.heap.size, 2, none⟩ = some (.int .i64 q.m) ∧ w'.cell? ⟨V3.heap.size, 3, none⟩ = some (.int .i64 q.p) ∧ w'.cell? ⟨w.heap.size + 1, 3, none⟩ = some (.int .i64 r3)) (go_keep) (first | (go_at_call 25; refine (picked_any _ 4 _ (by omega) (by omega) (by omega) (by omega)).mono ?_; rintro e w' ⟨rfl, rfl⟩))
          all_goals exact ⟨rfl, rfl, rfl⟩
        · obtain ⟨V5, hV5⟩ : ∃ V5, V5 = (V4.alloc (.cells #[.int .i64 q.m, .int .i64 p.m, .int .i64 3, .int .i64 p.p, .int .i64 q.p, .int .i64 (pk r3 4), .int .i64 (pk (r3.tdiv 4) 4), .string ⟨#[104, 101, 108, 108, 111]⟩] 32)).drew := ⟨_, rfl⟩
          have hb5 : Below V4.heap.size V4 V5 := by rw [hV5]; exact ((Below.refl _ _).alloc (Nat.le_refl _) _).drew
          have HF5 : Hid (Box V5 V4.heap.size [.int .i64 q.m, .int .i64 p.m, .int .i64 3, .int .i64 p.p, .int .i64 q.p, .int .i64 (pk r3 4), .int .i64 (pk (r3.tdiv 4) 4), .string ⟨#[104, 101, 108, 108, 111]⟩]) := by rw [hV5]; exact hide ((Box.new V4 [.int .i64 q.m, .int .i64 p.m, .int .i64 3, .int .i64 p.p, .int .i64 q.p, .int .i64 (pk r3 4), .int .i64 (pk (r3.tdiv 4) 4), .string ⟨#[104, 101, 108, 108, 111]⟩] 32).below ((Below.refl _ _).drew))
          replace HP3 := hide (HP3.out.below hb5)
          replace HQ3 := hide (HQ3.out.below hb5)
          replace HB2 := hide (HB2.out.below hb5)
          replace kb := kb.trans (hb5.mono kb.size)
          replace rb := cell_beh rb hb5 (Nat.le_refl _)
          replace rc := cell_beh rc hb5 (Nat.le_refl _)
          replace rk := cell_beh rk hb5 (Nat.le_refl _)
          have HV5 := hide hV5.symm
          have sz5 := HF5.out.lt
          obtain ⟨m0, m1⟩ := pk_in r0 10 (by omega)
          have HT9 := hide (fun W => picked_any r0 10 W xk0 xk1 (by omega) (by omega))
          generalize pk r0 10 = m at *
          clear i2 i3 o2 o3 hb5 hV5
          obtain ⟨⟨pa0, pa1⟩, ⟨pb0, pb1⟩, ⟨pc0, pc1⟩, ⟨pd0, pd1⟩, -⟩ := HP.out p HMK.out
          obtain ⟨-, -, ⟨qc0, qc1⟩, ⟨qd0, qd1⟩, -⟩ := HP.out q HMJ.out
          by_cases hm : m = 0
          · subst hm
            go_wp2_with (first | rw [HV5.out] | (go_at_call 25; refine (unhide HT9 _).mono ?_; rintro e w' ⟨rfl, hw9⟩; rw [hw9]; clear hw9))
            clear HV5 HT9
            refine wp_region_held_drew (S := (fun w' => w'.cell? ⟨W0.heap.size, 0, none⟩ = some (.int .i64 (p.i)) ∧ w'.cell? ⟨W0.heap.size, 2, none⟩ = some (.int .i64 (p.m)) ∧ w'.cell? ⟨W0.heap.size, 3, none⟩ = some (.int .i64 (p.p)) ∧ w'.cell? ⟨V3.heap.size, 3, none⟩ = some (.int .i64 (q.p)))) (by kernel_rfl) ⟨HP3.out.cell 0 _ rfl, HP3.out.cell 2 _ rfl, HP3.out.cell 3 _ rfl, HQ3.out.cell 3 _ rfl⟩ (fun hHeld => ?_)
            refine wpAnyH_take (i := 0) (oi := ⟨some 55, _, _, _, _, _⟩) (v := ?v1) rfl (by kernel_rfl) (by kernel_rfl) (by kernel_rfl) (fun _ _ _ h => h) (Or.inl ⟨by rfl, ?h1⟩) (by assumption) ?r1
            case h1 => (intro w hSw; (try dsimp only at hSw); go_simp <;> with_reducible rfl)
            (try simp only [Act.put, List.setIfInBounds_toArray, List.set_cons_zero, List.set_cons_succ])
            refine wpAnyH_take (i := 1) (oi := ⟨some 56, _, _, _, _, _⟩) (v := ?v2) rfl (by kernel_rfl) (by kernel_rfl) (by kernel_rfl) (fun _ _ _ h => h) (Or.inl ⟨by rfl, ?h2⟩) (by assumption) ?r2
            case h2 => (intro w hSw; (try dsimp only at hSw); go_simp <;> with_reducible rfl)
            (try simp only [Act.put, List.setIfInBounds_toArray, List.set_cons_zero, List.set_cons_succ])
            refine wpAnyH_take (i := 2) (oi := ⟨some 57, _, _, _, _, _⟩) (v := ?v3) rfl (by kernel_rfl) (by kernel_rfl) (by kernel_rfl) (fun _ _ _ h => h) (Or.inl ⟨by rfl, ?h3⟩) (by assumption) ?r3
            case h3 => (intro w hSw; (try dsimp only at hSw); go_simp <;> with_reducible rfl)
            (try simp only [Act.put, List.setIfInBounds_toArray, List.set_cons_zero, List.set_cons_succ])
            refine wpAnyH_take (i := 3) (oi := ⟨some 58, _, _, _, _, _⟩) (v := ?v4) rfl (by kernel_rfl) (by kernel_rfl) (by kernel_rfl) (fun _ _ _ h => h) (Or.inl ⟨by rfl, ?h4⟩) (by assumption) ?r4
            case h4 => (intro w hSw; (try dsimp only at hSw); go_simp <;> with_reducible rfl)
            (try simp only [Act.put, List.setIfInBounds_toArray, List.set_cons_zero, List.set_cons_succ])
            refine wpAnyH_take (i := 4) (oi := ⟨some 59, _, _, _, _, _⟩) (v := ?v5) rfl (by kernel_rfl) (by kernel_rfl) (by kernel_rfl) (fun _ _ _ h => h) (Or.inl ⟨by rfl, ?h5⟩) (by assumption) ?r5
            case h5 => (intro w hSw; (try dsimp only at hSw); go_simp <;> with_reducible rfl)
            (try simp only [Act.put, List.setIfInBounds_toArray, List.set_cons_zero, List.set_cons_succ])
            refine wpAnyH_take (i := 5) (oi := ⟨some 60, _, _, _, _, _⟩) (v := ?v6) rfl (by kernel_rfl) (by kernel_rfl) (by kernel_rfl) (fun _ _ _ h => h) (Or.inl ⟨by rfl, ?h6⟩) (by assumption) ?r6
            case h6 => (intro w hSw; (try dsimp only at hSw); go_simp <;> with_reducible rfl)
            (try simp only [Act.put, List.setIfInBounds_toArray, List.set_cons_zero, List.set_cons_succ])
            refine wpAnyH_take (i := 6) (oi := ⟨some 61, _, _, _, _, _⟩) (v := ?v7) rfl (by kernel_rfl) (by kernel_rfl) (by kernel_rfl) (fun _ _ _ h => h) (Or.inl ⟨by rfl, ?h7⟩) (by assumption) ?r7
            case h7 => (intro w hSw; (try dsimp only at hSw); go_simp <;> with_reducible rfl)
            (try simp only [Act.put, List.setIfInBounds_toArray, List.set_cons_zero, List.set_cons_succ])
            refine wpAnyH_take (i := 7) (oi := ⟨some 62, _, _, _, _, _⟩) (v := ?v8) rfl (by kernel_rfl) (by kernel_rfl) (by kernel_rfl) (fun _ _ _ h => h) (Or.inl ⟨by rfl, ?h8⟩) (by assumption) ?r8
            case h8 => (intro w hSw; (try dsimp only at hSw); go_simp <;> with_reducible rfl)
            (try simp only [Act.put, List.setIfInBounds_toArray, List.set_cons_zero, List.set_cons_succ])
            refine wpAnyH_take (i := 8) (oi := ⟨some 63, _, _, _, _, _⟩) (v := ?v9) rfl (by kernel_rfl) (by kernel_rfl) (by kernel_rfl) (fun _ _ _ h => h) (Or.inl ⟨by rfl, ?h9⟩) (by assumption) ?r9
            case h9 => (intro w hSw; (try dsimp only at hSw); go_simp <;> with_reducible rfl)
            (try simp only [Act.put, List.setIfInBounds_toArray, List.set_cons_zero, List.set_cons_succ])
            refine wpAnyH_take (i := 9) (oi := ⟨some 4, _, _, _, _, _⟩) (v := ?v10) rfl (by kernel_rfl) (by kernel_rfl) (by kernel_rfl) (fun _ _ _ h => h) (Or.inl ⟨by rfl, ?h10⟩) (by assumption) ?r10
            case h10 => (intro w hSw; (try dsimp only at hSw); go_simp <;> with_reducible rfl)
            (try simp only [Act.put, List.setIfInBounds_toArray, List.set_cons_zero, List.set_cons_succ])
            have hbDV6 : Below V5.heap.size V5 V5.drew := (Below.refl _ _).drew
            replace HP3 := hide (HP3.out.below hbDV6)
            replace HQ3 := hide (HQ3.out.below hbDV6)
            replace HB2 := hide (HB2.out.below hbDV6)
            replace kb := kb.trans (hbDV6.mono kb.size)
            clear hbDV6
            generalize V5.drew = V6 at *
            refine wpAnyH_ready (rs := [10]) (by kernel_rfl) (by simp) ?_
            refine AllReadyH.cons (o := ⟨none, _, _, _, _, _⟩) rfl (fun Kk hKk => ?_) AllReadyH.nil
            refine wp_store_mid 32 (.tmp 5) (.tmp 63) rfl (w.heap.size + 1 + 1) 0 _ rfl rfl (HB2.out.fit 8 rfl) sizeFrK (ones rfl) ?_
            refine hKk.out _ _ ⟨(HP3.out.set_far (by omega) _ _).cell 0 _ rfl, (HP3.out.set_far (by omega) _ _).cell 2 _ rfl, (HP3.out.set_far (by omega) _ _).cell 3 _ rfl, (HQ3.out.set_far (by omega) _ _).cell 3 _ rfl⟩ (fun hHeld => ?_)
            clear hKk Kk
            refine wpAnyH_done (by kernel_rfl) ?_ _
            clear hHeld
            go_wp2_with fail
            refine bodyPost_ret (v := .tuple #[.int .i64 p.i, .agg #[.int .i64 (65535), .int .i64 (p.m), .int .i64 (1), .int .i64 (p.p), .int .i64 (q.p), .int .i64 (0), .int .i64 (0), .string ⟨#[]⟩]]) ?_ rfl ⟨p.i, 65535, p.m, 1, p.p, q.p, 0, 0, ⟨#[]⟩, rfl, ⟨fr_ok (by omega) (by omega) (by omega) (by omega) (by omega) (by omega) (by omega) (by decide) (by first | exact .inl rfl | exact .inr ⟨rfl, rfl, rfl⟩), .inr ⟨p, HMK.out, rfl⟩⟩, setCells_below _ (by omega) _ _ kb⟩
            exact results_tc (cs := [.int .i64 (65535), .int .i64 (p.m), .int .i64 (1), .int .i64 (p.p), .int .i64 (q.p), .int .i64 (0), .int .i64 (0), .string ⟨#[]⟩]) Tryz.results9 rfl (HB2.out.set ([.int .i64 (65535), .int .i64 (p.m), .int .i64 (1), .int .i64 (p.p), .int .i64 (q.p), .int .i64 (0), .int .i64 (0), .string ⟨#[]⟩] : List Value) rfl).range Tryz.underlying32 rfl sizeFrK
          by_cases hm : m = 1
          · subst hm
            obtain ⟨v0, v1⟩ := pk_in r2 2 (by omega)
            have HTB := hide (fun W => picked_any r2 2 W xb0 xb1 (by omega) (by omega))
            generalize pk r2 2 = tb at *
            have hwb := wrap_i64_in (200 + tb) (by omega) (by omega)
            go_wp2_with (first | rw [HV5.out] | (go_at_call 25; refine (unhide HT9 _).mono ?_; rintro e w' ⟨rfl, hw9⟩; rw [hw9]; clear hw9))
            clear HV5 HT9
            refine wp_region_held_drew (S := (fun w' => w'.cell? ⟨W0.heap.size, 0, none⟩ = some (.int .i64 (p.i)) ∧ w'.cell? ⟨W0.heap.size, 2, none⟩ = some (.int .i64 (p.m)) ∧ w'.cell? ⟨W0.heap.size, 3, none⟩ = some (.int .i64 (p.p)) ∧ w'.cell? ⟨w.heap.size + 1, 2, none⟩ = some (.int .i64 (r2)))) (by kernel_rfl) ⟨HP3.out.cell 0 _ rfl, HP3.out.cell 2 _ rfl, HP3.out.cell 3 _ rfl, rb⟩ (fun hHeld => ?_)
            refine wpAnyH_take (i := 0) (oi := ⟨some 66, _, _, _, _, _⟩) (v := ?v11) rfl (by kernel_rfl) (by kernel_rfl) (by kernel_rfl) (fun _ _ _ h => h) (Or.inl ⟨by rfl, ?h11⟩) (by assumption) ?r11
            case h11 => (intro w hSw; (try dsimp only at hSw); go_simp <;> with_reducible rfl)
            (try simp only [Act.put, List.setIfInBounds_toArray, List.set_cons_zero, List.set_cons_succ])
            refine wpAnyH_take (i := 1) (oi := ⟨some 67, _, _, _, _, _⟩) (v := ?v12) rfl (by kernel_rfl) (by kernel_rfl) (by kernel_rfl) (fun _ _ _ h => h) (Or.inl ⟨by rfl, ?h12⟩) (by assumption) ?r12
            case h12 => (intro w hSw; (try dsimp only at hSw); go_simp <;> with_reducible rfl)
            (try simp only [Act.put, List.setIfInBounds_toArray, List.set_cons_zero, List.set_cons_succ])
            refine wpAnyH_take (i := 2) (oi := ⟨some 68, _, _, _, _, _⟩) (v := ?v13) rfl (by kernel_rfl) (by kernel_rfl) (by kernel_rfl) (fun _ _ _ h => h) (Or.inl ⟨by rfl, ?h13⟩) (by assumption) ?r13
            case h13 => (intro w hSw; (try dsimp only at hSw); go_simp <;> with_reducible rfl)
            (try simp only [Act.put, List.setIfInBounds_toArray, List.set_cons_zero, List.set_cons_succ])
            refine wpAnyH_take (i := 3) (oi := ⟨some 69, _, _, _, _, _⟩) (v := ?v14) rfl (by kernel_rfl) (by kernel_rfl) (by kernel_rfl) (fun _ _ _ h => h) (Or.inl ⟨by rfl, ?h14⟩) (by assumption) ?r14
            case h14 => (intro w hSw; (try dsimp only at hSw); go_simp <;> with_reducible rfl)
            (try simp only [Act.put, List.setIfInBounds_toArray, List.set_cons_zero, List.set_cons_succ])
            refine wpAnyH_take (i := 4) (oi := ⟨some 70, _, _, _, _, _⟩) (v := ?v15) rfl (by kernel_rfl) (by kernel_rfl) (by kernel_rfl) (fun _ _ _ h => h) (Or.inl ⟨by rfl, ?h15⟩) (by assumption) ?r15
            case h15 => (intro w hSw; (try dsimp only at hSw); go_simp <;> with_reducible rfl)
            (try simp only [Act.put, List.setIfInBounds_toArray, List.set_cons_zero, List.set_cons_succ])
            refine wpAnyH_take (i := 5) (oi := ⟨some 71, _, _, _, _, _⟩) (v := ?v16) rfl (by kernel_rfl) (by kernel_rfl) (by kernel_rfl) (fun _ _ _ h => h) (Or.inl ⟨by rfl, ?h16⟩) (by assumption) ?r16
            case h16 => (intro w hSw; (try dsimp only at hSw); go_simp <;> with_reducible rfl)
            (try simp only [Act.put, List.setIfInBounds_toArray, List.set_cons_zero, List.set_cons_succ])
            refine wpAnyH_take (i := 6) (oi := ⟨some 72, _, _, _, _, _⟩) (v := ?v17) rfl (by kernel_rfl) (by kernel_rfl) (by kernel_rfl) (fun _ _ _ h => h) (Or.inl ⟨by rfl, ?h17⟩) (by assumption) ?r17
            case h17 => (intro w hSw; (try dsimp only at hSw); go_simp <;> with_reducible rfl)
            (try simp only [Act.put, List.setIfInBounds_toArray, List.set_cons_zero, List.set_cons_succ])
            refine wpAnyH_take (i := 7) (oi := ⟨some 73, _, _, _, _, _⟩) (v := ?v18) rfl (by kernel_rfl) (by kernel_rfl) (by kernel_rfl) (fun _ _ _ h => h) (Or.inl ⟨by rfl, ?h18⟩) (by assumption) ?r18
            case h18 => (intro w hSw; (try dsimp only at hSw); go_simp <;> with_reducible rfl)
            (try simp only [Act.put, List.setIfInBounds_toArray, List.set_cons_zero, List.set_cons_succ])
            have hbDV6 : Below V5.heap.size V5 V5.drew := (Below.refl _ _).drew
            replace HP3 := hide (HP3.out.below hbDV6)
            replace HQ3 := hide (HQ3.out.below hbDV6)
            replace HB2 := hide (HB2.out.below hbDV6)
            replace rb := cell_beh rb hbDV6 (Nat.le_refl _)
            replace kb := kb.trans (hbDV6.mono kb.size)
            clear hbDV6
            generalize V5.drew = V6 at *
            refine wpAnyH_ready (rs := [8]) (by kernel_rfl) (by simp) ?_
            refine AllReadyH.cons (o := ⟨some 74, _, _, _, _, _⟩) rfl (fun Kk hKk => ?_) AllReadyH.nil
            go_simp
            refine (unhide HTB _).mono ?_
            rintro e w' ⟨rfl, hw9⟩
            rw [hw9]
            clear hw9 w'
            refine hKk.out _ _ ⟨HP3.out.cell 0 _ rfl, HP3.out.cell 2 _ rfl, HP3.out.cell 3 _ rfl, rb⟩ (fun hHeld => ?_)
            clear hKk Kk
            (try simp only [Act.put, List.setIfInBounds_toArray, List.set_cons_zero, List.set_cons_succ])
            refine wpAnyH_take (i := 9) (oi := ⟨some 75, _, _, _, _, _⟩) (v := ?v19) rfl (by kernel_rfl) (by kernel_rfl) (by kernel_rfl) (fun _ _ _ h => h) (Or.inl ⟨by rfl, ?h19⟩) (by assumption) ?r19
            case h19 => (intro w hSw; (try dsimp only at hSw); go_simp <;> with_reducible rfl)
            (try simp only [Act.put, List.setIfInBounds_toArray, List.set_cons_zero, List.set_cons_succ])
            refine wpAnyH_take (i := 10) (oi := ⟨some 76, _, _, _, _, _⟩) (v := ?v20) rfl (by kernel_rfl) (by kernel_rfl) (by kernel_rfl) (fun _ _ _ h => h) (Or.inl ⟨by rfl, ?h20⟩) (by assumption) ?r20
            case h20 => (intro w hSw; (try dsimp only at hSw); go_simp <;> with_reducible rfl)
            (try simp only [Act.put, List.setIfInBounds_toArray, List.set_cons_zero, List.set_cons_succ])
            refine wpAnyH_take (i := 11) (oi := ⟨some 4, _, _, _, _, _⟩) (v := ?v21) rfl (by kernel_rfl) (by kernel_rfl) (by kernel_rfl) (fun _ _ _ h => h) (Or.inl ⟨by rfl, ?h21⟩) (by assumption) ?r21
            case h21 => (intro w hSw; (try dsimp only at hSw); go_simp <;> with_reducible rfl)
            (try simp only [Act.put, List.setIfInBounds_toArray, List.set_cons_zero, List.set_cons_succ])
            refine wpAnyH_ready (rs := [12]) (by kernel_rfl) (by simp) ?_
            refine AllReadyH.cons (o := ⟨none, _, _, _, _, _⟩) rfl (fun Kk hKk => ?_) AllReadyH.nil
            refine wp_store_mid 32 (.tmp 5) (.tmp 76) rfl (w.heap.size + 1 + 1) 0 _ rfl rfl (HB2.out.fit 8 rfl) sizeFrK (ones rfl) ?_
            refine hKk.out _ _ ⟨(HP3.out.set_far (by omega) _ _).cell 0 _ rfl, (HP3.out.set_far (by omega) _ _).cell 2 _ rfl, (HP3.out.set_far (by omega) _ _).cell 3 _ rfl, (World.cell?_setCells_out _ _ _ _ _ (fun e => absurd e (by simp))).trans rb⟩ (fun hHeld => ?_)
            clear hKk Kk
            refine wpAnyH_done (by kernel_rfl) ?_ _
            clear hHeld
            go_wp2_with fail
            refine bodyPost_ret (v := .tuple #[.int .i64 p.i, .agg #[.int .i64 (65535), .int .i64 (p.m), .int .i64 (1), .int .i64 (p.p), .int .i64 (200 + tb), .int .i64 (0), .int .i64 (0), .string ⟨#[]⟩]]) ?_ rfl ⟨p.i, 65535, p.m, 1, p.p, 200 + tb, 0, 0, ⟨#[]⟩, rfl, ⟨fr_ok (by omega) (by omega) (by omega) (by omega) (by omega) (by omega) (by omega) (by decide) (by first | exact .inl rfl | exact .inr ⟨rfl, rfl, rfl⟩), .inr ⟨p, HMK.out, rfl⟩⟩, setCells_below _ (by omega) _ _ kb⟩
            exact results_tc (cs := [.int .i64 (65535), .int .i64 (p.m), .int .i64 (1), .int .i64 (p.p), .int .i64 (200 + tb), .int .i64 (0), .int .i64 (0), .string ⟨#[]⟩]) Tryz.results9 rfl (HB2.out.set ([.int .i64 (65535), .int .i64 (p.m), .int .i64 (1), .int .i64 (p.p), .int .i64 (200 + tb), .int .i64 (0), .int .i64 (0), .string ⟨#[]⟩] : List Value) rfl).range Tryz.underlying32 rfl sizeFrK
          by_cases hm : m = 2
          · subst hm
            have z0 := HF5.out.cell 0 _ rfl
            have y0 := HF5.out.2 0 (by simp)
            obtain ⟨V7, hV7⟩ : ∃ V7, V7 = V5.setCell ⟨V4.heap.size, 0, none⟩ (.int .i64 65535) := ⟨_, rfl⟩
            replace HF5 : Hid (Box V7 V4.heap.size [.int .i64 65535, .int .i64 p.m, .int .i64 3, .int .i64 p.p, .int .i64 q.p, .int .i64 (pk r3 4), .int .i64 (pk (r3.tdiv 4) 4), .string ⟨#[104, 101, 108, 108, 111]⟩]) := by rw [hV7]; exact hide (HF5.out.set1 0 _ (by simp))
            replace HP3 : Hid (Box V7 W0.heap.size [.int .i64 p.i, .int .i64 p.s, .int .i64 p.m, .int .i64 p.p, .int .i64 p.c]) := by rw [hV7]; exact hide (HP3.out.set1_far (by omega) _ _)
            replace HB2 : Hid (Box V7 (w.heap.size + 1 + 1) [.int .i64 0, .int .i64 0, .int .i64 0, .int .i64 0, .int .i64 0, .int .i64 0, .int .i64 0, .string ⟨#[]⟩]) := by rw [hV7]; exact hide (HB2.out.set1_far (by omega) _ _)
            replace kb : Below w.heap.size w V7 := by rw [hV7]; exact kb.setCell (p := ⟨V4.heap.size, 0, none⟩) (by simp only; omega) _
            have HV7 := hide hV7.symm
            clear hV7
            go_wp2_with (first | rw [HV5.out] | rw [HV7.out] | (go_at_call 25; refine (unhide HT9 _).mono ?_; rintro e w' ⟨rfl, hw9⟩; rw [hw9]; clear hw9))
            clear HV5 HT9
            refine wp_region_held_drew (S := (fun w' => w'.cell? ⟨W0.heap.size, 0, none⟩ = some (.int .i64 (p.i)) ∧ w'.rangeAt V4.heap.size 0 [.int .i64 (65535), .int .i64 (p.m), .int .i64 (3), .int .i64 (p.p), .int .i64 (q.p), .int .i64 (pk r3 4), .int .i64 (pk (r3.tdiv 4) 4), .string ⟨#[104, 101, 108, 108, 111]⟩])) (by kernel_rfl) ⟨HP3.out.cell 0 _ rfl, HF5.out.range⟩ (fun hHeld => ?_)
            refine wpAnyH_take (i := 0) (oi := ⟨some 101, _, _, _, _, _⟩) (v := ?v25) rfl (by kernel_rfl) (by kernel_rfl) (by kernel_rfl) (fun _ _ _ h => h) (Or.inl ⟨by rfl, ?h25⟩) (by assumption) ?r25
            case h25 => (intro w hSw; (try dsimp only at hSw); go_simp <;> with_reducible rfl)
            (try simp only [Act.put, List.setIfInBounds_toArray, List.set_cons_zero, List.set_cons_succ])
            refine wpAnyH_take (i := 1) (oi := ⟨some 102, _, _, _, _, _⟩) (v := ?v26) rfl (by kernel_rfl) (by kernel_rfl) (by kernel_rfl) (fun _ _ _ h => h) (Or.inl ⟨by rfl, ?h26⟩) (by assumption) ?r26
            case h26 => (intro w hSw; (try dsimp only at hSw); go_simp <;> with_reducible rfl)
            (try simp only [Act.put, List.setIfInBounds_toArray, List.set_cons_zero, List.set_cons_succ])
            refine wpAnyH_take (i := 2) (oi := ⟨some 103, _, _, _, _, _⟩) (v := .agg #[.int .i64 (65535), .int .i64 (p.m), .int .i64 (3), .int .i64 (p.p), .int .i64 (q.p), .int .i64 (pk r3 4), .int .i64 (pk (r3.tdiv 4) 4), .string ⟨#[104, 101, 108, 108, 111]⟩]) rfl (by kernel_rfl) (by kernel_rfl) (by kernel_rfl) (fun _ _ _ h => h) (yieldsIf_load_mid (by rfl) 32 (.tmp 8) rfl V4.heap.size 0 rfl [.int .i64 (65535), .int .i64 (p.m), .int .i64 (3), .int .i64 (p.p), .int .i64 (q.p), .int .i64 (pk r3 4), .int .i64 (pk (r3.tdiv 4) 4), .string ⟨#[104, 101, 108, 108, 111]⟩] _ (fun w h => h.2) Tryz.underlying32 rfl sizeFrK) (by assumption) ?_
            (try simp only [Act.put, List.setIfInBounds_toArray, List.set_cons_zero, List.set_cons_succ])
            refine wpAnyH_take (i := 3) (oi := ⟨some 4, _, _, _, _, _⟩) (v := ?v27) rfl (by kernel_rfl) (by kernel_rfl) (by kernel_rfl) (fun _ _ _ h => h) (Or.inl ⟨by rfl, ?h27⟩) (by assumption) ?r27
            case h27 => (intro w hSw; (try dsimp only at hSw); go_simp <;> with_reducible rfl)
            (try simp only [Act.put, List.setIfInBounds_toArray, List.set_cons_zero, List.set_cons_succ])
            have hbDV8 : Below V7.heap.size V7 V7.drew := (Below.refl _ _).drew
            replace HP3 := hide (HP3.out.below hbDV8)
            replace HB2 := hide (HB2.out.below hbDV8)
            replace HF5 := hide (HF5.out.below hbDV8)
            replace kb := kb.trans (hbDV8.mono kb.size)
            clear hbDV8
            generalize V7.drew = V8 at *
            refine wpAnyH_ready (rs := [4]) (by kernel_rfl) (by simp) ?_
            refine AllReadyH.cons (o := ⟨none, _, _, _, _, _⟩) rfl (fun Kk hKk => ?_) AllReadyH.nil
            refine wp_store_mid 32 (.tmp 5) (.tmp 103) rfl (w.heap.size + 1 + 1) 0 _ rfl rfl (HB2.out.fit 8 rfl) sizeFrK (ones rfl) ?_
            refine hKk.out _ _ ⟨(HP3.out.set_far (by omega) _ _).cell 0 _ rfl, (HF5.out.set_far (by omega) _ _).range⟩ (fun hHeld => ?_)
            clear hKk Kk
            refine wpAnyH_done (by kernel_rfl) ?_ _
            clear hHeld
            go_wp2_with fail
            refine bodyPost_ret (v := .tuple #[.int .i64 p.i, .agg #[.int .i64 (65535), .int .i64 (p.m), .int .i64 (3), .int .i64 (p.p), .int .i64 (q.p), .int .i64 (pk r3 4), .int .i64 (pk (r3.tdiv 4) 4), .string ⟨#[104, 101, 108, 108, 111]⟩]]) ?_ rfl ⟨p.i, 65535, p.m, 3, p.p, q.p, pk r3 4, pk (r3.tdiv 4) 4, ⟨#[104, 101, 108, 108, 111]⟩, rfl, ⟨fr_ok (by omega) (by omega) (by omega) (by omega) (by omega) (by omega) (by omega) (by decide) (by first | exact .inl rfl | exact .inr ⟨rfl, rfl, rfl⟩), .inr ⟨p, HMK.out, rfl⟩⟩, setCells_below _ (by omega) _ _ kb⟩
            exact results_tc (cs := [.int .i64 (65535), .int .i64 (p.m), .int .i64 (3), .int .i64 (p.p), .int .i64 (q.p), .int .i64 (pk r3 4), .int .i64 (pk (r3.tdiv 4) 4), .string ⟨#[104, 101, 108, 108, 111]⟩]) Tryz.results9 rfl (HB2.out.set ([.int .i64 (65535), .int .i64 (p.m), .int .i64 (3), .int .i64 (p.p), .int .i64 (q.p), .int .i64 (pk r3 4), .int .i64 (pk (r3.tdiv 4) 4), .string ⟨#[104, 101, 108, 108, 111]⟩] : List Value) rfl).range Tryz.underlying32 rfl sizeFrK
          by_cases hm7 : m = 7
          · have hm := hm7
            subst hm
            have z0 := HF5.out.cell 1 _ rfl
            have y0 := HF5.out.2 1 (by simp)
            have q2 := HQ3.out.cell 2 _ rfl
            obtain ⟨V7, hV7⟩ : ∃ V7, V7 = V5.setCell ⟨V4.heap.size, 1, none⟩ (.int .i64 q.m) := ⟨_, rfl⟩
            replace HF5 : Hid (Box V7 V4.heap.size [.int .i64 q.m, .int .i64 q.m, .int .i64 3, .int .i64 p.p, .int .i64 q.p, .int .i64 (pk r3 4), .int .i64 (pk (r3.tdiv 4) 4), .string ⟨#[104, 101, 108, 108, 111]⟩]) := by rw [hV7]; exact hide (HF5.out.set1 1 _ (by simp))
            replace HP3 : Hid (Box V7 W0.heap.size [.int .i64 p.i, .int .i64 p.s, .int .i64 p.m, .int .i64 p.p, .int .i64 p.c]) := by rw [hV7]; exact hide (HP3.out.set1_far (by omega) _ _)
            replace HB2 : Hid (Box V7 (w.heap.size + 1 + 1) [.int .i64 0, .int .i64 0, .int .i64 0, .int .i64 0, .int .i64 0, .int .i64 0, .int .i64 0, .string ⟨#[]⟩]) := by rw [hV7]; exact hide (HB2.out.set1_far (by omega) _ _)
            replace kb : Below w.heap.size w V7 := by rw [hV7]; exact kb.setCell (p := ⟨V4.heap.size, 1, none⟩) (by simp only; omega) _
            have HV7 := hide hV7.symm
            clear hV7
            go_wp2_with (first | rw [HV5.out] | rw [HV7.out] | (go_at_call 25; refine (unhide HT9 _).mono ?_; rintro e w' ⟨rfl, hw9⟩; rw [hw9]; clear hw9))
            clear HV5 HT9
            refine wp_region_held_drew (S := (fun w' => w'.cell? ⟨W0.heap.size, 0, none⟩ = some (.int .i64 (p.i)) ∧ w'.rangeAt V4.heap.size 0 [.int .i64 (q.m), .int .i64 (q.m), .int .i64 (3), .int .i64 (p.p), .int .i64 (q.p), .int .i64 (pk r3 4), .int .i64 (pk (r3.tdiv 4) 4), .string ⟨#[104, 101, 108, 108, 111]⟩])) (by kernel_rfl) ⟨HP3.out.cell 0 _ rfl, HF5.out.range⟩ (fun hHeld => ?_)
            refine wpAnyH_take (i := 0) (oi := ⟨some 101, _, _, _, _, _⟩) (v := ?v28) rfl (by kernel_rfl) (by kernel_rfl) (by kernel_rfl) (fun _ _ _ h => h) (Or.inl ⟨by rfl, ?h28⟩) (by assumption) ?r28
            case h28 => (intro w hSw; (try dsimp only at hSw); go_simp <;> with_reducible rfl)
            (try simp only [Act.put, List.setIfInBounds_toArray, List.set_cons_zero, List.set_cons_succ])
            refine wpAnyH_take (i := 1) (oi := ⟨some 102, _, _, _, _, _⟩) (v := ?v29) rfl (by kernel_rfl) (by kernel_rfl) (by kernel_rfl) (fun _ _ _ h => h) (Or.inl ⟨by rfl, ?h29⟩) (by assumption) ?r29
            case h29 => (intro w hSw; (try dsimp only at hSw); go_simp <;> with_reducible rfl)
            (try simp only [Act.put, List.setIfInBounds_toArray, List.set_cons_zero, List.set_cons_succ])
            refine wpAnyH_take (i := 2) (oi := ⟨some 103, _, _, _, _, _⟩) (v := .agg #[.int .i64 (q.m), .int .i64 (q.m), .int .i64 (3), .int .i64 (p.p), .int .i64 (q.p), .int .i64 (pk r3 4), .int .i64 (pk (r3.tdiv 4) 4), .string ⟨#[104, 101, 108, 108, 111]⟩]) rfl (by kernel_rfl) (by kernel_rfl) (by kernel_rfl) (fun _ _ _ h => h) (yieldsIf_load_mid (by rfl) 32 (.tmp 8) rfl V4.heap.size 0 rfl [.int .i64 (q.m), .int .i64 (q.m), .int .i64 (3), .int .i64 (p.p), .int .i64 (q.p), .int .i64 (pk r3 4), .int .i64 (pk (r3.tdiv 4) 4), .string ⟨#[104, 101, 108, 108, 111]⟩] _ (fun w h => h.2) Tryz.underlying32 rfl sizeFrK) (by assumption) ?_
            (try simp only [Act.put, List.setIfInBounds_toArray, List.set_cons_zero, List.set_cons_succ])
            refine wpAnyH_take (i := 3) (oi := ⟨some 4, _, _, _, _, _⟩) (v := ?v30) rfl (by kernel_rfl) (by kernel_rfl) (by kernel_rfl) (fun _ _ _ h => h) (Or.inl ⟨by rfl, ?h30⟩) (by assumption) ?r30
            case h30 => (intro w hSw; (try dsimp only at hSw); go_simp <;> with_reducible rfl)
            (try simp only [Act.put, List.setIfInBounds_toArray, List.set_cons_zero, List.set_cons_succ])
            have hbDV8 : Below V7.heap.size V7 V7.drew := (Below.refl _ _).drew
            replace HP3 := hide (HP3.out.below hbDV8)
            replace HB2 := hide (HB2.out.below hbDV8)
            replace HF5 := hide (HF5.out.below hbDV8)
            replace kb := kb.trans (hbDV8.mono kb.size)
            clear hbDV8
            generalize V7.drew = V8 at *
            refine wpAnyH_ready (rs := [4]) (by kernel_rfl) (by simp) ?_
            refine AllReadyH.cons (o := ⟨none, _, _, _, _, _⟩) rfl (fun Kk hKk => ?_) AllReadyH.nil
            refine wp_store_mid 32 (.tmp 5) (.tmp 103) rfl (w.heap.size + 1 + 1) 0 _ rfl rfl (HB2.out.fit 8 rfl) sizeFrK (ones rfl) ?_
            refine hKk.out _ _ ⟨(HP3.out.set_far (by omega) _ _).cell 0 _ rfl, (HF5.out.set_far (by omega) _ _).range⟩ (fun hHeld => ?_)
            clear hKk Kk
            refine wpAnyH_done (by kernel_rfl) ?_ _
            clear hHeld
            go_wp2_with fail
            refine bodyPost_ret (v := .tuple #[.int .i64 p.i, .agg #[.int .i64 (q.m), .int .i64 (q.m), .int .i64 (3), .int .i64 (p.p), .int .i64 (q.p), .int .i64 (pk r3 4), .int .i64 (pk (r3.tdiv 4) 4), .string ⟨#[104, 101, 108, 108, 111]⟩]]) ?_ rfl ⟨p.i, q.m, q.m, 3, p.p, q.p, pk r3 4, pk (r3.tdiv 4) 4, ⟨#[104, 101, 108, 108, 111]⟩, rfl, ⟨fr_ok (by omega) (by omega) (by omega) (by omega) (by omega) (by omega) (by omega) (by decide) (by first | exact .inl rfl | exact .inr ⟨rfl, rfl, rfl⟩), .inr ⟨p, HMK.out, rfl⟩⟩, setCells_below _ (by omega) _ _ kb⟩
            exact results_tc (cs := [.int .i64 (q.m), .int .i64 (q.m), .int .i64 (3), .int .i64 (p.p), .int .i64 (q.p), .int .i64 (pk r3 4), .int .i64 (pk (r3.tdiv 4) 4), .string ⟨#[104, 101, 108, 108, 111]⟩]) Tryz.results9 rfl (HB2.out.set ([.int .i64 (q.m), .int .i64 (q.m), .int .i64 (3), .int .i64 (p.p), .int .i64 (q.p), .int .i64 (pk r3 4), .int .i64 (pk (r3.tdiv 4) 4), .string ⟨#[104, 101, 108, 108, 111]⟩] : List Value) rfl).range Tryz.underlying32 rfl sizeFrK
          by_cases hm3 : m ≤ 6
          · obtain ⟨v0, v1⟩ := pk_in r3 2 (by omega)
            have HTB := hide (fun W => picked_any r3 2 W xc0 xc1 (by omega) (by omega))
            generalize pk r3 2 = tb at *
            have hws := wrap_i64_in (60000 + p.s) (by omega) (by omega)
            have hwt := wrap_i64_in (pk r3 4 + tb) (by omega) (by omega)
            have h36 : m = 3 ∨ m = 4 ∨ m = 5 ∨ m = 6 := by omega
            rcases h36 with rfl | rfl | rfl | rfl
            · go_wp2_with (first | rw [HV5.out] | (go_at_call 25; refine (unhide HT9 _).mono ?_; rintro e w' ⟨rfl, hw9⟩; rw [hw9]; clear hw9))
              clear HV5 HT9
              refine wp_region_held_drew (S := (fun w' => w'.cell? ⟨W0.heap.size, 1, none⟩ = some (.int .i64 (p.s)) ∧ w'.cell? ⟨w.heap.size + 1, 3, none⟩ = some (.int .i64 (r3)))) (by kernel_rfl) ⟨HP3.out.cell 1 _ rfl, rc⟩ (fun hHeld => ?_)
              refine wpAnyH_take (i := 0) (oi := ⟨some 85, _, _, _, _, _⟩) (v := ?v31) rfl (by kernel_rfl) (by kernel_rfl) (by kernel_rfl) (fun _ _ _ h => h) (Or.inl ⟨by rfl, ?h31⟩) (by assumption) ?r31
              case h31 => (intro w hSw; (try dsimp only at hSw); go_simp <;> with_reducible rfl)
              (try simp only [Act.put, List.setIfInBounds_toArray, List.set_cons_zero, List.set_cons_succ])
              refine wpAnyH_take (i := 1) (oi := ⟨some 86, _, _, _, _, _⟩) (v := ?v32) rfl (by kernel_rfl) (by kernel_rfl) (by kernel_rfl) (fun _ _ _ h => h) (Or.inl ⟨by rfl, ?h32⟩) (by assumption) ?r32
              case h32 => (intro w hSw; (try dsimp only at hSw); go_simp <;> with_reducible rfl)
              (try simp only [Act.put, List.setIfInBounds_toArray, List.set_cons_zero, List.set_cons_succ])
              refine wpAnyH_take (i := 2) (oi := ⟨some 87, _, _, _, _, _⟩) (v := ?v33) rfl (by kernel_rfl) (by kernel_rfl) (by kernel_rfl) (fun _ _ _ h => h) (Or.inl ⟨by rfl, ?h33⟩) (by assumption) ?r33
              case h33 => (intro w hSw; (try dsimp only at hSw); go_simp <;> with_reducible rfl)
              (try simp only [Act.put, List.setIfInBounds_toArray, List.set_cons_zero, List.set_cons_succ])
              refine wpAnyH_take (i := 3) (oi := ⟨some 88, _, _, _, _, _⟩) (v := ?v34) rfl (by kernel_rfl) (by kernel_rfl) (by kernel_rfl) (fun _ _ _ h => h) (Or.inl ⟨by rfl, ?h34⟩) (by assumption) ?r34
              case h34 => (intro w hSw; (try dsimp only at hSw); go_simp <;> with_reducible rfl)
              (try simp only [Act.put, List.setIfInBounds_toArray, List.set_cons_zero, List.set_cons_succ])
              refine wpAnyH_take (i := 5) (oi := ⟨some 90, _, _, _, _, _⟩) (v := ?v35) rfl (by kernel_rfl) (by kernel_rfl) (by kernel_rfl) (fun _ _ _ h => h) (Or.inl ⟨by rfl, ?h35⟩) (by assumption) ?r35
              case h35 => (intro w hSw; (try dsimp only at hSw); go_simp <;> with_reducible rfl)
              (try simp only [Act.put, List.setIfInBounds_toArray, List.set_cons_zero, List.set_cons_succ])
              refine wpAnyH_take (i := 6) (oi := ⟨some 91, _, _, _, _, _⟩) (v := ?v36) rfl (by kernel_rfl) (by kernel_rfl) (by kernel_rfl) (fun _ _ _ h => h) (Or.inl ⟨by rfl, ?h36⟩) (by assumption) ?r36
              case h36 => (intro w hSw; (try dsimp only at hSw); go_simp <;> with_reducible rfl)
              (try simp only [Act.put, List.setIfInBounds_toArray, List.set_cons_zero, List.set_cons_succ])
              have hbDV6 : Below V5.heap.size V5 V5.drew := (Below.refl _ _).drew
              replace HP3 := hide (HP3.out.below hbDV6)
              replace HB2 := hide (HB2.out.below hbDV6)
              replace HF5 := hide (HF5.out.below hbDV6)
              replace rc := cell_beh rc hbDV6 (Nat.le_refl _)
              replace kb := kb.trans (hbDV6.mono kb.size)
              clear hbDV6
              generalize V5.drew = V6 at *
              have z0 := HF5.out.cell 0 _ rfl
              have y0 := HF5.out.2 0 (by simp)
              have z5 := HF5.out.cell 5 _ rfl
              have y5 := HF5.out.2 5 (by simp)
              refine wpAnyH_ready (rs := [4, 7]) (by kernel_rfl) (by simp) ?_
              refine (AllReadyH.cons (o := ⟨some 89, _, _, _, _, _⟩) rfl (fun Kk hKk => ?_) (AllReadyH.cons (o := ⟨some 92, _, _, _, _, _⟩) rfl (fun Kk hKk => ?_) AllReadyH.nil))
              · go_simp
                refine hKk.out _ _ ⟨HP3.out.cell 1 _ rfl, rc⟩ (fun hHeld => ?_)
                clear hKk Kk
                (try simp only [Act.put, List.setIfInBounds_toArray, List.set_cons_zero, List.set_cons_succ])
                refine wpAnyH_take (i := 9) (oi := ⟨some 94, _, _, _, _, _⟩) (v := ?v37) rfl (by kernel_rfl) (by kernel_rfl) (by kernel_rfl) (fun _ _ _ h => h) (Or.inl ⟨by rfl, ?h37⟩) (by assumption) ?r37
                case h37 => (intro w hSw; (try dsimp only at hSw); go_simp <;> with_reducible rfl)
                (try simp only [Act.put, List.setIfInBounds_toArray, List.set_cons_zero, List.set_cons_succ])
                refine wpAnyH_ready (rs := [7]) (by kernel_rfl) (by simp) ?_
                refine AllReadyH.cons (o := ⟨some 92, _, _, _, _, _⟩) rfl (fun Kk hKk => ?_) AllReadyH.nil
                go_simp
                refine (unhide HTB _).mono ?_
                rintro e w' ⟨rfl, hw9⟩
                rw [hw9]
                clear hw9 w'
                refine hKk.out _ _ ⟨HP3.out.cell 1 _ rfl, rc⟩ (fun hHeld => ?_)
                clear hKk Kk
                (try simp only [Act.put, List.setIfInBounds_toArray, List.set_cons_zero, List.set_cons_succ])
                refine wpAnyH_take (i := 8) (oi := ⟨some 93, _, _, _, _, _⟩) (v := ?v38) rfl (by kernel_rfl) (by kernel_rfl) (by kernel_rfl) (fun _ _ _ h => h) (Or.inl ⟨by rfl, ?h38⟩) (by assumption) ?r38
                case h38 => (intro w hSw; (try dsimp only at hSw); go_simp <;> with_reducible rfl)
                (try simp only [Act.put, List.setIfInBounds_toArray, List.set_cons_zero, List.set_cons_succ])
                refine wpAnyH_ready (rs := [10]) (by kernel_rfl) (by simp) ?_
                refine AllReadyH.cons (o := ⟨none, _, _, _, _, _⟩) rfl (fun Kk hKk => ?_) AllReadyH.nil
                go_simp
                refine hKk.out _ _ ⟨(HP3.out.set1_far (b' := V4.heap.size) (by omega) 0 (.int .i64 (60000 + p.s))).cell 1 _ rfl, (World.cell?_setCells_out V4.heap.size [.int .i64 (60000 + p.s)] 0 _ ⟨w.heap.size + 1, 3, none⟩ (fun e => absurd e (by simp only; omega))).trans rc⟩ (fun hHeld => ?_)
                clear hKk Kk
                obtain ⟨V7, hV7⟩ : ∃ V7, V7 = V6.setCell ⟨V4.heap.size, 0, none⟩ (.int .i64 (60000 + p.s)) := ⟨_, rfl⟩
                rw [← hV7] at hHeld ⊢
                replace rc : V7.cell? ⟨w.heap.size + 1, 3, none⟩ = some (.int .i64 r3) := by rw [hV7]; exact (World.cell?_setCells_out V4.heap.size [.int .i64 (60000 + p.s)] 0 _ ⟨w.heap.size + 1, 3, none⟩ (fun e => absurd e (by simp only; omega))).trans rc
                replace HF5 : Hid (Box V7 V4.heap.size [.int .i64 (60000 + p.s), .int .i64 p.m, .int .i64 3, .int .i64 p.p, .int .i64 q.p, .int .i64 (pk r3 4), .int .i64 (pk (r3.tdiv 4) 4), .string ⟨#[104, 101, 108, 108, 111]⟩]) := by rw [hV7]; exact hide (HF5.out.set1 0 _ (by simp))
                replace HP3 : Hid (Box V7 W0.heap.size [.int .i64 p.i, .int .i64 p.s, .int .i64 p.m, .int .i64 p.p, .int .i64 p.c]) := by rw [hV7]; exact hide (HP3.out.set1_far (by omega) _ _)
                replace HB2 : Hid (Box V7 (w.heap.size + 1 + 1) [.int .i64 0, .int .i64 0, .int .i64 0, .int .i64 0, .int .i64 0, .int .i64 0, .int .i64 0, .string ⟨#[]⟩]) := by rw [hV7]; exact hide (HB2.out.set1_far (by omega) _ _)
                replace kb : Below w.heap.size w V7 := by rw [hV7]; exact kb.setCell (p := ⟨V4.heap.size, 0, none⟩) (by simp only; omega) _
                clear hV7 z0 y0 z5 y5
                have z5 := HF5.out.cell 5 _ rfl
                have y5 := HF5.out.2 5 (by simp)
                refine wpAnyH_take (i := 11) (oi := ⟨some 95, _, _, _, _, _⟩) (v := ?v39) rfl (by kernel_rfl) (by kernel_rfl) (by kernel_rfl) (fun _ _ _ h => h) (Or.inl ⟨by rfl, ?h39⟩) (by assumption) ?r39
                case h39 => (intro w hSw; (try dsimp only at hSw); go_simp <;> with_reducible rfl)
                (try simp only [Act.put, List.setIfInBounds_toArray, List.set_cons_zero, List.set_cons_succ])
                refine wpAnyH_ready (rs := [12]) (by kernel_rfl) (by simp) ?_
                refine AllReadyH.cons (o := ⟨none, _, _, _, _, _⟩) rfl (fun Kk hKk => ?_) AllReadyH.nil
                go_simp
                refine hKk.out _ _ ⟨(HP3.out.set1_far (b' := V4.heap.size) (by omega) 5 (.int .i64 (pk r3 4 + tb))).cell 1 _ rfl, (World.cell?_setCells_out V4.heap.size [.int .i64 (pk r3 4 + tb)] 5 _ ⟨w.heap.size + 1, 3, none⟩ (fun e => absurd e (by simp only; omega))).trans rc⟩ (fun hHeld => ?_)
                clear hKk Kk
                refine wpAnyH_done (by kernel_rfl) ?_ _
                clear hHeld
                obtain ⟨V8, hV8⟩ : ∃ V8, V8 = V7.setCell ⟨V4.heap.size, 5, none⟩ (.int .i64 (pk r3 4 + tb)) := ⟨_, rfl⟩
                rw [← hV8]
                replace HF5 : Hid (Box V8 V4.heap.size [.int .i64 (60000 + p.s), .int .i64 p.m, .int .i64 3, .int .i64 p.p, .int .i64 q.p, .int .i64 (pk r3 4 + tb), .int .i64 (pk (r3.tdiv 4) 4), .string ⟨#[104, 101, 108, 108, 111]⟩]) := by rw [hV8]; exact hide (HF5.out.set1 5 _ (by simp))
                replace HP3 : Hid (Box V8 W0.heap.size [.int .i64 p.i, .int .i64 p.s, .int .i64 p.m, .int .i64 p.p, .int .i64 p.c]) := by rw [hV8]; exact hide (HP3.out.set1_far (by omega) _ _)
                replace HB2 : Hid (Box V8 (w.heap.size + 1 + 1) [.int .i64 0, .int .i64 0, .int .i64 0, .int .i64 0, .int .i64 0, .int .i64 0, .int .i64 0, .string ⟨#[]⟩]) := by rw [hV8]; exact hide (HB2.out.set1_far (by omega) _ _)
                replace kb : Below w.heap.size w V8 := by rw [hV8]; exact kb.setCell (p := ⟨V4.heap.size, 5, none⟩) (by simp only; omega) _
                clear hV8 z5 y5 rc
                go_wp2_with fail
                refine wp_region_held_drew (S := (fun w' => w'.cell? ⟨W0.heap.size, 0, none⟩ = some (.int .i64 (p.i)) ∧ w'.rangeAt V4.heap.size 0 [.int .i64 (60000 + p.s), .int .i64 (p.m), .int .i64 (3), .int .i64 (p.p), .int .i64 (q.p), .int .i64 (pk r3 4 + tb), .int .i64 (pk (r3.tdiv 4) 4), .string ⟨#[104, 101, 108, 108, 111]⟩])) (by kernel_rfl) ⟨HP3.out.cell 0 _ rfl, HF5.out.range⟩ (fun hHeld => ?_)
                refine wpAnyH_take (i := 0) (oi := ⟨some 101, _, _, _, _, _⟩) (v := ?v40) rfl (by kernel_rfl) (by kernel_rfl) (by kernel_rfl) (fun _ _ _ h => h) (Or.inl ⟨by rfl, ?h40⟩) (by assumption) ?r40
                case h40 => (intro w hSw; (try dsimp only at hSw); go_simp <;> with_reducible rfl)
                (try simp only [Act.put, List.setIfInBounds_toArray, List.set_cons_zero, List.set_cons_succ])
                refine wpAnyH_take (i := 1) (oi := ⟨some 102, _, _, _, _, _⟩) (v := ?v41) rfl (by kernel_rfl) (by kernel_rfl) (by kernel_rfl) (fun _ _ _ h => h) (Or.inl ⟨by rfl, ?h41⟩) (by assumption) ?r41
                case h41 => (intro w hSw; (try dsimp only at hSw); go_simp <;> with_reducible rfl)
                (try simp only [Act.put, List.setIfInBounds_toArray, List.set_cons_zero, List.set_cons_succ])
                refine wpAnyH_take (i := 2) (oi := ⟨some 103, _, _, _, _, _⟩) (v := .agg #[.int .i64 (60000 + p.s), .int .i64 (p.m), .int .i64 (3), .int .i64 (p.p), .int .i64 (q.p), .int .i64 (pk r3 4 + tb), .int .i64 (pk (r3.tdiv 4) 4), .string ⟨#[104, 101, 108, 108, 111]⟩]) rfl (by kernel_rfl) (by kernel_rfl) (by kernel_rfl) (fun _ _ _ h => h) (yieldsIf_load_mid (by rfl) 32 (.tmp 8) rfl V4.heap.size 0 rfl [.int .i64 (60000 + p.s), .int .i64 (p.m), .int .i64 (3), .int .i64 (p.p), .int .i64 (q.p), .int .i64 (pk r3 4 + tb), .int .i64 (pk (r3.tdiv 4) 4), .string ⟨#[104, 101, 108, 108, 111]⟩] _ (fun w h => h.2) Tryz.underlying32 rfl sizeFrK) (by assumption) ?_
                (try simp only [Act.put, List.setIfInBounds_toArray, List.set_cons_zero, List.set_cons_succ])
                refine wpAnyH_take (i := 3) (oi := ⟨some 4, _, _, _, _, _⟩) (v := ?v42) rfl (by kernel_rfl) (by kernel_rfl) (by kernel_rfl) (fun _ _ _ h => h) (Or.inl ⟨by rfl, ?h42⟩) (by assumption) ?r42
                case h42 => (intro w hSw; (try dsimp only at hSw); go_simp <;> with_reducible rfl)
                (try simp only [Act.put, List.setIfInBounds_toArray, List.set_cons_zero, List.set_cons_succ])
                have hbDV9 : Below V8.heap.size V8 V8.drew := (Below.refl _ _).drew
                replace HP3 := hide (HP3.out.below hbDV9)
                replace HB2 := hide (HB2.out.below hbDV9)
                replace HF5 := hide (HF5.out.below hbDV9)
                replace kb := kb.trans (hbDV9.mono kb.size)
                clear hbDV9
                generalize V8.drew = V9 at *
                refine wpAnyH_ready (rs := [4]) (by kernel_rfl) (by simp) ?_
                refine AllReadyH.cons (o := ⟨none, _, _, _, _, _⟩) rfl (fun Kk hKk => ?_) AllReadyH.nil
                refine wp_store_mid 32 (.tmp 5) (.tmp 103) rfl (w.heap.size + 1 + 1) 0 _ rfl rfl (HB2.out.fit 8 rfl) sizeFrK (ones rfl) ?_
                refine hKk.out _ _ ⟨(HP3.out.set_far (by omega) _ _).cell 0 _ rfl, (HF5.out.set_far (by omega) _ _).range⟩ (fun hHeld => ?_)
                clear hKk Kk
                refine wpAnyH_done (by kernel_rfl) ?_ _
                clear hHeld
                go_wp2_with fail
                refine bodyPost_ret (v := .tuple #[.int .i64 p.i, .agg #[.int .i64 (60000 + p.s), .int .i64 (p.m), .int .i64 (3), .int .i64 (p.p), .int .i64 (q.p), .int .i64 (pk r3 4 + tb), .int .i64 (pk (r3.tdiv 4) 4), .string ⟨#[104, 101, 108, 108, 111]⟩]]) ?_ rfl ⟨p.i, 60000 + p.s, p.m, 3, p.p, q.p, pk r3 4 + tb, pk (r3.tdiv 4) 4, ⟨#[104, 101, 108, 108, 111]⟩, rfl, ⟨fr_ok (by omega) (by omega) (by omega) (by omega) (by omega) (by omega) (by omega) (by decide) (by first | exact .inl rfl | exact .inr ⟨rfl, rfl, rfl⟩), .inr ⟨p, HMK.out, rfl⟩⟩, setCells_below _ (by omega) _ _ kb⟩
                exact results_tc (cs := [.int .i64 (60000 + p.s), .int .i64 (p.m), .int .i64 (3), .int .i64 (p.p), .int .i64 (q.p), .int .i64 (pk r3 4 + tb), .int .i64 (pk (r3.tdiv 4) 4), .string ⟨#[104, 101, 108, 108, 111]⟩]) Tryz.results9 rfl (HB2.out.set ([.int .i64 (60000 + p.s), .int .i64 (p.m), .int .i64 (3), .int .i64 (p.p), .int .i64 (q.p), .int .i64 (pk r3 4 + tb), .int .i64 (pk (r3.tdiv 4) 4), .string ⟨#[104, 101, 108, 108, 111]⟩] : List Value) rfl).range Tryz.underlying32 rfl sizeFrK
              · go_simp
                refine (unhide HTB _).mono ?_
                rintro e w' ⟨rfl, hw9⟩
                rw [hw9]
                clear hw9 w'
                refine hKk.out _ _ ⟨HP3.out.cell 1 _ rfl, rc⟩ (fun hHeld => ?_)
                clear hKk Kk
                (try simp only [Act.put, List.setIfInBounds_toArray, List.set_cons_zero, List.set_cons_succ])
                refine wpAnyH_ready (rs := [4]) (by kernel_rfl) (by simp) ?_
                refine AllReadyH.cons (o := ⟨some 89, _, _, _, _, _⟩) rfl (fun Kk hKk => ?_) AllReadyH.nil
                go_simp
                refine hKk.out _ _ ⟨HP3.out.cell 1 _ rfl, rc⟩ (fun hHeld => ?_)
                clear hKk Kk
                (try simp only [Act.put, List.setIfInBounds_toArray, List.set_cons_zero, List.set_cons_succ])
                refine wpAnyH_take (i := 8) (oi := ⟨some 93, _, _, _, _, _⟩) (v := ?v43) rfl (by kernel_rfl) (by kernel_rfl) (by kernel_rfl) (fun _ _ _ h => h) (Or.inl ⟨by rfl, ?h43⟩) (by assumption) ?r43
                case h43 => (intro w hSw; (try dsimp only at hSw); go_simp <;> with_reducible rfl)
                (try simp only [Act.put, List.setIfInBounds_toArray, List.set_cons_zero, List.set_cons_succ])
                refine wpAnyH_take (i := 9) (oi := ⟨some 94, _, _, _, _, _⟩) (v := ?v44) rfl (by kernel_rfl) (by kernel_rfl) (by kernel_rfl) (fun _ _ _ h => h) (Or.inl ⟨by rfl, ?h44⟩) (by assumption) ?r44
                case h44 => (intro w hSw; (try dsimp only at hSw); go_simp <;> with_reducible rfl)
                (try simp only [Act.put, List.setIfInBounds_toArray, List.set_cons_zero, List.set_cons_succ])
                refine wpAnyH_ready (rs := [10]) (by kernel_rfl) (by simp) ?_
                refine AllReadyH.cons (o := ⟨none, _, _, _, _, _⟩) rfl (fun Kk hKk => ?_) AllReadyH.nil
                go_simp
                refine hKk.out _ _ ⟨(HP3.out.set1_far (b' := V4.heap.size) (by omega) 0 (.int .i64 (60000 + p.s))).cell 1 _ rfl, (World.cell?_setCells_out V4.heap.size [.int .i64 (60000 + p.s)] 0 _ ⟨w.heap.size + 1, 3, none⟩ (fun e => absurd e (by simp only; omega))).trans rc⟩ (fun hHeld => ?_)
                clear hKk Kk
                obtain ⟨V7, hV7⟩ : ∃ V7, V7 = V6.setCell ⟨V4.heap.size, 0, none⟩ (.int .i64 (60000 + p.s)) := ⟨_, rfl⟩
                rw [← hV7] at hHeld ⊢
                replace rc : V7.cell? ⟨w.heap.size + 1, 3, none⟩ = some (.int .i64 r3) := by rw [hV7]; exact (World.cell?_setCells_out V4.heap.size [.int .i64 (60000 + p.s)] 0 _ ⟨w.heap.size + 1, 3, none⟩ (fun e => absurd e (by simp only; omega))).trans rc
                replace HF5 : Hid (Box V7 V4.heap.size [.int .i64 (60000 + p.s), .int .i64 p.m, .int .i64 3, .int .i64 p.p, .int .i64 q.p, .int .i64 (pk r3 4), .int .i64 (pk (r3.tdiv 4) 4), .string ⟨#[104, 101, 108, 108, 111]⟩]) := by rw [hV7]; exact hide (HF5.out.set1 0 _ (by simp))
                replace HP3 : Hid (Box V7 W0.heap.size [.int .i64 p.i, .int .i64 p.s, .int .i64 p.m, .int .i64 p.p, .int .i64 p.c]) := by rw [hV7]; exact hide (HP3.out.set1_far (by omega) _ _)
                replace HB2 : Hid (Box V7 (w.heap.size + 1 + 1) [.int .i64 0, .int .i64 0, .int .i64 0, .int .i64 0, .int .i64 0, .int .i64 0, .int .i64 0, .string ⟨#[]⟩]) := by rw [hV7]; exact hide (HB2.out.set1_far (by omega) _ _)
                replace kb : Below w.heap.size w V7 := by rw [hV7]; exact kb.setCell (p := ⟨V4.heap.size, 0, none⟩) (by simp only; omega) _
                clear hV7 z0 y0 z5 y5
                have z5 := HF5.out.cell 5 _ rfl
                have y5 := HF5.out.2 5 (by simp)
                refine wpAnyH_take (i := 11) (oi := ⟨some 95, _, _, _, _, _⟩) (v := ?v45) rfl (by kernel_rfl) (by kernel_rfl) (by kernel_rfl) (fun _ _ _ h => h) (Or.inl ⟨by rfl, ?h45⟩) (by assumption) ?r45
                case h45 => (intro w hSw; (try dsimp only at hSw); go_simp <;> with_reducible rfl)
                (try simp only [Act.put, List.setIfInBounds_toArray, List.set_cons_zero, List.set_cons_succ])
                refine wpAnyH_ready (rs := [12]) (by kernel_rfl) (by simp) ?_
                refine AllReadyH.cons (o := ⟨none, _, _, _, _, _⟩) rfl (fun Kk hKk => ?_) AllReadyH.nil
                go_simp
                refine hKk.out _ _ ⟨(HP3.out.set1_far (b' := V4.heap.size) (by omega) 5 (.int .i64 (pk r3 4 + tb))).cell 1 _ rfl, (World.cell?_setCells_out V4.heap.size [.int .i64 (pk r3 4 + tb)] 5 _ ⟨w.heap.size + 1, 3, none⟩ (fun e => absurd e (by simp only; omega))).trans rc⟩ (fun hHeld => ?_)
                clear hKk Kk
                refine wpAnyH_done (by kernel_rfl) ?_ _
                clear hHeld
                obtain ⟨V8, hV8⟩ : ∃ V8, V8 = V7.setCell ⟨V4.heap.size, 5, none⟩ (.int .i64 (pk r3 4 + tb)) := ⟨_, rfl⟩
                rw [← hV8]
                replace HF5 : Hid (Box V8 V4.heap.size [.int .i64 (60000 + p.s), .int .i64 p.m, .int .i64 3, .int .i64 p.p, .int .i64 q.p, .int .i64 (pk r3 4 + tb), .int .i64 (pk (r3.tdiv 4) 4), .string ⟨#[104, 101, 108, 108, 111]⟩]) := by rw [hV8]; exact hide (HF5.out.set1 5 _ (by simp))
                replace HP3 : Hid (Box V8 W0.heap.size [.int .i64 p.i, .int .i64 p.s, .int .i64 p.m, .int .i64 p.p, .int .i64 p.c]) := by rw [hV8]; exact hide (HP3.out.set1_far (by omega) _ _)
                replace HB2 : Hid (Box V8 (w.heap.size + 1 + 1) [.int .i64 0, .int .i64 0, .int .i64 0, .int .i64 0, .int .i64 0, .int .i64 0, .int .i64 0, .string ⟨#[]⟩]) := by rw [hV8]; exact hide (HB2.out.set1_far (by omega) _ _)
                replace kb : Below w.heap.size w V8 := by rw [hV8]; exact kb.setCell (p := ⟨V4.heap.size, 5, none⟩) (by simp only; omega) _
                clear hV8 z5 y5 rc
                go_wp2_with fail
                refine wp_region_held_drew (S := (fun w' => w'.cell? ⟨W0.heap.size, 0, none⟩ = some (.int .i64 (p.i)) ∧ w'.rangeAt V4.heap.size 0 [.int .i64 (60000 + p.s), .int .i64 (p.m), .int .i64 (3), .int .i64 (p.p), .int .i64 (q.p), .int .i64 (pk r3 4 + tb), .int .i64 (pk (r3.tdiv 4) 4), .string ⟨#[104, 101, 108, 108, 111]⟩])) (by kernel_rfl) ⟨HP3.out.cell 0 _ rfl, HF5.out.range⟩ (fun hHeld => ?_)
                refine wpAnyH_take (i := 0) (oi := ⟨some 101, _, _, _, _, _⟩) (v := ?v46) rfl (by kernel_rfl) (by kernel_rfl) (by kernel_rfl) (fun _ _ _ h => h) (Or.inl ⟨by rfl, ?h46⟩) (by assumption) ?r46
                case h46 => (intro w hSw; (try dsimp only at hSw); go_simp <;> with_reducible rfl)
                (try simp only [Act.put, List.setIfInBounds_toArray, List.set_cons_zero, List.set_cons_succ])
                refine wpAnyH_take (i := 1) (oi := ⟨some 102, _, _, _, _, _⟩) (v := ?v47) rfl (by kernel_rfl) (by kernel_rfl) (by kernel_rfl) (fun _ _ _ h => h) (Or.inl ⟨by rfl, ?h47⟩) (by assumption) ?r47
                case h47 => (intro w hSw; (try dsimp only at hSw); go_simp <;> with_reducible rfl)
                (try simp only [Act.put, List.setIfInBounds_toArray, List.set_cons_zero, List.set_cons_succ])
                refine wpAnyH_take (i := 2) (oi := ⟨some 103, _, _, _, _, _⟩) (v := .agg #[.int .i64 (60000 + p.s), .int .i64 (p.m), .int .i64 (3), .int .i64 (p.p), .int .i64 (q.p), .int .i64 (pk r3 4 + tb), .int .i64 (pk (r3.tdiv 4) 4), .string ⟨#[104, 101, 108, 108, 111]⟩]) rfl (by kernel_rfl) (by kernel_rfl) (by kernel_rfl) (fun _ _ _ h => h) (yieldsIf_load_mid (by rfl) 32 (.tmp 8) rfl V4.heap.size 0 rfl [.int .i64 (60000 + p.s), .int .i64 (p.m), .int .i64 (3), .int .i64 (p.p), .int .i64 (q.p), .int .i64 (pk r3 4 + tb), .int .i64 (pk (r3.tdiv 4) 4), .string ⟨#[104, 101, 108, 108, 111]⟩] _ (fun w h => h.2) Tryz.underlying32 rfl sizeFrK) (by assumption) ?_
                (try simp only [Act.put, List.setIfInBounds_toArray, List.set_cons_zero, List.set_cons_succ])
                refine wpAnyH_take (i := 3) (oi := ⟨some 4, _, _, _, _, _⟩) (v := ?v48) rfl (by kernel_rfl) (by kernel_rfl) (by kernel_rfl) (fun _ _ _ h => h) (Or.inl ⟨by rfl, ?h48⟩) (by assumption) ?r48
                case h48 => (intro w hSw; (try dsimp only at hSw); go_simp <;> with_reducible rfl)
                (try simp only [Act.put, List.setIfInBounds_toArray, List.set_cons_zero, List.set_cons_succ])
                have hbDV9 : Below V8.heap.size V8 V8.drew := (Below.refl _ _).drew
                replace HP3 := hide (HP3.out.below hbDV9)
                replace HB2 := hide (HB2.out.below hbDV9)
                replace HF5 := hide (HF5.out.below hbDV9)
                replace kb := kb.trans (hbDV9.mono kb.size)
                clear hbDV9
                generalize V8.drew = V9 at *
                refine wpAnyH_ready (rs := [4]) (by kernel_rfl) (by simp) ?_
                refine AllReadyH.cons (o := ⟨none, _, _, _, _, _⟩) rfl (fun Kk hKk => ?_) AllReadyH.nil
                refine wp_store_mid 32 (.tmp 5) (.tmp 103) rfl (w.heap.size + 1 + 1) 0 _ rfl rfl (HB2.out.fit 8 rfl) sizeFrK (ones rfl) ?_
                refine hKk.out _ _ ⟨(HP3.out.set_far (by omega) _ _).cell 0 _ rfl, (HF5.out.set_far (by omega) _ _).range⟩ (fun hHeld => ?_)
                clear hKk Kk
                refine wpAnyH_done (by kernel_rfl) ?_ _
                clear hHeld
                go_wp2_with fail
                refine bodyPost_ret (v := .tuple #[.int .i64 p.i, .agg #[.int .i64 (60000 + p.s), .int .i64 (p.m), .int .i64 (3), .int .i64 (p.p), .int .i64 (q.p), .int .i64 (pk r3 4 + tb), .int .i64 (pk (r3.tdiv 4) 4), .string ⟨#[104, 101, 108, 108, 111]⟩]]) ?_ rfl ⟨p.i, 60000 + p.s, p.m, 3, p.p, q.p, pk r3 4 + tb, pk (r3.tdiv 4) 4, ⟨#[104, 101, 108, 108, 111]⟩, rfl, ⟨fr_ok (by omega) (by omega) (by omega) (by omega) (by omega) (by omega) (by omega) (by decide) (by first | exact .inl rfl | exact .inr ⟨rfl, rfl, rfl⟩), .inr ⟨p, HMK.out, rfl⟩⟩, setCells_below _ (by omega) _ _ kb⟩
                exact results_tc (cs := [.int .i64 (60000 + p.s), .int .i64 (p.m), .int .i64 (3), .int .i64 (p.p), .int .i64 (q.p), .int .i64 (pk r3 4 + tb), .int .i64 (pk (r3.tdiv 4) 4), .string ⟨#[104, 101, 108, 108, 111]⟩]) Tryz.results9 rfl (HB2.out.set ([.int .i64 (60000 + p.s), .int .i64 (p.m), .int .i64 (3), .int .i64 (p.p), .int .i64 (q.p), .int .i64 (pk r3 4 + tb), .int .i64 (pk (r3.tdiv 4) 4), .string ⟨#[104, 101, 108, 108, 111]⟩] : List Value) rfl).range Tryz.underlying32 rfl sizeFrK
            · go_wp2_with (first | rw [HV5.out] | (go_at_call 25; refine (unhide HT9 _).mono ?_; rintro e w' ⟨rfl, hw9⟩; rw [hw9]; clear hw9))
              clear HV5 HT9
              refine wp_region_held_drew (S := (fun w' => w'.cell? ⟨W0.heap.size, 1, none⟩ = some (.int .i64 (p.s)) ∧ w'.cell? ⟨w.heap.size + 1, 3, none⟩ = some (.int .i64 (r3)))) (by kernel_rfl) ⟨HP3.out.cell 1 _ rfl, rc⟩ (fun hHeld => ?_)
              refine wpAnyH_take (i := 0) (oi := ⟨some 85, _, _, _, _, _⟩) (v := ?v49) rfl (by kernel_rfl) (by kernel_rfl) (by kernel_rfl) (fun _ _ _ h => h) (Or.inl ⟨by rfl, ?h49⟩) (by assumption) ?r49
              case h49 => (intro w hSw; (try dsimp only at hSw); go_simp <;> with_reducible rfl)
              (try simp only [Act.put, List.setIfInBounds_toArray, List.set_cons_zero, List.set_cons_succ])
              refine wpAnyH_take (i := 1) (oi := ⟨some 86, _, _, _, _, _⟩) (v := ?v50) rfl (by kernel_rfl) (by kernel_rfl) (by kernel_rfl) (fun _ _ _ h => h) (Or.inl ⟨by rfl, ?h50⟩) (by assumption) ?r50
              case h50 => (intro w hSw; (try dsimp only at hSw); go_simp <;> with_reducible rfl)
              (try simp only [Act.put, List.setIfInBounds_toArray, List.set_cons_zero, List.set_cons_succ])
              refine wpAnyH_take (i := 2) (oi := ⟨some 87, _, _, _, _, _⟩) (v := ?v51) rfl (by kernel_rfl) (by kernel_rfl) (by kernel_rfl) (fun _ _ _ h => h) (Or.inl ⟨by rfl, ?h51⟩) (by assumption) ?r51
              case h51 => (intro w hSw; (try dsimp only at hSw); go_simp <;> with_reducible rfl)
              (try simp only [Act.put, List.setIfInBounds_toArray, List.set_cons_zero, List.set_cons_succ])
              refine wpAnyH_take (i := 3) (oi := ⟨some 88, _, _, _, _, _⟩) (v := ?v52) rfl (by kernel_rfl) (by kernel_rfl) (by kernel_rfl) (fun _ _ _ h => h) (Or.inl ⟨by rfl, ?h52⟩) (by assumption) ?r52
              case h52 => (intro w hSw; (try dsimp only at hSw); go_simp <;> with_reducible rfl)
              (try simp only [Act.put, List.setIfInBounds_toArray, List.set_cons_zero, List.set_cons_succ])
              refine wpAnyH_take (i := 5) (oi := ⟨some 90, _, _, _, _, _⟩) (v := ?v53) rfl (by kernel_rfl) (by kernel_rfl) (by kernel_rfl) (fun _ _ _ h => h) (Or.inl ⟨by rfl, ?h53⟩) (by assumption) ?r53
              case h53 => (intro w hSw; (try dsimp only at hSw); go_simp <;> with_reducible rfl)
              (try simp only [Act.put, List.setIfInBounds_toArray, List.set_cons_zero, List.set_cons_succ])
              refine wpAnyH_take (i := 6) (oi := ⟨some 91, _, _, _, _, _⟩) (v := ?v54) rfl (by kernel_rfl) (by kernel_rfl) (by kernel_rfl) (fun _ _ _ h => h) (Or.inl ⟨by rfl, ?h54⟩) (by assumption) ?r54
              case h54 => (intro w hSw; (try dsimp only at hSw); go_simp <;> with_reducible rfl)
              (try simp only [Act.put, List.setIfInBounds_toArray, List.set_cons_zero, List.set_cons_succ])
              have hbDV6 : Below V5.heap.size V5 V5.drew := (Below.refl _ _).drew
              replace HP3 := hide (HP3.out.below hbDV6)
              replace HB2 := hide (HB2.out.below hbDV6)
              replace HF5 := hide (HF5.out.below hbDV6)
              replace rc := cell_beh rc hbDV6 (Nat.le_refl _)
              replace kb := kb.trans (hbDV6.mono kb.size)
              clear hbDV6
              generalize V5.drew = V6 at *
              have z0 := HF5.out.cell 0 _ rfl
              have y0 := HF5.out.2 0 (by simp)
              have z5 := HF5.out.cell 5 _ rfl
              have y5 := HF5.out.2 5 (by simp)
              refine wpAnyH_ready (rs := [4, 7]) (by kernel_rfl) (by simp) ?_
              refine (AllReadyH.cons (o := ⟨some 89, _, _, _, _, _⟩) rfl (fun Kk hKk => ?_) (AllReadyH.cons (o := ⟨some 92, _, _, _, _, _⟩) rfl (fun Kk hKk => ?_) AllReadyH.nil))
              · go_simp
                refine hKk.out _ _ ⟨HP3.out.cell 1 _ rfl, rc⟩ (fun hHeld => ?_)
                clear hKk Kk
                (try simp only [Act.put, List.setIfInBounds_toArray, List.set_cons_zero, List.set_cons_succ])
                refine wpAnyH_take (i := 9) (oi := ⟨some 94, _, _, _, _, _⟩) (v := ?v55) rfl (by kernel_rfl) (by kernel_rfl) (by kernel_rfl) (fun _ _ _ h => h) (Or.inl ⟨by rfl, ?h55⟩) (by assumption) ?r55
                case h55 => (intro w hSw; (try dsimp only at hSw); go_simp <;> with_reducible rfl)
                (try simp only [Act.put, List.setIfInBounds_toArray, List.set_cons_zero, List.set_cons_succ])
                refine wpAnyH_ready (rs := [7]) (by kernel_rfl) (by simp) ?_
                refine AllReadyH.cons (o := ⟨some 92, _, _, _, _, _⟩) rfl (fun Kk hKk => ?_) AllReadyH.nil
                go_simp
                refine (unhide HTB _).mono ?_
                rintro e w' ⟨rfl, hw9⟩
                rw [hw9]
                clear hw9 w'
                refine hKk.out _ _ ⟨HP3.out.cell 1 _ rfl, rc⟩ (fun hHeld => ?_)
                clear hKk Kk
                (try simp only [Act.put, List.setIfInBounds_toArray, List.set_cons_zero, List.set_cons_succ])
                refine wpAnyH_take (i := 8) (oi := ⟨some 93, _, _, _, _, _⟩) (v := ?v56) rfl (by kernel_rfl) (by kernel_rfl) (by kernel_rfl) (fun _ _ _ h => h) (Or.inl ⟨by rfl, ?h56⟩) (by assumption) ?r56
                case h56 => (intro w hSw; (try dsimp only at hSw); go_simp <;> with_reducible rfl)
                (try simp only [Act.put, List.setIfInBounds_toArray, List.set_cons_zero, List.set_cons_succ])
                refine wpAnyH_ready (rs := [10]) (by kernel_rfl) (by simp) ?_
                refine AllReadyH.cons (o := ⟨none, _, _, _, _, _⟩) rfl (fun Kk hKk => ?_) AllReadyH.nil
                go_simp
                refine hKk.out _ _ ⟨(HP3.out.set1_far (b' := V4.heap.size) (by omega) 0 (.int .i64 (60000 + p.s))).cell 1 _ rfl, (World.cell?_setCells_out V4.heap.size [.int .i64 (60000 + p.s)] 0 _ ⟨w.heap.size + 1, 3, none⟩ (fun e => absurd e (by simp only; omega))).trans rc⟩ (fun hHeld => ?_)
                clear hKk Kk
                obtain ⟨V7, hV7⟩ : ∃ V7, V7 = V6.setCell ⟨V4.heap.size, 0, none⟩ (.int .i64 (60000 + p.s)) := ⟨_, rfl⟩
                rw [← hV7] at hHeld ⊢
                replace rc : V7.cell? ⟨w.heap.size + 1, 3, none⟩ = some (.int .i64 r3) := by rw [hV7]; exact (World.cell?_setCells_out V4.heap.size [.int .i64 (60000 + p.s)] 0 _ ⟨w.heap.size + 1, 3, none⟩ (fun e => absurd e (by simp only; omega))).trans rc
                replace HF5 : Hid (Box V7 V4.heap.size [.int .i64 (60000 + p.s), .int .i64 p.m, .int .i64 3, .int .i64 p.p, .int .i64 q.p, .int .i64 (pk r3 4), .int .i64 (pk (r3.tdiv 4) 4), .string ⟨#[104, 101, 108, 108, 111]⟩]) := by rw [hV7]; exact hide (HF5.out.set1 0 _ (by simp))
                replace HP3 : Hid (Box V7 W0.heap.size [.int .i64 p.i, .int .i64 p.s, .int .i64 p.m, .int .i64 p.p, .int .i64 p.c]) := by rw [hV7]; exact hide (HP3.out.set1_far (by omega) _ _)
                replace HB2 : Hid (Box V7 (w.heap.size + 1 + 1) [.int .i64 0, .int .i64 0, .int .i64 0, .int .i64 0, .int .i64 0, .int .i64 0, .int .i64 0, .string ⟨#[]⟩]) := by rw [hV7]; exact hide (HB2.out.set1_far (by omega) _ _)
                replace kb : Below w.heap.size w V7 := by rw [hV7]; exact kb.setCell (p := ⟨V4.heap.size, 0, none⟩) (by simp only; omega) _
                clear hV7 z0 y0 z5 y5
                have z5 := HF5.out.cell 5 _ rfl
                have y5 := HF5.out.2 5 (by simp)
                refine wpAnyH_take (i := 11) (oi := ⟨some 95, _, _, _, _, _⟩) (v := ?v57) rfl (by kernel_rfl) (by kernel_rfl) (by kernel_rfl) (fun _ _ _ h => h) (Or.inl ⟨by rfl, ?h57⟩) (by assumption) ?r57
                case h57 => (intro w hSw; (try dsimp only at hSw); go_simp <;> with_reducible rfl)
                (try simp only [Act.put, List.setIfInBounds_toArray, List.set_cons_zero, List.set_cons_succ])
                refine wpAnyH_ready (rs := [12]) (by kernel_rfl) (by simp) ?_
                refine AllReadyH.cons (o := ⟨none, _, _, _, _, _⟩) rfl (fun Kk hKk => ?_) AllReadyH.nil
                go_simp
                refine hKk.out _ _ ⟨(HP3.out.set1_far (b' := V4.heap.size) (by omega) 5 (.int .i64 (pk r3 4 + tb))).cell 1 _ rfl, (World.cell?_setCells_out V4.heap.size [.int .i64 (pk r3 4 + tb)] 5 _ ⟨w.heap.size + 1, 3, none⟩ (fun e => absurd e (by simp only; omega))).trans rc⟩ (fun hHeld => ?_)
                clear hKk Kk
                refine wpAnyH_done (by kernel_rfl) ?_ _
                clear hHeld
                obtain ⟨V8, hV8⟩ : ∃ V8, V8 = V7.setCell ⟨V4.heap.size, 5, none⟩ (.int .i64 (pk r3 4 + tb)) := ⟨_, rfl⟩
                rw [← hV8]
                replace HF5 : Hid (Box V8 V4.heap.size [.int .i64 (60000 + p.s), .int .i64 p.m, .int .i64 3, .int .i64 p.p, .int .i64 q.p, .int .i64 (pk r3 4 + tb), .int .i64 (pk (r3.tdiv 4) 4), .string ⟨#[104, 101, 108, 108, 111]⟩]) := by rw [hV8]; exact hide (HF5.out.set1 5 _ (by simp))
                replace HP3 : Hid (Box V8 W0.heap.size [.int .i64 p.i, .int .i64 p.s, .int .i64 p.m, .int .i64 p.p, .int .i64 p.c]) := by rw [hV8]; exact hide (HP3.out.set1_far (by omega) _ _)
                replace HB2 : Hid (Box V8 (w.heap.size + 1 + 1) [.int .i64 0, .int .i64 0, .int .i64 0, .int .i64 0, .int .i64 0, .int .i64 0, .int .i64 0, .string ⟨#[]⟩]) := by rw [hV8]; exact hide (HB2.out.set1_far (by omega) _ _)
                replace kb : Below w.heap.size w V8 := by rw [hV8]; exact kb.setCell (p := ⟨V4.heap.size, 5, none⟩) (by simp only; omega) _
                clear hV8 z5 y5 rc
                go_wp2_with fail
                refine wp_region_held_drew (S := (fun w' => w'.cell? ⟨W0.heap.size, 0, none⟩ = some (.int .i64 (p.i)) ∧ w'.rangeAt V4.heap.size 0 [.int .i64 (60000 + p.s), .int .i64 (p.m), .int .i64 (3), .int .i64 (p.p), .int .i64 (q.p), .int .i64 (pk r3 4 + tb), .int .i64 (pk (r3.tdiv 4) 4), .string ⟨#[104, 101, 108, 108, 111]⟩])) (by kernel_rfl) ⟨HP3.out.cell 0 _ rfl, HF5.out.range⟩ (fun hHeld => ?_)
                refine wpAnyH_take (i := 0) (oi := ⟨some 101, _, _, _, _, _⟩) (v := ?v58) rfl (by kernel_rfl) (by kernel_rfl) (by kernel_rfl) (fun _ _ _ h => h) (Or.inl ⟨by rfl, ?h58⟩) (by assumption) ?r58
                case h58 => (intro w hSw; (try dsimp only at hSw); go_simp <;> with_reducible rfl)
                (try simp only [Act.put, List.setIfInBounds_toArray, List.set_cons_zero, List.set_cons_succ])
                refine wpAnyH_take (i := 1) (oi := ⟨some 102, _, _, _, _, _⟩) (v := ?v59) rfl (by kernel_rfl) (by kernel_rfl) (by kernel_rfl) (fun _ _ _ h => h) (Or.inl ⟨by rfl, ?h59⟩) (by assumption) ?r59
                case h59 => (intro w hSw; (try dsimp only at hSw); go_simp <;> with_reducible rfl)
                (try simp only [Act.put, List.setIfInBounds_toArray, List.set_cons_zero, List.set_cons_succ])
                refine wpAnyH_take (i := 2) (oi := ⟨some 103, _, _, _, _, _⟩) (v := .agg #[.int .i64 (60000 + p.s), .int .i64 (p.m), .int .i64 (3), .int .i64 (p.p), .int .i64 (q.p), .int .i64 (pk r3 4 + tb), .int .i64 (pk (r3.tdiv 4) 4), .string ⟨#[104, 101, 108, 108, 111]⟩]) rfl (by kernel_rfl) (by kernel_rfl) (by kernel_rfl) (fun _ _ _ h => h) (yieldsIf_load_mid (by rfl) 32 (.tmp 8) rfl V4.heap.size 0 rfl [.int .i64 (60000 + p.s), .int .i64 (p.m), .int .i64 (3), .int .i64 (p.p), .int .i64 (q.p), .int .i64 (pk r3 4 + tb), .int .i64 (pk (r3.tdiv 4) 4), .string ⟨#[104, 101, 108, 108, 111]⟩] _ (fun w h => h.2) Tryz.underlying32 rfl sizeFrK) (by assumption) ?_
                (try simp only [Act.put, List.setIfInBounds_toArray, List.set_cons_zero, List.set_cons_succ])
                refine wpAnyH_take (i := 3) (oi := ⟨some 4, _, _, _, _, _⟩) (v := ?v60) rfl (by kernel_rfl) (by kernel_rfl) (by kernel_rfl) (fun _ _ _ h => h) (Or.inl ⟨by rfl, ?h60⟩) (by assumption) ?r60
                case h60 => (intro w hSw; (try dsimp only at hSw); go_simp <;> with_reducible rfl)
                (try simp only [Act.put, List.setIfInBounds_toArray, List.set_cons_zero, List.set_cons_succ])
                have hbDV9 : Below V8.heap.size V8 V8.drew := (Below.refl _ _).drew
                replace HP3 := hide (HP3.out.below hbDV9)
                replace HB2 := hide (HB2.out.below hbDV9)
                replace HF5 := hide (HF5.out.below hbDV9)
                replace kb := kb.trans (hbDV9.mono kb.size)
                clear hbDV9
                generalize V8.drew = V9 at *
                refine wpAnyH_ready (rs := [4]) (by kernel_rfl) (by simp) ?_
                refine AllReadyH.cons (o := ⟨none, _, _, _, _, _⟩) rfl (fun Kk hKk => ?_) AllReadyH.nil
                refine wp_store_mid 32 (.tmp 5) (.tmp 103) rfl (w.heap.size + 1 + 1) 0 _ rfl rfl (HB2.out.fit 8 rfl) sizeFrK (ones rfl) ?_
                refine hKk.out _ _ ⟨(HP3.out.set_far (by omega) _ _).cell 0 _ rfl, (HF5.out.set_far (by omega) _ _).range⟩ (fun hHeld => ?_)
                clear hKk Kk
                refine wpAnyH_done (by kernel_rfl) ?_ _
                clear hHeld
                go_wp2_with fail
                refine bodyPost_ret (v := .tuple #[.int .i64 p.i, .agg #[.int .i64 (60000 + p.s), .int .i64 (p.m), .int .i64 (3), .int .i64 (p.p), .int .i64 (q.p), .int .i64 (pk r3 4 + tb), .int .i64 (pk (r3.tdiv 4) 4), .string ⟨#[104, 101, 108, 108, 111]⟩]]) ?_ rfl ⟨p.i, 60000 + p.s, p.m, 3, p.p, q.p, pk r3 4 + tb, pk (r3.tdiv 4) 4, ⟨#[104, 101, 108, 108, 111]⟩, rfl, ⟨fr_ok (by omega) (by omega) (by omega) (by omega) (by omega) (by omega) (by omega) (by decide) (by first | exact .inl rfl | exact .inr ⟨rfl, rfl, rfl⟩), .inr ⟨p, HMK.out, rfl⟩⟩, setCells_below _ (by omega) _ _ kb⟩
                exact results_tc (cs := [.int .i64 (60000 + p.s), .int .i64 (p.m), .int .i64 (3), .int .i64 (p.p), .int .i64 (q.p), .int .i64 (pk r3 4 + tb), .int .i64 (pk (r3.tdiv 4) 4), .string ⟨#[104, 101, 108, 108, 111]⟩]) Tryz.results9 rfl (HB2.out.set ([.int .i64 (60000 + p.s), .int .i64 (p.m), .int .i64 (3), .int .i64 (p.p), .int .i64 (q.p), .int .i64 (pk r3 4 + tb), .int .i64 (pk (r3.tdiv 4) 4), .string ⟨#[104, 101, 108, 108, 111]⟩] : List Value) rfl).range Tryz.underlying32 rfl sizeFrK
              · go_simp
                refine (unhide HTB _).mono ?_
                rintro e w' ⟨rfl, hw9⟩
                rw [hw9]
                clear hw9 w'
                refine hKk.out _ _ ⟨HP3.out.cell 1 _ rfl, rc⟩ (fun hHeld => ?_)
                clear hKk Kk
                (try simp only [Act.put, List.setIfInBounds_toArray, List.set_cons_zero, List.set_cons_succ])
                refine wpAnyH_ready (rs := [4]) (by kernel_rfl) (by simp) ?_
                refine AllReadyH.cons (o := ⟨some 89, _, _, _, _, _⟩) rfl (fun Kk hKk => ?_) AllReadyH.nil
                go_simp
                refine hKk.out _ _ ⟨HP3.out.cell 1 _ rfl, rc⟩ (fun hHeld => ?_)
                clear hKk Kk
                (try simp only [Act.put, List.setIfInBounds_toArray, List.set_cons_zero, List.set_cons_succ])
                refine wpAnyH_take (i := 8) (oi := ⟨some 93, _, _, _, _, _⟩) (v := ?v61) rfl (by kernel_rfl) (by kernel_rfl) (by kernel_rfl) (fun _ _ _ h => h) (Or.inl ⟨by rfl, ?h61⟩) (by assumption) ?r61
                case h61 => (intro w hSw; (try dsimp only at hSw); go_simp <;> with_reducible rfl)
                (try simp only [Act.put, List.setIfInBounds_toArray, List.set_cons_zero, List.set_cons_succ])
                refine wpAnyH_take (i := 9) (oi := ⟨some 94, _, _, _, _, _⟩) (v := ?v62) rfl (by kernel_rfl) (by kernel_rfl) (by kernel_rfl) (fun _ _ _ h => h) (Or.inl ⟨by rfl, ?h62⟩) (by assumption) ?r62
                case h62 => (intro w hSw; (try dsimp only at hSw); go_simp <;> with_reducible rfl)
                (try simp only [Act.put, List.setIfInBounds_toArray, List.set_cons_zero, List.set_cons_succ])
                refine wpAnyH_ready (rs := [10]) (by kernel_rfl) (by simp) ?_
                refine AllReadyH.cons (o := ⟨none, _, _, _, _, _⟩) rfl (fun Kk hKk => ?_) AllReadyH.nil
                go_simp
                refine hKk.out _ _ ⟨(HP3.out.set1_far (b' := V4.heap.size) (by omega) 0 (.int .i64 (60000 + p.s))).cell 1 _ rfl, (World.cell?_setCells_out V4.heap.size [.int .i64 (60000 + p.s)] 0 _ ⟨w.heap.size + 1, 3, none⟩ (fun e => absurd e (by simp only; omega))).trans rc⟩ (fun hHeld => ?_)
                clear hKk Kk
                obtain ⟨V7, hV7⟩ : ∃ V7, V7 = V6.setCell ⟨V4.heap.size, 0, none⟩ (.int .i64 (60000 + p.s)) := ⟨_, rfl⟩
                rw [← hV7] at hHeld ⊢
                replace rc : V7.cell? ⟨w.heap.size + 1, 3, none⟩ = some (.int .i64 r3) := by rw [hV7]; exact (World.cell?_setCells_out V4.heap.size [.int .i64 (60000 + p.s)] 0 _ ⟨w.heap.size + 1, 3, none⟩ (fun e => absurd e (by simp only; omega))).trans rc
                replace HF5 : Hid (Box V7 V4.heap.size [.int .i64 (60000 + p.s), .int .i64 p.m, .int .i64 3, .int .i64 p.p, .int .i64 q.p, .int .i64 (pk r3 4), .int .i64 (pk (r3.tdiv 4) 4), .string ⟨#[104, 101, 108, 108, 111]⟩]) := by rw [hV7]; exact hide (HF5.out.set1 0 _ (by simp))
                replace HP3 : Hid (Box V7 W0.heap.size [.int .i64 p.i, .int .i64 p.s, .int .i64 p.m, .int .i64 p.p, .int .i64 p.c]) := by rw [hV7]; exact hide (HP3.out.set1_far (by omega) _ _)
                replace HB2 : Hid (Box V7 (w.heap.size + 1 + 1) [.int .i64 0, .int .i64 0, .int .i64 0, .int .i64 0, .int .i64 0, .int .i64 0, .int .i64 0, .string ⟨#[]⟩]) := by rw [hV7]; exact hide (HB2.out.set1_far (by omega) _ _)
                replace kb : Below w.heap.size w V7 := by rw [hV7]; exact kb.setCell (p := ⟨V4.heap.size, 0, none⟩) (by simp only; omega) _
                clear hV7 z0 y0 z5 y5
                have z5 := HF5.out.cell 5 _ rfl
                have y5 := HF5.out.2 5 (by simp)
                refine wpAnyH_take (i := 11) (oi := ⟨some 95, _, _, _, _, _⟩) (v := ?v63) rfl (by kernel_rfl) (by kernel_rfl) (by kernel_rfl) (fun _ _ _ h => h) (Or.inl ⟨by rfl, ?h63⟩) (by assumption) ?r63
                case h63 => (intro w hSw; (try dsimp only at hSw); go_simp <;> with_reducible rfl)
                (try simp only [Act.put, List.setIfInBounds_toArray, List.set_cons_zero, List.set_cons_succ])
                refine wpAnyH_ready (rs := [12]) (by kernel_rfl) (by simp) ?_
                refine AllReadyH.cons (o := ⟨none, _, _, _, _, _⟩) rfl (fun Kk hKk => ?_) AllReadyH.nil
                go_simp
                refine hKk.out _ _ ⟨(HP3.out.set1_far (b' := V4.heap.size) (by omega) 5 (.int .i64 (pk r3 4 + tb))).cell 1 _ rfl, (World.cell?_setCells_out V4.heap.size [.int .i64 (pk r3 4 + tb)] 5 _ ⟨w.heap.size + 1, 3, none⟩ (fun e => absurd e (by simp only; omega))).trans rc⟩ (fun hHeld => ?_)
                clear hKk Kk
                refine wpAnyH_done (by kernel_rfl) ?_ _
                clear hHeld
                obtain ⟨V8, hV8⟩ : ∃ V8, V8 = V7.setCell ⟨V4.heap.size, 5, none⟩ (.int .i64 (pk r3 4 + tb)) := ⟨_, rfl⟩
                rw [← hV8]
                replace HF5 : Hid (Box V8 V4.heap.size [.int .i64 (60000 + p.s), .int .i64 p.m, .int .i64 3, .int .i64 p.p, .int .i64 q.p, .int .i64 (pk r3 4 + tb), .int .i64 (pk (r3.tdiv 4) 4), .string ⟨#[104, 101, 108, 108, 111]⟩]) := by rw [hV8]; exact hide (HF5.out.set1 5 _ (by simp))
                replace HP3 : Hid (Box V8 W0.heap.size [.int .i64 p.i, .int .i64 p.s, .int .i64 p.m, .int .i64 p.p, .int .i64 p.c]) := by rw [hV8]; exact hide (HP3.out.set1_far (by omega) _ _)
                replace HB2 : Hid (Box V8 (w.heap.size + 1 + 1) [.int .i64 0, .int .i64 0, .int .i64 0, .int .i64 0, .int .i64 0, .int .i64 0, .int .i64 0, .string ⟨#[]⟩]) := by rw [hV8]; exact hide (HB2.out.set1_far (by omega) _ _)
                replace kb : Below w.heap.size w V8 := by rw [hV8]; exact kb.setCell (p := ⟨V4.heap.size, 5, none⟩) (by simp only; omega) _
                clear hV8 z5 y5 rc
                go_wp2_with fail
                refine wp_region_held_drew (S := (fun w' => w'.cell? ⟨W0.heap.size, 0, none⟩ = some (.int .i64 (p.i)) ∧ w'.rangeAt V4.heap.size 0 [.int .i64 (60000 + p.s), .int .i64 (p.m), .int .i64 (3), .int .i64 (p.p), .int .i64 (q.p), .int .i64 (pk r3 4 + tb), .int .i64 (pk (r3.tdiv 4) 4), .string ⟨#[104, 101, 108, 108, 111]⟩])) (by kernel_rfl) ⟨HP3.out.cell 0 _ rfl, HF5.out.range⟩ (fun hHeld => ?_)
                refine wpAnyH_take (i := 0) (oi := ⟨some 101, _, _, _, _, _⟩) (v := ?v64) rfl (by kernel_rfl) (by kernel_rfl) (by kernel_rfl) (fun _ _ _ h => h) (Or.inl ⟨by rfl, ?h64⟩) (by assumption) ?r64
                case h64 => (intro w hSw; (try dsimp only at hSw); go_simp <;> with_reducible rfl)
                (try simp only [Act.put, List.setIfInBounds_toArray, List.set_cons_zero, List.set_cons_succ])
                refine wpAnyH_take (i := 1) (oi := ⟨some 102, _, _, _, _, _⟩) (v := ?v65) rfl (by kernel_rfl) (by kernel_rfl) (by kernel_rfl) (fun _ _ _ h => h) (Or.inl ⟨by rfl, ?h65⟩) (by assumption) ?r65
                case h65 => (intro w hSw; (try dsimp only at hSw); go_simp <;> with_reducible rfl)
                (try simp only [Act.put, List.setIfInBounds_toArray, List.set_cons_zero, List.set_cons_succ])
                refine wpAnyH_take (i := 2) (oi := ⟨some 103, _, _, _, _, _⟩) (v := .agg #[.int .i64 (60000 + p.s), .int .i64 (p.m), .int .i64 (3), .int .i64 (p.p), .int .i64 (q.p), .int .i64 (pk r3 4 + tb), .int .i64 (pk (r3.tdiv 4) 4), .string ⟨#[104, 101, 108, 108, 111]⟩]) rfl (by kernel_rfl) (by kernel_rfl) (by kernel_rfl) (fun _ _ _ h => h) (yieldsIf_load_mid (by rfl) 32 (.tmp 8) rfl V4.heap.size 0 rfl [.int .i64 (60000 + p.s), .int .i64 (p.m), .int .i64 (3), .int .i64 (p.p), .int .i64 (q.p), .int .i64 (pk r3 4 + tb), .int .i64 (pk (r3.tdiv 4) 4), .string ⟨#[104, 101, 108, 108, 111]⟩] _ (fun w h => h.2) Tryz.underlying32 rfl sizeFrK) (by assumption) ?_
                (try simp only [Act.put, List.setIfInBounds_toArray, List.set_cons_zero, List.set_cons_succ])
                refine wpAnyH_take (i := 3) (oi := ⟨some 4, _, _, _, _, _⟩) (v := ?v66) rfl (by kernel_rfl) (by kernel_rfl) (by kernel_rfl) (fun _ _ _ h => h) (Or.inl ⟨by rfl, ?h66⟩) (by assumption) ?r66
                case h66 => (intro w hSw; (try dsimp only at hSw); go_simp <;> with_reducible rfl)
                (try simp only [Act.put, List.setIfInBounds_toArray, List.set_cons_zero, List.set_cons_succ])
                have hbDV9 : Below V8.heap.size V8 V8.drew := (Below.refl _ _).drew
                replace HP3 := hide (HP3.out.below hbDV9)
                replace HB2 := hide (HB2.out.below hbDV9)
                replace HF5 := hide (HF5.out.below hbDV9)
                replace kb := kb.trans (hbDV9.mono kb.size)
                clear hbDV9
                generalize V8.drew = V9 at *
                refine wpAnyH_ready (rs := [4]) (by kernel_rfl) (by simp) ?_
                refine AllReadyH.cons (o := ⟨none, _, _, _, _, _⟩) rfl (fun Kk hKk => ?_) AllReadyH.nil
                refine wp_store_mid 32 (.tmp 5) (.tmp 103) rfl (w.heap.size + 1 + 1) 0 _ rfl rfl (HB2.out.fit 8 rfl) sizeFrK (ones rfl) ?_
                refine hKk.out _ _ ⟨(HP3.out.set_far (by omega) _ _).cell 0 _ rfl, (HF5.out.set_far (by omega) _ _).range⟩ (fun hHeld => ?_)
                clear hKk Kk
                refine wpAnyH_done (by kernel_rfl) ?_ _
                clear hHeld
                go_wp2_with fail
                refine bodyPost_ret (v := .tuple #[.int .i64 p.i, .agg #[.int .i64 (60000 + p.s), .int .i64 (p.m), .int .i64 (3), .int .i64 (p.p), .int .i64 (q.p), .int .i64 (pk r3 4 + tb), .int .i64 (pk (r3.tdiv 4) 4), .string ⟨#[104, 101, 108, 108, 111]⟩]]) ?_ rfl ⟨p.i, 60000 + p.s, p.m, 3, p.p, q.p, pk r3 4 + tb, pk (r3.tdiv 4) 4, ⟨#[104, 101, 108, 108, 111]⟩, rfl, ⟨fr_ok (by omega) (by omega) (by omega) (by omega) (by omega) (by omega) (by omega) (by decide) (by first | exact .inl rfl | exact .inr ⟨rfl, rfl, rfl⟩), .inr ⟨p, HMK.out, rfl⟩⟩, setCells_below _ (by omega) _ _ kb⟩
                exact results_tc (cs := [.int .i64 (60000 + p.s), .int .i64 (p.m), .int .i64 (3), .int .i64 (p.p), .int .i64 (q.p), .int .i64 (pk r3 4 + tb), .int .i64 (pk (r3.tdiv 4) 4), .string ⟨#[104, 101, 108, 108, 111]⟩]) Tryz.results9 rfl (HB2.out.set ([.int .i64 (60000 + p.s), .int .i64 (p.m), .int .i64 (3), .int .i64 (p.p), .int .i64 (q.p), .int .i64 (pk r3 4 + tb), .int .i64 (pk (r3.tdiv 4) 4), .string ⟨#[104, 101, 108, 108, 111]⟩] : List Value) rfl).range Tryz.underlying32 rfl sizeFrK
            · go_wp2_with (first | rw [HV5.out] | (go_at_call 25; refine (unhide HT9 _).mono ?_; rintro e w' ⟨rfl, hw9⟩; rw [hw9]; clear hw9))
              clear HV5 HT9
              refine wp_region_held_drew (S := (fun w' => w'.cell? ⟨W0.heap.size, 1, none⟩ = some (.int .i64 (p.s)) ∧ w'.cell? ⟨w.heap.size + 1, 3, none⟩ = some (.int .i64 (r3)))) (by kernel_rfl) ⟨HP3.out.cell 1 _ rfl, rc⟩ (fun hHeld => ?_)
              refine wpAnyH_take (i := 0) (oi := ⟨some 85, _, _, _, _, _⟩) (v := ?v67) rfl (by kernel_rfl) (by kernel_rfl) (by kernel_rfl) (fun _ _ _ h => h) (Or.inl ⟨by rfl, ?h67⟩) (by assumption) ?r67
              case h67 => (intro w hSw; (try dsimp only at hSw); go_simp <;> with_reducible rfl)
              (try simp only [Act.put, List.setIfInBounds_toArray, List.set_cons_zero, List.set_cons_succ])
              refine wpAnyH_take (i := 1) (oi := ⟨some 86, _, _, _, _, _⟩) (v := ?v68) rfl (by kernel_rfl) (by kernel_rfl) (by kernel_rfl) (fun _ _ _ h => h) (Or.inl ⟨by rfl, ?h68⟩) (by assumption) ?r68
              case h68 => (intro w hSw; (try dsimp only at hSw); go_simp <;> with_reducible rfl)
              (try simp only [Act.put, List.setIfInBounds_toArray, List.set_cons_zero, List.set_cons_succ])
              refine wpAnyH_take (i := 2) (oi := ⟨some 87, _, _, _, _, _⟩) (v := ?v69) rfl (by kernel_rfl) (by kernel_rfl) (by kernel_rfl) (fun _ _ _ h => h) (Or.inl ⟨by rfl, ?h69⟩) (by assumption) ?r69
              case h69 => (intro w hSw; (try dsimp only at hSw); go_simp <;> with_reducible rfl)
              (try simp only [Act.put, List.setIfInBounds_toArray, List.set_cons_zero, List.set_cons_succ])
              refine wpAnyH_take (i := 3) (oi := ⟨some 88, _, _, _, _, _⟩) (v := ?v70) rfl (by kernel_rfl) (by kernel_rfl) (by kernel_rfl) (fun _ _ _ h => h) (Or.inl ⟨by rfl, ?h70⟩) (by assumption) ?r70
              case h70 => (intro w hSw; (try dsimp only at hSw); go_simp <;> with_reducible rfl)
              (try simp only [Act.put, List.setIfInBounds_toArray, List.set_cons_zero, List.set_cons_succ])
              refine wpAnyH_take (i := 5) (oi := ⟨some 90, _, _, _, _, _⟩) (v := ?v71) rfl (by kernel_rfl) (by kernel_rfl) (by kernel_rfl) (fun _ _ _ h => h) (Or.inl ⟨by rfl, ?h71⟩) (by assumption) ?r71
              case h71 => (intro w hSw; (try dsimp only at hSw); go_simp <;> with_reducible rfl)
              (try simp only [Act.put, List.setIfInBounds_toArray, List.set_cons_zero, List.set_cons_succ])
              refine wpAnyH_take (i := 6) (oi := ⟨some 91, _, _, _, _, _⟩) (v := ?v72) rfl (by kernel_rfl) (by kernel_rfl) (by kernel_rfl) (fun _ _ _ h => h) (Or.inl ⟨by rfl, ?h72⟩) (by assumption) ?r72
              case h72 => (intro w hSw; (try dsimp only at hSw); go_simp <;> with_reducible rfl)
              (try simp only [Act.put, List.setIfInBounds_toArray, List.set_cons_zero, List.set_cons_succ])
              have hbDV6 : Below V5.heap.size V5 V5.drew := (Below.refl _ _).drew
              replace HP3 := hide (HP3.out.below hbDV6)
              replace HB2 := hide (HB2.out.below hbDV6)
              replace HF5 := hide (HF5.out.below hbDV6)
              replace rc := cell_beh rc hbDV6 (Nat.le_refl _)
              replace kb := kb.trans (hbDV6.mono kb.size)
              clear hbDV6
              generalize V5.drew = V6 at *
              have z0 := HF5.out.cell 0 _ rfl
              have y0 := HF5.out.2 0 (by simp)
              have z5 := HF5.out.cell 5 _ rfl
              have y5 := HF5.out.2 5 (by simp)
              refine wpAnyH_ready (rs := [4, 7]) (by kernel_rfl) (by simp) ?_
              refine (AllReadyH.cons (o := ⟨some 89, _, _, _, _, _⟩) rfl (fun Kk hKk => ?_) (AllReadyH.cons (o := ⟨some 92, _, _, _, _, _⟩) rfl (fun Kk hKk => ?_) AllReadyH.nil))
              · go_simp
                refine hKk.out _ _ ⟨HP3.out.cell 1 _ rfl, rc⟩ (fun hHeld => ?_)
                clear hKk Kk
                (try simp only [Act.put, List.setIfInBounds_toArray, List.set_cons_zero, List.set_cons_succ])
                refine wpAnyH_take (i := 9) (oi := ⟨some 94, _, _, _, _, _⟩) (v := ?v73) rfl (by kernel_rfl) (by kernel_rfl) (by kernel_rfl) (fun _ _ _ h => h) (Or.inl ⟨by rfl, ?h73⟩) (by assumption) ?r73
                case h73 => (intro w hSw; (try dsimp only at hSw); go_simp <;> with_reducible rfl)
                (try simp only [Act.put, List.setIfInBounds_toArray, List.set_cons_zero, List.set_cons_succ])
                refine wpAnyH_ready (rs := [7]) (by kernel_rfl) (by simp) ?_
                refine AllReadyH.cons (o := ⟨some 92, _, _, _, _, _⟩) rfl (fun Kk hKk => ?_) AllReadyH.nil
                go_simp
                refine (unhide HTB _).mono ?_
                rintro e w' ⟨rfl, hw9⟩
                rw [hw9]
                clear hw9 w'
                refine hKk.out _ _ ⟨HP3.out.cell 1 _ rfl, rc⟩ (fun hHeld => ?_)
                clear hKk Kk
                (try simp only [Act.put, List.setIfInBounds_toArray, List.set_cons_zero, List.set_cons_succ])
                refine wpAnyH_take (i := 8) (oi := ⟨some 93, _, _, _, _, _⟩) (v := ?v74) rfl (by kernel_rfl) (by kernel_rfl) (by kernel_rfl) (fun _ _ _ h => h) (Or.inl ⟨by rfl, ?h74⟩) (by assumption) ?r74
                case h74 => (intro w hSw; (try dsimp only at hSw); go_simp <;> with_reducible rfl)
                (try simp only [Act.put, List.setIfInBounds_toArray, List.set_cons_zero, List.set_cons_succ])
                refine wpAnyH_ready (rs := [10]) (by kernel_rfl) (by simp) ?_
                refine AllReadyH.cons (o := ⟨none, _, _, _, _, _⟩) rfl (fun Kk hKk => ?_) AllReadyH.nil
                go_simp
                refine hKk.out _ _ ⟨(HP3.out.set1_far (b' := V4.heap.size) (by omega) 0 (.int .i64 (60000 + p.s))).cell 1 _ rfl, (World.cell?_setCells_out V4.heap.size [.int .i64 (60000 + p.s)] 0 _ ⟨w.heap.size + 1, 3, none⟩ (fun e => absurd e (by simp only; omega))).trans rc⟩ (fun hHeld => ?_)
                clear hKk Kk
                obtain ⟨V7, hV7⟩ : ∃ V7, V7 = V6.setCell ⟨V4.heap.size, 0, none⟩ (.int .i64 (60000 + p.s)) := ⟨_, rfl⟩
                rw [← hV7] at hHeld ⊢
                replace rc : V7.cell? ⟨w.heap.size + 1, 3, none⟩ = some (.int .i64 r3) := by rw [hV7]; exact (World.cell?_setCells_out V4.heap.size [.int .i64 (60000 + p.s)] 0 _ ⟨w.heap.size + 1, 3, none⟩ (fun e => absurd e (by simp only; omega))).trans rc
                replace HF5 : Hid (Box V7 V4.heap.size [.int .i64 (60000 + p.s), .int .i64 p.m, .int .i64 3, .int .i64 p.p, .int .i64 q.p, .int .i64 (pk r3 4), .int .i64 (pk (r3.tdiv 4) 4), .string ⟨#[104, 101, 108, 108, 111]⟩]) := by rw [hV7]; exact hide (HF5.out.set1 0 _ (by simp))
                replace HP3 : Hid (Box V7 W0.heap.size [.int .i64 p.i, .int .i64 p.s, .int .i64 p.m, .int .i64 p.p, .int .i64 p.c]) := by rw [hV7]; exact hide (HP3.out.set1_far (by omega) _ _)
                replace HB2 : Hid (Box V7 (w.heap.size + 1 + 1) [.int .i64 0, .int .i64 0, .int .i64 0, .int .i64 0, .int .i64 0, .int .i64 0, .int .i64 0, .string ⟨#[]⟩]) := by rw [hV7]; exact hide (HB2.out.set1_far (by omega) _ _)
                replace kb : Below w.heap.size w V7 := by rw [hV7]; exact kb.setCell (p := ⟨V4.heap.size, 0, none⟩) (by simp only; omega) _
                clear hV7 z0 y0 z5 y5
                have z5 := HF5.out.cell 5 _ rfl
                have y5 := HF5.out.2 5 (by simp)
                refine wpAnyH_take (i := 11) (oi := ⟨some 95, _, _, _, _, _⟩) (v := ?v75) rfl (by kernel_rfl) (by kernel_rfl) (by kernel_rfl) (fun _ _ _ h => h) (Or.inl ⟨by rfl, ?h75⟩) (by assumption) ?r75
                case h75 => (intro w hSw; (try dsimp only at hSw); go_simp <;> with_reducible rfl)
                (try simp only [Act.put, List.setIfInBounds_toArray, List.set_cons_zero, List.set_cons_succ])
                refine wpAnyH_ready (rs := [12]) (by kernel_rfl) (by simp) ?_
                refine AllReadyH.cons (o := ⟨none, _, _, _, _, _⟩) rfl (fun Kk hKk => ?_) AllReadyH.nil
                go_simp
                refine hKk.out _ _ ⟨(HP3.out.set1_far (b' := V4.heap.size) (by omega) 5 (.int .i64 (pk r3 4 + tb))).cell 1 _ rfl, (World.cell?_setCells_out V4.heap.size [.int .i64 (pk r3 4 + tb)] 5 _ ⟨w.heap.size + 1, 3, none⟩ (fun e => absurd e (by simp only; omega))).trans rc⟩ (fun hHeld => ?_)
                clear hKk Kk
                refine wpAnyH_done (by kernel_rfl) ?_ _
                clear hHeld
                obtain ⟨V8, hV8⟩ : ∃ V8, V8 = V7.setCell ⟨V4.heap.size, 5, none⟩ (.int .i64 (pk r3 4 + tb)) := ⟨_, rfl⟩
                rw [← hV8]
                replace HF5 : Hid (Box V8 V4.heap.size [.int .i64 (60000 + p.s), .int .i64 p.m, .int .i64 3, .int .i64 p.p, .int .i64 q.p, .int .i64 (pk r3 4 + tb), .int .i64 (pk (r3.tdiv 4) 4), .string ⟨#[104, 101, 108, 108, 111]⟩]) := by rw [hV8]; exact hide (HF5.out.set1 5 _ (by simp))
                replace HP3 : Hid (Box V8 W0.heap.size [.int .i64 p.i, .int .i64 p.s, .int .i64 p.m, .int .i64 p.p, .int .i64 p.c]) := by rw [hV8]; exact hide (HP3.out.set1_far (by omega) _ _)
                replace HB2 : Hid (Box V8 (w.heap.size + 1 + 1) [.int .i64 0, .int .i64 0, .int .i64 0, .int .i64 0, .int .i64 0, .int .i64 0, .int .i64 0, .string ⟨#[]⟩]) := by rw [hV8]; exact hide (HB2.out.set1_far (by omega) _ _)
                replace kb : Below w.heap.size w V8 := by rw [hV8]; exact kb.setCell (p := ⟨V4.heap.size, 5, none⟩) (by simp only; omega) _
                clear hV8 z5 y5 rc
                go_wp2_with fail
                refine wp_region_held_drew (S := (fun w' => w'.cell? ⟨W0.heap.size, 0, none⟩ = some (.int .i64 (p.i)) ∧ w'.rangeAt V4.heap.size 0 [.int .i64 (60000 + p.s), .int .i64 (p.m), .int .i64 (3), .int .i64 (p.p), .int .i64 (q.p), .int .i64 (pk r3 4 + tb), .int .i64 (pk (r3.tdiv 4) 4), .string ⟨#[104, 101, 108, 108, 111]⟩])) (by kernel_rfl) ⟨HP3.out.cell 0 _ rfl, HF5.out.range⟩ (fun hHeld => ?_)
                refine wpAnyH_take (i := 0) (oi := ⟨some 101, _, _, _, _, _⟩) (v := ?v76) rfl (by kernel_rfl) (by kernel_rfl) (by kernel_rfl) (fun _ _ _ h => h) (Or.inl ⟨by rfl, ?h76⟩) (by assumption) ?r76
                case h76 => (intro w hSw; (try dsimp only at hSw); go_simp <;> with_reducible rfl)
                (try simp only [Act.put, List.setIfInBounds_toArray, List.set_cons_zero, List.set_cons_succ])
                refine wpAnyH_take (i := 1) (oi := ⟨some 102, _, _, _, _, _⟩) (v := ?v77) rfl (by kernel_rfl) (by kernel_rfl) (by kernel_rfl) (fun _ _ _ h => h) (Or.inl ⟨by rfl, ?h77⟩) (by assumption) ?r77
                case h77 => (intro w hSw; (try dsimp only at hSw); go_simp <;> with_reducible rfl)
                (try simp only [Act.put, List.setIfInBounds_toArray, List.set_cons_zero, List.set_cons_succ])
                refine wpAnyH_take (i := 2) (oi := ⟨some 103, _, _, _, _, _⟩) (v := .agg #[.int .i64 (60000 + p.s), .int .i64 (p.m), .int .i64 (3), .int .i64 (p.p), .int .i64 (q.p), .int .i64 (pk r3 4 + tb), .int .i64 (pk (r3.tdiv 4) 4), .string ⟨#[104, 101, 108, 108, 111]⟩]) rfl (by kernel_rfl) (by kernel_rfl) (by kernel_rfl) (fun _ _ _ h => h) (yieldsIf_load_mid (by rfl) 32 (.tmp 8) rfl V4.heap.size 0 rfl [.int .i64 (60000 + p.s), .int .i64 (p.m), .int .i64 (3), .int .i64 (p.p), .int .i64 (q.p), .int .i64 (pk r3 4 + tb), .int .i64 (pk (r3.tdiv 4) 4), .string ⟨#[104, 101, 108, 108, 111]⟩] _ (fun w h => h.2) Tryz.underlying32 rfl sizeFrK) (by assumption) ?_
                (try simp only [Act.put, List.setIfInBounds_toArray, List.set_cons_zero, List.set_cons_succ])
                refine wpAnyH_take (i := 3) (oi := ⟨some 4, _, _, _, _, _⟩) (v := ?v78) rfl (by kernel_rfl) (by kernel_rfl) (by kernel_rfl) (fun _ _ _ h => h) (Or.inl ⟨by rfl, ?h78⟩) (by assumption) ?r78
                case h78 => (intro w hSw; (try dsimp only at hSw); go_simp <;> with_reducible rfl)
                (try simp only [Act.put, List.setIfInBounds_toArray, List.set_cons_zero, List.set_cons_succ])
                have hbDV9 : Below V8.heap.size V8 V8.drew := (Below.refl _ _).drew
                replace HP3 := hide (HP3.out.below hbDV9)
                replace HB2 := hide (HB2.out.below hbDV9)
                replace HF5 := hide (HF5.out.below hbDV9)
                replace kb := kb.trans (hbDV9.mono kb.size)
                clear hbDV9
                generalize V8.drew = V9 at *
                refine wpAnyH_ready (rs := [4]) (by kernel_rfl) (by simp) ?_
                refine AllReadyH.cons (o := ⟨none, _, _, _, _, _⟩) rfl (fun Kk hKk => ?_) AllReadyH.nil
                refine wp_store_mid 32 (.tmp 5) (.tmp 103) rfl (w.heap.size + 1 + 1) 0 _ rfl rfl (HB2.out.fit 8 rfl) sizeFrK (ones rfl) ?_
                refine hKk.out _ _ ⟨(HP3.out.set_far (by omega) _ _).cell 0 _ rfl, (HF5.out.set_far (by omega) _ _).range⟩ (fun hHeld => ?_)
                clear hKk Kk
                refine wpAnyH_done (by kernel_rfl) ?_ _
                clear hHeld
                go_wp2_with fail
                refine bodyPost_ret (v := .tuple #[.int .i64 p.i, .agg #[.int .i64 (60000 + p.s), .int .i64 (p.m), .int .i64 (3), .int .i64 (p.p), .int .i64 (q.p), .int .i64 (pk r3 4 + tb), .int .i64 (pk (r3.tdiv 4) 4), .string ⟨#[104, 101, 108, 108, 111]⟩]]) ?_ rfl ⟨p.i, 60000 + p.s, p.m, 3, p.p, q.p, pk r3 4 + tb, pk (r3.tdiv 4) 4, ⟨#[104, 101, 108, 108, 111]⟩, rfl, ⟨fr_ok (by omega) (by omega) (by omega) (by omega) (by omega) (by omega) (by omega) (by decide) (by first | exact .inl rfl | exact .inr ⟨rfl, rfl, rfl⟩), .inr ⟨p, HMK.out, rfl⟩⟩, setCells_below _ (by omega) _ _ kb⟩
                exact results_tc (cs := [.int .i64 (60000 + p.s), .int .i64 (p.m), .int .i64 (3), .int .i64 (p.p), .int .i64 (q.p), .int .i64 (pk r3 4 + tb), .int .i64 (pk (r3.tdiv 4) 4), .string ⟨#[104, 101, 108, 108, 111]⟩]) Tryz.results9 rfl (HB2.out.set ([.int .i64 (60000 + p.s), .int .i64 (p.m), .int .i64 (3), .int .i64 (p.p), .int .i64 (q.p), .int .i64 (pk r3 4 + tb), .int .i64 (pk (r3.tdiv 4) 4), .string ⟨#[104, 101, 108, 108, 111]⟩] : List Value) rfl).range Tryz.underlying32 rfl sizeFrK
              · go_simp
                refine (unhide HTB _).mono ?_
                rintro e w' ⟨rfl, hw9⟩
                rw [hw9]
                clear hw9 w'
                refine hKk.out _ _ ⟨HP3.out.cell 1 _ rfl, rc⟩ (fun hHeld => ?_)
                clear hKk Kk
                (try simp only [Act.put, List.setIfInBounds_toArray, List.set_cons_zero, List.set_cons_succ])
                refine wpAnyH_ready (rs := [4]) (by kernel_rfl) (by simp) ?_
                refine AllReadyH.cons (o := ⟨some 89, _, _, _, _, _⟩) rfl (fun Kk hKk => ?_) AllReadyH.nil
                go_simp
                refine hKk.out _ _ ⟨HP3.out.cell 1 _ rfl, rc⟩ (fun hHeld => ?_)
                clear hKk Kk
                (try simp only [Act.put, List.setIfInBounds_toArray, List.set_cons_zero, List.set_cons_succ])
                refine wpAnyH_take (i := 8) (oi := ⟨some 93, _, _, _, _, _⟩) (v := ?v79) rfl (by kernel_rfl) (by kernel_rfl) (by kernel_rfl) (fun _ _ _ h => h) (Or.inl ⟨by rfl, ?h79⟩) (by assumption) ?r79
                case h79 => (intro w hSw; (try dsimp only at hSw); go_simp <;> with_reducible rfl)
                (try simp only [Act.put, List.setIfInBounds_toArray, List.set_cons_zero, List.set_cons_succ])
                refine wpAnyH_take (i := 9) (oi := ⟨some 94, _, _, _, _, _⟩) (v := ?v80) rfl (by kernel_rfl) (by kernel_rfl) (by kernel_rfl) (fun _ _ _ h => h) (Or.inl ⟨by rfl, ?h80⟩) (by assumption) ?r80
                case h80 => (intro w hSw; (try dsimp only at hSw); go_simp <;> with_reducible rfl)
                (try simp only [Act.put, List.setIfInBounds_toArray, List.set_cons_zero, List.set_cons_succ])
                refine wpAnyH_ready (rs := [10]) (by kernel_rfl) (by simp) ?_
                refine AllReadyH.cons (o := ⟨none, _, _, _, _, _⟩) rfl (fun Kk hKk => ?_) AllReadyH.nil
                go_simp
                refine hKk.out _ _ ⟨(HP3.out.set1_far (b' := V4.heap.size) (by omega) 0 (.int .i64 (60000 + p.s))).cell 1 _ rfl, (World.cell?_setCells_out V4.heap.size [.int .i64 (60000 + p.s)] 0 _ ⟨w.heap.size + 1, 3, none⟩ (fun e => absurd e (by simp only; omega))).trans rc⟩ (fun hHeld => ?_)
                clear hKk Kk
                obtain ⟨V7, hV7⟩ : ∃ V7, V7 = V6.setCell ⟨V4.heap.size, 0, none⟩ (.int .i64 (60000 + p.s)) := ⟨_, rfl⟩
                rw [← hV7] at hHeld ⊢
                replace rc : V7.cell? ⟨w.heap.size + 1, 3, none⟩ = some (.int .i64 r3) := by rw [hV7]; exact (World.cell?_setCells_out V4.heap.size [.int .i64 (60000 + p.s)] 0 _ ⟨w.heap.size + 1, 3, none⟩ (fun e => absurd e (by simp only; omega))).trans rc
                replace HF5 : Hid (Box V7 V4.heap.size [.int .i64 (60000 + p.s), .int .i64 p.m, .int .i64 3, .int .i64 p.p, .int .i64 q.p, .int .i64 (pk r3 4), .int .i64 (pk (r3.tdiv 4) 4), .string ⟨#[104, 101, 108, 108, 111]⟩]) := by rw [hV7]; exact hide (HF5.out.set1 0 _ (by simp))
                replace HP3 : Hid (Box V7 W0.heap.size [.int .i64 p.i, .int .i64 p.s, .int .i64 p.m, .int .i64 p.p, .int .i64 p.c]) := by rw [hV7]; exact hide (HP3.out.set1_far (by omega) _ _)
                replace HB2 : Hid (Box V7 (w.heap.size + 1 + 1) [.int .i64 0, .int .i64 0, .int .i64 0, .int .i64 0, .int .i64 0, .int .i64 0, .int .i64 0, .string ⟨#[]⟩]) := by rw [hV7]; exact hide (HB2.out.set1_far (by omega) _ _)
                replace kb : Below w.heap.size w V7 := by rw [hV7]; exact kb.setCell (p := ⟨V4.heap.size, 0, none⟩) (by simp only; omega) _
                clear hV7 z0 y0 z5 y5
                have z5 := HF5.out.cell 5 _ rfl
                have y5 := HF5.out.2 5 (by simp)
                refine wpAnyH_take (i := 11) (oi := ⟨some 95, _, _, _, _, _⟩) (v := ?v81) rfl (by kernel_rfl) (by kernel_rfl) (by kernel_rfl) (fun _ _ _ h => h) (Or.inl ⟨by rfl, ?h81⟩) (by assumption) ?r81
                case h81 => (intro w hSw; (try dsimp only at hSw); go_simp <;> with_reducible rfl)
                (try simp only [Act.put, List.setIfInBounds_toArray, List.set_cons_zero, List.set_cons_succ])
                refine wpAnyH_ready (rs := [12]) (by kernel_rfl) (by simp) ?_
                refine AllReadyH.cons (o := ⟨none, _, _, _, _, _⟩) rfl (fun Kk hKk => ?_) AllReadyH.nil
                go_simp
                refine hKk.out _ _ ⟨(HP3.out.set1_far (b' := V4.heap.size) (by omega) 5 (.int .i64 (pk r3 4 + tb))).cell 1 _ rfl, (World.cell?_setCells_out V4.heap.size [.int .i64 (pk r3 4 + tb)] 5 _ ⟨w.heap.size + 1, 3, none⟩ (fun e => absurd e (by simp only; omega))).trans rc⟩ (fun hHeld => ?_)
                clear hKk Kk
                refine wpAnyH_done (by kernel_rfl) ?_ _
                clear hHeld
                obtain ⟨V8, hV8⟩ : ∃ V8, V8 = V7.setCell ⟨V4.heap.size, 5, none⟩ (.int .i64 (pk r3 4 + tb)) := ⟨_, rfl⟩
                rw [← hV8]
                replace HF5 : Hid (Box V8 V4.heap.size [.int .i64 (60000 + p.s), .int .i64 p.m, .int .i64 3, .int .i64 p.p, .int .i64 q.p, .int .i64 (pk r3 4 + tb), .int .i64 (pk (r3.tdiv 4) 4), .string ⟨#[104, 101, 108, 108, 111]⟩]) := by rw [hV8]; exact hide (HF5.out.set1 5 _ (by simp))
                replace HP3 : Hid (Box V8 W0.heap.size [.int .i64 p.i, .int .i64 p.s, .int .i64 p.m, .int .i64 p.p, .int .i64 p.c]) := by rw [hV8]; exact hide (HP3.out.set1_far (by omega) _ _)
                replace HB2 : Hid (Box V8 (w.heap.size + 1 + 1) [.int .i64 0, .int .i64 0, .int .i64 0, .int .i64 0, .int .i64 0, .int .i64 0, .int .i64 0, .string ⟨#[]⟩]) := by rw [hV8]; exact hide (HB2.out.set1_far (by omega) _ _)
                replace kb : Below w.heap.size w V8 := by rw [hV8]; exact kb.setCell (p := ⟨V4.heap.size, 5, none⟩) (by simp only; omega) _
                clear hV8 z5 y5 rc
                go_wp2_with fail
                refine wp_region_held_drew (S := (fun w' => w'.cell? ⟨W0.heap.size, 0, none⟩ = some (.int .i64 (p.i)) ∧ w'.rangeAt V4.heap.size 0 [.int .i64 (60000 + p.s), .int .i64 (p.m), .int .i64 (3), .int .i64 (p.p), .int .i64 (q.p), .int .i64 (pk r3 4 + tb), .int .i64 (pk (r3.tdiv 4) 4), .string ⟨#[104, 101, 108, 108, 111]⟩])) (by kernel_rfl) ⟨HP3.out.cell 0 _ rfl, HF5.out.range⟩ (fun hHeld => ?_)
                refine wpAnyH_take (i := 0) (oi := ⟨some 101, _, _, _, _, _⟩) (v := ?v82) rfl (by kernel_rfl) (by kernel_rfl) (by kernel_rfl) (fun _ _ _ h => h) (Or.inl ⟨by rfl, ?h82⟩) (by assumption) ?r82
                case h82 => (intro w hSw; (try dsimp only at hSw); go_simp <;> with_reducible rfl)
                (try simp only [Act.put, List.setIfInBounds_toArray, List.set_cons_zero, List.set_cons_succ])
                refine wpAnyH_take (i := 1) (oi := ⟨some 102, _, _, _, _, _⟩) (v := ?v83) rfl (by kernel_rfl) (by kernel_rfl) (by kernel_rfl) (fun _ _ _ h => h) (Or.inl ⟨by rfl, ?h83⟩) (by assumption) ?r83
                case h83 => (intro w hSw; (try dsimp only at hSw); go_simp <;> with_reducible rfl)
                (try simp only [Act.put, List.setIfInBounds_toArray, List.set_cons_zero, List.set_cons_succ])
                refine wpAnyH_take (i := 2) (oi := ⟨some 103, _, _, _, _, _⟩) (v := .agg #[.int .i64 (60000 + p.s), .int .i64 (p.m), .int .i64 (3), .int .i64 (p.p), .int .i64 (q.p), .int .i64 (pk r3 4 + tb), .int .i64 (pk (r3.tdiv 4) 4), .string ⟨#[104, 101, 108, 108, 111]⟩]) rfl (by kernel_rfl) (by kernel_rfl) (by kernel_rfl) (fun _ _ _ h => h) (yieldsIf_load_mid (by rfl) 32 (.tmp 8) rfl V4.heap.size 0 rfl [.int .i64 (60000 + p.s), .int .i64 (p.m), .int .i64 (3), .int .i64 (p.p), .int .i64 (q.p), .int .i64 (pk r3 4 + tb), .int .i64 (pk (r3.tdiv 4) 4), .string ⟨#[104, 101, 108, 108, 111]⟩] _ (fun w h => h.2) Tryz.underlying32 rfl sizeFrK) (by assumption) ?_
                (try simp only [Act.put, List.setIfInBounds_toArray, List.set_cons_zero, List.set_cons_succ])
                refine wpAnyH_take (i := 3) (oi := ⟨some 4, _, _, _, _, _⟩) (v := ?v84) rfl (by kernel_rfl) (by kernel_rfl) (by kernel_rfl) (fun _ _ _ h => h) (Or.inl ⟨by rfl, ?h84⟩) (by assumption) ?r84
                case h84 => (intro w hSw; (try dsimp only at hSw); go_simp <;> with_reducible rfl)
                (try simp only [Act.put, List.setIfInBounds_toArray, List.set_cons_zero, List.set_cons_succ])
                have hbDV9 : Below V8.heap.size V8 V8.drew := (Below.refl _ _).drew
                replace HP3 := hide (HP3.out.below hbDV9)
                replace HB2 := hide (HB2.out.below hbDV9)
                replace HF5 := hide (HF5.out.below hbDV9)
                replace kb := kb.trans (hbDV9.mono kb.size)
                clear hbDV9
                generalize V8.drew = V9 at *
                refine wpAnyH_ready (rs := [4]) (by kernel_rfl) (by simp) ?_
                refine AllReadyH.cons (o := ⟨none, _, _, _, _, _⟩) rfl (fun Kk hKk => ?_) AllReadyH.nil
                refine wp_store_mid 32 (.tmp 5) (.tmp 103) rfl (w.heap.size + 1 + 1) 0 _ rfl rfl (HB2.out.fit 8 rfl) sizeFrK (ones rfl) ?_
                refine hKk.out _ _ ⟨(HP3.out.set_far (by omega) _ _).cell 0 _ rfl, (HF5.out.set_far (by omega) _ _).range⟩ (fun hHeld => ?_)
                clear hKk Kk
                refine wpAnyH_done (by kernel_rfl) ?_ _
                clear hHeld
                go_wp2_with fail
                refine bodyPost_ret (v := .tuple #[.int .i64 p.i, .agg #[.int .i64 (60000 + p.s), .int .i64 (p.m), .int .i64 (3), .int .i64 (p.p), .int .i64 (q.p), .int .i64 (pk r3 4 + tb), .int .i64 (pk (r3.tdiv 4) 4), .string ⟨#[104, 101, 108, 108, 111]⟩]]) ?_ rfl ⟨p.i, 60000 + p.s, p.m, 3, p.p, q.p, pk r3 4 + tb, pk (r3.tdiv 4) 4, ⟨#[104, 101, 108, 108, 111]⟩, rfl, ⟨fr_ok (by omega) (by omega) (by omega) (by omega) (by omega) (by omega) (by omega) (by decide) (by first | exact .inl rfl | exact .inr ⟨rfl, rfl, rfl⟩), .inr ⟨p, HMK.out, rfl⟩⟩, setCells_below _ (by omega) _ _ kb⟩
                exact results_tc (cs := [.int .i64 (60000 + p.s), .int .i64 (p.m), .int .i64 (3), .int .i64 (p.p), .int .i64 (q.p), .int .i64 (pk r3 4 + tb), .int .i64 (pk (r3.tdiv 4) 4), .string ⟨#[104, 101, 108, 108, 111]⟩]) Tryz.results9 rfl (HB2.out.set ([.int .i64 (60000 + p.s), .int .i64 (p.m), .int .i64 (3), .int .i64 (p.p), .int .i64 (q.p), .int .i64 (pk r3 4 + tb), .int .i64 (pk (r3.tdiv 4) 4), .string ⟨#[104, 101, 108, 108, 111]⟩] : List Value) rfl).range Tryz.underlying32 rfl sizeFrK
            · go_wp2_with (first | rw [HV5.out] | (go_at_call 25; refine (unhide HT9 _).mono ?_; rintro e w' ⟨rfl, hw9⟩; rw [hw9]; clear hw9))
              clear HV5 HT9
              refine wp_region_held_drew (S := (fun w' => w'.cell? ⟨W0.heap.size, 1, none⟩ = some (.int .i64 (p.s)) ∧ w'.cell? ⟨w.heap.size + 1, 3, none⟩ = some (.int .i64 (r3)))) (by kernel_rfl) ⟨HP3.out.cell 1 _ rfl, rc⟩ (fun hHeld => ?_)
              refine wpAnyH_take (i := 0) (oi := ⟨some 85, _, _, _, _, _⟩) (v := ?v85) rfl (by kernel_rfl) (by kernel_rfl) (by kernel_rfl) (fun _ _ _ h => h) (Or.inl ⟨by rfl, ?h85⟩) (by assumption) ?r85
              case h85 => (intro w hSw; (try dsimp only at hSw); go_simp <;> with_reducible rfl)
              (try simp only [Act.put, List.setIfInBounds_toArray, List.set_cons_zero, List.set_cons_succ])
              refine wpAnyH_take (i := 1) (oi := ⟨some 86, _, _, _, _, _⟩) (v := ?v86) rfl (by kernel_rfl) (by kernel_rfl) (by kernel_rfl) (fun _ _ _ h => h) (Or.inl ⟨by rfl, ?h86⟩) (by assumption) ?r86
              case h86 => (intro w hSw; (try dsimp only at hSw); go_simp <;> with_reducible rfl)
              (try simp only [Act.put, List.setIfInBounds_toArray, List.set_cons_zero, List.set_cons_succ])
              refine wpAnyH_take (i := 2) (oi := ⟨some 87, _, _, _, _, _⟩) (v := ?v87) rfl (by kernel_rfl) (by kernel_rfl) (by kernel_rfl) (fun _ _ _ h => h) (Or.inl ⟨by rfl, ?h87⟩) (by assumption) ?r87
              case h87 => (intro w hSw; (try dsimp only at hSw); go_simp <;> with_reducible rfl)
              (try simp only [Act.put, List.setIfInBounds_toArray, List.set_cons_zero, List.set_cons_succ])
              refine wpAnyH_take (i := 3) (oi := ⟨some 88, _, _, _, _, _⟩) (v := ?v88) rfl (by kernel_rfl) (by kernel_rfl) (by kernel_rfl) (fun _ _ _ h => h) (Or.inl ⟨by rfl, ?h88⟩) (by assumption) ?r88
              case h88 => (intro w hSw; (try dsimp only at hSw); go_simp <;> with_reducible rfl)
              (try simp only [Act.put, List.setIfInBounds_toArray, List.set_cons_zero, List.set_cons_succ])
              refine wpAnyH_take (i := 5) (oi := ⟨some 90, _, _, _, _, _⟩) (v := ?v89) rfl (by kernel_rfl) (by kernel_rfl) (by kernel_rfl) (fun _ _ _ h => h) (Or.inl ⟨by rfl, ?h89⟩) (by assumption) ?r89
              case h89 => (intro w hSw; (try dsimp only at hSw); go_simp <;> with_reducible rfl)
              (try simp only [Act.put, List.setIfInBounds_toArray, List.set_cons_zero, List.set_cons_succ])
              refine wpAnyH_take (i := 6) (oi := ⟨some 91, _, _, _, _, _⟩) (v := ?v90) rfl (by kernel_rfl) (by kernel_rfl) (by kernel_rfl) (fun _ _ _ h => h) (Or.inl ⟨by rfl, ?h90⟩) (by assumption) ?r90
              case h90 => (intro w hSw; (try dsimp only at hSw); go_simp <;> with_reducible rfl)
              (try simp only [Act.put, List.setIfInBounds_toArray, List.set_cons_zero, List.set_cons_succ])
              have hbDV6 : Below V5.heap.size V5 V5.drew := (Below.refl _ _).drew
              replace HP3 := hide (HP3.out.below hbDV6)
              replace HB2 := hide (HB2.out.below hbDV6)
              replace HF5 := hide (HF5.out.below hbDV6)
              replace rc := cell_beh rc hbDV6 (Nat.le_refl _)
              replace kb := kb.trans (hbDV6.mono kb.size)
              clear hbDV6
              generalize V5.drew = V6 at *
              have z0 := HF5.out.cell 0 _ rfl
              have y0 := HF5.out.2 0 (by simp)
              have z5 := HF5.out.cell 5 _ rfl
              have y5 := HF5.out.2 5 (by simp)
              refine wpAnyH_ready (rs := [4, 7]) (by kernel_rfl) (by simp) ?_
              refine (AllReadyH.cons (o := ⟨some 89, _, _, _, _, _⟩) rfl (fun Kk hKk => ?_) (AllReadyH.cons (o := ⟨some 92, _, _, _, _, _⟩) rfl (fun Kk hKk => ?_) AllReadyH.nil))
              · go_simp
                refine hKk.out _ _ ⟨HP3.out.cell 1 _ rfl, rc⟩ (fun hHeld => ?_)
                clear hKk Kk
                (try simp only [Act.put, List.setIfInBounds_toArray, List.set_cons_zero, List.set_cons_succ])
                refine wpAnyH_take (i := 9) (oi := ⟨some 94, _, _, _, _, _⟩) (v := ?v91) rfl (by kernel_rfl) (by kernel_rfl) (by kernel_rfl) (fun _ _ _ h => h) (Or.inl ⟨by rfl, ?h91⟩) (by assumption) ?r91
                case h91 => (intro w hSw; (try dsimp only at hSw); go_simp <;> with_reducible rfl)
                (try simp only [Act.put, List.setIfInBounds_toArray, List.set_cons_zero, List.set_cons_succ])
                refine wpAnyH_ready (rs := [7]) (by kernel_rfl) (by simp) ?_
                refine AllReadyH.cons (o := ⟨some 92, _, _, _, _, _⟩) rfl (fun Kk hKk => ?_) AllReadyH.nil
                go_simp
                refine (unhide HTB _).mono ?_
                rintro e w' ⟨rfl, hw9⟩
                rw [hw9]
                clear hw9 w'
                refine hKk.out _ _ ⟨HP3.out.cell 1 _ rfl, rc⟩ (fun hHeld => ?_)
                clear hKk Kk
                (try simp only [Act.put, List.setIfInBounds_toArray, List.set_cons_zero, List.set_cons_succ])
                refine wpAnyH_take (i := 8) (oi := ⟨some 93, _, _, _, _, _⟩) (v := ?v92) rfl (by kernel_rfl) (by kernel_rfl) (by kernel_rfl) (fun _ _ _ h => h) (Or.inl ⟨by rfl, ?h92⟩) (by assumption) ?r92
                case h92 => (intro w hSw; (try dsimp only at hSw); go_simp <;> with_reducible rfl)
                (try simp only [Act.put, List.setIfInBounds_toArray, List.set_cons_zero, List.set_cons_succ])
                refine wpAnyH_ready (rs := [10]) (by kernel_rfl) (by simp) ?_
                refine AllReadyH.cons (o := ⟨none, _, _, _, _, _⟩) rfl (fun Kk hKk => ?_) AllReadyH.nil
                go_simp
                refine hKk.out _ _ ⟨(HP3.out.set1_far (b' := V4.heap.size) (by omega) 0 (.int .i64 (60000 + p.s))).cell 1 _ rfl, (World.cell?_setCells_out V4.heap.size [.int .i64 (60000 + p.s)] 0 _ ⟨w.heap.size + 1, 3, none⟩ (fun e => absurd e (by simp only; omega))).trans rc⟩ (fun hHeld => ?_)
                clear hKk Kk
                obtain ⟨V7, hV7⟩ : ∃ V7, V7 = V6.setCell ⟨V4.heap.size, 0, none⟩ (.int .i64 (60000 + p.s)) := ⟨_, rfl⟩
                rw [← hV7] at hHeld ⊢
                replace rc : V7.cell? ⟨w.heap.size + 1, 3, none⟩ = some (.int .i64 r3) := by rw [hV7]; exact (World.cell?_setCells_out V4.heap.size [.int .i64 (60000 + p.s)] 0 _ ⟨w.heap.size + 1, 3, none⟩ (fun e => absurd e (by simp only; omega))).trans rc
                replace HF5 : Hid (Box V7 V4.heap.size [.int .i64 (60000 + p.s), .int .i64 p.m, .int .i64 3, .int .i64 p.p, .int .i64 q.p, .int .i64 (pk r3 4), .int .i64 (pk (r3.tdiv 4) 4), .string ⟨#[104, 101, 108, 108, 111]⟩]) := by rw [hV7]; exact hide (HF5.out.set1 0 _ (by simp))
                replace HP3 : Hid (Box V7 W0.heap.size [.int .i64 p.i, .int .i64 p.s, .int .i64 p.m, .int .i64 p.p, .int .i64 p.c]) := by rw [hV7]; exact hide (HP3.out.set1_far (by omega) _ _)
                replace HB2 : Hid (Box V7 (w.heap.size + 1 + 1) [.int .i64 0, .int .i64 0, .int .i64 0, .int .i64 0, .int .i64 0, .int .i64 0, .int .i64 0, .string ⟨#[]⟩]) := by rw [hV7]; exact hide (HB2.out.set1_far (by omega) _ _)
                replace kb : Below w.heap.size w V7 := by rw [hV7]; exact kb.setCell (p := ⟨V4.heap.size, 0, none⟩) (by simp only; omega) _
                clear hV7 z0 y0 z5 y5
                have z5 := HF5.out.cell 5 _ rfl
                have y5 := HF5.out.2 5 (by simp)
                refine wpAnyH_take (i := 11) (oi := ⟨some 95, _, _, _, _, _⟩) (v := ?v93) rfl (by kernel_rfl) (by kernel_rfl) (by kernel_rfl) (fun _ _ _ h => h) (Or.inl ⟨by rfl, ?h93⟩) (by assumption) ?r93
                case h93 => (intro w hSw; (try dsimp only at hSw); go_simp <;> with_reducible rfl)
                (try simp only [Act.put, List.setIfInBounds_toArray, List.set_cons_zero, List.set_cons_succ])
                refine wpAnyH_ready (rs := [12]) (by kernel_rfl) (by simp) ?_
                refine AllReadyH.cons (o := ⟨none, _, _, _, _, _⟩) rfl (fun Kk hKk => ?_) AllReadyH.nil
                go_simp
                refine hKk.out _ _ ⟨(HP3.out.set1_far (b' := V4.heap.size) (by omega) 5 (.int .i64 (pk r3 4 + tb))).cell 1 _ rfl, (World.cell?_setCells_out V4.heap.size [.int .i64 (pk r3 4 + tb)] 5 _ ⟨w.heap.size + 1, 3, none⟩ (fun e => absurd e (by simp only; omega))).trans rc⟩ (fun hHeld => ?_)
                clear hKk Kk
                refine wpAnyH_done (by kernel_rfl) ?_ _
                clear hHeld
                obtain ⟨V8, hV8⟩ : ∃ V8, V8 = V7.setCell ⟨V4.heap.size, 5, none⟩ (.int .i64 (pk r3 4 + tb)) := ⟨_, rfl⟩
                rw [← hV8]
                replace HF5 : Hid (Box V8 V4.heap.size [.int .i64 (60000 + p.s), .int .i64 p.m, .int .i64 3, .int .i64 p.p, .int .i64 q.p, .int .i64 (pk r3 4 + tb), .int .i64 (pk (r3.tdiv 4) 4), .string ⟨#[104, 101, 108, 108, 111]⟩]) := by rw [hV8]; exact hide (HF5.out.set1 5 _ (by simp))
                replace HP3 : Hid (Box V8 W0.heap.size [.int .i64 p.i, .int .i64 p.s, .int .i64 p.m, .int .i64 p.p, .int .i64 p.c]) := by rw [hV8]; exact hide (HP3.out.set1_far (by omega) _ _)
                replace HB2 : Hid (Box V8 (w.heap.size + 1 + 1) [.int .i64 0, .int .i64 0, .int .i64 0, .int .i64 0, .int .i64 0, .int .i64 0, .int .i64 0, .string ⟨#[]⟩]) := by rw [hV8]; exact hide (HB2.out.set1_far (by omega) _ _)
                replace kb : Below w.heap.size w V8 := by rw [hV8]; exact kb.setCell (p := ⟨V4.heap.size, 5, none⟩) (by simp only; omega) _
                clear hV8 z5 y5 rc
                go_wp2_with fail
                refine wp_region_held_drew (S := (fun w' => w'.cell? ⟨W0.heap.size, 0, none⟩ = some (.int .i64 (p.i)) ∧ w'.rangeAt V4.heap.size 0 [.int .i64 (60000 + p.s), .int .i64 (p.m), .int .i64 (3), .int .i64 (p.p), .int .i64 (q.p), .int .i64 (pk r3 4 + tb), .int .i64 (pk (r3.tdiv 4) 4), .string ⟨#[104, 101, 108, 108, 111]⟩])) (by kernel_rfl) ⟨HP3.out.cell 0 _ rfl, HF5.out.range⟩ (fun hHeld => ?_)
                refine wpAnyH_take (i := 0) (oi := ⟨some 101, _, _, _, _, _⟩) (v := ?v94) rfl (by kernel_rfl) (by kernel_rfl) (by kernel_rfl) (fun _ _ _ h => h) (Or.inl ⟨by rfl, ?h94⟩) (by assumption) ?r94
                case h94 => (intro w hSw; (try dsimp only at hSw); go_simp <;> with_reducible rfl)
                (try simp only [Act.put, List.setIfInBounds_toArray, List.set_cons_zero, List.set_cons_succ])
                refine wpAnyH_take (i := 1) (oi := ⟨some 102, _, _, _, _, _⟩) (v := ?v95) rfl (by kernel_rfl) (by kernel_rfl) (by kernel_rfl) (fun _ _ _ h => h) (Or.inl ⟨by rfl, ?h95⟩) (by assumption) ?r95
                case h95 => (intro w hSw; (try dsimp only at hSw); go_simp <;> with_reducible rfl)
                (try simp only [Act.put, List.setIfInBounds_toArray, List.set_cons_zero, List.set_cons_succ])
                refine wpAnyH_take (i := 2) (oi := ⟨some 103, _, _, _, _, _⟩) (v := .agg #[.int .i64 (60000 + p.s), .int .i64 (p.m), .int .i64 (3), .int .i64 (p.p), .int .i64 (q.p), .int .i64 (pk r3 4 + tb), .int .i64 (pk (r3.tdiv 4) 4), .string ⟨#[104, 101, 108, 108, 111]⟩]) rfl (by kernel_rfl) (by kernel_rfl) (by kernel_rfl) (fun _ _ _ h => h) (yieldsIf_load_mid (by rfl) 32 (.tmp 8) rfl V4.heap.size 0 rfl [.int .i64 (60000 + p.s), .int .i64 (p.m), .int .i64 (3), .int .i64 (p.p), .int .i64 (q.p), .int .i64 (pk r3 4 + tb), .int .i64 (pk (r3.tdiv 4) 4), .string ⟨#[104, 101, 108, 108, 111]⟩] _ (fun w h => h.2) Tryz.underlying32 rfl sizeFrK) (by assumption) ?_
                (try simp only [Act.put, List.setIfInBounds_toArray, List.set_cons_zero, List.set_cons_succ])
                refine wpAnyH_take (i := 3) (oi := ⟨some 4, _, _, _, _, _⟩) (v := ?v96) rfl (by kernel_rfl) (by kernel_rfl) (by kernel_rfl) (fun _ _ _ h => h) (Or.inl ⟨by rfl, ?h96⟩) (by assumption) ?r96
                case h96 => (intro w hSw; (try dsimp only at hSw); go_simp <;> with_reducible rfl)
                (try simp only [Act.put, List.setIfInBounds_toArray, List.set_cons_zero, List.set_cons_succ])
                have hbDV9 : Below V8.heap.size V8 V8.drew := (Below.refl _ _).drew
                replace HP3 := hide (HP3.out.below hbDV9)
                replace HB2 := hide (HB2.out.below hbDV9)
                replace HF5 := hide (HF5.out.below hbDV9)
                replace kb := kb.trans (hbDV9.mono kb.size)
                clear hbDV9
                generalize V8.drew = V9 at *
                refine wpAnyH_ready (rs := [4]) (by kernel_rfl) (by simp) ?_
                refine AllReadyH.cons (o := ⟨none, _, _, _, _, _⟩) rfl (fun Kk hKk => ?_) AllReadyH.nil
                refine wp_store_mid 32 (.tmp 5) (.tmp 103) rfl (w.heap.size + 1 + 1) 0 _ rfl rfl (HB2.out.fit 8 rfl) sizeFrK (ones rfl) ?_
                refine hKk.out _ _ ⟨(HP3.out.set_far (by omega) _ _).cell 0 _ rfl, (HF5.out.set_far (by omega) _ _).range⟩ (fun hHeld => ?_)
                clear hKk Kk
                refine wpAnyH_done (by kernel_rfl) ?_ _
                clear hHeld
                go_wp2_with fail
                refine bodyPost_ret (v := .tuple #[.int .i64 p.i, .agg #[.int .i64 (60000 + p.s), .int .i64 (p.m), .int .i64 (3), .int .i64 (p.p), .int .i64 (q.p), .int .i64 (pk r3 4 + tb), .int .i64 (pk (r3.tdiv 4) 4), .string ⟨#[104, 101, 108, 108, 111]⟩]]) ?_ rfl ⟨p.i, 60000 + p.s, p.m, 3, p.p, q.p, pk r3 4 + tb, pk (r3.tdiv 4) 4, ⟨#[104, 101, 108, 108, 111]⟩, rfl, ⟨fr_ok (by omega) (by omega) (by omega) (by omega) (by omega) (by omega) (by omega) (by decide) (by first | exact .inl rfl | exact .inr ⟨rfl, rfl, rfl⟩), .inr ⟨p, HMK.out, rfl⟩⟩, setCells_below _ (by omega) _ _ kb⟩
                exact results_tc (cs := [.int .i64 (60000 + p.s), .int .i64 (p.m), .int .i64 (3), .int .i64 (p.p), .int .i64 (q.p), .int .i64 (pk r3 4 + tb), .int .i64 (pk (r3.tdiv 4) 4), .string ⟨#[104, 101, 108, 108, 111]⟩]) Tryz.results9 rfl (HB2.out.set ([.int .i64 (60000 + p.s), .int .i64 (p.m), .int .i64 (3), .int .i64 (p.p), .int .i64 (q.p), .int .i64 (pk r3 4 + tb), .int .i64 (pk (r3.tdiv 4) 4), .string ⟨#[104, 101, 108, 108, 111]⟩] : List Value) rfl).range Tryz.underlying32 rfl sizeFrK
              · go_simp
                refine (unhide HTB _).mono ?_
                rintro e w' ⟨rfl, hw9⟩
                rw [hw9]
                clear hw9 w'
                refine hKk.out _ _ ⟨HP3.out.cell 1 _ rfl, rc⟩ (fun hHeld => ?_)
                clear hKk Kk
                (try simp only [Act.put, List.setIfInBounds_toArray, List.set_cons_zero, List.set_cons_succ])
                refine wpAnyH_ready (rs := [4]) (by kernel_rfl) (by simp) ?_
                refine AllReadyH.cons (o := ⟨some 89, _, _, _, _, _⟩) rfl (fun Kk hKk => ?_) AllReadyH.nil
                go_simp
                refine hKk.out _ _ ⟨HP3.out.cell 1 _ rfl, rc⟩ (fun hHeld => ?_)
                clear hKk Kk
                (try simp only [Act.put, List.setIfInBounds_toArray, List.set_cons_zero, List.set_cons_succ])
                refine wpAnyH_take (i := 8) (oi := ⟨some 93, _, _, _, _, _⟩) (v := ?v97) rfl (by kernel_rfl) (by kernel_rfl) (by kernel_rfl) (fun _ _ _ h => h) (Or.inl ⟨by rfl, ?h97⟩) (by assumption) ?r97
                case h97 => (intro w hSw; (try dsimp only at hSw); go_simp <;> with_reducible rfl)
                (try simp only [Act.put, List.setIfInBounds_toArray, List.set_cons_zero, List.set_cons_succ])
                refine wpAnyH_take (i := 9) (oi := ⟨some 94, _, _, _, _, _⟩) (v := ?v98) rfl (by kernel_rfl) (by kernel_rfl) (by kernel_rfl) (fun _ _ _ h => h) (Or.inl ⟨by rfl, ?h98⟩) (by assumption) ?r98
                case h98 => (intro w hSw; (try dsimp only at hSw); go_simp <;> with_reducible rfl)
                (try simp only [Act.put, List.setIfInBounds_toArray, List.set_cons_zero, List.set_cons_succ])
                refine wpAnyH_ready (rs := [10]) (by kernel_rfl) (by simp) ?_
                refine AllReadyH.cons (o := ⟨none, _, _, _, _, _⟩) rfl (fun Kk hKk => ?_) AllReadyH.nil
                go_simp
                refine hKk.out _ _ ⟨(HP3.out.set1_far (b' := V4.heap.size) (by omega) 0 (.int .i64 (60000 + p.s))).cell 1 _ rfl, (World.cell?_setCells_out V4.heap.size [.int .i64 (60000 + p.s)] 0 _ ⟨w.heap.size + 1, 3, none⟩ (fun e => absurd e (by simp only; omega))).trans rc⟩ (fun hHeld => ?_)
                clear hKk Kk
                obtain ⟨V7, hV7⟩ : ∃ V7, V7 = V6.setCell ⟨V4.heap.size, 0, none⟩ (.int .i64 (60000 + p.s)) := ⟨_, rfl⟩
                rw [← hV7] at hHeld ⊢
                replace rc : V7.cell? ⟨w.heap.size + 1, 3, none⟩ = some (.int .i64 r3) := by rw [hV7]; exact (World.cell?_setCells_out V4.heap.size [.int .i64 (60000 + p.s)] 0 _ ⟨w.heap.size + 1, 3, none⟩ (fun e => absurd e (by simp only; omega))).trans rc
                replace HF5 : Hid (Box V7 V4.heap.size [.int .i64 (60000 + p.s), .int .i64 p.m, .int .i64 3, .int .i64 p.p, .int .i64 q.p, .int .i64 (pk r3 4), .int .i64 (pk (r3.tdiv 4) 4), .string ⟨#[104, 101, 108, 108, 111]⟩]) := by rw [hV7]; exact hide (HF5.out.set1 0 _ (by simp))
                replace HP3 : Hid (Box V7 W0.heap.size [.int .i64 p.i, .int .i64 p.s, .int .i64 p.m, .int .i64 p.p, .int .i64 p.c]) := by rw [hV7]; exact hide (HP3.out.set1_far (by omega) _ _)
                replace HB2 : Hid (Box V7 (w.heap.size + 1 + 1) [.int .i64 0, .int .i64 0, .int .i64 0, .int .i64 0, .int .i64 0, .int .i64 0, .int .i64 0, .string ⟨#[]⟩]) := by rw [hV7]; exact hide (HB2.out.set1_far (by omega) _ _)
                replace kb : Below w.heap.size w V7 := by rw [hV7]; exact kb.setCell (p := ⟨V4.heap.size, 0, none⟩) (by simp only; omega) _
                clear hV7 z0 y0 z5 y5
                have z5 := HF5.out.cell 5 _ rfl
                have y5 := HF5.out.2 5 (by simp)
                refine wpAnyH_take (i := 11) (oi := ⟨some 95, _, _, _, _, _⟩) (v := ?v99) rfl (by kernel_rfl) (by kernel_rfl) (by kernel_rfl) (fun _ _ _ h => h) (Or.inl ⟨by rfl, ?h99⟩) (by assumption) ?r99
                case h99 => (intro w hSw; (try dsimp only at hSw); go_simp <;> with_reducible rfl)
                (try simp only [Act.put, List.setIfInBounds_toArray, List.set_cons_zero, List.set_cons_succ])
                refine wpAnyH_ready (rs := [12]) (by kernel_rfl) (by simp) ?_
                refine AllReadyH.cons (o := ⟨none, _, _, _, _, _⟩) rfl (fun Kk hKk => ?_) AllReadyH.nil
                go_simp
                refine hKk.out _ _ ⟨(HP3.out.set1_far (b' := V4.heap.size) (by omega) 5 (.int .i64 (pk r3 4 + tb))).cell 1 _ rfl, (World.cell?_setCells_out V4.heap.size [.int .i64 (pk r3 4 + tb)] 5 _ ⟨w.heap.size + 1, 3, none⟩ (fun e => absurd e (by simp only; omega))).trans rc⟩ (fun hHeld => ?_)
                clear hKk Kk
                refine wpAnyH_done (by kernel_rfl) ?_ _
                clear hHeld
                obtain ⟨V8, hV8⟩ : ∃ V8, V8 = V7.setCell ⟨V4.heap.size, 5, none⟩ (.int .i64 (pk r3 4 + tb)) := ⟨_, rfl⟩
                rw [← hV8]
                replace HF5 : Hid (Box V8 V4.heap.size [.int .i64 (60000 + p.s), .int .i64 p.m, .int .i64 3, .int .i64 p.p, .int .i64 q.p, .int .i64 (pk r3 4 + tb), .int .i64 (pk (r3.tdiv 4) 4), .string ⟨#[104, 101, 108, 108, 111]⟩]) := by rw [hV8]; exact hide (HF5.out.set1 5 _ (by simp))
                replace HP3 : Hid (Box V8 W0.heap.size [.int .i64 p.i, .int .i64 p.s, .int .i64 p.m, .int .i64 p.p, .int .i64 p.c]) := by rw [hV8]; exact hide (HP3.out.set1_far (by omega) _ _)
                replace HB2 : Hid (Box V8 (w.heap.size + 1 + 1) [.int .i64 0, .int .i64 0, .int .i64 0, .int .i64 0, .int .i64 0, .int .i64 0, .int .i64 0, .string ⟨#[]⟩]) := by rw [hV8]; exact hide (HB2.out.set1_far (by omega) _ _)
                replace kb : Below w.heap.size w V8 := by rw [hV8]; exact kb.setCell (p := ⟨V4.heap.size, 5, none⟩) (by simp only; omega) _
                clear hV8 z5 y5 rc
                go_wp2_with fail
                refine wp_region_held_drew (S := (fun w' => w'.cell? ⟨W0.heap.size, 0, none⟩ = some (.int .i64 (p.i)) ∧ w'.rangeAt V4.heap.size 0 [.int .i64 (60000 + p.s), .int .i64 (p.m), .int .i64 (3), .int .i64 (p.p), .int .i64 (q.p), .int .i64 (pk r3 4 + tb), .int .i64 (pk (r3.tdiv 4) 4), .string ⟨#[104, 101, 108, 108, 111]⟩])) (by kernel_rfl) ⟨HP3.out.cell 0 _ rfl, HF5.out.range⟩ (fun hHeld => ?_)
                refine wpAnyH_take (i := 0) (oi := ⟨some 101, _, _, _, _, _⟩) (v := ?v100) rfl (by kernel_rfl) (by kernel_rfl) (by kernel_rfl) (fun _ _ _ h => h) (Or.inl ⟨by rfl, ?h100⟩) (by assumption) ?r100
                case h100 => (intro w hSw; (try dsimp only at hSw); go_simp <;> with_reducible rfl)
                (try simp only [Act.put, List.setIfInBounds_toArray, List.set_cons_zero, List.set_cons_succ])
                refine wpAnyH_take (i := 1) (oi := ⟨some 102, _, _, _, _, _⟩) (v := ?v101) rfl (by kernel_rfl) (by kernel_rfl) (by kernel_rfl) (fun _ _ _ h => h) (Or.inl ⟨by rfl, ?h101⟩) (by assumption) ?r101
                case h101 => (intro w hSw; (try dsimp only at hSw); go_simp <;> with_reducible rfl)
                (try simp only [Act.put, List.setIfInBounds_toArray, List.set_cons_zero, List.set_cons_succ])
                refine wpAnyH_take (i := 2) (oi := ⟨some 103, _, _, _, _, _⟩) (v := .agg #[.int .i64 (60000 + p.s), .int .i64 (p.m), .int .i64 (3), .int .i64 (p.p), .int .i64 (q.p), .int .i64 (pk r3 4 + tb), .int .i64 (pk (r3.tdiv 4) 4), .string ⟨#[104, 101, 108, 108, 111]⟩]) rfl (by kernel_rfl) (by kernel_rfl) (by kernel_rfl) (fun _ _ _ h => h) (yieldsIf_load_mid (by rfl) 32 (.tmp 8) rfl V4.heap.size 0 rfl [.int .i64 (60000 + p.s), .int .i64 (p.m), .int .i64 (3), .int .i64 (p.p), .int .i64 (q.p), .int .i64 (pk r3 4 + tb), .int .i64 (pk (r3.tdiv 4) 4), .string ⟨#[104, 101, 108, 108, 111]⟩] _ (fun w h => h.2) Tryz.underlying32 rfl sizeFrK) (by assumption) ?_
                (try simp only [Act.put, List.setIfInBounds_toArray, List.set_cons_zero, List.set_cons_succ])
                refine wpAnyH_take (i := 3) (oi := ⟨some 4, _, _, _, _, _⟩) (v := ?v102) rfl (by kernel_rfl) (by kernel_rfl) (by kernel_rfl) (fun _ _ _ h => h) (Or.inl ⟨by rfl, ?h102⟩) (by assumption) ?r102
                case h102 => (intro w hSw; (try dsimp only at hSw); go_simp <;> with_reducible rfl)
                (try simp only [Act.put, List.setIfInBounds_toArray, List.set_cons_zero, List.set_cons_succ])
                have hbDV9 : Below V8.heap.size V8 V8.drew := (Below.refl _ _).drew
                replace HP3 := hide (HP3.out.below hbDV9)
                replace HB2 := hide (HB2.out.below hbDV9)
                replace HF5 := hide (HF5.out.below hbDV9)
                replace kb := kb.trans (hbDV9.mono kb.size)
                clear hbDV9
                generalize V8.drew = V9 at *
                refine wpAnyH_ready (rs := [4]) (by kernel_rfl) (by simp) ?_
                refine AllReadyH.cons (o := ⟨none, _, _, _, _, _⟩) rfl (fun Kk hKk => ?_) AllReadyH.nil
                refine wp_store_mid 32 (.tmp 5) (.tmp 103) rfl (w.heap.size + 1 + 1) 0 _ rfl rfl (HB2.out.fit 8 rfl) sizeFrK (ones rfl) ?_
                refine hKk.out _ _ ⟨(HP3.out.set_far (by omega) _ _).cell 0 _ rfl, (HF5.out.set_far (by omega) _ _).range⟩ (fun hHeld => ?_)
                clear hKk Kk
                refine wpAnyH_done (by kernel_rfl) ?_ _
                clear hHeld
                go_wp2_with fail
                refine bodyPost_ret (v := .tuple #[.int .i64 p.i, .agg #[.int .i64 (60000 + p.s), .int .i64 (p.m), .int .i64 (3), .int .i64 (p.p), .int .i64 (q.p), .int .i64 (pk r3 4 + tb), .int .i64 (pk (r3.tdiv 4) 4), .string ⟨#[104, 101, 108, 108, 111]⟩]]) ?_ rfl ⟨p.i, 60000 + p.s, p.m, 3, p.p, q.p, pk r3 4 + tb, pk (r3.tdiv 4) 4, ⟨#[104, 101, 108, 108, 111]⟩, rfl, ⟨fr_ok (by omega) (by omega) (by omega) (by omega) (by omega) (by omega) (by omega) (by decide) (by first | exact .inl rfl | exact .inr ⟨rfl, rfl, rfl⟩), .inr ⟨p, HMK.out, rfl⟩⟩, setCells_below _ (by omega) _ _ kb⟩
                exact results_tc (cs := [.int .i64 (60000 + p.s), .int .i64 (p.m), .int .i64 (3), .int .i64 (p.p), .int .i64 (q.p), .int .i64 (pk r3 4 + tb), .int .i64 (pk (r3.tdiv 4) 4), .string ⟨#[104, 101, 108, 108, 111]⟩]) Tryz.results9 rfl (HB2.out.set ([.int .i64 (60000 + p.s), .int .i64 (p.m), .int .i64 (3), .int .i64 (p.p), .int .i64 (q.p), .int .i64 (pk r3 4 + tb), .int .i64 (pk (r3.tdiv 4) 4), .string ⟨#[104, 101, 108, 108, 111]⟩] : List Value) rfl).range Tryz.underlying32 rfl sizeFrK
          · have g0 : (m == 0) = false := by simp; omega
            have g1 : (m == 1) = false := by simp; omega
            have g2 : (m == 2) = false := by simp; omega
            have g3 : (m == 3) = false := by simp; omega
            have g4 : (m == 4) = false := by simp; omega
            have g5 : (m == 5) = false := by simp; omega
            have g6 : (m == 6) = false := by simp; omega
            have g7 : (m == 7) = false := by simp; omega
            go_wp2_with (first | rw [HV5.out] | (go_at_call 25; refine (unhide HT9 _).mono ?_; rintro e w' ⟨rfl, hw9⟩; rw [hw9]; clear hw9))
            clear HV5 HT9
            refine wp_region_held_drew (S := (fun w' => w'.cell? ⟨W0.heap.size, 0, none⟩ = some (.int .i64 (p.i)) ∧ w'.rangeAt V4.heap.size 0 [.int .i64 (q.m), .int .i64 (p.m), .int .i64 (3), .int .i64 (p.p), .int .i64 (q.p), .int .i64 (pk r3 4), .int .i64 (pk (r3.tdiv 4) 4), .string ⟨#[104, 101, 108, 108, 111]⟩])) (by kernel_rfl) ⟨HP3.out.cell 0 _ rfl, HF5.out.range⟩ (fun hHeld => ?_)
            refine wpAnyH_take (i := 0) (oi := ⟨some 101, _, _, _, _, _⟩) (v := ?v22) rfl (by kernel_rfl) (by kernel_rfl) (by kernel_rfl) (fun _ _ _ h => h) (Or.inl ⟨by rfl, ?h22⟩) (by assumption) ?r22
            case h22 => (intro w hSw; (try dsimp only at hSw); go_simp <;> with_reducible rfl)
            (try simp only [Act.put, List.setIfInBounds_toArray, List.set_cons_zero, List.set_cons_succ])
            refine wpAnyH_take (i := 1) (oi := ⟨some 102, _, _, _, _, _⟩) (v := ?v23) rfl (by kernel_rfl) (by kernel_rfl) (by kernel_rfl) (fun _ _ _ h => h) (Or.inl ⟨by rfl, ?h23⟩) (by assumption) ?r23
            case h23 => (intro w hSw; (try dsimp only at hSw); go_simp <;> with_reducible rfl)
            (try simp only [Act.put, List.setIfInBounds_toArray, List.set_cons_zero, List.set_cons_succ])
            refine wpAnyH_take (i := 2) (oi := ⟨some 103, _, _, _, _, _⟩) (v := .agg #[.int .i64 (q.m), .int .i64 (p.m), .int .i64 (3), .int .i64 (p.p), .int .i64 (q.p), .int .i64 (pk r3 4), .int .i64 (pk (r3.tdiv 4) 4), .string ⟨#[104, 101, 108, 108, 111]⟩]) rfl (by kernel_rfl) (by kernel_rfl) (by kernel_rfl) (fun _ _ _ h => h) (yieldsIf_load_mid (by rfl) 32 (.tmp 8) rfl V4.heap.size 0 rfl [.int .i64 (q.m), .int .i64 (p.m), .int .i64 (3), .int .i64 (p.p), .int .i64 (q.p), .int .i64 (pk r3 4), .int .i64 (pk (r3.tdiv 4) 4), .string ⟨#[104, 101, 108, 108, 111]⟩] _ (fun w h => h.2) Tryz.underlying32 rfl sizeFrK) (by assumption) ?_
            (try simp only [Act.put, List.setIfInBounds_toArray, List.set_cons_zero, List.set_cons_succ])
            refine wpAnyH_take (i := 3) (oi := ⟨some 4, _, _, _, _, _⟩) (v := ?v24) rfl (by kernel_rfl) (by kernel_rfl) (by kernel_rfl) (fun _ _ _ h => h) (Or.inl ⟨by rfl, ?h24⟩) (by assumption) ?r24
            case h24 => (intro w hSw; (try dsimp only at hSw); go_simp <;> with_reducible rfl)
            (try simp only [Act.put, List.setIfInBounds_toArray, List.set_cons_zero, List.set_cons_succ])
            have hbDV6 : Below V5.heap.size V5 V5.drew := (Below.refl _ _).drew
            replace HP3 := hide (HP3.out.below hbDV6)
            replace HB2 := hide (HB2.out.below hbDV6)
            replace HF5 := hide (HF5.out.below hbDV6)
            replace kb := kb.trans (hbDV6.mono kb.size)
            clear hbDV6
            generalize V5.drew = V6 at *
            refine wpAnyH_ready (rs := [4]) (by kernel_rfl) (by simp) ?_
            refine AllReadyH.cons (o := ⟨none, _, _, _, _, _⟩) rfl (fun Kk hKk => ?_) AllReadyH.nil
            refine wp_store_mid 32 (.tmp 5) (.tmp 103) rfl (w.heap.size + 1 + 1) 0 _ rfl rfl (HB2.out.fit 8 rfl) sizeFrK (ones rfl) ?_
            refine hKk.out _ _ ⟨(HP3.out.set_far (by omega) _ _).cell 0 _ rfl, (HF5.out.set_far (by omega) _ _).range⟩ (fun hHeld => ?_)
            clear hKk Kk
            refine wpAnyH_done (by kernel_rfl) ?_ _
            clear hHeld
            go_wp2_with fail
            refine bodyPost_ret (v := .tuple #[.int .i64 p.i, .agg #[.int .i64 (q.m), .int .i64 (p.m), .int .i64 (3), .int .i64 (p.p), .int .i64 (q.p), .int .i64 (pk r3 4), .int .i64 (pk (r3.tdiv 4) 4), .string ⟨#[104, 101, 108, 108, 111]⟩]]) ?_ rfl ⟨p.i, q.m, p.m, 3, p.p, q.p, pk r3 4, pk (r3.tdiv 4) 4, ⟨#[104, 101, 108, 108, 111]⟩, rfl, ⟨fr_ok (by omega) (by omega) (by omega) (by omega) (by omega) (by omega) (by omega) (by decide) (by first | exact .inl rfl | exact .inr ⟨rfl, rfl, rfl⟩), .inr ⟨p, HMK.out, rfl⟩⟩, setCells_below _ (by omega) _ _ kb⟩
            exact results_tc (cs := [.int .i64 (q.m), .int .i64 (p.m), .int .i64 (3), .int .i64 (p.p), .int .i64 (q.p), .int .i64 (pk r3 4), .int .i64 (pk (r3.tdiv 4) 4), .string ⟨#[104, 101, 108, 108, 111]⟩]) Tryz.results9 rfl (HB2.out.set ([.int .i64 (q.m), .int .i64 (p.m), .int .i64 (3), .int .i64 (p.p), .int .i64 (q.p), .int .i64 (pk r3 4), .int .i64 (pk (r3.tdiv 4) 4), .string ⟨#[104, 101, 108, 108, 111]⟩] : List Value) rfl).range Tryz.underlying32 rfl sizeFrK

end Go.Proofs.YtjcomoinggiedaaGreat
