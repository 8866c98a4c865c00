/- Texts joined: Ph, Pi, Pj. -/
import Derived.Laws.EntriesVeiled
import Derived.Test.YtncdininppehkaaGreatJAsksAnswered4
namespace Go.Proofs.YtncdininppehkaaGreat
open Go.RowKit
set_option linter.unusedVariables false
set_option maxRecDepth 100000
theorem zC {w w' : World} {b o : Nat} {v : Value} (h : w.cell? ⟨b, o, none⟩ = some v) (hb : Below w.heap.size w w') : w'.cell? ⟨b, o, none⟩ = some v := cell_beh h hb (Nat.le_refl _)
theorem own_blk {w : World} {B e sz n : Nat} {u : Value} {xs : List Value} (h : w.ownsRow B e sz u n xs) (hn : 0 < n) : ∃ g c, u = .slice (some ⟨g, 0, none⟩) n c ∧ B ≤ g ∧ g < w.heap.size := by
 have h' := h
 obtain ⟨_, ⟨_, h0⟩ | ⟨g, cap, cur, rfl, hB, _⟩⟩ := h
 ·omega
 ·exact ⟨g, cap, rfl, hB, own_in h' rfl⟩
theorem far_cell {w w' : World} {b o gA : Nat} {v : Value} (hg : w.grownBy w' (some gA)) (h : w.cell? ⟨b, o, none⟩ = some v) (hne : b ≠ gA) : w'.cell? ⟨b, o, none⟩ = some v :=
 (hg.cell_far _ (cell_in h) (by simpa using hne)).trans h
theorem own_far {w w' : World} {b gA B e sz n m c : Nat} {xs : List Value} (hg : w.grownBy w' (some gA)) (h : w.ownsRow B e sz (.slice (some ⟨b, 0, none⟩) m c) n xs) (hne : b ≠ gA) : w'.ownsRow B e sz (.slice (some ⟨b, 0, none⟩) m c) n xs :=
 h.kept hg (.inr (by simpa [Value.ownBlock] using hne))
theorem M_app (a b : List Mt) : M (a ++ b) = M a ++ M b := by simp [M]
theorem D_app (a b : List Do) : D (a ++ b) = D a ++ D b := by simp [D]
theorem M_one (l : List Mt) : ∀ u ∈ M l, u.oneCell' = true := by
 intro u hu
 unfold M at hu
 rw [List.mem_flatMap] at hu
 obtain ⟨x, _, hu⟩ := hu
 exact one3 _ _ _ u hu
theorem D_one (l : List Do) : ∀ u ∈ D l, u.oneCell' = true := by
 intro u hu
 unfold D at hu
 rw [List.mem_flatMap] at hu
 obtain ⟨x, _, hu⟩ := hu
 exact one3 _ _ _ u hu
theorem wpAnyH_via3 {P : Program} {md : Region.Mode} {ops : Array Oper} {Q : Exit → Act → World → Prop} {S : World → Prop} {fuel fuel2 : Nat} {listed listed2 : Array Bool} {a : Act} {w : World} (F : Nat → Nat → Nat → World → Prop) {A1 : Nat → Nat → Nat → Act}
  (h : (∀ x0 x1 x2 w', F x0 x1 x2 w' → S w' → wpAnyH P md ops Q S fuel2 listed2 (A1 x0 x1 x2) w') → wpAnyH P md ops Q S fuel listed a w) (hk : ∀ x0 x1 x2 w', F x0 x1 x2 w' → S w' → wpAnyH P md ops Q S fuel2 listed2 (A1 x0 x1 x2) w') : wpAnyH P md ops Q S fuel listed a w := h hk
theorem wpAnyH_via4 {P : Program} {md : Region.Mode} {ops : Array Oper} {Q : Exit → Act → World → Prop} {S : World → Prop} {fuel fuel2 : Nat} {listed listed2 : Array Bool} {a : Act} {w : World} (F : Nat → Nat → Nat → Nat → World → Prop) {A1 : Nat → Nat → Nat → Nat → Act}
  (h : (∀ x0 x1 x2 x3 w', F x0 x1 x2 x3 w' → S w' → wpAnyH P md ops Q S fuel2 listed2 (A1 x0 x1 x2 x3) w') → wpAnyH P md ops Q S fuel listed a w) (hk : ∀ x0 x1 x2 x3 w', F x0 x1 x2 x3 w' → S w' → wpAnyH P md ops Q S fuel2 listed2 (A1 x0 x1 x2 x3) w') : wpAnyH P md ops Q S fuel listed a w := h hk
theorem wpAnyH_via9 {P : Program} {md : Region.Mode} {ops : Array Oper} {Q : Exit → Act → World → Prop} {S : World → Prop} {fuel fuel2 : Nat} {listed listed2 : Array Bool} {a : Act} {w : World} (F : Nat → Nat → Nat → Nat → Nat → Nat → Nat → Nat → Nat → World → Prop) {A1 : Nat → Nat → Nat → Nat → Nat → Nat → Nat → Nat → Nat → Act}
  (h : (∀ x0 x1 x2 x3 x4 x5 x6 x7 x8 w', F x0 x1 x2 x3 x4 x5 x6 x7 x8 w' → S w' → wpAnyH P md ops Q S fuel2 listed2 (A1 x0 x1 x2 x3 x4 x5 x6 x7 x8) w') → wpAnyH P md ops Q S fuel listed a w) (hk : ∀ x0 x1 x2 x3 x4 x5 x6 x7 x8 w', F x0 x1 x2 x3 x4 x5 x6 x7 x8 w' → S w' → wpAnyH P md ops Q S fuel2 listed2 (A1 x0 x1 x2 x3 x4 x5 x6 x7 x8) w') : wpAnyH P md ops Q S fuel listed a w := h hk
set_option maxHeartbeats 16000000 in
theorem tunnelFlows_any (w : World) : Calls Tryz.prog 27 #[] w fun e w' => ∃ u, e = .returned u ∧ FR w' w.heap.size u tunnelFl ∧ Below w.heap.size w w' := by
 obtain ⟨iM, hiM, zM0, zM1, zM2⟩ := info_parts infoMatch
 obtain ⟨iD, hiD, zD0, zD1, zD2⟩ := info_parts infoDoes
 obtain ⟨iF, hiF, zF0, zF1, zF2⟩ := info_parts infoFlow
 go_enter Tryz.func27, Tryz.ntmps27
 go_wp2_with fail
 refine (is_any _ _ _).mono ?_
 rintro e V0 ⟨rfl, hb0⟩
 go_wp2_with fail
 obtain ⟨W, hW⟩ : ∃ W, W = V0.alloc (.cells #[.int .i64 0, .int .i64 65535, .int .i64 0] 95) := ⟨_, rfl⟩
 rw [← hW]
 obtain ⟨tb, htb⟩ : ∃ tb, tb = V0.heap.size := ⟨_, rfl⟩
 have k0 : W.cell? ⟨tb, 0, none⟩ = some (.int .i64 0) := by rw [hW, htb]; exact new_cell V0 _ rfl _ _ _ _ rfl
 have k1 : W.cell? ⟨tb, 1, none⟩ = some (.int .i64 65535) := by rw [hW, htb]; exact new_cell V0 _ rfl _ _ _ _ rfl
 have k2 : W.cell? ⟨tb, 2, none⟩ = some (.int .i64 0) := by rw [hW, htb]; exact new_cell V0 _ rfl _ _ _ _ rfl
 have htl : tb < W.heap.size := by rw [hW, htb]; simp
 have HB : Below w.heap.size w W := by rw [hW]; exact hb0.alloc hb0.size _
 rw [← htb]
 clear hW htb hb0
 have hs0_2 := HB.size
 refine wp_region_held_drew (S := (fun w' => w'.cell? ⟨tb, 0, none⟩ = some (.int .i64 0) ∧ w'.cell? ⟨tb, 1, none⟩ = some (.int .i64 65535) ∧ w'.cell? ⟨tb, 2, none⟩ = some (.int .i64 0))) (by kernel_rfl) ⟨k0, k1, k2⟩ (fun hHeld => ?_)
 have HDW : Below W.heap.size W W.drew := (Below.refl _ _).drew
 have hs1 := HDW.size
 replace k0 := zC k0 HDW
 replace k1 := zC k1 HDW
 replace k2 := zC k2 HDW
 replace HB := tm HB HDW
 clear HDW
 generalize W.drew = V2 at *
 refine tk (i := 1) (d := 4) rfl (by kernel_rfl) (fun _ _ _ h => h) rfl ‹_› (by intro w h; (try dsimp only at h); go_simp <;> with_reducible rfl) ?_
 simp only [nz]
 refine tk (i := 8) (d := 11) rfl (by kernel_rfl) (fun _ _ _ h => h) rfl ‹_› (by intro w h; (try dsimp only at h); go_simp <;> with_reducible rfl) ?_
 simp only [nz]
 apply wpAnyH_via9 (fun gA cA gL gB cB gD gE cE gM w' => (w'.cell? ⟨tb, 0, none⟩ = some (.int .i64 0) ∧ w'.cell? ⟨tb, 1, none⟩ = some (.int .i64 65535) ∧ w'.cell? ⟨tb, 2, none⟩ = some (.int .i64 0)) ∧ w'.ownsRow w.heap.size 95 3 (.slice (some ⟨gB, 0, none⟩) 3 cB) 3 (M dataMs ++ M [isM 0 0]) ∧ w'.ownsRow w.heap.size 98 3 (.slice (some ⟨gD, 0, none⟩) 1 1) 1 (D [gotoD 4]) ∧ w'.ownsRow w.heap.size 95 3 (.slice (some ⟨gE, 0, none⟩) 3 cE) 3 (M (bareMs 2)) ∧ w'.ownsRow w.heap.size 95 3 (.slice (some ⟨gM, 0, none⟩) 1 1) 1 (M [isM 0 0]) ∧ Below w.heap.size w w' ∧ tb ≠ gB ∧ tb ≠ gD ∧ tb ≠ gE ∧ tb ≠ gM ∧ gB ≠ gD ∧ gB ≠ gE ∧ gB ≠ gM ∧ gD ≠ gE ∧ gD ≠ gM ∧ gE ≠ gM)
 ·intro HK2
  apply wpAnyH_via4 (fun gA cA gL gM w' => (w'.cell? ⟨tb, 0, none⟩ = some (.int .i64 0) ∧ w'.cell? ⟨tb, 1, none⟩ = some (.int .i64 65535) ∧ w'.cell? ⟨tb, 2, none⟩ = some (.int .i64 0)) ∧ w'.ownsRow w.heap.size 95 3 (.slice (some ⟨gA, 0, none⟩) 2 cA) 2 (M dataMs) ∧ w'.ownsRow w.heap.size 95 3 (.slice (some ⟨gL, 0, none⟩) 1 1) 1 (M [isM 0 0]) ∧ w'.ownsRow w.heap.size 95 3 (.slice (some ⟨gM, 0, none⟩) 1 1) 1 (M [isM 0 0]) ∧ Below w.heap.size w w' ∧ tb ≠ gA ∧ tb ≠ gL ∧ tb ≠ gM ∧ gA ≠ gL ∧ gA ≠ gM ∧ gL ≠ gM)
  ·intro HK3
   apply wpAnyH_via3 (fun gA cA gL w' => (w'.cell? ⟨tb, 0, none⟩ = some (.int .i64 0) ∧ w'.cell? ⟨tb, 1, none⟩ = some (.int .i64 65535) ∧ w'.cell? ⟨tb, 2, none⟩ = some (.int .i64 0)) ∧ w'.ownsRow w.heap.size 95 3 (.slice (some ⟨gA, 0, none⟩) 2 cA) 2 (M dataMs) ∧ w'.ownsRow w.heap.size 95 3 (.slice (some ⟨gL, 0, none⟩) 1 1) 1 (M [isM 0 0]) ∧ Below w.heap.size w w' ∧ tb ≠ gA ∧ tb ≠ gL ∧ gA ≠ gL)
   ·intro HK1
    have hHeld := hHeld
    refine wpAnyH_ready (rs := [0, 2, 9]) (by kernel_rfl) (by simp) ?_
    refine (AllReadyH.cons (o := ⟨some 3, _, _, _, _, _⟩) rfl (fun K hK => ?_) (AllReadyH.cons (o := ⟨some 5, _, _, _, _, _⟩) rfl (fun K hK => ?_) (AllReadyH.cons (o := ⟨some 12, _, _, _, _, _⟩) rfl (fun K hK => ?_) AllReadyH.nil)))
    ·go_simp
     clear hHeld
     have HBold := HB.size
     refine (dataMatches_any _).mono ?_
     rintro e V3 ⟨u3, rfl, ho3, hb3⟩
     have hs4 := hb3.size
     replace k0 := zC k0 hb3
     replace k1 := zC k1 hb3
     replace k2 := zC k2 hb3
     replace HB := tm HB hb3
     obtain ⟨g5, c5, rfl, hg5, hl5⟩ := own_blk ho3 (by decide)
     have HA := hide (own_less ho3 (Nat.le_trans HBold (Nat.le_refl _)))
     clear ho3 HBold
     clear hb3
     refine hK.out _ _ ⟨k0, k1, k2⟩ (fun hHeld => ?_)
     clear hK K
     (try simp only [nz])
     refine wpAnyH_ready (rs := [2, 9]) (by kernel_rfl) (by simp) ?_
     refine (AllReadyH.cons (o := ⟨some 5, _, _, _, _, _⟩) rfl (fun K hK => ?_) (AllReadyH.cons (o := ⟨some 12, _, _, _, _, _⟩) rfl (fun K hK => ?_) AllReadyH.nil))
     ·go_simp
      clear hHeld
      refine alloc_step (fun V6 g6 hV hg => ?_)
      rw [← hg]
      have hbN := bn hV
      have hg6 : V3.heap.size ≤ g6 := by omega
      have hl6 := ln hV hg
      have HL1 : Hid (V6.ownsRow w.heap.size 95 3 (.slice (some ⟨g6, 0, none⟩) 1 1) 1 (M [isM 0 0])) := by rw [hV, hg]; exact hide (World.ownsRow_lit V3 _ 1 HB.size (by decide) rfl)
      have hs7 := hbN.size
      replace k0 := zC k0 hbN
      replace k1 := zC k1 hbN
      replace k2 := zC k2 hbN
      replace HA := ob HA hbN
      replace HB := tm HB hbN
      clear hV hg hbN
      refine hK.out _ _ ⟨k0, k1, k2⟩ (fun hHeld => ?_)
      clear hK K
      (try simp only [nz])
      exact HK1 g5 c5 g6 _ ⟨⟨k0, k1, k2⟩, HA.out, HL1.out, HB, by omega, by omega, by omega⟩ hHeld
     ·go_simp
      clear hHeld
      refine alloc_step (fun V6 g6 hV hg => ?_)
      rw [← hg]
      have hbN := bn hV
      have hg6 : V3.heap.size ≤ g6 := by omega
      have hl6 := ln hV hg
      have HL2 : Hid (V6.ownsRow w.heap.size 95 3 (.slice (some ⟨g6, 0, none⟩) 1 1) 1 (M [isM 0 0])) := by rw [hV, hg]; exact hide (World.ownsRow_lit V3 _ 1 HB.size (by decide) rfl)
      have hs7 := hbN.size
      replace k0 := zC k0 hbN
      replace k1 := zC k1 hbN
      replace k2 := zC k2 hbN
      replace HA := ob HA hbN
      replace HB := tm HB hbN
      clear hV hg hbN
      refine hK.out _ _ ⟨k0, k1, k2⟩ (fun hHeld => ?_)
      clear hK K
      (try simp only [nz])
      refine rd (i := 2) (o := ⟨some 5, _, _, _, _, _⟩) (by kernel_rfl) rfl (fun K hK => ?_)
      go_simp
      clear hHeld
      refine alloc_step (fun V8 g8 hV hg => ?_)
      rw [← hg]
      have hbN := bn hV
      have hg8 : V6.heap.size ≤ g8 := by omega
      have hl8 := ln hV hg
      have HL1 : Hid (V8.ownsRow w.heap.size 95 3 (.slice (some ⟨g8, 0, none⟩) 1 1) 1 (M [isM 0 0])) := by rw [hV, hg]; exact hide (World.ownsRow_lit V6 _ 1 HB.size (by decide) rfl)
      have hs9 := hbN.size
      replace k0 := zC k0 hbN
      replace k1 := zC k1 hbN
      replace k2 := zC k2 hbN
      replace HA := ob HA hbN
      replace HL2 := ob HL2 hbN
      replace HB := tm HB hbN
      clear hV hg hbN
      refine hK.out _ _ ⟨k0, k1, k2⟩ (fun hHeld => ?_)
      clear hK K
      (try simp only [nz])
      exact HK3 g5 c5 g8 g6 _ ⟨⟨k0, k1, k2⟩, HA.out, HL1.out, HL2.out, HB, by omega, by omega, by omega, by omega, by omega, by omega⟩ hHeld
    ·go_simp
     clear hHeld
     refine alloc_step (fun V3 g3 hV hg => ?_)
     rw [← hg]
     have hbN := bn hV
     have hg3 : V2.heap.size ≤ g3 := by omega
     have hl3 := ln hV hg
     have HL1 : Hid (V3.ownsRow w.heap.size 95 3 (.slice (some ⟨g3, 0, none⟩) 1 1) 1 (M [isM 0 0])) := by rw [hV, hg]; exact hide (World.ownsRow_lit V2 _ 1 HB.size (by decide) rfl)
     have hs4 := hbN.size
     replace k0 := zC k0 hbN
     replace k1 := zC k1 hbN
     replace k2 := zC k2 hbN
     replace HB := tm HB hbN
     clear hV hg hbN
     refine hK.out _ _ ⟨k0, k1, k2⟩ (fun hHeld => ?_)
     clear hK K
     (try simp only [nz])
     refine wpAnyH_ready (rs := [0, 9]) (by kernel_rfl) (by simp) ?_
     refine (AllReadyH.cons (o := ⟨some 3, _, _, _, _, _⟩) rfl (fun K hK => ?_) (AllReadyH.cons (o := ⟨some 12, _, _, _, _, _⟩) rfl (fun K hK => ?_) AllReadyH.nil))
     ·go_simp
      clear hHeld
      have HBold := HB.size
      refine (dataMatches_any _).mono ?_
      rintro e V5 ⟨u5, rfl, ho5, hb5⟩
      have hs6 := hb5.size
      replace k0 := zC k0 hb5
      replace k1 := zC k1 hb5
      replace k2 := zC k2 hb5
      replace HL1 := ob HL1 hb5
      replace HB := tm HB hb5
      obtain ⟨g7, c7, rfl, hg7, hl7⟩ := own_blk ho5 (by decide)
      have HA := hide (own_less ho5 (Nat.le_trans HBold (Nat.le_refl _)))
      clear ho5 HBold
      clear hb5
      refine hK.out _ _ ⟨k0, k1, k2⟩ (fun hHeld => ?_)
      clear hK K
      (try simp only [nz])
      exact HK1 g7 c7 g3 _ ⟨⟨k0, k1, k2⟩, HA.out, HL1.out, HB, by omega, by omega, by omega⟩ hHeld
     ·go_simp
      clear hHeld
      refine alloc_step (fun V5 g5 hV hg => ?_)
      rw [← hg]
      have hbN := bn hV
      have hg5 : V3.heap.size ≤ g5 := by omega
      have hl5 := ln hV hg
      have HL2 : Hid (V5.ownsRow w.heap.size 95 3 (.slice (some ⟨g5, 0, none⟩) 1 1) 1 (M [isM 0 0])) := by rw [hV, hg]; exact hide (World.ownsRow_lit V3 _ 1 HB.size (by decide) rfl)
      have hs6 := hbN.size
      replace k0 := zC k0 hbN
      replace k1 := zC k1 hbN
      replace k2 := zC k2 hbN
      replace HL1 := ob HL1 hbN
      replace HB := tm HB hbN
      clear hV hg hbN
      refine hK.out _ _ ⟨k0, k1, k2⟩ (fun hHeld => ?_)
      clear hK K
      (try simp only [nz])
      refine rd (i := 0) (o := ⟨some 3, _, _, _, _, _⟩) (by kernel_rfl) rfl (fun K hK => ?_)
      go_simp
      clear hHeld
      have HBold := HB.size
      refine (dataMatches_any _).mono ?_
      rintro e V7 ⟨u7, rfl, ho7, hb7⟩
      have hs8 := hb7.size
      replace k0 := zC k0 hb7
      replace k1 := zC k1 hb7
      replace k2 := zC k2 hb7
      replace HL1 := ob HL1 hb7
      replace HL2 := ob HL2 hb7
      replace HB := tm HB hb7
      obtain ⟨g9, c9, rfl, hg9, hl9⟩ := own_blk ho7 (by decide)
      have HA := hide (own_less ho7 (Nat.le_trans HBold (Nat.le_refl _)))
      clear ho7 HBold
      clear hb7
      refine hK.out _ _ ⟨k0, k1, k2⟩ (fun hHeld => ?_)
      clear hK K
      (try simp only [nz])
      exact HK3 g9 c9 g3 g5 _ ⟨⟨k0, k1, k2⟩, HA.out, HL1.out, HL2.out, HB, by omega, by omega, by omega, by omega, by omega, by omega⟩ hHeld
    ·go_simp
     clear hHeld
     refine alloc_step (fun V3 g3 hV hg => ?_)
     rw [← hg]
     have hbN := bn hV
     have hg3 : V2.heap.size ≤ g3 := by omega
     have hl3 := ln hV hg
     have HL2 : Hid (V3.ownsRow w.heap.size 95 3 (.slice (some ⟨g3, 0, none⟩) 1 1) 1 (M [isM 0 0])) := by rw [hV, hg]; exact hide (World.ownsRow_lit V2 _ 1 HB.size (by decide) rfl)
     have hs4 := hbN.size
     replace k0 := zC k0 hbN
     replace k1 := zC k1 hbN
     replace k2 := zC k2 hbN
     replace HB := tm HB hbN
     clear hV hg hbN
     refine hK.out _ _ ⟨k0, k1, k2⟩ (fun hHeld => ?_)
     clear hK K
     (try simp only [nz])
     refine wpAnyH_ready (rs := [0, 2]) (by kernel_rfl) (by simp) ?_
     refine (AllReadyH.cons (o := ⟨some 3, _, _, _, _, _⟩) rfl (fun K hK => ?_) (AllReadyH.cons (o := ⟨some 5, _, _, _, _, _⟩) rfl (fun K hK => ?_) AllReadyH.nil))
     ·go_simp
      clear hHeld
      have HBold := HB.size
      refine (dataMatches_any _).mono ?_
      rintro e V5 ⟨u5, rfl, ho5, hb5⟩
      have hs6 := hb5.size
      replace k0 := zC k0 hb5
      replace k1 := zC k1 hb5
      replace k2 := zC k2 hb5
      replace HL2 := ob HL2 hb5
      replace HB := tm HB hb5
      obtain ⟨g7, c7, rfl, hg7, hl7⟩ := own_blk ho5 (by decide)
      have HA := hide (own_less ho5 (Nat.le_trans HBold (Nat.le_refl _)))
      clear ho5 HBold
      clear hb5
      refine hK.out _ _ ⟨k0, k1, k2⟩ (fun hHeld => ?_)
      clear hK K
      (try simp only [nz])
      refine rd (i := 2) (o := ⟨some 5, _, _, _, _, _⟩) (by kernel_rfl) rfl (fun K hK => ?_)
      go_simp
      clear hHeld
      refine alloc_step (fun V8 g8 hV hg => ?_)
      rw [← hg]
      have hbN := bn hV
      have hg8 : V5.heap.size ≤ g8 := by omega
      have hl8 := ln hV hg
      have HL1 : Hid (V8.ownsRow w.heap.size 95 3 (.slice (some ⟨g8, 0, none⟩) 1 1) 1 (M [isM 0 0])) := by rw [hV, hg]; exact hide (World.ownsRow_lit V5 _ 1 HB.size (by decide) rfl)
      have hs9 := hbN.size
      replace k0 := zC k0 hbN
      replace k1 := zC k1 hbN
      replace k2 := zC k2 hbN
      replace HL2 := ob HL2 hbN
      replace HA := ob HA hbN
      replace HB := tm HB hbN
      clear hV hg hbN
      refine hK.out _ _ ⟨k0, k1, k2⟩ (fun hHeld => ?_)
      clear hK K
      (try simp only [nz])
      exact HK3 g7 c7 g8 g3 _ ⟨⟨k0, k1, k2⟩, HA.out, HL1.out, HL2.out, HB, by omega, by omega, by omega, by omega, by omega, by omega⟩ hHeld
     ·go_simp
      clear hHeld
      refine alloc_step (fun V5 g5 hV hg => ?_)
      rw [← hg]
      have hbN := bn hV
      have hg5 : V3.heap.size ≤ g5 := by omega
      have hl5 := ln hV hg
      have HL1 : Hid (V5.ownsRow w.heap.size 95 3 (.slice (some ⟨g5, 0, none⟩) 1 1) 1 (M [isM 0 0])) := by rw [hV, hg]; exact hide (World.ownsRow_lit V3 _ 1 HB.size (by decide) rfl)
      have hs6 := hbN.size
      replace k0 := zC k0 hbN
      replace k1 := zC k1 hbN
      replace k2 := zC k2 hbN
      replace HL2 := ob HL2 hbN
      replace HB := tm HB hbN
      clear hV hg hbN
      refine hK.out _ _ ⟨k0, k1, k2⟩ (fun hHeld => ?_)
      clear hK K
      (try simp only [nz])
      refine rd (i := 0) (o := ⟨some 3, _, _, _, _, _⟩) (by kernel_rfl) rfl (fun K hK => ?_)
      go_simp
      clear hHeld
      have HBold := HB.size
      refine (dataMatches_any _).mono ?_
      rintro e V7 ⟨u7, rfl, ho7, hb7⟩
      have hs8 := hb7.size
      replace k0 := zC k0 hb7
      replace k1 := zC k1 hb7
      replace k2 := zC k2 hb7
      replace HL2 := ob HL2 hb7
      replace HL1 := ob HL1 hb7
      replace HB := tm HB hb7
      obtain ⟨g9, c9, rfl, hg9, hl9⟩ := own_blk ho7 (by decide)
      have HA := hide (own_less ho7 (Nat.le_trans HBold (Nat.le_refl _)))
      clear ho7 HBold
      clear hb7
      refine hK.out _ _ ⟨k0, k1, k2⟩ (fun hHeld => ?_)
      clear hK K
      (try simp only [nz])
      exact HK3 g9 c9 g5 g3 _ ⟨⟨k0, k1, k2⟩, HA.out, HL1.out, HL2.out, HB, by omega, by omega, by omega, by omega, by omega, by omega⟩ hHeld
   ·intro gA cA gL V200 hF hHeld
    obtain ⟨⟨k0, k1, k2⟩, hHA, hHL1, HB, ne0, ne1, ne2⟩ := hF
    have HA := hide hHA
    have HL1 := hide hHL1
    have lHA : gA < V200.heap.size := own_in hHA rfl
    have lHL1 : gL < V200.heap.size := own_in hHL1 rfl
    have gHA : w.heap.size ≤ gA := own_ge hHA _ rfl
    have gHL1 : w.heap.size ≤ gL := own_ge hHL1 _ rfl
    clear hHA hHL1
    have lk := cell_in k0
    have hsz := HB.size
    have hHeld := hHeld
    refine wpAnyH_ready (rs := [3, 9]) (by kernel_rfl) (by simp) ?_
    refine (AllReadyH.cons (o := ⟨some 6, _, _, _, _, _⟩) rfl (fun K hK => ?_) (AllReadyH.cons (o := ⟨some 12, _, _, _, _, _⟩) rfl (fun K hK => ?_) AllReadyH.nil))
    ·clear hHeld
     refine step_append_lies _ rfl (.tmp 3) (.tmp 5) 87 rfl w.heap.size 95 iM _ 3 24 Tryz.underlying87 hiM zM0 zM1 zM2 rfl (by decide) (.slice (some ⟨gA, 0, none⟩) 2 cA) 2 _ rfl (unhide HA) ⟨gL, 0, none⟩ 1 1 _ rfl rfl (HL1.out.cells rfl) (M_one _) (by decide) (by decide) (by decide) HB.size _ rfl ?_
     intro g201 c201 V201 ho201 hgr ha hl201
     replace hgr : V200.grownBy V201 (some gA) := hgr
     replace ha : some gA = some g201 ∨ g201 = V200.heap.size := ha
     have hs201 := hgr.size
     have hge201 : g201 = gA ∨ g201 = V200.heap.size := by rcases ha with h | h; exact .inl (Option.some.inj h).symm; exact .inr h
     replace k0 := far_cell hgr k0 (by omega)
     replace k1 := far_cell hgr k1 (by omega)
     replace k2 := far_cell hgr k2 (by omega)
     replace HB := HB.grown hgr HB.size (fun k hk => by cases hk; omega)
     clear HA HL1
     have HA := hide ho201
     clear ho201 hgr ha
     refine hK.out _ _ ⟨k0, k1, k2⟩ (fun hHeld => ?_)
     clear hK K
     (try simp only [nz])
     refine wpAnyH_ready (rs := [4, 9]) (by kernel_rfl) (by simp) ?_
     refine (AllReadyH.cons (o := ⟨some 7, _, _, _, _, _⟩) rfl (fun K hK => ?_) (AllReadyH.cons (o := ⟨some 12, _, _, _, _, _⟩) rfl (fun K hK => ?_) AllReadyH.nil))
     ·go_simp
      clear hHeld
      refine (does_any _ _ _ _).mono ?_
      rintro e V202 ⟨rfl, hb202⟩
      have hs203 := hb202.size
      replace k0 := zC k0 hb202
      replace k1 := zC k1 hb202
      replace k2 := zC k2 hb202
      replace HA := ob HA hb202
      replace HB := tm HB hb202
      clear hb202
      refine hK.out _ _ ⟨k0, k1, k2⟩ (fun hHeld => ?_)
      clear hK K
      (try simp only [nz])
      refine wpAnyH_ready (rs := [5, 9]) (by kernel_rfl) (by simp) ?_
      refine (AllReadyH.cons (o := ⟨some 8, _, _, _, _, _⟩) rfl (fun K hK => ?_) (AllReadyH.cons (o := ⟨some 12, _, _, _, _, _⟩) rfl (fun K hK => ?_) AllReadyH.nil))
      ·go_simp
       clear hHeld
       refine alloc_step (fun V204 g204 hV hg => ?_)
       rw [← hg]
       have hbN := bn hV
       have hg204 : V202.heap.size ≤ g204 := by omega
       have hl204 := ln hV hg
       have HD1 : Hid (V204.ownsRow w.heap.size 98 3 (.slice (some ⟨g204, 0, none⟩) 1 1) 1 (D [gotoD 4])) := by rw [hV, hg]; exact hide (World.ownsRow_lit V202 _ 1 HB.size (by decide) rfl)
       have hs205 := hbN.size
       replace k0 := zC k0 hbN
       replace k1 := zC k1 hbN
       replace k2 := zC k2 hbN
       replace HA := ob HA hbN
       replace HB := tm HB hbN
       clear hV hg hbN
       refine hK.out _ _ ⟨k0, k1, k2⟩ (fun hHeld => ?_)
       clear hK K
       (try simp only [nz])
       refine wpAnyH_ready (rs := [6, 9]) (by kernel_rfl) (by simp) ?_
       refine (AllReadyH.cons (o := ⟨some 9, _, _, _, _, _⟩) rfl (fun K hK => ?_) (AllReadyH.cons (o := ⟨some 12, _, _, _, _, _⟩) rfl (fun K hK => ?_) AllReadyH.nil))
       ·go_simp
        clear hHeld
        refine (flowOf_any _ _ _ _ _ _ _ _ _).mono ?_
        rintro e V206 ⟨rfl, hb206⟩
        have hs207 := hb206.size
        replace k0 := zC k0 hb206
        replace k1 := zC k1 hb206
        replace k2 := zC k2 hb206
        replace HA := ob HA hb206
        replace HD1 := ob HD1 hb206
        replace HB := tm HB hb206
        clear hb206
        refine hK.out _ _ ⟨k0, k1, k2⟩ (fun hHeld => ?_)
        clear hK K
        (try simp only [nz])
        refine wpAnyH_ready (rs := [7, 9]) (by kernel_rfl) (by simp) ?_
        refine (AllReadyH.cons (o := ⟨some 10, _, _, _, _, _⟩) rfl (fun K hK => ?_) (AllReadyH.cons (o := ⟨some 12, _, _, _, _, _⟩) rfl (fun K hK => ?_) AllReadyH.nil))
        ·go_simp
         clear hHeld
         have HBold := HB.size
         refine (bareMatches_any _ _).mono ?_
         rintro e V208 ⟨u208, rfl, ho208, hb208⟩
         have hs209 := hb208.size
         replace k0 := zC k0 hb208
         replace k1 := zC k1 hb208
         replace k2 := zC k2 hb208
         replace HA := ob HA hb208
         replace HD1 := ob HD1 hb208
         replace HB := tm HB hb208
         obtain ⟨g210, c210, rfl, hg210, hl210⟩ := own_blk ho208 (by decide)
         have HE := hide (own_less ho208 (Nat.le_trans HBold (Nat.le_refl _)))
         clear ho208 HBold
         clear hb208
         refine hK.out _ _ ⟨k0, k1, k2⟩ (fun hHeld => ?_)
         clear hK K
         (try simp only [nz])
         refine rd (i := 9) (o := ⟨some 12, _, _, _, _, _⟩) (by kernel_rfl) rfl (fun K hK => ?_)
         go_simp
         clear hHeld
         refine alloc_step (fun V211 g211 hV hg => ?_)
         rw [← hg]
         have hbN := bn hV
         have hg211 : V208.heap.size ≤ g211 := by omega
         have hl211 := ln hV hg
         have HL2 : Hid (V211.ownsRow w.heap.size 95 3 (.slice (some ⟨g211, 0, none⟩) 1 1) 1 (M [isM 0 0])) := by rw [hV, hg]; exact hide (World.ownsRow_lit V208 _ 1 HB.size (by decide) rfl)
         have hs212 := hbN.size
         replace k0 := zC k0 hbN
         replace k1 := zC k1 hbN
         replace k2 := zC k2 hbN
         replace HA := ob HA hbN
         replace HD1 := ob HD1 hbN
         replace HE := ob HE hbN
         replace HB := tm HB hbN
         clear hV hg hbN
         refine hK.out _ _ ⟨k0, k1, k2⟩ (fun hHeld => ?_)
         clear hK K
         (try simp only [nz])
         exact HK2 gA cA gL g201 c201 g204 g210 c210 g211 _ ⟨⟨k0, k1, k2⟩, HA.out, HD1.out, HE.out, HL2.out, HB, by omega, by omega, by omega, by omega, by omega, by omega, by omega, by omega, by omega, by omega⟩ hHeld
        ·go_simp
         clear hHeld
         refine alloc_step (fun V208 g208 hV hg => ?_)
         rw [← hg]
         have hbN := bn hV
         have hg208 : V206.heap.size ≤ g208 := by omega
         have hl208 := ln hV hg
         have HL2 : Hid (V208.ownsRow w.heap.size 95 3 (.slice (some ⟨g208, 0, none⟩) 1 1) 1 (M [isM 0 0])) := by rw [hV, hg]; exact hide (World.ownsRow_lit V206 _ 1 HB.size (by decide) rfl)
         have hs209 := hbN.size
         replace k0 := zC k0 hbN
         replace k1 := zC k1 hbN
         replace k2 := zC k2 hbN
         replace HA := ob HA hbN
         replace HD1 := ob HD1 hbN
         replace HB := tm HB hbN
         clear hV hg hbN
         refine hK.out _ _ ⟨k0, k1, k2⟩ (fun hHeld => ?_)
         clear hK K
         (try simp only [nz])
         refine rd (i := 7) (o := ⟨some 10, _, _, _, _, _⟩) (by kernel_rfl) rfl (fun K hK => ?_)
         go_simp
         clear hHeld
         have HBold := HB.size
         refine (bareMatches_any _ _).mono ?_
         rintro e V210 ⟨u210, rfl, ho210, hb210⟩
         have hs211 := hb210.size
         replace k0 := zC k0 hb210
         replace k1 := zC k1 hb210
         replace k2 := zC k2 hb210
         replace HA := ob HA hb210
         replace HD1 := ob HD1 hb210
         replace HL2 := ob HL2 hb210
         replace HB := tm HB hb210
         obtain ⟨g212, c212, rfl, hg212, hl212⟩ := own_blk ho210 (by decide)
         have HE := hide (own_less ho210 (Nat.le_trans HBold (Nat.le_refl _)))
         clear ho210 HBold
         clear hb210
         refine hK.out _ _ ⟨k0, k1, k2⟩ (fun hHeld => ?_)
         clear hK K
         (try simp only [nz])
         exact HK2 gA cA gL g201 c201 g204 g212 c212 g208 _ ⟨⟨k0, k1, k2⟩, HA.out, HD1.out, HE.out, HL2.out, HB, by omega, by omega, by omega, by omega, by omega, by omega, by omega, by omega, by omega, by omega⟩ hHeld
       ·go_simp
        clear hHeld
        refine alloc_step (fun V206 g206 hV hg => ?_)
        rw [← hg]
        have hbN := bn hV
        have hg206 : V204.heap.size ≤ g206 := by omega
        have hl206 := ln hV hg
        have HL2 : Hid (V206.ownsRow w.heap.size 95 3 (.slice (some ⟨g206, 0, none⟩) 1 1) 1 (M [isM 0 0])) := by rw [hV, hg]; exact hide (World.ownsRow_lit V204 _ 1 HB.size (by decide) rfl)
        have hs207 := hbN.size
        replace k0 := zC k0 hbN
        replace k1 := zC k1 hbN
        replace k2 := zC k2 hbN
        replace HA := ob HA hbN
        replace HD1 := ob HD1 hbN
        replace HB := tm HB hbN
        clear hV hg hbN
        refine hK.out _ _ ⟨k0, k1, k2⟩ (fun hHeld => ?_)
        clear hK K
        (try simp only [nz])
        refine rd (i := 6) (o := ⟨some 9, _, _, _, _, _⟩) (by kernel_rfl) rfl (fun K hK => ?_)
        go_simp
        clear hHeld
        refine (flowOf_any _ _ _ _ _ _ _ _ _).mono ?_
        rintro e V208 ⟨rfl, hb208⟩
        have hs209 := hb208.size
        replace k0 := zC k0 hb208
        replace k1 := zC k1 hb208
        replace k2 := zC k2 hb208
        replace HA := ob HA hb208
        replace HD1 := ob HD1 hb208
        replace HL2 := ob HL2 hb208
        replace HB := tm HB hb208
        clear hb208
        refine hK.out _ _ ⟨k0, k1, k2⟩ (fun hHeld => ?_)
        clear hK K
        (try simp only [nz])
        refine rd (i := 7) (o := ⟨some 10, _, _, _, _, _⟩) (by kernel_rfl) rfl (fun K hK => ?_)
        go_simp
        clear hHeld
        have HBold := HB.size
        refine (bareMatches_any _ _).mono ?_
        rintro e V210 ⟨u210, rfl, ho210, hb210⟩
        have hs211 := hb210.size
        replace k0 := zC k0 hb210
        replace k1 := zC k1 hb210
        replace k2 := zC k2 hb210
        replace HA := ob HA hb210
        replace HD1 := ob HD1 hb210
        replace HL2 := ob HL2 hb210
        replace HB := tm HB hb210
        obtain ⟨g212, c212, rfl, hg212, hl212⟩ := own_blk ho210 (by decide)
        have HE := hide (own_less ho210 (Nat.le_trans HBold (Nat.le_refl _)))
        clear ho210 HBold
        clear hb210
        refine hK.out _ _ ⟨k0, k1, k2⟩ (fun hHeld => ?_)
        clear hK K
        (try simp only [nz])
        exact HK2 gA cA gL g201 c201 g204 g212 c212 g206 _ ⟨⟨k0, k1, k2⟩, HA.out, HD1.out, HE.out, HL2.out, HB, by omega, by omega, by omega, by omega, by omega, by omega, by omega, by omega, by omega, by omega⟩ hHeld
      ·go_simp
       clear hHeld
       refine alloc_step (fun V204 g204 hV hg => ?_)
       rw [← hg]
       have hbN := bn hV
       have hg204 : V202.heap.size ≤ g204 := by omega
       have hl204 := ln hV hg
       have HL2 : Hid (V204.ownsRow w.heap.size 95 3 (.slice (some ⟨g204, 0, none⟩) 1 1) 1 (M [isM 0 0])) := by rw [hV, hg]; exact hide (World.ownsRow_lit V202 _ 1 HB.size (by decide) rfl)
       have hs205 := hbN.size
       replace k0 := zC k0 hbN
       replace k1 := zC k1 hbN
       replace k2 := zC k2 hbN
       replace HA := ob HA hbN
       replace HB := tm HB hbN
       clear hV hg hbN
       refine hK.out _ _ ⟨k0, k1, k2⟩ (fun hHeld => ?_)
       clear hK K
       (try simp only [nz])
       refine rd (i := 5) (o := ⟨some 8, _, _, _, _, _⟩) (by kernel_rfl) rfl (fun K hK => ?_)
       go_simp
       clear hHeld
       refine alloc_step (fun V206 g206 hV hg => ?_)
       rw [← hg]
       have hbN := bn hV
       have hg206 : V204.heap.size ≤ g206 := by omega
       have hl206 := ln hV hg
       have HD1 : Hid (V206.ownsRow w.heap.size 98 3 (.slice (some ⟨g206, 0, none⟩) 1 1) 1 (D [gotoD 4])) := by rw [hV, hg]; exact hide (World.ownsRow_lit V204 _ 1 HB.size (by decide) rfl)
       have hs207 := hbN.size
       replace k0 := zC k0 hbN
       replace k1 := zC k1 hbN
       replace k2 := zC k2 hbN
       replace HA := ob HA hbN
       replace HL2 := ob HL2 hbN
       replace HB := tm HB hbN
       clear hV hg hbN
       refine hK.out _ _ ⟨k0, k1, k2⟩ (fun hHeld => ?_)
       clear hK K
       (try simp only [nz])
       refine rd (i := 6) (o := ⟨some 9, _, _, _, _, _⟩) (by kernel_rfl) rfl (fun K hK => ?_)
       go_simp
       clear hHeld
       refine (flowOf_any _ _ _ _ _ _ _ _ _).mono ?_
       rintro e V208 ⟨rfl, hb208⟩
       have hs209 := hb208.size
       replace k0 := zC k0 hb208
       replace k1 := zC k1 hb208
       replace k2 := zC k2 hb208
       replace HA := ob HA hb208
       replace HL2 := ob HL2 hb208
       replace HD1 := ob HD1 hb208
       replace HB := tm HB hb208
       clear hb208
       refine hK.out _ _ ⟨k0, k1, k2⟩ (fun hHeld => ?_)
       clear hK K
       (try simp only [nz])
       refine rd (i := 7) (o := ⟨some 10, _, _, _, _, _⟩) (by kernel_rfl) rfl (fun K hK => ?_)
       go_simp
       clear hHeld
       have HBold := HB.size
       refine (bareMatches_any _ _).mono ?_
       rintro e V210 ⟨u210, rfl, ho210, hb210⟩
       have hs211 := hb210.size
       replace k0 := zC k0 hb210
       replace k1 := zC k1 hb210
       replace k2 := zC k2 hb210
       replace HA := ob HA hb210
       replace HL2 := ob HL2 hb210
       replace HD1 := ob HD1 hb210
       replace HB := tm HB hb210
       obtain ⟨g212, c212, rfl, hg212, hl212⟩ := own_blk ho210 (by decide)
       have HE := hide (own_less ho210 (Nat.le_trans HBold (Nat.le_refl _)))
       clear ho210 HBold
       clear hb210
       refine hK.out _ _ ⟨k0, k1, k2⟩ (fun hHeld => ?_)
       clear hK K
       (try simp only [nz])
       exact HK2 gA cA gL g201 c201 g206 g212 c212 g204 _ ⟨⟨k0, k1, k2⟩, HA.out, HD1.out, HE.out, HL2.out, HB, by omega, by omega, by omega, by omega, by omega, by omega, by omega, by omega, by omega, by omega⟩ hHeld
     ·go_simp
      clear hHeld
      refine alloc_step (fun V202 g202 hV hg => ?_)
      rw [← hg]
      have hbN := bn hV
      have hg202 : V201.heap.size ≤ g202 := by omega
      have hl202 := ln hV hg
      have HL2 : Hid (V202.ownsRow w.heap.size 95 3 (.slice (some ⟨g202, 0, none⟩) 1 1) 1 (M [isM 0 0])) := by rw [hV, hg]; exact hide (World.ownsRow_lit V201 _ 1 HB.size (by decide) rfl)
      have hs203 := hbN.size
      replace k0 := zC k0 hbN
      replace k1 := zC k1 hbN
      replace k2 := zC k2 hbN
      replace HA := ob HA hbN
      replace HB := tm HB hbN
      clear hV hg hbN
      refine hK.out _ _ ⟨k0, k1, k2⟩ (fun hHeld => ?_)
      clear hK K
      (try simp only [nz])
      refine rd (i := 4) (o := ⟨some 7, _, _, _, _, _⟩) (by kernel_rfl) rfl (fun K hK => ?_)
      go_simp
      clear hHeld
      refine (does_any _ _ _ _).mono ?_
      rintro e V204 ⟨rfl, hb204⟩
      have hs205 := hb204.size
      replace k0 := zC k0 hb204
      replace k1 := zC k1 hb204
      replace k2 := zC k2 hb204
      replace HA := ob HA hb204
      replace HL2 := ob HL2 hb204
      replace HB := tm HB hb204
      clear hb204
      refine hK.out _ _ ⟨k0, k1, k2⟩ (fun hHeld => ?_)
      clear hK K
      (try simp only [nz])
      refine rd (i := 5) (o := ⟨some 8, _, _, _, _, _⟩) (by kernel_rfl) rfl (fun K hK => ?_)
      go_simp
      clear hHeld
      refine alloc_step (fun V206 g206 hV hg => ?_)
      rw [← hg]
      have hbN := bn hV
      have hg206 : V204.heap.size ≤ g206 := by omega
      have hl206 := ln hV hg
      have HD1 : Hid (V206.ownsRow w.heap.size 98 3 (.slice (some ⟨g206, 0, none⟩) 1 1) 1 (D [gotoD 4])) := by rw [hV, hg]; exact hide (World.ownsRow_lit V204 _ 1 HB.size (by decide) rfl)
      have hs207 := hbN.size
      replace k0 := zC k0 hbN
      replace k1 := zC k1 hbN
      replace k2 := zC k2 hbN
      replace HA := ob HA hbN
      replace HL2 := ob HL2 hbN
      replace HB := tm HB hbN
      clear hV hg hbN
      refine hK.out _ _ ⟨k0, k1, k2⟩ (fun hHeld => ?_)
      clear hK K
      (try simp only [nz])
      refine rd (i := 6) (o := ⟨some 9, _, _, _, _, _⟩) (by kernel_rfl) rfl (fun K hK => ?_)
      go_simp
      clear hHeld
      refine (flowOf_any _ _ _ _ _ _ _ _ _).mono ?_
      rintro e V208 ⟨rfl, hb208⟩
      have hs209 := hb208.size
      replace k0 := zC k0 hb208
      replace k1 := zC k1 hb208
      replace k2 := zC k2 hb208
      replace HA := ob HA hb208
      replace HL2 := ob HL2 hb208
      replace HD1 := ob HD1 hb208
      replace HB := tm HB hb208
      clear hb208
      refine hK.out _ _ ⟨k0, k1, k2⟩ (fun hHeld => ?_)
      clear hK K
      (try simp only [nz])
      refine rd (i := 7) (o := ⟨some 10, _, _, _, _, _⟩) (by kernel_rfl) rfl (fun K hK => ?_)
      go_simp
      clear hHeld
      have HBold := HB.size
      refine (bareMatches_any _ _).mono ?_
      rintro e V210 ⟨u210, rfl, ho210, hb210⟩
      have hs211 := hb210.size
      replace k0 := zC k0 hb210
      replace k1 := zC k1 hb210
      replace k2 := zC k2 hb210
      replace HA := ob HA hb210
      replace HL2 := ob HL2 hb210
      replace HD1 := ob HD1 hb210
      replace HB := tm HB hb210
      obtain ⟨g212, c212, rfl, hg212, hl212⟩ := own_blk ho210 (by decide)
      have HE := hide (own_less ho210 (Nat.le_trans HBold (Nat.le_refl _)))
      clear ho210 HBold
      clear hb210
      refine hK.out _ _ ⟨k0, k1, k2⟩ (fun hHeld => ?_)
      clear hK K
      (try simp only [nz])
      exact HK2 gA cA gL g201 c201 g206 g212 c212 g202 _ ⟨⟨k0, k1, k2⟩, HA.out, HD1.out, HE.out, HL2.out, HB, by omega, by omega, by omega, by omega, by omega, by omega, by omega, by omega, by omega, by omega⟩ hHeld
    ·go_simp
     clear hHeld
     refine alloc_step (fun V201 g201 hV hg => ?_)
     rw [← hg]
     have hbN := bn hV
     have hg201 : V200.heap.size ≤ g201 := by omega
     have hl201 := ln hV hg
     have HL2 : Hid (V201.ownsRow w.heap.size 95 3 (.slice (some ⟨g201, 0, none⟩) 1 1) 1 (M [isM 0 0])) := by rw [hV, hg]; exact hide (World.ownsRow_lit V200 _ 1 HB.size (by decide) rfl)
     have hs202 := hbN.size
     replace k0 := zC k0 hbN
     replace k1 := zC k1 hbN
     replace k2 := zC k2 hbN
     replace HA := ob HA hbN
     replace HL1 := ob HL1 hbN
     replace HB := tm HB hbN
     clear hV hg hbN
     refine hK.out _ _ ⟨k0, k1, k2⟩ (fun hHeld => ?_)
     clear hK K
     (try simp only [nz])
     exact HK3 gA cA gL g201 _ ⟨⟨k0, k1, k2⟩, HA.out, HL1.out, HL2.out, HB, by omega, by omega, by omega, by omega, by omega, by omega⟩ hHeld
  ·intro gA cA gL gM V300 hF hHeld
   obtain ⟨⟨k0, k1, k2⟩, hHA, hHL1, hHL2, HB, ne0, ne1, ne2, ne3, ne4, ne5⟩ := hF
   have HA := hide hHA
   have HL1 := hide hHL1
   have HL2 := hide hHL2
   have lHA : gA < V300.heap.size := own_in hHA rfl
   have lHL1 : gL < V300.heap.size := own_in hHL1 rfl
   have lHL2 : gM < V300.heap.size := own_in hHL2 rfl
   have gHA : w.heap.size ≤ gA := own_ge hHA _ rfl
   have gHL1 : w.heap.size ≤ gL := own_ge hHL1 _ rfl
   have gHL2 : w.heap.size ≤ gM := own_ge hHL2 _ rfl
   clear hHA hHL1 hHL2
   have lk := cell_in k0
   have hsz := HB.size
   have hHeld := hHeld
   refine rd (i := 3) (o := ⟨some 6, _, _, _, _, _⟩) (by kernel_rfl) rfl (fun K hK => ?_)
   clear hHeld
   refine step_append_lies _ rfl (.tmp 3) (.tmp 5) 87 rfl w.heap.size 95 iM _ 3 24 Tryz.underlying87 hiM zM0 zM1 zM2 rfl (by decide) (.slice (some ⟨gA, 0, none⟩) 2 cA) 2 _ rfl (unhide HA) ⟨gL, 0, none⟩ 1 1 _ rfl rfl (HL1.out.cells rfl) (M_one _) (by decide) (by decide) (by decide) HB.size _ rfl ?_
   intro g301 c301 V301 ho301 hgr ha hl301
   replace hgr : V300.grownBy V301 (some gA) := hgr
   replace ha : some gA = some g301 ∨ g301 = V300.heap.size := ha
   have hs301 := hgr.size
   have hge301 : g301 = gA ∨ g301 = V300.heap.size := by rcases ha with h | h; exact .inl (Option.some.inj h).symm; exact .inr h
   replace k0 := far_cell hgr k0 (by omega)
   replace k1 := far_cell hgr k1 (by omega)
   replace k2 := far_cell hgr k2 (by omega)
   replace HL2 := hide (own_far hgr HL2.out (by omega))
   replace HB := HB.grown hgr HB.size (fun k hk => by cases hk; omega)
   clear HA HL1
   have HA := hide ho301
   clear ho301 hgr ha
   refine hK.out _ _ ⟨k0, k1, k2⟩ (fun hHeld => ?_)
   clear hK K
   (try simp only [nz])
   refine rd (i := 4) (o := ⟨some 7, _, _, _, _, _⟩) (by kernel_rfl) rfl (fun K hK => ?_)
   go_simp
   clear hHeld
   refine (does_any _ _ _ _).mono ?_
   rintro e V302 ⟨rfl, hb302⟩
   have hs303 := hb302.size
   replace k0 := zC k0 hb302
   replace k1 := zC k1 hb302
   replace k2 := zC k2 hb302
   replace HL2 := ob HL2 hb302
   replace HA := ob HA hb302
   replace HB := tm HB hb302
   clear hb302
   refine hK.out _ _ ⟨k0, k1, k2⟩ (fun hHeld => ?_)
   clear hK K
   (try simp only [nz])
   refine rd (i := 5) (o := ⟨some 8, _, _, _, _, _⟩) (by kernel_rfl) rfl (fun K hK => ?_)
   go_simp
   clear hHeld
   refine alloc_step (fun V304 g304 hV hg => ?_)
   rw [← hg]
   have hbN := bn hV
   have hg304 : V302.heap.size ≤ g304 := by omega
   have hl304 := ln hV hg
   have HD1 : Hid (V304.ownsRow w.heap.size 98 3 (.slice (some ⟨g304, 0, none⟩) 1 1) 1 (D [gotoD 4])) := by rw [hV, hg]; exact hide (World.ownsRow_lit V302 _ 1 HB.size (by decide) rfl)
   have hs305 := hbN.size
   replace k0 := zC k0 hbN
   replace k1 := zC k1 hbN
   replace k2 := zC k2 hbN
   replace HL2 := ob HL2 hbN
   replace HA := ob HA hbN
   replace HB := tm HB hbN
   clear hV hg hbN
   refine hK.out _ _ ⟨k0, k1, k2⟩ (fun hHeld => ?_)
   clear hK K
   (try simp only [nz])
   refine rd (i := 6) (o := ⟨some 9, _, _, _, _, _⟩) (by kernel_rfl) rfl (fun K hK => ?_)
   go_simp
   clear hHeld
   refine (flowOf_any _ _ _ _ _ _ _ _ _).mono ?_
   rintro e V306 ⟨rfl, hb306⟩
   have hs307 := hb306.size
   replace k0 := zC k0 hb306
   replace k1 := zC k1 hb306
   replace k2 := zC k2 hb306
   replace HL2 := ob HL2 hb306
   replace HA := ob HA hb306
   replace HD1 := ob HD1 hb306
   replace HB := tm HB hb306
   clear hb306
   refine hK.out _ _ ⟨k0, k1, k2⟩ (fun hHeld => ?_)
   clear hK K
   (try simp only [nz])
   refine rd (i := 7) (o := ⟨some 10, _, _, _, _, _⟩) (by kernel_rfl) rfl (fun K hK => ?_)
   go_simp
   clear hHeld
   have HBold := HB.size
   refine (bareMatches_any _ _).mono ?_
   rintro e V308 ⟨u308, rfl, ho308, hb308⟩
   have hs309 := hb308.size
   replace k0 := zC k0 hb308
   replace k1 := zC k1 hb308
   replace k2 := zC k2 hb308
   replace HL2 := ob HL2 hb308
   replace HA := ob HA hb308
   replace HD1 := ob HD1 hb308
   replace HB := tm HB hb308
   obtain ⟨g310, c310, rfl, hg310, hl310⟩ := own_blk ho308 (by decide)
   have HE := hide (own_less ho308 (Nat.le_trans HBold (Nat.le_refl _)))
   clear ho308 HBold
   clear hb308
   refine hK.out _ _ ⟨k0, k1, k2⟩ (fun hHeld => ?_)
   clear hK K
   (try simp only [nz])
   exact HK2 gA cA gL g301 c301 g304 g310 c310 gM _ ⟨⟨k0, k1, k2⟩, HA.out, HD1.out, HE.out, HL2.out, HB, by omega, by omega, by omega, by omega, by omega, by omega, by omega, by omega, by omega, by omega⟩ hHeld
 ·intro gA cA gL gB cB gD gE cE gM V400 hF hHeld
  obtain ⟨⟨k0, k1, k2⟩, hHA, hHD1, hHE, hHL2, HB, ne0, ne1, ne2, ne3, ne4, ne5, ne6, ne7, ne8, ne9⟩ := hF
  have HA := hide hHA
  have HD1 := hide hHD1
  have HE := hide hHE
  have HL2 := hide hHL2
  have lHA : gB < V400.heap.size := own_in hHA rfl
  have lHD1 : gD < V400.heap.size := own_in hHD1 rfl
  have lHE : gE < V400.heap.size := own_in hHE rfl
  have lHL2 : gM < V400.heap.size := own_in hHL2 rfl
  have gHA : w.heap.size ≤ gB := own_ge hHA _ rfl
  have gHD1 : w.heap.size ≤ gD := own_ge hHD1 _ rfl
  have gHE : w.heap.size ≤ gE := own_ge hHE _ rfl
  have gHL2 : w.heap.size ≤ gM := own_ge hHL2 _ rfl
  clear hHA hHD1 hHE hHL2
  have lk := cell_in k0
  have hsz := HB.size
  refine rd (i := 10) (o := ⟨some 13, _, _, _, _, _⟩) (by kernel_rfl) rfl (fun K hK => ?_)
  clear hHeld
  refine step_append_lies _ rfl (.tmp 10) (.tmp 12) 87 rfl w.heap.size 95 iM _ 3 24 Tryz.underlying87 hiM zM0 zM1 zM2 rfl (by decide) (.slice (some ⟨gE, 0, none⟩) 3 cE) 3 _ rfl (unhide HE) ⟨gM, 0, none⟩ 1 1 _ rfl rfl (HL2.out.cells rfl) (M_one _) (by decide) (by decide) (by decide) HB.size _ rfl ?_
  intro g401 c401 V401 ho401 hgr ha hl401
  replace hgr : V400.grownBy V401 (some gE) := hgr
  replace ha : some gE = some g401 ∨ g401 = V400.heap.size := ha
  have hs401 := hgr.size
  have hge401 : g401 = gE ∨ g401 = V400.heap.size := by rcases ha with h | h; exact .inl (Option.some.inj h).symm; exact .inr h
  replace k0 := far_cell hgr k0 (by omega)
  replace k1 := far_cell hgr k1 (by omega)
  replace k2 := far_cell hgr k2 (by omega)
  replace HA := hide (own_far hgr HA.out (by omega))
  replace HD1 := hide (own_far hgr HD1.out (by omega))
  replace HB := HB.grown hgr HB.size (fun k hk => by cases hk; omega)
  clear HE HL2
  have HE := hide ho401
  clear ho401 hgr ha
  refine hK.out _ _ ⟨k0, k1, k2⟩ (fun hHeld => ?_)
  clear hK K
  (try simp only [nz])
  refine rd (i := 11) (o := ⟨some 14, _, _, _, _, _⟩) (by kernel_rfl) rfl (fun K hK => ?_)
  go_simp
  clear hHeld
  refine (does_any _ _ _ _).mono ?_
  rintro e V402 ⟨rfl, hb402⟩
  have hs403 := hb402.size
  replace k0 := zC k0 hb402
  replace k1 := zC k1 hb402
  replace k2 := zC k2 hb402
  replace HA := ob HA hb402
  replace HD1 := ob HD1 hb402
  replace HE := ob HE hb402
  replace HB := tm HB hb402
  clear hb402
  refine hK.out _ _ ⟨k0, k1, k2⟩ (fun hHeld => ?_)
  clear hK K
  (try simp only [nz])
  refine rd (i := 12) (o := ⟨some 15, _, _, _, _, _⟩) (by kernel_rfl) rfl (fun K hK => ?_)
  go_simp
  clear hHeld
  refine alloc_step (fun V404 g404 hV hg => ?_)
  rw [← hg]
  have hbN := bn hV
  have hg404 : V402.heap.size ≤ g404 := by omega
  have hl404 := ln hV hg
  have HD2 : Hid (V404.ownsRow w.heap.size 98 3 (.slice (some ⟨g404, 0, none⟩) 1 1) 1 (D [gotoD 5])) := by rw [hV, hg]; exact hide (World.ownsRow_lit V402 _ 1 HB.size (by decide) rfl)
  have hs405 := hbN.size
  replace k0 := zC k0 hbN
  replace k1 := zC k1 hbN
  replace k2 := zC k2 hbN
  replace HA := ob HA hbN
  replace HD1 := ob HD1 hbN
  replace HE := ob HE hbN
  replace HB := tm HB hbN
  clear hV hg hbN
  refine hK.out _ _ ⟨k0, k1, k2⟩ (fun hHeld => ?_)
  clear hK K
  (try simp only [nz])
  refine rd (i := 13) (o := ⟨some 16, _, _, _, _, _⟩) (by kernel_rfl) rfl (fun K hK => ?_)
  go_simp
  clear hHeld
  refine (flowOf_any _ _ _ _ _ _ _ _ _).mono ?_
  rintro e V406 ⟨rfl, hb406⟩
  have hs407 := hb406.size
  replace k0 := zC k0 hb406
  replace k1 := zC k1 hb406
  replace k2 := zC k2 hb406
  replace HA := ob HA hb406
  replace HD1 := ob HD1 hb406
  replace HE := ob HE hb406
  replace HD2 := ob HD2 hb406
  replace HB := tm HB hb406
  clear hb406
  refine hK.out _ _ ⟨k0, k1, k2⟩ (fun hHeld => ?_)
  clear hK K
  (try simp only [nz])
  refine rd (i := 14) (o := ⟨some 17, _, _, _, _, _⟩) (by kernel_rfl) rfl (fun K hK => ?_)
  go_simp
  clear hHeld
  refine alloc_step (fun V408 g408 hV hg => ?_)
  rw [← hg]
  have hbN := bn hV
  have hg408 : V406.heap.size ≤ g408 := by omega
  have hl408 := ln hV hg
  have HF : Hid (FR V408 w.heap.size (.slice (some ⟨g408, 0, none⟩) 2 2) (tunnelFl)) := by
   rw [hV, hg]
   refine hide (FR.lit (lo := [⟨⟨0, 0, dataMs ++ [isM 0 0], [gotoD 4]⟩, .slice (some ⟨gB, 0, none⟩) 3 cB, .slice (some ⟨gD, 0, none⟩) 1 1⟩, ⟨⟨0, 0, bareMs 2 ++ [isM 0 0], [gotoD 5]⟩, .slice (some ⟨g401, 0, none⟩) 4 c401, .slice (some ⟨g404, 0, none⟩) 1 1⟩]) rfl rfl HB.size (by decide) (fun x hx => ?_))
   simp only [List.mem_cons, List.not_mem_nil, or_false] at hx
   rcases hx with rfl | rfl
   ·exact fv_in HA.out HD1.out (by simp [Value.ownBlock])
   ·exact fv_in HE.out HD2.out (by simp [Value.ownBlock])
  have hs409 := hbN.size
  replace k0 := zC k0 hbN
  replace k1 := zC k1 hbN
  replace k2 := zC k2 hbN
  replace HA := ob HA hbN
  replace HD1 := ob HD1 hbN
  replace HE := ob HE hbN
  replace HD2 := ob HD2 hbN
  replace HB := tm HB hbN
  clear hV hg hbN
  refine hK.out _ _ ⟨k0, k1, k2⟩ (fun hHeld => ?_)
  clear hK K
  (try simp only [nz])
  refine tk (i := 15) (d := 0) rfl (by kernel_rfl) (fun _ _ _ h => h) rfl ‹_› (by intro w h; (try dsimp only at h); go_simp <;> with_reducible rfl) ?_
  simp only [nz]
  refine wpAnyH_done (by kernel_rfl) ?_ _
  clear hHeld
  go_wp2_with fail
  go_ret
  exact ⟨_, rfl, HF.out, HB⟩
end Go.Proofs.YtncdininppehkaaGreat

namespace Go.Proofs.YtncdininppehkaaGreat
open Go.RowKit
set_option linter.unusedVariables false
set_option maxRecDepth 100000
set_option maxHeartbeats 2000000 in
theorem idxGPr_any (l : List Pr) (p : Pr → Bool) (v : Value) (f : Nat) (cs : Array Value) (w : World) (hF : PrsAt w v l) (hT : PicksPr w f cs p) (hE : Entered f) (hl : l.length * 40 ≤ 140737488355328) :
  Calls Tryz.prog 63 #[v, .func (.func f) #[] cs] w fun e w' => e = .returned (.int .i64 (idx p l)) ∧ Below w.heap.size w w' := by
 have HF := hide hF
 have HT := hide hT
 have HEN := hide hE
 obtain ⟨a, cap, rfl⟩ := hF.slice
 clear hF hT hE
 go_enter Tryz.func63, Tryz.ntmps63
 go_wp2_with fail
 go_loopw [8] (fun i wr => ∃ k : Nat, k ≤ l.length ∧ i = .int .i64 k ∧ Hid (∀ j, j < k → p (l.getD j pr0) = false) ∧ Below w.heap.size w wr) (fun i _ => l.length - (intOf i).toNat)
 case atStart => exact ⟨0, by omega, rfl, hide (fun j h => absurd h (by omega)), Below.refl _ _⟩
 case round =>
  obtain ⟨k, hk, rfl, HALL, hbr⟩ := hrel
  by_cases hlt : k < l.length
  ·obtain ⟨b, off, cap', e1, hcap, -, g0, g1, g2, g3, g4⟩ := pr_at (RowAt.below HF.out hbr (Nat.le_refl _)) hlt
   simp only [Value.slice.injEq, true_and] at e1
   obtain ⟨rfl, rfl⟩ := e1
   have HST : Hid (∀ W : World, Below w.heap.size w W → Calls Tryz.prog f (#[.agg #[.int .i64 (l.getD k pr0).i, .int .i64 (l.getD k pr0).s, .int .i64 (l.getD k pr0).m, .int .i64 (l.getD k pr0).p, .int .i64 (l.getD k pr0).c]] ++ cs) W fun e w' => e = .returned (.bool (p (l.getD k pr0))) ∧ Below W.heap.size W w') := fun W hW => HT.out W _ hW
   have HNX : Hid (p (l.getD k pr0) = false → ∀ j, j < k + 1 → p (l.getD j pr0) = false) := fun h j hj => by
    by_cases e : j = k
    ·subst e; exact h
    ·exact HALL.out j (by omega)
   have HFD : Hid (p (l.getD k pr0) = true → idx p l = k) := fun h => idx_at pr0 hlt HALL.out h
   generalize p (l.getD k pr0) = R at *
   generalize (l.getD k pr0).i = y0 at *
   generalize (l.getD k pr0).s = y1 at *
   generalize (l.getD k pr0).m = y2 at *
   generalize (l.getD k pr0).p = y3 at *
   generalize (l.getD k pr0).c = y4 at *
   have q1 : (0 : Int) ≤ (k : Int) := by omega
   have q2 : (k : Int) < (l.length : Int) := by omega
   clear HALL
   go_wp2_with fail
   rw [unhide HEN]
   refine (unhide HST _ ?_).mono ?_
   ·first | exact hbr | exact hbr.drew | exact ⟨hbr.os, hbr.tape, hbr.output, hbr.size, hbr.block⟩
   rintro e w1 ⟨rfl, hb1⟩
   have HB1 : Hid (Below w.heap.size w w1) := hbr.trans (hb1.mono hbr.size)
   clear hb1 hbr HST g0 g1 g2 g3 g4
   cases R
   ·have HN := hide (HNX.out rfl)
    clear HNX HFD
    go_wp2_with fail
    go_roundw
    case rel => exact ⟨k + 1, by omega, by go_num, HN, HB1.out⟩
    case measure => simp [intOf]; omega
   ·have HN := hide (HFD.out rfl)
    clear HNX HFD
    go_wp2_with fail
    go_ret
    exact ⟨int_ret HN.out.symm, HB1.out⟩
  ·have HN : Hid (idx p l = -1) := idx_no pr0 fun i hi => HALL.out i (by omega)
   have HB1 := hide hbr
   clear HALL hbr
   go_wp2_with fail
   go_ret
   exact ⟨int_ret HN.out.symm, HB1.out⟩
set_option maxHeartbeats 1000000 in
theorem hasGPr_any (l : List Pr) (p : Pr → Bool) (v : Value) (f : Nat) (cs : Array Value) (w : World) (hF : PrsAt w v l) (hT : PicksPr w f cs p) (hE : Entered f) (hl : l.length * 40 ≤ 140737488355328) :
  Calls Tryz.prog 31 #[v, .func (.func f) #[] cs] w fun e w' => e = .returned (.bool (l.any p)) ∧ Below w.heap.size w w' := by
 have HI := hide (idxGPr_any l p v f cs w hF hT hE hl)
 have HA := hide (idx_any p l)
 obtain ⟨a, cap, rfl⟩ := hF.slice
 clear hF hT hE
 generalize idx p l = I at *
 go_enter Tryz.func31, Tryz.ntmps31
 go_wp2_with fail
 refine (unhide HI).mono ?_
 rintro e w1 ⟨rfl, hb1⟩
 go_wp2_with fail
 go_ret
 exact ⟨bool_ret HA.out, hb1⟩
set_option maxHeartbeats 2000000 in
theorem idxGSw_any (l : List Sw) (p : Sw → Bool) (v : Value) (f : Nat) (cs : Array Value) (w : World) (hF : SwsAt w v l) (hT : PicksSw w f cs p) (hE : Entered f) (hl : l.length * 24 ≤ 140737488355328) :
  Calls Tryz.prog 149 #[v, .func (.func f) #[] cs] w fun e w' => e = .returned (.int .i64 (idx p l)) ∧ Below w.heap.size w w' := by
 have HF := hide hF
 have HT := hide hT
 have HEN := hide hE
 obtain ⟨a, cap, rfl⟩ := hF.slice
 clear hF hT hE
 go_enter Tryz.func149, Tryz.ntmps149
 go_wp2_with fail
 go_loopw [8] (fun i wr => ∃ k : Nat, k ≤ l.length ∧ i = .int .i64 k ∧ Hid (∀ j, j < k → p (l.getD j sw0) = false) ∧ Below w.heap.size w wr) (fun i _ => l.length - (intOf i).toNat)
 case atStart => exact ⟨0, by omega, rfl, hide (fun j h => absurd h (by omega)), Below.refl _ _⟩
 case round =>
  obtain ⟨k, hk, rfl, HALL, hbr⟩ := hrel
  by_cases hlt : k < l.length
  ·obtain ⟨b, off, cap', e1, hcap, -, g0, g1, g2⟩ := sw_at (RowAt.below HF.out hbr (Nat.le_refl _)) hlt
   simp only [Value.slice.injEq, true_and] at e1
   obtain ⟨rfl, rfl⟩ := e1
   have HST : Hid (∀ W : World, Below w.heap.size w W → Calls Tryz.prog f (#[.agg #[.int .i64 (l.getD k sw0).i, .int .i64 (l.getD k sw0).t, .int .i64 (l.getD k sw0).g]] ++ cs) W fun e w' => e = .returned (.bool (p (l.getD k sw0))) ∧ Below W.heap.size W w') := fun W hW => HT.out W _ hW
   have HNX : Hid (p (l.getD k sw0) = false → ∀ j, j < k + 1 → p (l.getD j sw0) = false) := fun h j hj => by
    by_cases e : j = k
    ·subst e; exact h
    ·exact HALL.out j (by omega)
   have HFD : Hid (p (l.getD k sw0) = true → idx p l = k) := fun h => idx_at sw0 hlt HALL.out h
   generalize p (l.getD k sw0) = R at *
   generalize (l.getD k sw0).i = y0 at *
   generalize (l.getD k sw0).t = y1 at *
   generalize (l.getD k sw0).g = y2 at *
   have q1 : (0 : Int) ≤ (k : Int) := by omega
   have q2 : (k : Int) < (l.length : Int) := by omega
   clear HALL
   go_wp2_with fail
   rw [unhide HEN]
   refine (unhide HST _ ?_).mono ?_
   ·first | exact hbr | exact hbr.drew | exact ⟨hbr.os, hbr.tape, hbr.output, hbr.size, hbr.block⟩
   rintro e w1 ⟨rfl, hb1⟩
   have HB1 : Hid (Below w.heap.size w w1) := hbr.trans (hb1.mono hbr.size)
   clear hb1 hbr HST g0 g1 g2
   cases R
   ·have HN := hide (HNX.out rfl)
    clear HNX HFD
    go_wp2_with fail
    go_roundw
    case rel => exact ⟨k + 1, by omega, by go_num, HN, HB1.out⟩
    case measure => simp [intOf]; omega
   ·have HN := hide (HFD.out rfl)
    clear HNX HFD
    go_wp2_with fail
    go_ret
    exact ⟨int_ret HN.out.symm, HB1.out⟩
  ·have HN : Hid (idx p l = -1) := idx_no sw0 fun i hi => HALL.out i (by omega)
   have HB1 := hide hbr
   clear HALL hbr
   go_wp2_with fail
   go_ret
   exact ⟨int_ret HN.out.symm, HB1.out⟩
set_option maxHeartbeats 1000000 in
theorem hasGSw_any (l : List Sw) (p : Sw → Bool) (v : Value) (f : Nat) (cs : Array Value) (w : World) (hF : SwsAt w v l) (hT : PicksSw w f cs p) (hE : Entered f) (hl : l.length * 24 ≤ 140737488355328) :
  Calls Tryz.prog 160 #[v, .func (.func f) #[] cs] w fun e w' => e = .returned (.bool (l.any p)) ∧ Below w.heap.size w w' := by
 have HI := hide (idxGSw_any l p v f cs w hF hT hE hl)
 have HA := hide (idx_any p l)
 obtain ⟨a, cap, rfl⟩ := hF.slice
 clear hF hT hE
 generalize idx p l = I at *
 go_enter Tryz.func160, Tryz.ntmps160
 go_wp2_with fail
 refine (unhide HI).mono ?_
 rintro e w1 ⟨rfl, hb1⟩
 go_wp2_with fail
 go_ret
 exact ⟨bool_ret HA.out, hb1⟩
theorem ent_here : Entered 26 := fun args W => by
 unfold callFunc
 simp [Tryz.func26, Tryz.f26]
theorem ent_any : Entered 30 := fun args W => by
 unfold callFunc
 simp [Tryz.func30, Tryz.f30]
theorem ent_isOf : Entered 64 := fun args W => by
 unfold callFunc
 simp [Tryz.func64, Tryz.f64]
theorem ent_some : Entered 114 := fun args W => by
 unfold callFunc
 simp [Tryz.func114, Tryz.f114]
theorem ent_both : Entered 156 := fun args W => by
 unfold callFunc
 simp [Tryz.func156, Tryz.f156]
theorem ent_others : Entered 112 := fun args W => by
 unfold callFunc
 simp [Tryz.func112, Tryz.f112]
theorem ent_routed : Entered 159 := fun args W => by
 unfold callFunc
 simp [Tryz.func159, Tryz.f159]
theorem ent_routed1 : Entered 161 := fun args W => by
 unfold callFunc
 simp [Tryz.func161, Tryz.f161]
theorem ent_rules : Entered 124 := fun args W => by
 unfold callFunc
 simp [Tryz.func124, Tryz.f124]
set_option maxHeartbeats 1000000 in
theorem here1_any (x : Pr) (ch : Int) (b : Nat) (w : World) (h : w.cell? ⟨b, 0, none⟩ = some (.int .i64 ch)) :
  Calls Tryz.prog 26 #[.agg #[.int .i64 x.i, .int .i64 x.s, .int .i64 x.m, .int .i64 x.p, .int .i64 x.c], .pointer (some ⟨b, 0, none⟩)] w fun e w' => e = .returned (.bool (hereB ch x)) ∧ Below w.heap.size w w' := by
 have lh := cell_in h
 have nh : b ≠ w.heap.size := by omega
 go_enter Tryz.func26, Tryz.ntmps26
 go_wp2
 all_goals go_ret
 all_goals exact ⟨bool_ret (by unfold hereB; rw [Bool.eq_iff_iff] <;> simp_all), (Below.refl _ _).alloc (Nat.le_refl _) _⟩
theorem picks_here {ch : Int} {b : Nat} {w : World} (h : w.cell? ⟨b, 0, none⟩ = some (.int .i64 ch)) : PicksPr w 26 #[.pointer (some ⟨b, 0, none⟩)] (hereB ch) :=
 fun W x hW => here1_any x ch b W (cell_beh h hW (Nat.le_refl _))
set_option maxHeartbeats 1000000 in
theorem isOf1_any (x : Pr) (s : Int) (b : Nat) (w : World) (h : w.cell? ⟨b, 0, none⟩ = some (.int .i64 s)) :
  Calls Tryz.prog 64 #[.agg #[.int .i64 x.i, .int .i64 x.s, .int .i64 x.m, .int .i64 x.p, .int .i64 x.c], .pointer (some ⟨b, 0, none⟩)] w fun e w' => e = .returned (.bool (isOfB s x)) ∧ Below w.heap.size w w' := by
 have lh := cell_in h
 have nh : b ≠ w.heap.size := by omega
 go_enter Tryz.func64, Tryz.ntmps64
 go_wp2
 all_goals go_ret
 all_goals exact ⟨bool_ret (by unfold isOfB; rw [Bool.eq_iff_iff] <;> simp_all), (Below.refl _ _).alloc (Nat.le_refl _) _⟩
theorem picks_isOf {s : Int} {b : Nat} {w : World} (h : w.cell? ⟨b, 0, none⟩ = some (.int .i64 s)) : PicksPr w 64 #[.pointer (some ⟨b, 0, none⟩)] (isOfB s) :=
 fun W x hW => isOf1_any x s b W (cell_beh h hW (Nat.le_refl _))
set_option maxHeartbeats 1000000 in
theorem others1_any (x : Pr) (i s : Int) (b : Nat) (w : World) (h : w.cell? ⟨b, 0, none⟩ = some (.int .i64 i)) (h1 : w.cell? ⟨b, 1, none⟩ = some (.int .i64 s)) :
  Calls Tryz.prog 112 #[.agg #[.int .i64 x.i, .int .i64 x.s, .int .i64 x.m, .int .i64 x.p, .int .i64 x.c], .pointer (some ⟨b, 0, none⟩)] w fun e w' => e = .returned (.bool (x.s == s && !(x.i == i))) ∧ Below w.heap.size w w' := by
 have lh := cell_in h
 have nh : b ≠ w.heap.size := by omega
 go_enter Tryz.func112, Tryz.ntmps112
 go_wp2
 all_goals go_ret
 all_goals exact ⟨bool_ret (by rw [Bool.eq_iff_iff] <;> simp_all), (Below.refl _ _).alloc (Nat.le_refl _) _⟩
theorem picks_others {i s : Int} {b : Nat} {w : World} (h : w.cell? ⟨b, 0, none⟩ = some (.int .i64 i)) (h1 : w.cell? ⟨b, 1, none⟩ = some (.int .i64 s)) : PicksPr w 112 #[.pointer (some ⟨b, 0, none⟩)] (fun x => x.s == s && !(x.i == i)) :=
 fun W x hW => others1_any x i s b W (cell_beh h hW (Nat.le_refl _)) (cell_beh h1 hW (Nat.le_refl _))
set_option maxHeartbeats 1000000 in
theorem routed2_any (x : Sw) (s t : Int) (b c : Nat) (w : World) (h : w.cell? ⟨b, 1, none⟩ = some (.int .i64 s)) (h1 : w.cell? ⟨c, 0, none⟩ = some (.int .i64 t)) :
  Calls Tryz.prog 161 #[.agg #[.int .i64 x.i, .int .i64 x.t, .int .i64 x.g], .pointer (some ⟨b, 0, none⟩), .pointer (some ⟨c, 0, none⟩)] w fun e w' => e = .returned (.bool (x.i == s && x.t == t && !(x.g == 0))) ∧ Below w.heap.size w w' := by
 have lh := cell_in h
 have nh : b ≠ w.heap.size := by omega
 have lh1 := cell_in h1
 have nh1 : c ≠ w.heap.size := by omega
 go_enter Tryz.func161, Tryz.ntmps161
 go_wp2
 all_goals go_ret
 all_goals exact ⟨bool_ret (by rw [Bool.eq_iff_iff] <;> simp_all), (Below.refl _ _).alloc (Nat.le_refl _) _⟩
theorem picks_routed2 {s t : Int} {b c : Nat} {w : World} (h : w.cell? ⟨b, 1, none⟩ = some (.int .i64 s)) (h1 : w.cell? ⟨c, 0, none⟩ = some (.int .i64 t)) : PicksSw w 161 #[.pointer (some ⟨b, 0, none⟩), .pointer (some ⟨c, 0, none⟩)] (fun x => x.i == s && x.t == t && !(x.g == 0)) :=
 fun W x hW => routed2_any x s t b c W (cell_beh h hW (Nat.le_refl _)) (cell_beh h1 hW (Nat.le_refl _))
set_option maxHeartbeats 1000000 in
theorem rules1_any (x : Ac) (s : Int) (inn : Bool) (b c : Nat) (w : World) (h : w.cell? ⟨b, 0, none⟩ = some (.int .i64 s)) (h1 : w.cell? ⟨c, 0, none⟩ = some (.bool inn)) :
  Calls Tryz.prog 124 #[.agg #[.int .i64 x.s, .int .i64 x.p, .bool x.n, .int .i64 x.src, .int .i64 x.sb, .int .i64 x.dst, .int .i64 x.db, .int .i64 x.o, .bool x.d], .pointer (some ⟨b, 0, none⟩), .pointer (some ⟨c, 0, none⟩)] w fun e w' => e = .returned (.bool (x.s == s && x.n == inn)) ∧ Below w.heap.size w w' := by
 have lh := cell_in h
 have nh : b ≠ w.heap.size := by omega
 have lh1 := cell_in h1
 have nh1 : c ≠ w.heap.size := by omega
 go_enter Tryz.func124, Tryz.ntmps124
 go_wp2
 all_goals go_ret
 all_goals exact ⟨bool_ret (by rw [Bool.eq_iff_iff] <;> simp_all), (Below.refl _ _).alloc (Nat.le_refl _) _⟩
theorem picks_rules {s : Int} {inn : Bool} {b c : Nat} {w : World} (h : w.cell? ⟨b, 0, none⟩ = some (.int .i64 s)) (h1 : w.cell? ⟨c, 0, none⟩ = some (.bool inn)) : PicksAc w 124 #[.pointer (some ⟨b, 0, none⟩), .pointer (some ⟨c, 0, none⟩)] (fun x => x.s == s && x.n == inn) :=
 fun W x hW => rules1_any x s inn b c W (cell_beh h hW (Nat.le_refl _)) (cell_beh h1 hW (Nat.le_refl _))
set_option maxHeartbeats 1000000 in
theorem somewhere_any (x : Pr) (w : World) : Calls Tryz.prog 114 #[.agg #[.int .i64 x.i, .int .i64 x.s, .int .i64 x.m, .int .i64 x.p, .int .i64 x.c]] w fun e w' => e = .returned (.bool (somewhereB x)) ∧ Below w.heap.size w w' := by
 go_enter Tryz.func114, Tryz.ntmps114
 go_wp2
 all_goals go_ret
 all_goals exact ⟨bool_ret (by unfold somewhereB; rw [Bool.eq_iff_iff] <;> simp_all), (Below.refl _ _).alloc (Nat.le_refl _) _⟩
theorem picks_some (w : World) : PicksPr w 114 #[] somewhereB := fun W x _ => somewhere_any x W
set_option maxHeartbeats 1000000 in
theorem isOfP_any (x : Sw) (w : World) : Calls Tryz.prog 32 #[.agg #[.int .i64 x.i, .int .i64 x.t, .int .i64 x.g]] w fun e w' => ∃ b, e = .returned (.func (.func 64) #[] #[.pointer (some ⟨b, 0, none⟩)]) ∧ w'.cell? ⟨b, 0, none⟩ = some (.int .i64 x.i) ∧ Below w.heap.size w w' := by
 go_enter Tryz.func32, Tryz.ntmps32
 go_wp2
 go_ret
 exact ⟨_, rfl, new_cell w _ rfl _ _ _ _ rfl, alloc_below _ _⟩
set_option maxHeartbeats 1000000 in
theorem both_any (f g : Nat) (cf cg : Array Value) (w : World) : Calls Tryz.prog 113 #[.func (.func f) #[] cf, .func (.func g) #[] cg] w fun e w' => ∃ b c, e = .returned (.func (.func 156) #[] #[.pointer (some ⟨b, 0, none⟩), .pointer (some ⟨c, 0, none⟩)]) ∧ w'.cell? ⟨b, 0, none⟩ = some (.func (.func f) #[] cf) ∧ w'.cell? ⟨c, 0, none⟩ = some (.func (.func g) #[] cg) ∧ Below w.heap.size w w' := by
 go_enter Tryz.func113, Tryz.ntmps113
 go_wp2
 go_ret
 exact ⟨_, _, rfl, old_cell (new_cell w _ rfl _ _ _ _ rfl) _, new_cell _ _ (by simp) _ _ _ _ rfl, ((Below.refl _ _).alloc (Nat.le_refl _) _).alloc (by simp) _⟩
set_option maxHeartbeats 2000000 in
theorem both1_any (x : Pr) (p q : Pr → Bool) (f g : Nat) (cf cg : Array Value) (b c : Nat) (w : World) (h : w.cell? ⟨b, 0, none⟩ = some (.func (.func f) #[] cf)) (h1 : w.cell? ⟨c, 0, none⟩ = some (.func (.func g) #[] cg))
  (hf : PicksPr w f cf p) (hg : PicksPr w g cg q) (ef : Entered f) (eg : Entered g) :
  Calls Tryz.prog 156 #[.agg #[.int .i64 x.i, .int .i64 x.s, .int .i64 x.m, .int .i64 x.p, .int .i64 x.c], .pointer (some ⟨b, 0, none⟩), .pointer (some ⟨c, 0, none⟩)] w fun e w' => e = .returned (.bool (p x && q x)) ∧ Below w.heap.size w w' := by
 have HF : Hid (∀ W : World, Below w.heap.size w W → Calls Tryz.prog f (#[.agg #[.int .i64 x.i, .int .i64 x.s, .int .i64 x.m, .int .i64 x.p, .int .i64 x.c]] ++ cf) W fun e w' => e = .returned (.bool (p x)) ∧ Below W.heap.size W w') := fun W hW => hf W x hW
 have HG : Hid (∀ W : World, Below w.heap.size w W → Calls Tryz.prog g (#[.agg #[.int .i64 x.i, .int .i64 x.s, .int .i64 x.m, .int .i64 x.p, .int .i64 x.c]] ++ cg) W fun e w' => e = .returned (.bool (q x)) ∧ Below W.heap.size W w') := fun W hW => hg W x hW
 have EF := hide ef
 have EG := hide eg
 clear hf hg ef eg
 have lh := cell_in h
 have nh : b ≠ w.heap.size := by omega
 have lh1 := cell_in h1
 have nh1 : c ≠ w.heap.size := by omega
 generalize p x = R at *
 generalize q x = R2 at *
 generalize x.i = y0 at *
 generalize x.s = y1 at *
 generalize x.m = y2 at *
 generalize x.p = y3 at *
 generalize x.c = y4 at *
 go_enter Tryz.func156, Tryz.ntmps156
 go_wp2_with fail
 obtain ⟨W1, hW1⟩ : ∃ W1, W1 = w.alloc (.cells #[.int .i64 y0, .int .i64 y1, .int .i64 y2, .int .i64 y3, .int .i64 y4] 71) := ⟨_, rfl⟩
 have hbW : Below w.heap.size w W1 := by rw [hW1]; exact alloc_below _ _
 have d0 : W1.cell? ⟨w.heap.size, 0, none⟩ = some (.int .i64 y0) := by rw [hW1]; exact new_cell w _ rfl _ _ _ _ rfl
 have d1 : W1.cell? ⟨w.heap.size, 1, none⟩ = some (.int .i64 y1) := by rw [hW1]; exact new_cell w _ rfl _ _ _ _ rfl
 have d2 : W1.cell? ⟨w.heap.size, 2, none⟩ = some (.int .i64 y2) := by rw [hW1]; exact new_cell w _ rfl _ _ _ _ rfl
 have d3 : W1.cell? ⟨w.heap.size, 3, none⟩ = some (.int .i64 y3) := by rw [hW1]; exact new_cell w _ rfl _ _ _ _ rfl
 have d4 : W1.cell? ⟨w.heap.size, 4, none⟩ = some (.int .i64 y4) := by rw [hW1]; exact new_cell w _ rfl _ _ _ _ rfl
 have k1 : W1.cell? ⟨c, 0, none⟩ = some (.func (.func g) #[] cg) := by rw [hW1]; exact old_cell h1 _
 rw [← hW1]
 clear hW1
 rw [unhide EF]
 refine (unhide HF _ hbW).mono ?_
 rintro e w1 ⟨rfl, hb1⟩
 have hb01 := hbW.trans (hb1.mono hbW.size)
 replace d0 := zC d0 hb1
 replace d1 := zC d1 hb1
 replace d2 := zC d2 hb1
 replace d3 := zC d3 hb1
 replace d4 := zC d4 hb1
 replace k1 := zC k1 hb1
 clear HF EF hb1 h h1 hbW
 cases R
 ·go_wp2_with fail
  go_ret
  exact ⟨rfl, hb01⟩
 ·go_wp2_with fail
  rw [unhide EG]
  refine (unhide HG _ hb01).mono ?_
  rintro e w2 ⟨rfl, hb2⟩
  have hb02 := hb01.trans (hb2.mono hb01.size)
  go_wp2_with fail
  go_ret
  exact ⟨by simp, hb02⟩
theorem picks_both {w : World} {p q : Pr → Bool} {f g : Nat} {cf cg : Array Value} {b c : Nat} (h : w.cell? ⟨b, 0, none⟩ = some (.func (.func f) #[] cf)) (h1 : w.cell? ⟨c, 0, none⟩ = some (.func (.func g) #[] cg))
  (hf : PicksPr w f cf p) (hg : PicksPr w g cg q) (ef : Entered f) (eg : Entered g) : PicksPr w 156 #[.pointer (some ⟨b, 0, none⟩), .pointer (some ⟨c, 0, none⟩)] (fun x => p x && q x) :=
 fun W x hW => both1_any x p q f g cf cg b c W (cell_beh h hW (Nat.le_refl _)) (cell_beh h1 hW (Nat.le_refl _)) (fun W' y hW' => hf W' y (hW.trans (hW'.mono hW.size))) (fun W' y hW' => hg W' y (hW.trans (hW'.mono hW.size))) ef eg
theorem PicksPr.below {w w' : World} {f : Nat} {cs : Array Value} {p : Pr → Bool} (h : PicksPr w f cs p) (hb : Below w.heap.size w w') : PicksPr w' f cs p := fun W x hW => h W x (hb.trans (hW.mono hb.size))
set_option maxHeartbeats 2000000 in
theorem routed1_any (x : Pr) (S : List Sw) (o : Option Addr) (cap : Nat) (t : Int) (b c : Nat) (w : World) (h : w.cell? ⟨b, 0, none⟩ = some (.slice o S.length cap)) (h1 : w.cell? ⟨c, 0, none⟩ = some (.int .i64 t)) (hS : SwsAt w (.slice o S.length cap) S) (hl : S.length * 24 ≤ 140737488355328) :
  Calls Tryz.prog 159 #[.agg #[.int .i64 x.i, .int .i64 x.s, .int .i64 x.m, .int .i64 x.p, .int .i64 x.c], .pointer (some ⟨b, 0, none⟩), .pointer (some ⟨c, 0, none⟩)] w fun e w' => e = .returned (.bool (routedB S t x)) ∧ Below w.heap.size w w' := by
 have HS : Hid (∀ W : World, Below w.heap.size w W → ∀ pb, W.cell? ⟨pb, 1, none⟩ = some (.int .i64 x.s) → Calls Tryz.prog 160 #[.slice o S.length cap, .func (.func 161) #[] #[.pointer (some ⟨pb, 0, none⟩), .pointer (some ⟨c, 0, none⟩)]] W fun e w' => e = .returned (.bool (routedB S t x)) ∧ Below W.heap.size W w') :=
  fun W hW pb hp => hasGSw_any S _ _ _ _ W (RowAt.below hS hW (Nat.le_refl _)) (picks_routed2 hp (cell_beh h1 hW (Nat.le_refl _))) ent_routed1 hl
 have lh := cell_in h
 have nh : b ≠ w.heap.size := by omega
 clear hS
 generalize routedB S t x = R at *
 generalize x.i = y0 at *
 generalize x.s = y1 at *
 generalize x.m = y2 at *
 generalize x.p = y3 at *
 generalize x.c = y4 at *
 go_enter Tryz.func159, Tryz.ntmps159
 go_wp2_with fail
 refine (unhide HS _ (alloc_below _ _) _ (new_cell w _ rfl _ _ _ _ rfl)).mono ?_
 rintro e w1 ⟨rfl, hb1⟩
 have hb01 := (alloc_below w (.cells #[.int .i64 y0, .int .i64 y1, .int .i64 y2, .int .i64 y3, .int .i64 y4] 71)).trans (hb1.mono (alloc_below w _).size)
 clear hb1 HS
 go_wp2_with fail
 go_ret
 exact ⟨rfl, hb01⟩
theorem picks_routed {w : World} {S : List Sw} {o : Option Addr} {cap : Nat} {t : Int} {b c : Nat} (h : w.cell? ⟨b, 0, none⟩ = some (.slice o S.length cap)) (h1 : w.cell? ⟨c, 0, none⟩ = some (.int .i64 t)) (hS : SwsAt w (.slice o S.length cap) S) (hl : S.length * 24 ≤ 140737488355328) :
  PicksPr w 159 #[.pointer (some ⟨b, 0, none⟩), .pointer (some ⟨c, 0, none⟩)] (routedB S t) :=
 fun W x hW => routed1_any x S o cap t b c W (cell_beh h hW (Nat.le_refl _)) (cell_beh h1 hW (Nat.le_refl _)) (RowAt.below hS hW (Nat.le_refl _)) hl
set_option maxHeartbeats 1000000 in
theorem isRouted_any (so po ao : Option Addr) (sl sc pl pc al ac : Nat) (t : Int) (w : World) : Calls Tryz.prog 125 #[.agg #[.slice so sl sc, .slice po pl pc, .slice ao al ac], .int .i64 t] w fun e w' => ∃ b c, e = .returned (.func (.func 159) #[] #[.pointer (some ⟨b, 0, none⟩), .pointer (some ⟨c, 0, none⟩)]) ∧ w'.cell? ⟨b, 0, none⟩ = some (.slice so sl sc) ∧ w'.cell? ⟨c, 0, none⟩ = some (.int .i64 t) ∧ Below w.heap.size w w' := by
 go_enter Tryz.func125, Tryz.ntmps125
 go_wp2
 go_ret
 exact ⟨_, _, rfl, old_cell (new_cell w _ rfl _ _ _ _ rfl) _, new_cell _ _ (by simp) _ _ _ _ rfl, ((Below.refl _ _).alloc (Nat.le_refl _) _).alloc (by simp) _⟩
set_option maxHeartbeats 2000000 in
theorem any2_any (x : Sw) (P : List Pr) (o : Option Addr) (cap : Nat) (b : Nat) (w : World) (h : w.cell? ⟨b, 0, none⟩ = some (.slice o P.length cap)) (hP : PrsAt w (.slice o P.length cap) P) (hl : P.length * 40 ≤ 140737488355328) :
  Calls Tryz.prog 30 #[.agg #[.int .i64 x.i, .int .i64 x.t, .int .i64 x.g], .pointer (some ⟨b, 0, none⟩)] w fun e w' => e = .returned (.bool (P.any (isOfB x.i))) ∧ Below w.heap.size w w' := by
 have HS : Hid (∀ W : World, Below w.heap.size w W → ∀ pb, W.cell? ⟨pb, 0, none⟩ = some (.int .i64 x.i) → Calls Tryz.prog 31 #[.slice o P.length cap, .func (.func 64) #[] #[.pointer (some ⟨pb, 0, none⟩)]] W fun e w' => e = .returned (.bool (P.any (isOfB x.i))) ∧ Below W.heap.size W w') :=
  fun W hW pb hp => hasGPr_any P _ _ _ _ W (RowAt.below hP hW (Nat.le_refl _)) (picks_isOf hp) ent_isOf hl
 have HI := hide (isOfP_any x)
 have lh := cell_in h
 have nh : b ≠ w.heap.size := by omega
 clear hP
 generalize P.any (isOfB x.i) = R at *
 generalize x.i = y0 at *
 generalize x.t = y1 at *
 generalize x.g = y2 at *
 go_enter Tryz.func30, Tryz.ntmps30
 go_wp2_with fail
 obtain ⟨W1, hW1⟩ : ∃ W1, W1 = w.alloc (.cells #[.int .i64 y0, .int .i64 y1, .int .i64 y2] 59) := ⟨_, rfl⟩
 have hbW : Below w.heap.size w W1 := by rw [hW1]; exact alloc_below _ _
 have d0 : W1.cell? ⟨w.heap.size, 0, none⟩ = some (.int .i64 y0) := by rw [hW1]; exact new_cell w _ rfl _ _ _ _ rfl
 have d1 : W1.cell? ⟨w.heap.size, 1, none⟩ = some (.int .i64 y1) := by rw [hW1]; exact new_cell w _ rfl _ _ _ _ rfl
 have d2 : W1.cell? ⟨w.heap.size, 2, none⟩ = some (.int .i64 y2) := by rw [hW1]; exact new_cell w _ rfl _ _ _ _ rfl
 replace h : W1.cell? ⟨b, 0, none⟩ = some (.slice o P.length cap) := by rw [hW1]; exact old_cell h _
 rw [← hW1]
 clear hW1
 have HB := hbW
 clear hbW
 have hs0_1 := HB.size
 refine wp_region_held_drew (S := (fun w' => w'.cell? ⟨w.heap.size, 0, none⟩ = some (.int .i64 y0) ∧ w'.cell? ⟨w.heap.size, 1, none⟩ = some (.int .i64 y1) ∧ w'.cell? ⟨w.heap.size, 2, none⟩ = some (.int .i64 y2) ∧ w'.cell? ⟨b, 0, none⟩ = some (.slice o P.length cap))) (by kernel_rfl) ⟨d0, d1, d2, h⟩ (fun hHeld => ?_)
 have HDW : Below W1.heap.size W1 W1.drew := (Below.refl _ _).drew
 have hs1 := HDW.size
 replace d0 := zC d0 HDW
 replace d1 := zC d1 HDW
 replace d2 := zC d2 HDW
 replace h := zC h HDW
 replace HB := tm HB HDW
 clear HDW
 generalize W1.drew = V2 at *
 refine tk (i := 0) (d := 4) rfl (by kernel_rfl) (fun _ _ _ h => h) rfl ‹_› (by intro w h; (try dsimp only at h); go_simp <;> with_reducible rfl) ?_
 simp only [nz]
 refine tk (i := 1) (d := 5) rfl (by kernel_rfl) (fun _ _ _ h => h) rfl ‹_› (by intro w h; (try dsimp only at h); go_simp <;> with_reducible rfl) ?_
 simp only [nz]
 refine rd (i := 2) (o := ⟨some 6, _, _, _, _, _⟩) (by kernel_rfl) rfl (fun K hK => ?_)
 go_simp
 clear hHeld
 refine (unhide HI _).mono ?_
 rintro e V3 ⟨b1, rfl, hc1, hb3⟩
 have hs4 := hb3.size
 replace d0 := zC d0 hb3
 replace d1 := zC d1 hb3
 replace d2 := zC d2 hb3
 replace h := zC h hb3
 replace HB := tm HB hb3
 have hc := hc1
 clear hc1
 clear hb3
 refine hK.out _ _ ⟨d0, d1, d2, h⟩ (fun hHeld => ?_)
 clear hK K
 (try simp only [nz])
 refine rd (i := 3) (o := ⟨some 7, _, _, _, _, _⟩) (by kernel_rfl) rfl (fun K hK => ?_)
 go_simp
 clear hHeld
 refine (unhide HS _ HB _ hc).mono ?_
 rintro e V5 ⟨rfl, hb5⟩
 have hs6 := hb5.size
 replace d0 := zC d0 hb5
 replace d1 := zC d1 hb5
 replace d2 := zC d2 hb5
 replace h := zC h hb5
 replace hc := zC hc hb5
 replace HB := tm HB hb5
 clear hb5
 refine hK.out _ _ ⟨d0, d1, d2, h⟩ (fun hHeld => ?_)
 clear hK K
 (try simp only [nz])
 refine tk (i := 4) (d := 3) rfl (by kernel_rfl) (fun _ _ _ h => h) rfl ‹_› (by intro w h; (try dsimp only at h); go_simp <;> with_reducible rfl) ?_
 simp only [nz]
 refine wpAnyH_done (by kernel_rfl) ?_ _
 clear hHeld
 go_wp2_with fail
 go_ret
 exact ⟨rfl, HB⟩
theorem picks_any2 {w : World} {P : List Pr} {o : Option Addr} {cap : Nat} {b : Nat} (h : w.cell? ⟨b, 0, none⟩ = some (.slice o P.length cap)) (hP : PrsAt w (.slice o P.length cap) P) (hl : P.length * 40 ≤ 140737488355328) :
  PicksSw w 30 #[.pointer (some ⟨b, 0, none⟩)] (fun s => P.any (isOfB s.i)) :=
 fun W x hW => any2_any x P o cap b W (cell_beh h hW (Nat.le_refl _)) (RowAt.below hP hW (Nat.le_refl _)) hl
end Go.Proofs.YtncdininppehkaaGreat

namespace Go.Proofs.YtncdininppehkaaGreat
open Go.RowKit
set_option linter.unusedVariables false
set_option maxRecDepth 100000
theorem in2 {α : Type} {p : α → Prop} {a b : α} (h1 : p a) (h2 : p b) : ∀ y ∈ [a, b], p y := fun y hy => by
 simp only [List.mem_cons, List.not_mem_nil, or_false] at hy
 rcases hy with rfl | rfl
 ·exact h1
 ·exact h2
theorem in5 {α : Type} {p : α → Prop} {a b c d e : α} (h1 : p a) (h2 : p b) (h3 : p c) (h4 : p d) (h5 : p e) : ∀ y ∈ [a, b, c, d, e], p y := fun y hy => by
 simp only [List.mem_cons, List.not_mem_nil, or_false] at hy
 rcases hy with rfl | rfl | rfl | rfl | rfl
 ·exact h1
 ·exact h2
 ·exact h3
 ·exact h4
 ·exact h5
theorem flatMap_next {α β : Type} (f : α → List β) (d : α) {l : List α} {k : Nat} (h : k < l.length) : (l.take (k + 1)).flatMap f = (l.take k).flatMap f ++ f (l.getD k d) := by
 rw [List.take_succ_eq_append_getElem h, List.flatMap_append]
 simp [List.getD, List.getElem?_eq_getElem h]
theorem toPort_len (l : List Pr) : (l.flatMap toPortD).length = 2 * l.length := by
 induction l with
 | nil => rfl
 | cons x r ih => simp [toPortD] at ih ⊢; omega
set_option maxHeartbeats 8000000 in
theorem toOthers_any (S : List Sw) (P : List Pr) (A : List Ac) (s1 p1 a1 : Option Addr) (s2 p2 a2 : Nat) (x : Pr) (w : World) (hC : CfAt w (.slice s1 S.length s2) (.slice p1 P.length p2) (.slice a1 A.length a2) S P A) (hl : P.length ≤ 1000) :
  Calls Tryz.prog 62 #[.agg #[.slice s1 S.length s2, .slice p1 P.length p2, .slice a1 A.length a2], .agg #[.int .i64 x.i, .int .i64 x.s, .int .i64 x.m, .int .i64 x.p, .int .i64 x.c]] w fun e w' => ∃ u, e = .returned u ∧ w'.ownsRow w.heap.size 98 3 u ((P.filter (othersB x)).flatMap toPortD).length (D ((P.filter (othersB x)).flatMap toPortD)) ∧ Below w.heap.size w w' := by
 obtain ⟨iD, hiD, zD0, zD1, zD2⟩ := info_parts infoDoes
 have HP := hide hC.2.1
 clear hC
 have HO : Hid (othersB x = fun y => (y.s == x.s && !(y.i == x.i)) && somewhereB y) := rfl
 obtain ⟨Q, hQ⟩ : ∃ Q, Q = P.filter (othersB x) := ⟨_, rfl⟩
 have HQL : Q.length ≤ 1000 := by rw [hQ]; exact Nat.le_trans (List.length_filter_le _ _) hl
 rw [← hQ]
 have HQ := hide hQ
 clear hQ
 go_enter Tryz.func62, Tryz.ntmps62
 go_wp2_with fail
 obtain ⟨W0, hW⟩ : ∃ W0, W0 = w.alloc (.cells #[.slice s1 S.length s2, .slice p1 P.length p2, .slice a1 A.length a2] 29) := ⟨_, rfl⟩
 rw [← hW]
 obtain ⟨cb, hblk⟩ : ∃ cb, cb = w.heap.size := ⟨_, rfl⟩
 have k0 : W0.cell? ⟨cb, 0, none⟩ = some (.slice s1 S.length s2) := by rw [hW, hblk]; exact new_cell w _ rfl _ _ _ _ rfl
 have k1 : W0.cell? ⟨cb, 1, none⟩ = some (.slice p1 P.length p2) := by rw [hW, hblk]; exact new_cell w _ rfl _ _ _ _ rfl
 have k2 : W0.cell? ⟨cb, 2, none⟩ = some (.slice a1 A.length a2) := by rw [hW, hblk]; exact new_cell w _ rfl _ _ _ _ rfl
 have hbN : Below w.heap.size w W0 := by rw [hW]; exact alloc_below _ _
 have hzW0 : W0.heap.size = cb + 1 := by rw [hW, hblk]; simp
 rw [← hblk]
 clear hW hblk
 have HB := hbN
 clear hbN
 obtain ⟨W1, hW⟩ : ∃ W1, W1 = W0.alloc (.cells #[.int .i64 x.i, .int .i64 x.s, .int .i64 x.m, .int .i64 x.p, .int .i64 x.c] 71) := ⟨_, rfl⟩
 rw [← hW]
 obtain ⟨pb, hblk⟩ : ∃ pb, pb = cb + 1 := ⟨_, rfl⟩
 have d0 : W1.cell? ⟨pb, 0, none⟩ = some (.int .i64 x.i) := by rw [hW, hblk]; exact new_cell W0 _ hzW0 _ _ _ _ rfl
 have d1 : W1.cell? ⟨pb, 1, none⟩ = some (.int .i64 x.s) := by rw [hW, hblk]; exact new_cell W0 _ hzW0 _ _ _ _ rfl
 have d2 : W1.cell? ⟨pb, 2, none⟩ = some (.int .i64 x.m) := by rw [hW, hblk]; exact new_cell W0 _ hzW0 _ _ _ _ rfl
 have d3 : W1.cell? ⟨pb, 3, none⟩ = some (.int .i64 x.p) := by rw [hW, hblk]; exact new_cell W0 _ hzW0 _ _ _ _ rfl
 have d4 : W1.cell? ⟨pb, 4, none⟩ = some (.int .i64 x.c) := by rw [hW, hblk]; exact new_cell W0 _ hzW0 _ _ _ _ rfl
 have hbN : Below W0.heap.size W0 W1 := by rw [hW]; exact alloc_below _ _
 have hzW1 : W1.heap.size = pb + 1 := by rw [hW, hblk]; simp [hzW0]
 rw [← hblk]
 clear hW hblk hzW0
 replace k0 := zC k0 hbN
 replace k1 := zC k1 hbN
 replace k2 := zC k2 hbN
 replace HB := tm HB hbN
 clear hbN hzW1
 have hs0_3 := HB.size
 refine wp_region_held_drew (S := (fun w' => w'.cell? ⟨cb, 0, none⟩ = some (.slice s1 S.length s2) ∧ w'.cell? ⟨cb, 1, none⟩ = some (.slice p1 P.length p2) ∧ w'.cell? ⟨cb, 2, none⟩ = some (.slice a1 A.length a2) ∧ w'.cell? ⟨pb, 0, none⟩ = some (.int .i64 x.i) ∧ w'.cell? ⟨pb, 1, none⟩ = some (.int .i64 x.s) ∧ w'.cell? ⟨pb, 2, none⟩ = some (.int .i64 x.m) ∧ w'.cell? ⟨pb, 3, none⟩ = some (.int .i64 x.p) ∧ w'.cell? ⟨pb, 4, none⟩ = some (.int .i64 x.c))) (by kernel_rfl) ⟨k0, k1, k2, d0, d1, d2, d3, d4⟩ (fun hHeld => ?_)
 have HDW : Below W1.heap.size W1 W1.drew := (Below.refl _ _).drew
 have hs1 := HDW.size
 replace k0 := zC k0 HDW
 replace k1 := zC k1 HDW
 replace k2 := zC k2 HDW
 replace d0 := zC d0 HDW
 replace d1 := zC d1 HDW
 replace d2 := zC d2 HDW
 replace d3 := zC d3 HDW
 replace d4 := zC d4 HDW
 replace HB := tm HB HDW
 clear HDW
 generalize W1.drew = V2 at *
 refine tk (i := 0) (d := 10) rfl (by kernel_rfl) (fun _ _ _ h => h) rfl ‹_› (by intro w h; (try dsimp only at h); go_simp <;> with_reducible rfl) ?_
 simp only [nz]
 refine tk (i := 1) (d := 11) rfl (by kernel_rfl) (fun _ _ _ h => h) rfl ‹_› (by intro w h; (try dsimp only at h); go_simp <;> with_reducible rfl) ?_
 simp only [nz]
 refine tk (i := 2) (d := 12) rfl (by kernel_rfl) (fun _ _ _ h => h) rfl ‹_› (by intro w h; (try dsimp only at h); go_simp <;> with_reducible rfl) ?_
 simp only [nz]
 refine tk (i := 6) (d := 16) rfl (by kernel_rfl) (fun _ _ _ h => h) rfl ‹_› (by intro w h; (try dsimp only at h); go_simp <;> with_reducible rfl) ?_
 simp only [nz]
 refine rd (i := 3) (o := ⟨some 13, _, _, _, _, _⟩) (by kernel_rfl) rfl (fun K hK => ?_)
 go_simp
 clear hHeld
 refine (both_any _ _ _ _ _).mono ?_
 rintro e V3 ⟨bb, bc, rfl, hc1, hc2, hb3⟩
 have hs4 := hb3.size
 replace k0 := zC k0 hb3
 replace k1 := zC k1 hb3
 replace k2 := zC k2 hb3
 replace d0 := zC d0 hb3
 replace d1 := zC d1 hb3
 replace d2 := zC d2 hb3
 replace d3 := zC d3 hb3
 replace d4 := zC d4 hb3
 replace HB := tm HB hb3
 have b0 := hc1
 have b1 := hc2
 clear hc1 hc2
 clear hb3
 refine hK.out _ _ ⟨k0, k1, k2, d0, d1, d2, d3, d4⟩ (fun hHeld => ?_)
 clear hK K
 (try simp only [nz])
 refine rd (i := 4) (o := ⟨some 14, _, _, _, _, _⟩) (by kernel_rfl) rfl (fun K hK => ?_)
 go_simp
 clear hHeld
 refine (pickedPr_any P (othersB x) _ _ _ _ (RowAt.below HP.out HB (Nat.le_refl _)) (by rw [HO.out]; exact picks_both b0 b1 (picks_others d0 d1) (picks_some _) ent_others ent_some) ent_both hl).mono ?_
 rintro e V5 ⟨u, rfl, hor, hb5⟩
 have hs6 := hb5.size
 replace k0 := zC k0 hb5
 replace k1 := zC k1 hb5
 replace k2 := zC k2 hb5
 replace d0 := zC d0 hb5
 replace d1 := zC d1 hb5
 replace d2 := zC d2 hb5
 replace d3 := zC d3 hb5
 replace d4 := zC d4 hb5
 replace b0 := zC b0 hb5
 replace b1 := zC b1 hb5
 replace HB := tm HB hb5
 obtain ⟨o, c, rfl⟩ := own_slc hor
 have HR := hide hor
 clear hor
 clear hb5
 refine hK.out _ _ ⟨k0, k1, k2, d0, d1, d2, d3, d4⟩ (fun hHeld => ?_)
 clear hK K
 (try simp only [nz])
 refine tk (i := 5) (d := 15) rfl (by kernel_rfl) (fun _ _ _ h => h) rfl ‹_› (by intro w h; (try dsimp only at h); go_simp <;> with_reducible rfl) ?_
 simp only [nz]
 refine wpAnyH_done (by kernel_rfl) ?_ _
 clear hHeld
 rw [← HQ.out] at HR ⊢
 have HRB : Hid (Below w.heap.size w V5) := hide HB
 clear HB HP HO HQ k0 k1 k2 d0 d1 d2 d3 d4 b0 b1
 go_wp2_with fail
 go_loopw [6, 16] (fun v i wr => ∃ k : Nat, k ≤ Q.length ∧ i = .int .i64 k ∧ Hid (wr.ownsRow V5.heap.size 98 3 v ((Q.take k).flatMap toPortD).length (D ((Q.take k).flatMap toPortD))) ∧ Below V5.heap.size V5 wr) (fun _ i _ => Q.length - (intOf i).toNat)
 case atStart => exact ⟨0, by omega, rfl, hide (World.ownsRow_nil _ _ _ _), Below.refl _ _⟩
 case round =>
  obtain ⟨k, hk, rfl, HL, hbr⟩ := hrel
  by_cases hlt : k < Q.length
  ·obtain ⟨b, off, cap, e1, hcap, -, g0, g1, g2, g3, g4⟩ := pr_at (RowAt.below (RowAt.of_own prC_len (by decide) HR.out) hbr (Nat.le_refl _)) hlt
   simp only [Value.slice.injEq, true_and] at e1
   obtain ⟨rfl, rfl⟩ := e1
   have HN := hide (flatMap_next toPortD pr0 hlt)
   have HTP := hide (fun W => toPort_any (Q.getD k pr0).i (Q.getD k pr0).s (Q.getD k pr0).m (Q.getD k pr0).p (Q.getD k pr0).c W)
   have hlen : ((Q.take k).flatMap toPortD).length ≤ 2000 := by rw [toPort_len, List.length_take]; omega
   have HTD : Hid (toPortD (Q.getD k pr0) = toPortD ⟨(Q.getD k pr0).i, (Q.getD k pr0).s, (Q.getD k pr0).m, (Q.getD k pr0).p, (Q.getD k pr0).c⟩) := rfl
   obtain ⟨lo, lc, rfl⟩ := own_slc HL.out
   generalize hN0 : ((Q.take k).flatMap toPortD).length = N at *
   have HN0 := hide hN0
   clear hN0
   generalize hXS : D ((Q.take k).flatMap toPortD) = XS at *
   have HXS := hide hXS
   clear hXS
   generalize (Q.getD k pr0).i = y0 at *
   generalize (Q.getD k pr0).s = y1 at *
   generalize (Q.getD k pr0).m = y2 at *
   generalize (Q.getD k pr0).p = y3 at *
   generalize (Q.getD k pr0).c = y4 at *
   have q1 : (0 : Int) ≤ (k : Int) := by omega
   have q2 : (k : Int) < (Q.length : Int) := by omega
   obtain ⟨W9, hW9⟩ : ∃ W9, W9 = wr.alloc (.cells #[.int .i64 y0, .int .i64 y1, .int .i64 y2, .int .i64 y3, .int .i64 y4] 71) := ⟨_, rfl⟩
   have hbW : Below wr.heap.size wr W9 := by rw [hW9]; exact alloc_below _ _
   go_wp2_with fail
   rw [← hW9]
   clear hW9
   refine (unhide HTP _).mono ?_
   rintro e w1 ⟨u, rfl, hod, hb1⟩
   have hb01 := hbW.trans (hb1.mono hbW.size)
   have HL1 := hide (own_below HL.out hb01)
   have HB1 : Hid (Below V5.heap.size V5 w1) := hide (hbr.trans (hb01.mono hbr.size))
   have hs1 := HB1.out.size
   obtain ⟨gd, cd, rfl, -, -⟩ := own_blk hod (by decide)
   have HOD := hide (hod.cells rfl)
   have HONE := hide (D_one (toPortD ⟨y0, y1, y2, y3, y4⟩))
   clear hod hb1 hb01 hbW hbr HTP HL g0 g1 g2 g3 g4
   go_wp2_with (at_builtin; refine wpList_append_own _ rfl _ _ 88 rfl V5.heap.size 98 iD _ 3 24 Tryz.underlying88 hiD zD0 zD1 zD2 rfl (by decide) _ _ _ rfl (unhide HL1) ⟨gd, 0, none⟩ 2 cd (D (toPortD ⟨y0, y1, y2, y3, y4⟩)) rfl rfl (unhide HOD) (unhide HONE) ?a1 ?a2 ?a3 ?_)
   case a1 => unfold maxLen; omega
   case a2 => omega
   case a3 => exact hs1
   intro v3 w3 ho3 hg3 _
   have hb3 : Below V5.heap.size V5 w3 := HB1.out.grown hg3 hs1 (own_ge HL1.out)
   have HE : Hid (w3.ownsRow V5.heap.size 98 3 v3 ((Q.take (k + 1)).flatMap toPortD).length (D ((Q.take (k + 1)).flatMap toPortD))) := by
    refine hide ?_
    rw [HN.out, List.length_append, D_app, HN0.out, HXS.out, HTD.out]
    exact ho3
   clear ho3 hg3 HL1 HOD HN HTD
   go_wp2_with fail
   go_roundw
   case rel => exact ⟨k + 1, by omega, by go_num, HE, hb3⟩
   case measure => simp [intOf]; omega
  ·obtain rfl : k = Q.length := by omega
   rw [List.take_length] at HL
   obtain ⟨lo, lc, rfl⟩ := own_slc HL.out
   have HE := hide (own_less HL.out HRB.out.size)
   have HB2 := hide (HRB.out.trans (hbr.mono HRB.out.size))
   clear HL
   go_wp2_with fail
   go_ret
   exact ⟨_, rfl, HE.out, HB2.out⟩
set_option maxHeartbeats 16000000 in
theorem portFlows_any (S : List Sw) (P : List Pr) (A : List Ac) (s1 p1 a1 : Option Addr) (s2 p2 a2 : Nat) (x : Pr) (w : World) (hC : CfAt w (.slice s1 S.length s2) (.slice p1 P.length p2) (.slice a1 A.length a2) S P A) (hl : P.length ≤ 1000) :
  Calls Tryz.prog 28 #[.agg #[.slice s1 S.length s2, .slice p1 P.length p2, .slice a1 A.length a2], .agg #[.int .i64 x.i, .int .i64 x.s, .int .i64 x.m, .int .i64 x.p, .int .i64 x.c]] w fun e w' => ∃ u, e = .returned u ∧ FR w' w.heap.size u (portFl P x) ∧ Below w.heap.size w w' := by
 have HC := hide hC
 clear hC
 go_enter Tryz.func28, Tryz.ntmps28
 go_wp2_with fail
 obtain ⟨W0, hW⟩ : ∃ W0, W0 = w.alloc (.cells #[.slice s1 S.length s2, .slice p1 P.length p2, .slice a1 A.length a2] 29) := ⟨_, rfl⟩
 rw [← hW]
 obtain ⟨cb, hblk⟩ : ∃ cb, cb = w.heap.size := ⟨_, rfl⟩
 have k0 : W0.cell? ⟨cb, 0, none⟩ = some (.slice s1 S.length s2) := by rw [hW, hblk]; exact new_cell w _ rfl _ _ _ _ rfl
 have k1 : W0.cell? ⟨cb, 1, none⟩ = some (.slice p1 P.length p2) := by rw [hW, hblk]; exact new_cell w _ rfl _ _ _ _ rfl
 have k2 : W0.cell? ⟨cb, 2, none⟩ = some (.slice a1 A.length a2) := by rw [hW, hblk]; exact new_cell w _ rfl _ _ _ _ rfl
 have hbN : Below w.heap.size w W0 := by rw [hW]; exact alloc_below _ _
 have hzW0 : W0.heap.size = cb + 1 := by rw [hW, hblk]; simp
 rw [← hblk]
 clear hW hblk
 have HB := hbN
 clear hbN
 obtain ⟨W1, hW⟩ : ∃ W1, W1 = W0.alloc (.cells #[.int .i64 x.i, .int .i64 x.s, .int .i64 x.m, .int .i64 x.p, .int .i64 x.c] 71) := ⟨_, rfl⟩
 rw [← hW]
 obtain ⟨pb, hblk⟩ : ∃ pb, pb = cb + 1 := ⟨_, rfl⟩
 have d0 : W1.cell? ⟨pb, 0, none⟩ = some (.int .i64 x.i) := by rw [hW, hblk]; exact new_cell W0 _ hzW0 _ _ _ _ rfl
 have d1 : W1.cell? ⟨pb, 1, none⟩ = some (.int .i64 x.s) := by rw [hW, hblk]; exact new_cell W0 _ hzW0 _ _ _ _ rfl
 have d2 : W1.cell? ⟨pb, 2, none⟩ = some (.int .i64 x.m) := by rw [hW, hblk]; exact new_cell W0 _ hzW0 _ _ _ _ rfl
 have d3 : W1.cell? ⟨pb, 3, none⟩ = some (.int .i64 x.p) := by rw [hW, hblk]; exact new_cell W0 _ hzW0 _ _ _ _ rfl
 have d4 : W1.cell? ⟨pb, 4, none⟩ = some (.int .i64 x.c) := by rw [hW, hblk]; exact new_cell W0 _ hzW0 _ _ _ _ rfl
 have hbN : Below W0.heap.size W0 W1 := by rw [hW]; exact alloc_below _ _
 have hzW1 : W1.heap.size = pb + 1 := by rw [hW, hblk]; simp [hzW0]
 rw [← hblk]
 clear hW hblk hzW0
 replace k0 := zC k0 hbN
 replace k1 := zC k1 hbN
 replace k2 := zC k2 hbN
 replace HB := tm HB hbN
 clear hbN hzW1
 refine (is_any _ _ _).mono ?_
 rintro e W2 ⟨rfl, hbN⟩
 replace k0 := zC k0 hbN
 replace k1 := zC k1 hbN
 replace k2 := zC k2 hbN
 replace d0 := zC d0 hbN
 replace d1 := zC d1 hbN
 replace d2 := zC d2 hbN
 replace d3 := zC d3 hbN
 replace d4 := zC d4 hbN
 replace HB := tm HB hbN
 clear hbN
 have hp1 := cell_in d1
 have hp2 : ¬ pb = W2.heap.size := by omega
 go_wp2_with fail
 clear hp1 hp2
 obtain ⟨W3, hW⟩ : ∃ W3, W3 = W2.alloc (.cells #[.int .i64 0, .int .i64 65535, .int .i64 x.i] 95) := ⟨_, rfl⟩
 rw [← hW]
 obtain ⟨mb, hblk⟩ : ∃ mb, mb = W2.heap.size := ⟨_, rfl⟩
 have m0 : W3.cell? ⟨mb, 0, none⟩ = some (.int .i64 0) := by rw [hW, hblk]; exact new_cell W2 _ rfl _ _ _ _ rfl
 have m1 : W3.cell? ⟨mb, 1, none⟩ = some (.int .i64 65535) := by rw [hW, hblk]; exact new_cell W2 _ rfl _ _ _ _ rfl
 have m2 : W3.cell? ⟨mb, 2, none⟩ = some (.int .i64 x.i) := by rw [hW, hblk]; exact new_cell W2 _ rfl _ _ _ _ rfl
 have hbN : Below W2.heap.size W2 W3 := by rw [hW]; exact alloc_below _ _
 have hzW3 : W3.heap.size = mb + 1 := by rw [hW, hblk]; simp
 rw [← hblk]
 clear hW hblk
 replace k0 := zC k0 hbN
 replace k1 := zC k1 hbN
 replace k2 := zC k2 hbN
 replace d0 := zC d0 hbN
 replace d1 := zC d1 hbN
 replace d2 := zC d2 hbN
 replace d3 := zC d3 hbN
 replace d4 := zC d4 hbN
 replace HB := tm HB hbN
 clear hbN hzW3
 refine (does_any _ _ _ _).mono ?_
 rintro e W4 ⟨rfl, hbN⟩
 replace k0 := zC k0 hbN
 replace k1 := zC k1 hbN
 replace k2 := zC k2 hbN
 replace d0 := zC d0 hbN
 replace d1 := zC d1 hbN
 replace d2 := zC d2 hbN
 replace d3 := zC d3 hbN
 replace d4 := zC d4 hbN
 replace m0 := zC m0 hbN
 replace m1 := zC m1 hbN
 replace m2 := zC m2 hbN
 replace HB := tm HB hbN
 clear hbN
 go_wp2_with fail
 obtain ⟨W5, hW⟩ : ∃ W5, W5 = W4.alloc (.cells #[.int .i64 1, .int .i64 8, .int .i64 x.s] 98) := ⟨_, rfl⟩
 rw [← hW]
 obtain ⟨eb, hblk⟩ : ∃ eb, eb = W4.heap.size := ⟨_, rfl⟩
 have e0 : W5.cell? ⟨eb, 0, none⟩ = some (.int .i64 1) := by rw [hW, hblk]; exact new_cell W4 _ rfl _ _ _ _ rfl
 have e1 : W5.cell? ⟨eb, 1, none⟩ = some (.int .i64 8) := by rw [hW, hblk]; exact new_cell W4 _ rfl _ _ _ _ rfl
 have e2 : W5.cell? ⟨eb, 2, none⟩ = some (.int .i64 x.s) := by rw [hW, hblk]; exact new_cell W4 _ rfl _ _ _ _ rfl
 have hbN : Below W4.heap.size W4 W5 := by rw [hW]; exact alloc_below _ _
 have hzW5 : W5.heap.size = eb + 1 := by rw [hW, hblk]; simp
 rw [← hblk]
 clear hW hblk
 replace k0 := zC k0 hbN
 replace k1 := zC k1 hbN
 replace k2 := zC k2 hbN
 replace d0 := zC d0 hbN
 replace d1 := zC d1 hbN
 replace d2 := zC d2 hbN
 replace d3 := zC d3 hbN
 replace d4 := zC d4 hbN
 replace m0 := zC m0 hbN
 replace m1 := zC m1 hbN
 replace m2 := zC m2 hbN
 replace HB := tm HB hbN
 clear hbN hzW5
 have hs0_3 := HB.size
 refine wp_region_held_drew (S := (fun w' => w'.cell? ⟨cb, 0, none⟩ = some (.slice s1 S.length s2) ∧ w'.cell? ⟨cb, 1, none⟩ = some (.slice p1 P.length p2) ∧ w'.cell? ⟨cb, 2, none⟩ = some (.slice a1 A.length a2) ∧ w'.cell? ⟨pb, 0, none⟩ = some (.int .i64 x.i) ∧ w'.cell? ⟨pb, 1, none⟩ = some (.int .i64 x.s) ∧ w'.cell? ⟨pb, 2, none⟩ = some (.int .i64 x.m) ∧ w'.cell? ⟨pb, 3, none⟩ = some (.int .i64 x.p) ∧ w'.cell? ⟨pb, 4, none⟩ = some (.int .i64 x.c) ∧ w'.cell? ⟨mb, 0, none⟩ = some (.int .i64 0) ∧ w'.cell? ⟨mb, 1, none⟩ = some (.int .i64 65535) ∧ w'.cell? ⟨mb, 2, none⟩ = some (.int .i64 x.i) ∧ w'.cell? ⟨eb, 0, none⟩ = some (.int .i64 1) ∧ w'.cell? ⟨eb, 1, none⟩ = some (.int .i64 8) ∧ w'.cell? ⟨eb, 2, none⟩ = some (.int .i64 x.s))) (by kernel_rfl) ⟨k0, k1, k2, d0, d1, d2, d3, d4, m0, m1, m2, e0, e1, e2⟩ (fun hHeld => ?_)
 have HDW : Below W5.heap.size W5 W5.drew := (Below.refl _ _).drew
 have hs1 := HDW.size
 replace k0 := zC k0 HDW
 replace k1 := zC k1 HDW
 replace k2 := zC k2 HDW
 replace d0 := zC d0 HDW
 replace d1 := zC d1 HDW
 replace d2 := zC d2 HDW
 replace d3 := zC d3 HDW
 replace d4 := zC d4 HDW
 replace m0 := zC m0 HDW
 replace m1 := zC m1 HDW
 replace m2 := zC m2 HDW
 replace e0 := zC e0 HDW
 replace e1 := zC e1 HDW
 replace e2 := zC e2 HDW
 replace HB := tm HB HDW
 clear HDW
 generalize W5.drew = V2 at *
 refine tk (i := 0) (d := 13) rfl (by kernel_rfl) (fun _ _ _ h => h) rfl ‹_› (by intro w h; (try dsimp only at h); go_simp <;> with_reducible rfl) ?_
 simp only [nz]
 refine tk (i := 5) (d := 18) rfl (by kernel_rfl) (fun _ _ _ h => h) rfl ‹_› (by intro w h; (try dsimp only at h); go_simp <;> with_reducible rfl) ?_
 simp only [nz]
 refine tk (i := 9) (d := 22) rfl (by kernel_rfl) (fun _ _ _ h => h) rfl ‹_› (by intro w h; (try dsimp only at h); go_simp <;> with_reducible rfl) ?_
 simp only [nz]
 refine tk (i := 14) (d := 27) rfl (by kernel_rfl) (fun _ _ _ h => h) rfl ‹_› (by intro w h; (try dsimp only at h); go_simp <;> with_reducible rfl) ?_
 simp only [nz]
 refine tk (i := 18) (d := 31) rfl (by kernel_rfl) (fun _ _ _ h => h) rfl ‹_› (by intro w h; (try dsimp only at h); go_simp <;> with_reducible rfl) ?_
 simp only [nz]
 refine tk (i := 19) (d := 32) rfl (by kernel_rfl) (fun _ _ _ h => h) rfl ‹_› (by intro w h; (try dsimp only at h); go_simp <;> with_reducible rfl) ?_
 simp only [nz]
 refine tk (i := 20) (d := 33) rfl (by kernel_rfl) (fun _ _ _ h => h) rfl ‹_› (by intro w h; (try dsimp only at h); go_simp <;> with_reducible rfl) ?_
 simp only [nz]
 refine tk (i := 24) (d := 37) rfl (by kernel_rfl) (fun _ _ _ h => h) rfl ‹_› (by intro w h; (try dsimp only at h); go_simp <;> with_reducible rfl) ?_
 simp only [nz]
 refine tk (i := 25) (d := 38) rfl (by kernel_rfl) (fun _ _ _ h => h) rfl ‹_› (by intro w h; (try dsimp only at h); go_simp <;> with_reducible rfl) ?_
 simp only [nz]
 refine tk (i := 26) (d := 39) rfl (by kernel_rfl) (fun _ _ _ h => h) rfl ‹_› (by intro w h; (try dsimp only at h); go_simp <;> with_reducible rfl) ?_
 simp only [nz]
 refine tk (i := 30) (d := 43) rfl (by kernel_rfl) (fun _ _ _ h => h) rfl ‹_› (by intro w h; (try dsimp only at h); go_simp <;> with_reducible rfl) ?_
 simp only [nz]
 refine tk (i := 33) (d := 46) rfl (by kernel_rfl) (fun _ _ _ h => h) rfl ‹_› (by intro w h; (try dsimp only at h); go_simp <;> with_reducible rfl) ?_
 simp only [nz]
 refine tk (i := 34) (d := 47) rfl (by kernel_rfl) (fun _ _ _ h => h) rfl ‹_› (by intro w h; (try dsimp only at h); go_simp <;> with_reducible rfl) ?_
 simp only [nz]
 refine tk (i := 37) (d := 50) rfl (by kernel_rfl) (fun _ _ _ h => h) rfl ‹_› (by intro w h; (try dsimp only at h); go_simp <;> with_reducible rfl) ?_
 simp only [nz]
 refine tk (i := 38) (d := 51) rfl (by kernel_rfl) (fun _ _ _ h => h) rfl ‹_› (by intro w h; (try dsimp only at h); go_simp <;> with_reducible rfl) ?_
 simp only [nz]
 refine tk (i := 40) (d := 53) rfl (by kernel_rfl) (fun _ _ _ h => h) rfl ‹_› (by intro w h; (try dsimp only at h); go_simp <;> with_reducible rfl) ?_
 simp only [nz]
 refine tk (i := 41) (d := 54) rfl (by kernel_rfl) (fun _ _ _ h => h) rfl ‹_› (by intro w h; (try dsimp only at h); go_simp <;> with_reducible rfl) ?_
 simp only [nz]
 refine tk (i := 44) (d := 57) rfl (by kernel_rfl) (fun _ _ _ h => h) rfl ‹_› (by intro w h; (try dsimp only at h); go_simp <;> with_reducible rfl) ?_
 simp only [nz]
 refine tk (i := 45) (d := 58) rfl (by kernel_rfl) (fun _ _ _ h => h) rfl ‹_› (by intro w h; (try dsimp only at h); go_simp <;> with_reducible rfl) ?_
 simp only [nz]
 refine rd (i := 1) (o := ⟨some 14, _, _, _, _, _⟩) (by kernel_rfl) rfl (fun K hK => ?_)
 go_simp
 clear hHeld
 have HBold := HB.size
 refine (sentMatches_any _ _ _ _ _ _).mono ?_
 rintro e V3 ⟨u3, rfl, ho3, hb3⟩
 have hs4 := hb3.size
 replace k0 := zC k0 hb3
 replace k1 := zC k1 hb3
 replace k2 := zC k2 hb3
 replace d0 := zC d0 hb3
 replace d1 := zC d1 hb3
 replace d2 := zC d2 hb3
 replace d3 := zC d3 hb3
 replace d4 := zC d4 hb3
 replace m0 := zC m0 hb3
 replace m1 := zC m1 hb3
 replace m2 := zC m2 hb3
 replace e0 := zC e0 hb3
 replace e1 := zC e1 hb3
 replace e2 := zC e2 hb3
 replace HB := tm HB hb3
 obtain ⟨g5, c5, rfl, hg5, hl5⟩ := own_blk ho3 (by decide)
 have HS1 := hide (own_less ho3 (Nat.le_trans HBold (Nat.le_refl _)))
 clear ho3 HBold
 clear hb3
 refine hK.out _ _ ⟨k0, k1, k2, d0, d1, d2, d3, d4, m0, m1, m2, e0, e1, e2⟩ (fun hHeld => ?_)
 clear hK K
 (try simp only [nz])
 refine rd (i := 2) (o := ⟨some 15, _, _, _, _, _⟩) (by kernel_rfl) rfl (fun K hK => ?_)
 go_simp
 clear hHeld
 have HBold := HB.size
 refine (dataMatches_any _).mono ?_
 rintro e V6 ⟨u6, rfl, ho6, hb6⟩
 have hs7 := hb6.size
 replace k0 := zC k0 hb6
 replace k1 := zC k1 hb6
 replace k2 := zC k2 hb6
 replace d0 := zC d0 hb6
 replace d1 := zC d1 hb6
 replace d2 := zC d2 hb6
 replace d3 := zC d3 hb6
 replace d4 := zC d4 hb6
 replace m0 := zC m0 hb6
 replace m1 := zC m1 hb6
 replace m2 := zC m2 hb6
 replace e0 := zC e0 hb6
 replace e1 := zC e1 hb6
 replace e2 := zC e2 hb6
 replace HS1 := ob HS1 hb6
 replace HB := tm HB hb6
 obtain ⟨g8, c8, rfl, hg8, hl8⟩ := own_blk ho6 (by decide)
 have HT1 := hide (own_less ho6 (Nat.le_trans HBold (Nat.le_refl _)))
 clear ho6 HBold
 clear hb6
 refine hK.out _ _ ⟨k0, k1, k2, d0, d1, d2, d3, d4, m0, m1, m2, e0, e1, e2⟩ (fun hHeld => ?_)
 clear hK K
 (try simp only [nz])
 refine rd (i := 3) (o := ⟨some 16, _, _, _, _, _⟩) (by kernel_rfl) rfl (fun K hK => ?_)
 go_simp
 clear hHeld
 refine alloc_step (fun V9 g9 hV hg => ?_)
 rw [← hg]
 have hbN := bn hV
 have hg9 : V6.heap.size ≤ g9 := by omega
 have hl9 := ln hV hg
 have q0 : V9.cell? ⟨g9, 0, none⟩ = some (.slice (some ⟨g5, 0, none⟩) 5 c5) := by rw [hV, hg]; exact new_cell V6 _ rfl _ _ _ _ rfl
 have q1 : V9.cell? ⟨g9, 1, none⟩ = some (.slice (some ⟨g8, 0, none⟩) 2 c8) := by rw [hV, hg]; exact new_cell V6 _ rfl _ _ _ _ rfl
 have hs10 := hbN.size
 replace k0 := zC k0 hbN
 replace k1 := zC k1 hbN
 replace k2 := zC k2 hbN
 replace d0 := zC d0 hbN
 replace d1 := zC d1 hbN
 replace d2 := zC d2 hbN
 replace d3 := zC d3 hbN
 replace d4 := zC d4 hbN
 replace m0 := zC m0 hbN
 replace m1 := zC m1 hbN
 replace m2 := zC m2 hbN
 replace e0 := zC e0 hbN
 replace e1 := zC e1 hbN
 replace e2 := zC e2 hbN
 replace HS1 := ob HS1 hbN
 replace HT1 := ob HT1 hbN
 replace HB := tm HB hbN
 clear hV hg hbN
 refine hK.out _ _ ⟨k0, k1, k2, d0, d1, d2, d3, d4, m0, m1, m2, e0, e1, e2⟩ (fun hHeld => ?_)
 clear hK K
 (try simp only [nz])
 refine rd (i := 4) (o := ⟨some 17, _, _, _, _, _⟩) (by kernel_rfl) rfl (fun K hK => ?_)
 go_simp
 clear hHeld
 have HBold := HB.size
 refine (concatMs_any [((.slice (some ⟨g5, 0, none⟩) 5 c5 : Value), 5, M (sentMs x)), ((.slice (some ⟨g8, 0, none⟩) 2 c8 : Value), 2, M dataMs)] g9 2 V9 (fun j hj => match j, hj with | 0, _ => q0 | 1, _ => q1 | j + 2, h => absurd h (by simp)) (in2 (SrcAt.of_own HS1.out (M_one _)) (SrcAt.of_own HT1.out (M_one _))) (by exact (show (2 : Nat) ≤ 10 by decide)) (by exact (show (2 : Nat) ≤ 2 by decide)) (in2 (by exact (show (5 : Nat) ≤ 100000 by decide)) (by exact (show (2 : Nat) ≤ 100000 by decide)))).mono ?_
 rintro e V11 ⟨u11, rfl, ho11, hb11⟩
 have hs12 := hb11.size
 replace k0 := zC k0 hb11
 replace k1 := zC k1 hb11
 replace k2 := zC k2 hb11
 replace d0 := zC d0 hb11
 replace d1 := zC d1 hb11
 replace d2 := zC d2 hb11
 replace d3 := zC d3 hb11
 replace d4 := zC d4 hb11
 replace m0 := zC m0 hb11
 replace m1 := zC m1 hb11
 replace m2 := zC m2 hb11
 replace e0 := zC e0 hb11
 replace e1 := zC e1 hb11
 replace e2 := zC e2 hb11
 replace q0 := zC q0 hb11
 replace q1 := zC q1 hb11
 replace HS1 := ob HS1 hb11
 replace HT1 := ob HT1 hb11
 replace HB := tm HB hb11
 obtain ⟨g13, c13, rfl, hg13, hl13⟩ := own_blk (n := 7) ho11 (by decide)
 have HM1 : Hid (V11.ownsRow w.heap.size 95 3 (.slice (some ⟨g13, 0, none⟩) 7 c13) 7 (M (sentMs x ++ dataMs))) := hide (own_less ho11 HBold)
 clear ho11 HBold HS1 HT1 q0 q1
 clear hb11
 refine hK.out _ _ ⟨k0, k1, k2, d0, d1, d2, d3, d4, m0, m1, m2, e0, e1, e2⟩ (fun hHeld => ?_)
 clear hK K
 (try simp only [nz])
 refine rd (i := 6) (o := ⟨some 19, _, _, _, _, _⟩) (by kernel_rfl) rfl (fun K hK => ?_)
 go_simp
 clear hHeld
 refine (does_any _ _ _ _).mono ?_
 rintro e V14 ⟨rfl, hb14⟩
 have hs15 := hb14.size
 replace k0 := zC k0 hb14
 replace k1 := zC k1 hb14
 replace k2 := zC k2 hb14
 replace d0 := zC d0 hb14
 replace d1 := zC d1 hb14
 replace d2 := zC d2 hb14
 replace d3 := zC d3 hb14
 replace d4 := zC d4 hb14
 replace m0 := zC m0 hb14
 replace m1 := zC m1 hb14
 replace m2 := zC m2 hb14
 replace e0 := zC e0 hb14
 replace e1 := zC e1 hb14
 replace e2 := zC e2 hb14
 replace HM1 := ob HM1 hb14
 replace HB := tm HB hb14
 clear hb14
 refine hK.out _ _ ⟨k0, k1, k2, d0, d1, d2, d3, d4, m0, m1, m2, e0, e1, e2⟩ (fun hHeld => ?_)
 clear hK K
 (try simp only [nz])
 refine rd (i := 7) (o := ⟨some 20, _, _, _, _, _⟩) (by kernel_rfl) rfl (fun K hK => ?_)
 go_simp
 clear hHeld
 refine alloc_step (fun V16 g16 hV hg => ?_)
 rw [← hg]
 have hbN := bn hV
 have hg16 : V14.heap.size ≤ g16 := by omega
 have hl16 := ln hV hg
 have HD1 : Hid (V16.ownsRow w.heap.size 98 3 (.slice (some ⟨g16, 0, none⟩) 2 2) 2 (D [⟨1, 8, x.s⟩, gotoD 2])) := by rw [hV, hg]; exact hide (World.ownsRow_lit V14 _ 2 HB.size (by decide) rfl)
 have hs17 := hbN.size
 replace k0 := zC k0 hbN
 replace k1 := zC k1 hbN
 replace k2 := zC k2 hbN
 replace d0 := zC d0 hbN
 replace d1 := zC d1 hbN
 replace d2 := zC d2 hbN
 replace d3 := zC d3 hbN
 replace d4 := zC d4 hbN
 replace m0 := zC m0 hbN
 replace m1 := zC m1 hbN
 replace m2 := zC m2 hbN
 replace e0 := zC e0 hbN
 replace e1 := zC e1 hbN
 replace e2 := zC e2 hbN
 replace HM1 := ob HM1 hbN
 replace HB := tm HB hbN
 clear hV hg hbN
 refine hK.out _ _ ⟨k0, k1, k2, d0, d1, d2, d3, d4, m0, m1, m2, e0, e1, e2⟩ (fun hHeld => ?_)
 clear hK K
 (try simp only [nz])
 refine rd (i := 8) (o := ⟨some 21, _, _, _, _, _⟩) (by kernel_rfl) rfl (fun K hK => ?_)
 go_simp
 clear hHeld
 refine (flowOf_any _ _ _ _ _ _ _ _ _).mono ?_
 rintro e V18 ⟨rfl, hb18⟩
 have hs19 := hb18.size
 replace k0 := zC k0 hb18
 replace k1 := zC k1 hb18
 replace k2 := zC k2 hb18
 replace d0 := zC d0 hb18
 replace d1 := zC d1 hb18
 replace d2 := zC d2 hb18
 replace d3 := zC d3 hb18
 replace d4 := zC d4 hb18
 replace m0 := zC m0 hb18
 replace m1 := zC m1 hb18
 replace m2 := zC m2 hb18
 replace e0 := zC e0 hb18
 replace e1 := zC e1 hb18
 replace e2 := zC e2 hb18
 replace HM1 := ob HM1 hb18
 replace HD1 := ob HD1 hb18
 replace HB := tm HB hb18
 clear hb18
 refine hK.out _ _ ⟨k0, k1, k2, d0, d1, d2, d3, d4, m0, m1, m2, e0, e1, e2⟩ (fun hHeld => ?_)
 clear hK K
 (try simp only [nz])
 refine rd (i := 10) (o := ⟨some 23, _, _, _, _, _⟩) (by kernel_rfl) rfl (fun K hK => ?_)
 go_simp
 clear hHeld
 have HBold := HB.size
 refine (sentMatches_any _ _ _ _ _ _).mono ?_
 rintro e V20 ⟨u20, rfl, ho20, hb20⟩
 have hs21 := hb20.size
 replace k0 := zC k0 hb20
 replace k1 := zC k1 hb20
 replace k2 := zC k2 hb20
 replace d0 := zC d0 hb20
 replace d1 := zC d1 hb20
 replace d2 := zC d2 hb20
 replace d3 := zC d3 hb20
 replace d4 := zC d4 hb20
 replace m0 := zC m0 hb20
 replace m1 := zC m1 hb20
 replace m2 := zC m2 hb20
 replace e0 := zC e0 hb20
 replace e1 := zC e1 hb20
 replace e2 := zC e2 hb20
 replace HM1 := ob HM1 hb20
 replace HD1 := ob HD1 hb20
 replace HB := tm HB hb20
 obtain ⟨g22, c22, rfl, hg22, hl22⟩ := own_blk ho20 (by decide)
 have HS2 := hide (own_less ho20 (Nat.le_trans HBold (Nat.le_refl _)))
 clear ho20 HBold
 clear hb20
 refine hK.out _ _ ⟨k0, k1, k2, d0, d1, d2, d3, d4, m0, m1, m2, e0, e1, e2⟩ (fun hHeld => ?_)
 clear hK K
 (try simp only [nz])
 refine rd (i := 11) (o := ⟨some 24, _, _, _, _, _⟩) (by kernel_rfl) rfl (fun K hK => ?_)
 go_simp
 clear hHeld
 have HBold := HB.size
 refine (bareMatches_any _ _).mono ?_
 rintro e V23 ⟨u23, rfl, ho23, hb23⟩
 have hs24 := hb23.size
 replace k0 := zC k0 hb23
 replace k1 := zC k1 hb23
 replace k2 := zC k2 hb23
 replace d0 := zC d0 hb23
 replace d1 := zC d1 hb23
 replace d2 := zC d2 hb23
 replace d3 := zC d3 hb23
 replace d4 := zC d4 hb23
 replace m0 := zC m0 hb23
 replace m1 := zC m1 hb23
 replace m2 := zC m2 hb23
 replace e0 := zC e0 hb23
 replace e1 := zC e1 hb23
 replace e2 := zC e2 hb23
 replace HM1 := ob HM1 hb23
 replace HD1 := ob HD1 hb23
 replace HS2 := ob HS2 hb23
 replace HB := tm HB hb23
 obtain ⟨g25, c25, rfl, hg25, hl25⟩ := own_blk ho23 (by decide)
 have HT2 := hide (own_less ho23 (Nat.le_trans HBold (Nat.le_refl _)))
 clear ho23 HBold
 clear hb23
 refine hK.out _ _ ⟨k0, k1, k2, d0, d1, d2, d3, d4, m0, m1, m2, e0, e1, e2⟩ (fun hHeld => ?_)
 clear hK K
 (try simp only [nz])
 refine rd (i := 12) (o := ⟨some 25, _, _, _, _, _⟩) (by kernel_rfl) rfl (fun K hK => ?_)
 go_simp
 clear hHeld
 refine alloc_step (fun V26 g26 hV hg => ?_)
 rw [← hg]
 have hbN := bn hV
 have hg26 : V23.heap.size ≤ g26 := by omega
 have hl26 := ln hV hg
 have r0 : V26.cell? ⟨g26, 0, none⟩ = some (.slice (some ⟨g22, 0, none⟩) 5 c22) := by rw [hV, hg]; exact new_cell V23 _ rfl _ _ _ _ rfl
 have r1 : V26.cell? ⟨g26, 1, none⟩ = some (.slice (some ⟨g25, 0, none⟩) 3 c25) := by rw [hV, hg]; exact new_cell V23 _ rfl _ _ _ _ rfl
 have hs27 := hbN.size
 replace k0 := zC k0 hbN
 replace k1 := zC k1 hbN
 replace k2 := zC k2 hbN
 replace d0 := zC d0 hbN
 replace d1 := zC d1 hbN
 replace d2 := zC d2 hbN
 replace d3 := zC d3 hbN
 replace d4 := zC d4 hbN
 replace m0 := zC m0 hbN
 replace m1 := zC m1 hbN
 replace m2 := zC m2 hbN
 replace e0 := zC e0 hbN
 replace e1 := zC e1 hbN
 replace e2 := zC e2 hbN
 replace HM1 := ob HM1 hbN
 replace HD1 := ob HD1 hbN
 replace HS2 := ob HS2 hbN
 replace HT2 := ob HT2 hbN
 replace HB := tm HB hbN
 clear hV hg hbN
 refine hK.out _ _ ⟨k0, k1, k2, d0, d1, d2, d3, d4, m0, m1, m2, e0, e1, e2⟩ (fun hHeld => ?_)
 clear hK K
 (try simp only [nz])
 refine rd (i := 13) (o := ⟨some 26, _, _, _, _, _⟩) (by kernel_rfl) rfl (fun K hK => ?_)
 go_simp
 clear hHeld
 have HBold := HB.size
 refine (concatMs_any [((.slice (some ⟨g22, 0, none⟩) 5 c22 : Value), 5, M (sentMs x)), ((.slice (some ⟨g25, 0, none⟩) 3 c25 : Value), 3, M (bareMs 1))] g26 2 V26 (fun j hj => match j, hj with | 0, _ => r0 | 1, _ => r1 | j + 2, h => absurd h (by simp)) (in2 (SrcAt.of_own HS2.out (M_one _)) (SrcAt.of_own HT2.out (M_one _))) (by exact (show (2 : Nat) ≤ 10 by decide)) (by exact (show (2 : Nat) ≤ 2 by decide)) (in2 (by exact (show (5 : Nat) ≤ 100000 by decide)) (by exact (show (3 : Nat) ≤ 100000 by decide)))).mono ?_
 rintro e V28 ⟨u28, rfl, ho28, hb28⟩
 have hs29 := hb28.size
 replace k0 := zC k0 hb28
 replace k1 := zC k1 hb28
 replace k2 := zC k2 hb28
 replace d0 := zC d0 hb28
 replace d1 := zC d1 hb28
 replace d2 := zC d2 hb28
 replace d3 := zC d3 hb28
 replace d4 := zC d4 hb28
 replace m0 := zC m0 hb28
 replace m1 := zC m1 hb28
 replace m2 := zC m2 hb28
 replace e0 := zC e0 hb28
 replace e1 := zC e1 hb28
 replace e2 := zC e2 hb28
 replace r0 := zC r0 hb28
 replace r1 := zC r1 hb28
 replace HM1 := ob HM1 hb28
 replace HD1 := ob HD1 hb28
 replace HS2 := ob HS2 hb28
 replace HT2 := ob HT2 hb28
 replace HB := tm HB hb28
 obtain ⟨g30, c30, rfl, hg30, hl30⟩ := own_blk (n := 8) ho28 (by decide)
 have HM2 : Hid (V28.ownsRow w.heap.size 95 3 (.slice (some ⟨g30, 0, none⟩) 8 c30) 8 (M (sentMs x ++ bareMs 1))) := hide (own_less ho28 HBold)
 clear ho28 HBold HS2 HT2 r0 r1
 clear hb28
 refine hK.out _ _ ⟨k0, k1, k2, d0, d1, d2, d3, d4, m0, m1, m2, e0, e1, e2⟩ (fun hHeld => ?_)
 clear hK K
 (try simp only [nz])
 refine rd (i := 15) (o := ⟨some 28, _, _, _, _, _⟩) (by kernel_rfl) rfl (fun K hK => ?_)
 go_simp
 clear hHeld
 refine (does_any _ _ _ _).mono ?_
 rintro e V31 ⟨rfl, hb31⟩
 have hs32 := hb31.size
 replace k0 := zC k0 hb31
 replace k1 := zC k1 hb31
 replace k2 := zC k2 hb31
 replace d0 := zC d0 hb31
 replace d1 := zC d1 hb31
 replace d2 := zC d2 hb31
 replace d3 := zC d3 hb31
 replace d4 := zC d4 hb31
 replace m0 := zC m0 hb31
 replace m1 := zC m1 hb31
 replace m2 := zC m2 hb31
 replace e0 := zC e0 hb31
 replace e1 := zC e1 hb31
 replace e2 := zC e2 hb31
 replace HM1 := ob HM1 hb31
 replace HD1 := ob HD1 hb31
 replace HM2 := ob HM2 hb31
 replace HB := tm HB hb31
 clear hb31
 refine hK.out _ _ ⟨k0, k1, k2, d0, d1, d2, d3, d4, m0, m1, m2, e0, e1, e2⟩ (fun hHeld => ?_)
 clear hK K
 (try simp only [nz])
 refine rd (i := 16) (o := ⟨some 29, _, _, _, _, _⟩) (by kernel_rfl) rfl (fun K hK => ?_)
 go_simp
 clear hHeld
 refine alloc_step (fun V33 g33 hV hg => ?_)
 rw [← hg]
 have hbN := bn hV
 have hg33 : V31.heap.size ≤ g33 := by omega
 have hl33 := ln hV hg
 have HD2 : Hid (V33.ownsRow w.heap.size 98 3 (.slice (some ⟨g33, 0, none⟩) 2 2) 2 (D [⟨1, 8, x.s⟩, gotoD 1])) := by rw [hV, hg]; exact hide (World.ownsRow_lit V31 _ 2 HB.size (by decide) rfl)
 have hs34 := hbN.size
 replace k0 := zC k0 hbN
 replace k1 := zC k1 hbN
 replace k2 := zC k2 hbN
 replace d0 := zC d0 hbN
 replace d1 := zC d1 hbN
 replace d2 := zC d2 hbN
 replace d3 := zC d3 hbN
 replace d4 := zC d4 hbN
 replace m0 := zC m0 hbN
 replace m1 := zC m1 hbN
 replace m2 := zC m2 hbN
 replace e0 := zC e0 hbN
 replace e1 := zC e1 hbN
 replace e2 := zC e2 hbN
 replace HM1 := ob HM1 hbN
 replace HD1 := ob HD1 hbN
 replace HM2 := ob HM2 hbN
 replace HB := tm HB hbN
 clear hV hg hbN
 refine hK.out _ _ ⟨k0, k1, k2, d0, d1, d2, d3, d4, m0, m1, m2, e0, e1, e2⟩ (fun hHeld => ?_)
 clear hK K
 (try simp only [nz])
 refine rd (i := 17) (o := ⟨some 30, _, _, _, _, _⟩) (by kernel_rfl) rfl (fun K hK => ?_)
 go_simp
 clear hHeld
 refine (flowOf_any _ _ _ _ _ _ _ _ _).mono ?_
 rintro e V35 ⟨rfl, hb35⟩
 have hs36 := hb35.size
 replace k0 := zC k0 hb35
 replace k1 := zC k1 hb35
 replace k2 := zC k2 hb35
 replace d0 := zC d0 hb35
 replace d1 := zC d1 hb35
 replace d2 := zC d2 hb35
 replace d3 := zC d3 hb35
 replace d4 := zC d4 hb35
 replace m0 := zC m0 hb35
 replace m1 := zC m1 hb35
 replace m2 := zC m2 hb35
 replace e0 := zC e0 hb35
 replace e1 := zC e1 hb35
 replace e2 := zC e2 hb35
 replace HM1 := ob HM1 hb35
 replace HD1 := ob HD1 hb35
 replace HM2 := ob HM2 hb35
 replace HD2 := ob HD2 hb35
 replace HB := tm HB hb35
 clear hb35
 refine hK.out _ _ ⟨k0, k1, k2, d0, d1, d2, d3, d4, m0, m1, m2, e0, e1, e2⟩ (fun hHeld => ?_)
 clear hK K
 (try simp only [nz])
 refine rd (i := 21) (o := ⟨some 34, _, _, _, _, _⟩) (by kernel_rfl) rfl (fun K hK => ?_)
 go_simp
 clear hHeld
 refine (is_any _ _ _).mono ?_
 rintro e V37 ⟨rfl, hb37⟩
 have hs38 := hb37.size
 replace k0 := zC k0 hb37
 replace k1 := zC k1 hb37
 replace k2 := zC k2 hb37
 replace d0 := zC d0 hb37
 replace d1 := zC d1 hb37
 replace d2 := zC d2 hb37
 replace d3 := zC d3 hb37
 replace d4 := zC d4 hb37
 replace m0 := zC m0 hb37
 replace m1 := zC m1 hb37
 replace m2 := zC m2 hb37
 replace e0 := zC e0 hb37
 replace e1 := zC e1 hb37
 replace e2 := zC e2 hb37
 replace HM1 := ob HM1 hb37
 replace HD1 := ob HD1 hb37
 replace HM2 := ob HM2 hb37
 replace HD2 := ob HD2 hb37
 replace HB := tm HB hb37
 clear hb37
 refine hK.out _ _ ⟨k0, k1, k2, d0, d1, d2, d3, d4, m0, m1, m2, e0, e1, e2⟩ (fun hHeld => ?_)
 clear hK K
 (try simp only [nz])
 refine rd (i := 22) (o := ⟨some 35, _, _, _, _, _⟩) (by kernel_rfl) rfl (fun K hK => ?_)
 go_simp
 clear hHeld
 refine alloc_step (fun V39 g39 hV hg => ?_)
 rw [← hg]
 have hbN := bn hV
 have hg39 : V37.heap.size ≤ g39 := by omega
 have hl39 := ln hV hg
 have HM3 : Hid (V39.ownsRow w.heap.size 95 3 (.slice (some ⟨g39, 0, none⟩) 2 2) 2 (M [isM 0 x.i, isM 5 x.p])) := by rw [hV, hg]; exact hide (World.ownsRow_lit V37 _ 2 HB.size (by decide) rfl)
 have hs40 := hbN.size
 replace k0 := zC k0 hbN
 replace k1 := zC k1 hbN
 replace k2 := zC k2 hbN
 replace d0 := zC d0 hbN
 replace d1 := zC d1 hbN
 replace d2 := zC d2 hbN
 replace d3 := zC d3 hbN
 replace d4 := zC d4 hbN
 replace m0 := zC m0 hbN
 replace m1 := zC m1 hbN
 replace m2 := zC m2 hbN
 replace e0 := zC e0 hbN
 replace e1 := zC e1 hbN
 replace e2 := zC e2 hbN
 replace HM1 := ob HM1 hbN
 replace HD1 := ob HD1 hbN
 replace HM2 := ob HM2 hbN
 replace HD2 := ob HD2 hbN
 replace HB := tm HB hbN
 clear hV hg hbN
 refine hK.out _ _ ⟨k0, k1, k2, d0, d1, d2, d3, d4, m0, m1, m2, e0, e1, e2⟩ (fun hHeld => ?_)
 clear hK K
 (try simp only [nz])
 refine rd (i := 23) (o := ⟨some 36, _, _, _, _, _⟩) (by kernel_rfl) rfl (fun K hK => ?_)
 go_simp
 clear hHeld
 refine (flowOf_any _ _ _ _ _ _ _ _ _).mono ?_
 rintro e V41 ⟨rfl, hb41⟩
 have hs42 := hb41.size
 replace k0 := zC k0 hb41
 replace k1 := zC k1 hb41
 replace k2 := zC k2 hb41
 replace d0 := zC d0 hb41
 replace d1 := zC d1 hb41
 replace d2 := zC d2 hb41
 replace d3 := zC d3 hb41
 replace d4 := zC d4 hb41
 replace m0 := zC m0 hb41
 replace m1 := zC m1 hb41
 replace m2 := zC m2 hb41
 replace e0 := zC e0 hb41
 replace e1 := zC e1 hb41
 replace e2 := zC e2 hb41
 replace HM1 := ob HM1 hb41
 replace HD1 := ob HD1 hb41
 replace HM2 := ob HM2 hb41
 replace HD2 := ob HD2 hb41
 replace HM3 := ob HM3 hb41
 replace HB := tm HB hb41
 clear hb41
 refine hK.out _ _ ⟨k0, k1, k2, d0, d1, d2, d3, d4, m0, m1, m2, e0, e1, e2⟩ (fun hHeld => ?_)
 clear hK K
 (try simp only [nz])
 refine rd (i := 27) (o := ⟨some 40, _, _, _, _, _⟩) (by kernel_rfl) rfl (fun K hK => ?_)
 go_simp
 clear hHeld
 refine (is_any _ _ _).mono ?_
 rintro e V43 ⟨rfl, hb43⟩
 have hs44 := hb43.size
 replace k0 := zC k0 hb43
 replace k1 := zC k1 hb43
 replace k2 := zC k2 hb43
 replace d0 := zC d0 hb43
 replace d1 := zC d1 hb43
 replace d2 := zC d2 hb43
 replace d3 := zC d3 hb43
 replace d4 := zC d4 hb43
 replace m0 := zC m0 hb43
 replace m1 := zC m1 hb43
 replace m2 := zC m2 hb43
 replace e0 := zC e0 hb43
 replace e1 := zC e1 hb43
 replace e2 := zC e2 hb43
 replace HM1 := ob HM1 hb43
 replace HD1 := ob HD1 hb43
 replace HM2 := ob HM2 hb43
 replace HD2 := ob HD2 hb43
 replace HM3 := ob HM3 hb43
 replace HB := tm HB hb43
 clear hb43
 refine hK.out _ _ ⟨k0, k1, k2, d0, d1, d2, d3, d4, m0, m1, m2, e0, e1, e2⟩ (fun hHeld => ?_)
 clear hK K
 (try simp only [nz])
 refine rd (i := 28) (o := ⟨some 41, _, _, _, _, _⟩) (by kernel_rfl) rfl (fun K hK => ?_)
 go_simp
 clear hHeld
 refine alloc_step (fun V45 g45 hV hg => ?_)
 rw [← hg]
 have hbN := bn hV
 have hg45 : V43.heap.size ≤ g45 := by omega
 have hl45 := ln hV hg
 have HM4 : Hid (V45.ownsRow w.heap.size 95 3 (.slice (some ⟨g45, 0, none⟩) 2 2) 2 (M [isM 0 x.i, isM 1 x.m])) := by rw [hV, hg]; exact hide (World.ownsRow_lit V43 _ 2 HB.size (by decide) rfl)
 have hs46 := hbN.size
 replace k0 := zC k0 hbN
 replace k1 := zC k1 hbN
 replace k2 := zC k2 hbN
 replace d0 := zC d0 hbN
 replace d1 := zC d1 hbN
 replace d2 := zC d2 hbN
 replace d3 := zC d3 hbN
 replace d4 := zC d4 hbN
 replace m0 := zC m0 hbN
 replace m1 := zC m1 hbN
 replace m2 := zC m2 hbN
 replace e0 := zC e0 hbN
 replace e1 := zC e1 hbN
 replace e2 := zC e2 hbN
 replace HM1 := ob HM1 hbN
 replace HD1 := ob HD1 hbN
 replace HM2 := ob HM2 hbN
 replace HD2 := ob HD2 hbN
 replace HM3 := ob HM3 hbN
 replace HB := tm HB hbN
 clear hV hg hbN
 refine hK.out _ _ ⟨k0, k1, k2, d0, d1, d2, d3, d4, m0, m1, m2, e0, e1, e2⟩ (fun hHeld => ?_)
 clear hK K
 (try simp only [nz])
 refine rd (i := 29) (o := ⟨some 42, _, _, _, _, _⟩) (by kernel_rfl) rfl (fun K hK => ?_)
 go_simp
 clear hHeld
 refine (flowOf_any _ _ _ _ _ _ _ _ _).mono ?_
 rintro e V47 ⟨rfl, hb47⟩
 have hs48 := hb47.size
 replace k0 := zC k0 hb47
 replace k1 := zC k1 hb47
 replace k2 := zC k2 hb47
 replace d0 := zC d0 hb47
 replace d1 := zC d1 hb47
 replace d2 := zC d2 hb47
 replace d3 := zC d3 hb47
 replace d4 := zC d4 hb47
 replace m0 := zC m0 hb47
 replace m1 := zC m1 hb47
 replace m2 := zC m2 hb47
 replace e0 := zC e0 hb47
 replace e1 := zC e1 hb47
 replace e2 := zC e2 hb47
 replace HM1 := ob HM1 hb47
 replace HD1 := ob HD1 hb47
 replace HM2 := ob HM2 hb47
 replace HD2 := ob HD2 hb47
 replace HM3 := ob HM3 hb47
 replace HM4 := ob HM4 hb47
 replace HB := tm HB hb47
 clear hb47
 refine hK.out _ _ ⟨k0, k1, k2, d0, d1, d2, d3, d4, m0, m1, m2, e0, e1, e2⟩ (fun hHeld => ?_)
 clear hK K
 (try simp only [nz])
 refine rd (i := 31) (o := ⟨some 44, _, _, _, _, _⟩) (by kernel_rfl) rfl (fun K hK => ?_)
 go_simp
 clear hHeld
 refine (is_any _ _ _).mono ?_
 rintro e V49 ⟨rfl, hb49⟩
 have hs50 := hb49.size
 replace k0 := zC k0 hb49
 replace k1 := zC k1 hb49
 replace k2 := zC k2 hb49
 replace d0 := zC d0 hb49
 replace d1 := zC d1 hb49
 replace d2 := zC d2 hb49
 replace d3 := zC d3 hb49
 replace d4 := zC d4 hb49
 replace m0 := zC m0 hb49
 replace m1 := zC m1 hb49
 replace m2 := zC m2 hb49
 replace e0 := zC e0 hb49
 replace e1 := zC e1 hb49
 replace e2 := zC e2 hb49
 replace HM1 := ob HM1 hb49
 replace HD1 := ob HD1 hb49
 replace HM2 := ob HM2 hb49
 replace HD2 := ob HD2 hb49
 replace HM3 := ob HM3 hb49
 replace HM4 := ob HM4 hb49
 replace HB := tm HB hb49
 clear hb49
 refine hK.out _ _ ⟨k0, k1, k2, d0, d1, d2, d3, d4, m0, m1, m2, e0, e1, e2⟩ (fun hHeld => ?_)
 clear hK K
 (try simp only [nz])
 refine wpAnyH_ready (rs := [32, 35]) (by kernel_rfl) (by simp) ?_
 refine (AllReadyH.cons (o := ⟨some 45, _, _, _, _, _⟩) rfl (fun K hK => ?_) (AllReadyH.cons (o := ⟨some 48, _, _, _, _, _⟩) rfl (fun K hK => ?_) AllReadyH.nil))
 ·go_simp
  clear hHeld
  refine alloc_step (fun V51 g51 hV hg => ?_)
  rw [← hg]
  have hbN := bn hV
  have hg51 : V49.heap.size ≤ g51 := by omega
  have hl51 := ln hV hg
  have HM5 : Hid (V51.ownsRow w.heap.size 95 3 (.slice (some ⟨g51, 0, none⟩) 2 2) 2 (M [isM 0 x.i, isM 1 65535])) := by rw [hV, hg]; exact hide (World.ownsRow_lit V49 _ 2 HB.size (by decide) rfl)
  have hs52 := hbN.size
  replace k0 := zC k0 hbN
  replace k1 := zC k1 hbN
  replace k2 := zC k2 hbN
  replace d0 := zC d0 hbN
  replace d1 := zC d1 hbN
  replace d2 := zC d2 hbN
  replace d3 := zC d3 hbN
  replace d4 := zC d4 hbN
  replace m0 := zC m0 hbN
  replace m1 := zC m1 hbN
  replace m2 := zC m2 hbN
  replace e0 := zC e0 hbN
  replace e1 := zC e1 hbN
  replace e2 := zC e2 hbN
  replace HM1 := ob HM1 hbN
  replace HD1 := ob HD1 hbN
  replace HM2 := ob HM2 hbN
  replace HD2 := ob HD2 hbN
  replace HM3 := ob HM3 hbN
  replace HM4 := ob HM4 hbN
  replace HB := tm HB hbN
  clear hV hg hbN
  refine hK.out _ _ ⟨k0, k1, k2, d0, d1, d2, d3, d4, m0, m1, m2, e0, e1, e2⟩ (fun hHeld => ?_)
  clear hK K
  (try simp only [nz])
  refine rd (i := 35) (o := ⟨some 48, _, _, _, _, _⟩) (by kernel_rfl) rfl (fun K hK => ?_)
  go_simp
  clear hHeld
  have HBold := HB.size
  refine (toOthers_any S P A s1 p1 a1 s2 p2 a2 x _ (HC.out.below HB (Nat.le_refl _)) hl).mono ?_
  rintro e V53 ⟨u, rfl, ho5, hb53⟩
  have hs54 := hb53.size
  replace k0 := zC k0 hb53
  replace k1 := zC k1 hb53
  replace k2 := zC k2 hb53
  replace d0 := zC d0 hb53
  replace d1 := zC d1 hb53
  replace d2 := zC d2 hb53
  replace d3 := zC d3 hb53
  replace d4 := zC d4 hb53
  replace m0 := zC m0 hb53
  replace m1 := zC m1 hb53
  replace m2 := zC m2 hb53
  replace e0 := zC e0 hb53
  replace e1 := zC e1 hb53
  replace e2 := zC e2 hb53
  replace HM1 := ob HM1 hb53
  replace HD1 := ob HD1 hb53
  replace HM2 := ob HM2 hb53
  replace HD2 := ob HD2 hb53
  replace HM3 := ob HM3 hb53
  replace HM4 := ob HM4 hb53
  replace HM5 := ob HM5 hb53
  replace HB := tm HB hb53
  obtain ⟨N5, hN5⟩ : ∃ N, N = ((P.filter (othersB x)).flatMap toPortD).length := ⟨_, rfl⟩
  rw [← hN5] at ho5
  have HN5 := hide hN5
  clear hN5
  obtain ⟨oo5, oc5, rfl⟩ := own_slc ho5
  have HD5 := hide (own_less ho5 HBold)
  clear ho5 HBold
  clear hb53
  refine hK.out _ _ ⟨k0, k1, k2, d0, d1, d2, d3, d4, m0, m1, m2, e0, e1, e2⟩ (fun hHeld => ?_)
  clear hK K
  (try simp only [nz])
  refine rd (i := 36) (o := ⟨some 49, _, _, _, _, _⟩) (by kernel_rfl) rfl (fun K hK => ?_)
  go_simp
  clear hHeld
  refine (flowOf_any _ _ _ _ _ _ _ _ _).mono ?_
  rintro e V55 ⟨rfl, hb55⟩
  have hs56 := hb55.size
  replace k0 := zC k0 hb55
  replace k1 := zC k1 hb55
  replace k2 := zC k2 hb55
  replace d0 := zC d0 hb55
  replace d1 := zC d1 hb55
  replace d2 := zC d2 hb55
  replace d3 := zC d3 hb55
  replace d4 := zC d4 hb55
  replace m0 := zC m0 hb55
  replace m1 := zC m1 hb55
  replace m2 := zC m2 hb55
  replace e0 := zC e0 hb55
  replace e1 := zC e1 hb55
  replace e2 := zC e2 hb55
  replace HM1 := ob HM1 hb55
  replace HD1 := ob HD1 hb55
  replace HM2 := ob HM2 hb55
  replace HD2 := ob HD2 hb55
  replace HM3 := ob HM3 hb55
  replace HM4 := ob HM4 hb55
  replace HM5 := ob HM5 hb55
  replace HD5 := ob HD5 hb55
  replace HB := tm HB hb55
  clear hb55
  refine hK.out _ _ ⟨k0, k1, k2, d0, d1, d2, d3, d4, m0, m1, m2, e0, e1, e2⟩ (fun hHeld => ?_)
  clear hK K
  (try simp only [nz])
  refine rd (i := 39) (o := ⟨some 52, _, _, _, _, _⟩) (by kernel_rfl) rfl (fun K hK => ?_)
  go_simp
  clear hHeld
  refine (is_any _ _ _).mono ?_
  rintro e V57 ⟨rfl, hb57⟩
  have hs58 := hb57.size
  replace k0 := zC k0 hb57
  replace k1 := zC k1 hb57
  replace k2 := zC k2 hb57
  replace d0 := zC d0 hb57
  replace d1 := zC d1 hb57
  replace d2 := zC d2 hb57
  replace d3 := zC d3 hb57
  replace d4 := zC d4 hb57
  replace m0 := zC m0 hb57
  replace m1 := zC m1 hb57
  replace m2 := zC m2 hb57
  replace e0 := zC e0 hb57
  replace e1 := zC e1 hb57
  replace e2 := zC e2 hb57
  replace HM1 := ob HM1 hb57
  replace HD1 := ob HD1 hb57
  replace HM2 := ob HM2 hb57
  replace HD2 := ob HD2 hb57
  replace HM3 := ob HM3 hb57
  replace HM4 := ob HM4 hb57
  replace HM5 := ob HM5 hb57
  replace HD5 := ob HD5 hb57
  replace HB := tm HB hb57
  clear hb57
  refine hK.out _ _ ⟨k0, k1, k2, d0, d1, d2, d3, d4, m0, m1, m2, e0, e1, e2⟩ (fun hHeld => ?_)
  clear hK K
  (try simp only [nz])
  refine rd (i := 42) (o := ⟨some 55, _, _, _, _, _⟩) (by kernel_rfl) rfl (fun K hK => ?_)
  go_simp
  clear hHeld
  refine (is_any _ _ _).mono ?_
  rintro e V59 ⟨rfl, hb59⟩
  have hs60 := hb59.size
  replace k0 := zC k0 hb59
  replace k1 := zC k1 hb59
  replace k2 := zC k2 hb59
  replace d0 := zC d0 hb59
  replace d1 := zC d1 hb59
  replace d2 := zC d2 hb59
  replace d3 := zC d3 hb59
  replace d4 := zC d4 hb59
  replace m0 := zC m0 hb59
  replace m1 := zC m1 hb59
  replace m2 := zC m2 hb59
  replace e0 := zC e0 hb59
  replace e1 := zC e1 hb59
  replace e2 := zC e2 hb59
  replace HM1 := ob HM1 hb59
  replace HD1 := ob HD1 hb59
  replace HM2 := ob HM2 hb59
  replace HD2 := ob HD2 hb59
  replace HM3 := ob HM3 hb59
  replace HM4 := ob HM4 hb59
  replace HM5 := ob HM5 hb59
  replace HD5 := ob HD5 hb59
  replace HB := tm HB hb59
  clear hb59
  refine hK.out _ _ ⟨k0, k1, k2, d0, d1, d2, d3, d4, m0, m1, m2, e0, e1, e2⟩ (fun hHeld => ?_)
  clear hK K
  (try simp only [nz])
  refine wpAnyH_ready (rs := [43, 46]) (by kernel_rfl) (by simp) ?_
  refine (AllReadyH.cons (o := ⟨some 56, _, _, _, _, _⟩) rfl (fun K hK => ?_) (AllReadyH.cons (o := ⟨some 59, _, _, _, _, _⟩) rfl (fun K hK => ?_) AllReadyH.nil))
  ·go_simp
   clear hHeld
   refine alloc_step (fun V61 g61 hV hg => ?_)
   rw [← hg]
   have hbN := bn hV
   have hg61 : V59.heap.size ≤ g61 := by omega
   have hl61 := ln hV hg
   have HM6 : Hid (V61.ownsRow w.heap.size 95 3 (.slice (some ⟨g61, 0, none⟩) 2 2) 2 (M [isM 8 x.s, isM 9 x.i])) := by rw [hV, hg]; exact hide (World.ownsRow_lit V59 _ 2 HB.size (by decide) rfl)
   have hs62 := hbN.size
   replace k0 := zC k0 hbN
   replace k1 := zC k1 hbN
   replace k2 := zC k2 hbN
   replace d0 := zC d0 hbN
   replace d1 := zC d1 hbN
   replace d2 := zC d2 hbN
   replace d3 := zC d3 hbN
   replace d4 := zC d4 hbN
   replace m0 := zC m0 hbN
   replace m1 := zC m1 hbN
   replace m2 := zC m2 hbN
   replace e0 := zC e0 hbN
   replace e1 := zC e1 hbN
   replace e2 := zC e2 hbN
   replace HM1 := ob HM1 hbN
   replace HD1 := ob HD1 hbN
   replace HM2 := ob HM2 hbN
   replace HD2 := ob HD2 hbN
   replace HM3 := ob HM3 hbN
   replace HM4 := ob HM4 hbN
   replace HM5 := ob HM5 hbN
   replace HD5 := ob HD5 hbN
   replace HB := tm HB hbN
   clear hV hg hbN
   refine hK.out _ _ ⟨k0, k1, k2, d0, d1, d2, d3, d4, m0, m1, m2, e0, e1, e2⟩ (fun hHeld => ?_)
   clear hK K
   (try simp only [nz])
   refine rd (i := 46) (o := ⟨some 59, _, _, _, _, _⟩) (by kernel_rfl) rfl (fun K hK => ?_)
   go_simp
   clear hHeld
   refine (does_any _ _ _ _).mono ?_
   rintro e V63 ⟨rfl, hb63⟩
   have hs64 := hb63.size
   replace k0 := zC k0 hb63
   replace k1 := zC k1 hb63
   replace k2 := zC k2 hb63
   replace d0 := zC d0 hb63
   replace d1 := zC d1 hb63
   replace d2 := zC d2 hb63
   replace d3 := zC d3 hb63
   replace d4 := zC d4 hb63
   replace m0 := zC m0 hb63
   replace m1 := zC m1 hb63
   replace m2 := zC m2 hb63
   replace e0 := zC e0 hb63
   replace e1 := zC e1 hb63
   replace e2 := zC e2 hb63
   replace HM1 := ob HM1 hb63
   replace HD1 := ob HD1 hb63
   replace HM2 := ob HM2 hb63
   replace HD2 := ob HD2 hb63
   replace HM3 := ob HM3 hb63
   replace HM4 := ob HM4 hb63
   replace HM5 := ob HM5 hb63
   replace HD5 := ob HD5 hb63
   replace HM6 := ob HM6 hb63
   replace HB := tm HB hb63
   clear hb63
   refine hK.out _ _ ⟨k0, k1, k2, d0, d1, d2, d3, d4, m0, m1, m2, e0, e1, e2⟩ (fun hHeld => ?_)
   clear hK K
   (try simp only [nz])
   refine rd (i := 47) (o := ⟨some 60, _, _, _, _, _⟩) (by kernel_rfl) rfl (fun K hK => ?_)
   go_simp
   clear hHeld
   refine alloc_step (fun V65 g65 hV hg => ?_)
   rw [← hg]
   have hbN := bn hV
   have hg65 : V63.heap.size ≤ g65 := by omega
   have hl65 := ln hV hg
   have HD6 : Hid (V65.ownsRow w.heap.size 98 3 (.slice (some ⟨g65, 0, none⟩) 1 1) 1 (D [⟨5, 0, x.i⟩])) := by rw [hV, hg]; exact hide (World.ownsRow_lit V63 _ 1 HB.size (by decide) rfl)
   have hs66 := hbN.size
   replace k0 := zC k0 hbN
   replace k1 := zC k1 hbN
   replace k2 := zC k2 hbN
   replace d0 := zC d0 hbN
   replace d1 := zC d1 hbN
   replace d2 := zC d2 hbN
   replace d3 := zC d3 hbN
   replace d4 := zC d4 hbN
   replace m0 := zC m0 hbN
   replace m1 := zC m1 hbN
   replace m2 := zC m2 hbN
   replace e0 := zC e0 hbN
   replace e1 := zC e1 hbN
   replace e2 := zC e2 hbN
   replace HM1 := ob HM1 hbN
   replace HD1 := ob HD1 hbN
   replace HM2 := ob HM2 hbN
   replace HD2 := ob HD2 hbN
   replace HM3 := ob HM3 hbN
   replace HM4 := ob HM4 hbN
   replace HM5 := ob HM5 hbN
   replace HD5 := ob HD5 hbN
   replace HM6 := ob HM6 hbN
   replace HB := tm HB hbN
   clear hV hg hbN
   refine hK.out _ _ ⟨k0, k1, k2, d0, d1, d2, d3, d4, m0, m1, m2, e0, e1, e2⟩ (fun hHeld => ?_)
   clear hK K
   (try simp only [nz])
   refine rd (i := 48) (o := ⟨some 61, _, _, _, _, _⟩) (by kernel_rfl) rfl (fun K hK => ?_)
   go_simp
   clear hHeld
   refine (flowOf_any _ _ _ _ _ _ _ _ _).mono ?_
   rintro e V67 ⟨rfl, hb67⟩
   have hs68 := hb67.size
   replace k0 := zC k0 hb67
   replace k1 := zC k1 hb67
   replace k2 := zC k2 hb67
   replace d0 := zC d0 hb67
   replace d1 := zC d1 hb67
   replace d2 := zC d2 hb67
   replace d3 := zC d3 hb67
   replace d4 := zC d4 hb67
   replace m0 := zC m0 hb67
   replace m1 := zC m1 hb67
   replace m2 := zC m2 hb67
   replace e0 := zC e0 hb67
   replace e1 := zC e1 hb67
   replace e2 := zC e2 hb67
   replace HM1 := ob HM1 hb67
   replace HD1 := ob HD1 hb67
   replace HM2 := ob HM2 hb67
   replace HD2 := ob HD2 hb67
   replace HM3 := ob HM3 hb67
   replace HM4 := ob HM4 hb67
   replace HM5 := ob HM5 hb67
   replace HD5 := ob HD5 hb67
   replace HM6 := ob HM6 hb67
   replace HD6 := ob HD6 hb67
   replace HB := tm HB hb67
   clear hb67
   refine hK.out _ _ ⟨k0, k1, k2, d0, d1, d2, d3, d4, m0, m1, m2, e0, e1, e2⟩ (fun hHeld => ?_)
   clear hK K
   (try simp only [nz])
   refine rd (i := 49) (o := ⟨some 62, _, _, _, _, _⟩) (by kernel_rfl) rfl (fun K hK => ?_)
   go_simp
   clear hHeld
   refine alloc_step (fun V69 g69 hV hg => ?_)
   rw [← hg]
   have hbN := bn hV
   have hg69 : V67.heap.size ≤ g69 := by omega
   have hl69 := ln hV hg
   have HF : Hid (FR V69 w.heap.size (.slice (some ⟨g69, 0, none⟩) 6 6) (portFl P x)) := by
    rw [hV, hg]
    refine hide (FR.lit (lo := [⟨⟨0, 0, sentMs x ++ dataMs, [⟨1, 8, x.s⟩, gotoD 2]⟩, .slice (some ⟨g13, 0, none⟩) 7 c13, .slice (some ⟨g16, 0, none⟩) 2 2⟩, ⟨⟨0, 0, sentMs x ++ bareMs 1, [⟨1, 8, x.s⟩, gotoD 1]⟩, .slice (some ⟨g30, 0, none⟩) 8 c30, .slice (some ⟨g33, 0, none⟩) 2 2⟩, ⟨⟨1, 1, [isM 0 x.i, isM 5 x.p], []⟩, .slice (some ⟨g39, 0, none⟩) 2 2, .slice none 0 0⟩, ⟨⟨3, 1, [isM 0 x.i, isM 1 x.m], []⟩, .slice (some ⟨g45, 0, none⟩) 2 2, .slice none 0 0⟩, ⟨⟨3, 0, [isM 0 x.i, isM 1 65535], (P.filter (othersB x)).flatMap toPortD⟩, .slice (some ⟨g51, 0, none⟩) 2 2, .slice oo5 N5 oc5⟩, ⟨⟨5, 0, [isM 8 x.s, isM 9 x.i], [⟨5, 0, x.i⟩]⟩, .slice (some ⟨g61, 0, none⟩) 2 2, .slice (some ⟨g65, 0, none⟩) 1 1⟩]) rfl rfl HB.size (by decide) (fun x hx => ?_))
    simp only [List.mem_cons, List.not_mem_nil, or_false] at hx
    rcases hx with rfl | rfl | rfl | rfl | rfl | rfl
    ·exact fv_in HM1.out HD1.out (by simp [Value.ownBlock])
    ·exact fv_in HM2.out HD2.out (by simp [Value.ownBlock])
    ·exact fv_in HM3.out (World.ownsRow_nil _ _ _ _) (by simp [Value.ownBlock])
    ·exact fv_in HM4.out (World.ownsRow_nil _ _ _ _) (by simp [Value.ownBlock])
    ·exact fv_in HM5.out (by rw [← HN5.out]; exact HD5.out) (by simp [Value.ownBlock])
    ·exact fv_in HM6.out HD6.out (by simp [Value.ownBlock])
   have hs70 := hbN.size
   replace k0 := zC k0 hbN
   replace k1 := zC k1 hbN
   replace k2 := zC k2 hbN
   replace d0 := zC d0 hbN
   replace d1 := zC d1 hbN
   replace d2 := zC d2 hbN
   replace d3 := zC d3 hbN
   replace d4 := zC d4 hbN
   replace m0 := zC m0 hbN
   replace m1 := zC m1 hbN
   replace m2 := zC m2 hbN
   replace e0 := zC e0 hbN
   replace e1 := zC e1 hbN
   replace e2 := zC e2 hbN
   replace HM1 := ob HM1 hbN
   replace HD1 := ob HD1 hbN
   replace HM2 := ob HM2 hbN
   replace HD2 := ob HD2 hbN
   replace HM3 := ob HM3 hbN
   replace HM4 := ob HM4 hbN
   replace HM5 := ob HM5 hbN
   replace HD5 := ob HD5 hbN
   replace HM6 := ob HM6 hbN
   replace HD6 := ob HD6 hbN
   replace HB := tm HB hbN
   clear hV hg hbN
   refine hK.out _ _ ⟨k0, k1, k2, d0, d1, d2, d3, d4, m0, m1, m2, e0, e1, e2⟩ (fun hHeld => ?_)
   clear hK K
   (try simp only [nz])
   refine tk (i := 50) (d := 4) rfl (by kernel_rfl) (fun _ _ _ h => h) rfl ‹_› (by intro w h; (try dsimp only at h); go_simp <;> with_reducible rfl) ?_
   simp only [nz]
   refine wpAnyH_done (by kernel_rfl) ?_ _
   clear hHeld
   go_wp2_with fail
   go_ret
   exact ⟨_, rfl, HF.out, HB⟩
  ·go_simp
   clear hHeld
   refine (does_any _ _ _ _).mono ?_
   rintro e V61 ⟨rfl, hb61⟩
   have hs62 := hb61.size
   replace k0 := zC k0 hb61
   replace k1 := zC k1 hb61
   replace k2 := zC k2 hb61
   replace d0 := zC d0 hb61
   replace d1 := zC d1 hb61
   replace d2 := zC d2 hb61
   replace d3 := zC d3 hb61
   replace d4 := zC d4 hb61
   replace m0 := zC m0 hb61
   replace m1 := zC m1 hb61
   replace m2 := zC m2 hb61
   replace e0 := zC e0 hb61
   replace e1 := zC e1 hb61
   replace e2 := zC e2 hb61
   replace HM1 := ob HM1 hb61
   replace HD1 := ob HD1 hb61
   replace HM2 := ob HM2 hb61
   replace HD2 := ob HD2 hb61
   replace HM3 := ob HM3 hb61
   replace HM4 := ob HM4 hb61
   replace HM5 := ob HM5 hb61
   replace HD5 := ob HD5 hb61
   replace HB := tm HB hb61
   clear hb61
   refine hK.out _ _ ⟨k0, k1, k2, d0, d1, d2, d3, d4, m0, m1, m2, e0, e1, e2⟩ (fun hHeld => ?_)
   clear hK K
   (try simp only [nz])
   refine wpAnyH_ready (rs := [43, 47]) (by kernel_rfl) (by simp) ?_
   refine (AllReadyH.cons (o := ⟨some 56, _, _, _, _, _⟩) rfl (fun K hK => ?_) (AllReadyH.cons (o := ⟨some 60, _, _, _, _, _⟩) rfl (fun K hK => ?_) AllReadyH.nil))
   ·go_simp
    clear hHeld
    refine alloc_step (fun V63 g63 hV hg => ?_)
    rw [← hg]
    have hbN := bn hV
    have hg63 : V61.heap.size ≤ g63 := by omega
    have hl63 := ln hV hg
    have HM6 : Hid (V63.ownsRow w.heap.size 95 3 (.slice (some ⟨g63, 0, none⟩) 2 2) 2 (M [isM 8 x.s, isM 9 x.i])) := by rw [hV, hg]; exact hide (World.ownsRow_lit V61 _ 2 HB.size (by decide) rfl)
    have hs64 := hbN.size
    replace k0 := zC k0 hbN
    replace k1 := zC k1 hbN
    replace k2 := zC k2 hbN
    replace d0 := zC d0 hbN
    replace d1 := zC d1 hbN
    replace d2 := zC d2 hbN
    replace d3 := zC d3 hbN
    replace d4 := zC d4 hbN
    replace m0 := zC m0 hbN
    replace m1 := zC m1 hbN
    replace m2 := zC m2 hbN
    replace e0 := zC e0 hbN
    replace e1 := zC e1 hbN
    replace e2 := zC e2 hbN
    replace HM1 := ob HM1 hbN
    replace HD1 := ob HD1 hbN
    replace HM2 := ob HM2 hbN
    replace HD2 := ob HD2 hbN
    replace HM3 := ob HM3 hbN
    replace HM4 := ob HM4 hbN
    replace HM5 := ob HM5 hbN
    replace HD5 := ob HD5 hbN
    replace HB := tm HB hbN
    clear hV hg hbN
    refine hK.out _ _ ⟨k0, k1, k2, d0, d1, d2, d3, d4, m0, m1, m2, e0, e1, e2⟩ (fun hHeld => ?_)
    clear hK K
    (try simp only [nz])
    refine rd (i := 47) (o := ⟨some 60, _, _, _, _, _⟩) (by kernel_rfl) rfl (fun K hK => ?_)
    go_simp
    clear hHeld
    refine alloc_step (fun V65 g65 hV hg => ?_)
    rw [← hg]
    have hbN := bn hV
    have hg65 : V63.heap.size ≤ g65 := by omega
    have hl65 := ln hV hg
    have HD6 : Hid (V65.ownsRow w.heap.size 98 3 (.slice (some ⟨g65, 0, none⟩) 1 1) 1 (D [⟨5, 0, x.i⟩])) := by rw [hV, hg]; exact hide (World.ownsRow_lit V63 _ 1 HB.size (by decide) rfl)
    have hs66 := hbN.size
    replace k0 := zC k0 hbN
    replace k1 := zC k1 hbN
    replace k2 := zC k2 hbN
    replace d0 := zC d0 hbN
    replace d1 := zC d1 hbN
    replace d2 := zC d2 hbN
    replace d3 := zC d3 hbN
    replace d4 := zC d4 hbN
    replace m0 := zC m0 hbN
    replace m1 := zC m1 hbN
    replace m2 := zC m2 hbN
    replace e0 := zC e0 hbN
    replace e1 := zC e1 hbN
    replace e2 := zC e2 hbN
    replace HM1 := ob HM1 hbN
    replace HD1 := ob HD1 hbN
    replace HM2 := ob HM2 hbN
    replace HD2 := ob HD2 hbN
    replace HM3 := ob HM3 hbN
    replace HM4 := ob HM4 hbN
    replace HM5 := ob HM5 hbN
    replace HD5 := ob HD5 hbN
    replace HM6 := ob HM6 hbN
    replace HB := tm HB hbN
    clear hV hg hbN
    refine hK.out _ _ ⟨k0, k1, k2, d0, d1, d2, d3, d4, m0, m1, m2, e0, e1, e2⟩ (fun hHeld => ?_)
    clear hK K
    (try simp only [nz])
    refine rd (i := 48) (o := ⟨some 61, _, _, _, _, _⟩) (by kernel_rfl) rfl (fun K hK => ?_)
    go_simp
    clear hHeld
    refine (flowOf_any _ _ _ _ _ _ _ _ _).mono ?_
    rintro e V67 ⟨rfl, hb67⟩
    have hs68 := hb67.size
    replace k0 := zC k0 hb67
    replace k1 := zC k1 hb67
    replace k2 := zC k2 hb67
    replace d0 := zC d0 hb67
    replace d1 := zC d1 hb67
    replace d2 := zC d2 hb67
    replace d3 := zC d3 hb67
    replace d4 := zC d4 hb67
    replace m0 := zC m0 hb67
    replace m1 := zC m1 hb67
    replace m2 := zC m2 hb67
    replace e0 := zC e0 hb67
    replace e1 := zC e1 hb67
    replace e2 := zC e2 hb67
    replace HM1 := ob HM1 hb67
    replace HD1 := ob HD1 hb67
    replace HM2 := ob HM2 hb67
    replace HD2 := ob HD2 hb67
    replace HM3 := ob HM3 hb67
    replace HM4 := ob HM4 hb67
    replace HM5 := ob HM5 hb67
    replace HD5 := ob HD5 hb67
    replace HM6 := ob HM6 hb67
    replace HD6 := ob HD6 hb67
    replace HB := tm HB hb67
    clear hb67
    refine hK.out _ _ ⟨k0, k1, k2, d0, d1, d2, d3, d4, m0, m1, m2, e0, e1, e2⟩ (fun hHeld => ?_)
    clear hK K
    (try simp only [nz])
    refine rd (i := 49) (o := ⟨some 62, _, _, _, _, _⟩) (by kernel_rfl) rfl (fun K hK => ?_)
    go_simp
    clear hHeld
    refine alloc_step (fun V69 g69 hV hg => ?_)
    rw [← hg]
    have hbN := bn hV
    have hg69 : V67.heap.size ≤ g69 := by omega
    have hl69 := ln hV hg
    have HF : Hid (FR V69 w.heap.size (.slice (some ⟨g69, 0, none⟩) 6 6) (portFl P x)) := by
     rw [hV, hg]
     refine hide (FR.lit (lo := [⟨⟨0, 0, sentMs x ++ dataMs, [⟨1, 8, x.s⟩, gotoD 2]⟩, .slice (some ⟨g13, 0, none⟩) 7 c13, .slice (some ⟨g16, 0, none⟩) 2 2⟩, ⟨⟨0, 0, sentMs x ++ bareMs 1, [⟨1, 8, x.s⟩, gotoD 1]⟩, .slice (some ⟨g30, 0, none⟩) 8 c30, .slice (some ⟨g33, 0, none⟩) 2 2⟩, ⟨⟨1, 1, [isM 0 x.i, isM 5 x.p], []⟩, .slice (some ⟨g39, 0, none⟩) 2 2, .slice none 0 0⟩, ⟨⟨3, 1, [isM 0 x.i, isM 1 x.m], []⟩, .slice (some ⟨g45, 0, none⟩) 2 2, .slice none 0 0⟩, ⟨⟨3, 0, [isM 0 x.i, isM 1 65535], (P.filter (othersB x)).flatMap toPortD⟩, .slice (some ⟨g51, 0, none⟩) 2 2, .slice oo5 N5 oc5⟩, ⟨⟨5, 0, [isM 8 x.s, isM 9 x.i], [⟨5, 0, x.i⟩]⟩, .slice (some ⟨g63, 0, none⟩) 2 2, .slice (some ⟨g65, 0, none⟩) 1 1⟩]) rfl rfl HB.size (by decide) (fun x hx => ?_))
     simp only [List.mem_cons, List.not_mem_nil, or_false] at hx
     rcases hx with rfl | rfl | rfl | rfl | rfl | rfl
     ·exact fv_in HM1.out HD1.out (by simp [Value.ownBlock])
     ·exact fv_in HM2.out HD2.out (by simp [Value.ownBlock])
     ·exact fv_in HM3.out (World.ownsRow_nil _ _ _ _) (by simp [Value.ownBlock])
     ·exact fv_in HM4.out (World.ownsRow_nil _ _ _ _) (by simp [Value.ownBlock])
     ·exact fv_in HM5.out (by rw [← HN5.out]; exact HD5.out) (by simp [Value.ownBlock])
     ·exact fv_in HM6.out HD6.out (by simp [Value.ownBlock])
    have hs70 := hbN.size
    replace k0 := zC k0 hbN
    replace k1 := zC k1 hbN
    replace k2 := zC k2 hbN
    replace d0 := zC d0 hbN
    replace d1 := zC d1 hbN
    replace d2 := zC d2 hbN
    replace d3 := zC d3 hbN
    replace d4 := zC d4 hbN
    replace m0 := zC m0 hbN
    replace m1 := zC m1 hbN
    replace m2 := zC m2 hbN
    replace e0 := zC e0 hbN
    replace e1 := zC e1 hbN
    replace e2 := zC e2 hbN
    replace HM1 := ob HM1 hbN
    replace HD1 := ob HD1 hbN
    replace HM2 := ob HM2 hbN
    replace HD2 := ob HD2 hbN
    replace HM3 := ob HM3 hbN
    replace HM4 := ob HM4 hbN
    replace HM5 := ob HM5 hbN
    replace HD5 := ob HD5 hbN
    replace HM6 := ob HM6 hbN
    replace HD6 := ob HD6 hbN
    replace HB := tm HB hbN
    clear hV hg hbN
    refine hK.out _ _ ⟨k0, k1, k2, d0, d1, d2, d3, d4, m0, m1, m2, e0, e1, e2⟩ (fun hHeld => ?_)
    clear hK K
    (try simp only [nz])
    refine tk (i := 50) (d := 4) rfl (by kernel_rfl) (fun _ _ _ h => h) rfl ‹_› (by intro w h; (try dsimp only at h); go_simp <;> with_reducible rfl) ?_
    simp only [nz]
    refine wpAnyH_done (by kernel_rfl) ?_ _
    clear hHeld
    go_wp2_with fail
    go_ret
    exact ⟨_, rfl, HF.out, HB⟩
   ·go_simp
    clear hHeld
    refine alloc_step (fun V63 g63 hV hg => ?_)
    rw [← hg]
    have hbN := bn hV
    have hg63 : V61.heap.size ≤ g63 := by omega
    have hl63 := ln hV hg
    have HD6 : Hid (V63.ownsRow w.heap.size 98 3 (.slice (some ⟨g63, 0, none⟩) 1 1) 1 (D [⟨5, 0, x.i⟩])) := by rw [hV, hg]; exact hide (World.ownsRow_lit V61 _ 1 HB.size (by decide) rfl)
    have hs64 := hbN.size
    replace k0 := zC k0 hbN
    replace k1 := zC k1 hbN
    replace k2 := zC k2 hbN
    replace d0 := zC d0 hbN
    replace d1 := zC d1 hbN
    replace d2 := zC d2 hbN
    replace d3 := zC d3 hbN
    replace d4 := zC d4 hbN
    replace m0 := zC m0 hbN
    replace m1 := zC m1 hbN
    replace m2 := zC m2 hbN
    replace e0 := zC e0 hbN
    replace e1 := zC e1 hbN
    replace e2 := zC e2 hbN
    replace HM1 := ob HM1 hbN
    replace HD1 := ob HD1 hbN
    replace HM2 := ob HM2 hbN
    replace HD2 := ob HD2 hbN
    replace HM3 := ob HM3 hbN
    replace HM4 := ob HM4 hbN
    replace HM5 := ob HM5 hbN
    replace HD5 := ob HD5 hbN
    replace HB := tm HB hbN
    clear hV hg hbN
    refine hK.out _ _ ⟨k0, k1, k2, d0, d1, d2, d3, d4, m0, m1, m2, e0, e1, e2⟩ (fun hHeld => ?_)
    clear hK K
    (try simp only [nz])
    refine rd (i := 43) (o := ⟨some 56, _, _, _, _, _⟩) (by kernel_rfl) rfl (fun K hK => ?_)
    go_simp
    clear hHeld
    refine alloc_step (fun V65 g65 hV hg => ?_)
    rw [← hg]
    have hbN := bn hV
    have hg65 : V63.heap.size ≤ g65 := by omega
    have hl65 := ln hV hg
    have HM6 : Hid (V65.ownsRow w.heap.size 95 3 (.slice (some ⟨g65, 0, none⟩) 2 2) 2 (M [isM 8 x.s, isM 9 x.i])) := by rw [hV, hg]; exact hide (World.ownsRow_lit V63 _ 2 HB.size (by decide) rfl)
    have hs66 := hbN.size
    replace k0 := zC k0 hbN
    replace k1 := zC k1 hbN
    replace k2 := zC k2 hbN
    replace d0 := zC d0 hbN
    replace d1 := zC d1 hbN
    replace d2 := zC d2 hbN
    replace d3 := zC d3 hbN
    replace d4 := zC d4 hbN
    replace m0 := zC m0 hbN
    replace m1 := zC m1 hbN
    replace m2 := zC m2 hbN
    replace e0 := zC e0 hbN
    replace e1 := zC e1 hbN
    replace e2 := zC e2 hbN
    replace HM1 := ob HM1 hbN
    replace HD1 := ob HD1 hbN
    replace HM2 := ob HM2 hbN
    replace HD2 := ob HD2 hbN
    replace HM3 := ob HM3 hbN
    replace HM4 := ob HM4 hbN
    replace HM5 := ob HM5 hbN
    replace HD5 := ob HD5 hbN
    replace HD6 := ob HD6 hbN
    replace HB := tm HB hbN
    clear hV hg hbN
    refine hK.out _ _ ⟨k0, k1, k2, d0, d1, d2, d3, d4, m0, m1, m2, e0, e1, e2⟩ (fun hHeld => ?_)
    clear hK K
    (try simp only [nz])
    refine rd (i := 48) (o := ⟨some 61, _, _, _, _, _⟩) (by kernel_rfl) rfl (fun K hK => ?_)
    go_simp
    clear hHeld
    refine (flowOf_any _ _ _ _ _ _ _ _ _).mono ?_
    rintro e V67 ⟨rfl, hb67⟩
    have hs68 := hb67.size
    replace k0 := zC k0 hb67
    replace k1 := zC k1 hb67
    replace k2 := zC k2 hb67
    replace d0 := zC d0 hb67
    replace d1 := zC d1 hb67
    replace d2 := zC d2 hb67
    replace d3 := zC d3 hb67
    replace d4 := zC d4 hb67
    replace m0 := zC m0 hb67
    replace m1 := zC m1 hb67
    replace m2 := zC m2 hb67
    replace e0 := zC e0 hb67
    replace e1 := zC e1 hb67
    replace e2 := zC e2 hb67
    replace HM1 := ob HM1 hb67
    replace HD1 := ob HD1 hb67
    replace HM2 := ob HM2 hb67
    replace HD2 := ob HD2 hb67
    replace HM3 := ob HM3 hb67
    replace HM4 := ob HM4 hb67
    replace HM5 := ob HM5 hb67
    replace HD5 := ob HD5 hb67
    replace HD6 := ob HD6 hb67
    replace HM6 := ob HM6 hb67
    replace HB := tm HB hb67
    clear hb67
    refine hK.out _ _ ⟨k0, k1, k2, d0, d1, d2, d3, d4, m0, m1, m2, e0, e1, e2⟩ (fun hHeld => ?_)
    clear hK K
    (try simp only [nz])
    refine rd (i := 49) (o := ⟨some 62, _, _, _, _, _⟩) (by kernel_rfl) rfl (fun K hK => ?_)
    go_simp
    clear hHeld
    refine alloc_step (fun V69 g69 hV hg => ?_)
    rw [← hg]
    have hbN := bn hV
    have hg69 : V67.heap.size ≤ g69 := by omega
    have hl69 := ln hV hg
    have HF : Hid (FR V69 w.heap.size (.slice (some ⟨g69, 0, none⟩) 6 6) (portFl P x)) := by
     rw [hV, hg]
     refine hide (FR.lit (lo := [⟨⟨0, 0, sentMs x ++ dataMs, [⟨1, 8, x.s⟩, gotoD 2]⟩, .slice (some ⟨g13, 0, none⟩) 7 c13, .slice (some ⟨g16, 0, none⟩) 2 2⟩, ⟨⟨0, 0, sentMs x ++ bareMs 1, [⟨1, 8, x.s⟩, gotoD 1]⟩, .slice (some ⟨g30, 0, none⟩) 8 c30, .slice (some ⟨g33, 0, none⟩) 2 2⟩, ⟨⟨1, 1, [isM 0 x.i, isM 5 x.p], []⟩, .slice (some ⟨g39, 0, none⟩) 2 2, .slice none 0 0⟩, ⟨⟨3, 1, [isM 0 x.i, isM 1 x.m], []⟩, .slice (some ⟨g45, 0, none⟩) 2 2, .slice none 0 0⟩, ⟨⟨3, 0, [isM 0 x.i, isM 1 65535], (P.filter (othersB x)).flatMap toPortD⟩, .slice (some ⟨g51, 0, none⟩) 2 2, .slice oo5 N5 oc5⟩, ⟨⟨5, 0, [isM 8 x.s, isM 9 x.i], [⟨5, 0, x.i⟩]⟩, .slice (some ⟨g65, 0, none⟩) 2 2, .slice (some ⟨g63, 0, none⟩) 1 1⟩]) rfl rfl HB.size (by decide) (fun x hx => ?_))
     simp only [List.mem_cons, List.not_mem_nil, or_false] at hx
     rcases hx with rfl | rfl | rfl | rfl | rfl | rfl
     ·exact fv_in HM1.out HD1.out (by simp [Value.ownBlock])
     ·exact fv_in HM2.out HD2.out (by simp [Value.ownBlock])
     ·exact fv_in HM3.out (World.ownsRow_nil _ _ _ _) (by simp [Value.ownBlock])
     ·exact fv_in HM4.out (World.ownsRow_nil _ _ _ _) (by simp [Value.ownBlock])
     ·exact fv_in HM5.out (by rw [← HN5.out]; exact HD5.out) (by simp [Value.ownBlock])
     ·exact fv_in HM6.out HD6.out (by simp [Value.ownBlock])
    have hs70 := hbN.size
    replace k0 := zC k0 hbN
    replace k1 := zC k1 hbN
    replace k2 := zC k2 hbN
    replace d0 := zC d0 hbN
    replace d1 := zC d1 hbN
    replace d2 := zC d2 hbN
    replace d3 := zC d3 hbN
    replace d4 := zC d4 hbN
    replace m0 := zC m0 hbN
    replace m1 := zC m1 hbN
    replace m2 := zC m2 hbN
    replace e0 := zC e0 hbN
    replace e1 := zC e1 hbN
    replace e2 := zC e2 hbN
    replace HM1 := ob HM1 hbN
    replace HD1 := ob HD1 hbN
    replace HM2 := ob HM2 hbN
    replace HD2 := ob HD2 hbN
    replace HM3 := ob HM3 hbN
    replace HM4 := ob HM4 hbN
    replace HM5 := ob HM5 hbN
    replace HD5 := ob HD5 hbN
    replace HD6 := ob HD6 hbN
    replace HM6 := ob HM6 hbN
    replace HB := tm HB hbN
    clear hV hg hbN
    refine hK.out _ _ ⟨k0, k1, k2, d0, d1, d2, d3, d4, m0, m1, m2, e0, e1, e2⟩ (fun hHeld => ?_)
    clear hK K
    (try simp only [nz])
    refine tk (i := 50) (d := 4) rfl (by kernel_rfl) (fun _ _ _ h => h) rfl ‹_› (by intro w h; (try dsimp only at h); go_simp <;> with_reducible rfl) ?_
    simp only [nz]
    refine wpAnyH_done (by kernel_rfl) ?_ _
    clear hHeld
    go_wp2_with fail
    go_ret
    exact ⟨_, rfl, HF.out, HB⟩
 ·go_simp
  clear hHeld
  have HBold := HB.size
  refine (toOthers_any S P A s1 p1 a1 s2 p2 a2 x _ (HC.out.below HB (Nat.le_refl _)) hl).mono ?_
  rintro e V51 ⟨u, rfl, ho5, hb51⟩
  have hs52 := hb51.size
  replace k0 := zC k0 hb51
  replace k1 := zC k1 hb51
  replace k2 := zC k2 hb51
  replace d0 := zC d0 hb51
  replace d1 := zC d1 hb51
  replace d2 := zC d2 hb51
  replace d3 := zC d3 hb51
  replace d4 := zC d4 hb51
  replace m0 := zC m0 hb51
  replace m1 := zC m1 hb51
  replace m2 := zC m2 hb51
  replace e0 := zC e0 hb51
  replace e1 := zC e1 hb51
  replace e2 := zC e2 hb51
  replace HM1 := ob HM1 hb51
  replace HD1 := ob HD1 hb51
  replace HM2 := ob HM2 hb51
  replace HD2 := ob HD2 hb51
  replace HM3 := ob HM3 hb51
  replace HM4 := ob HM4 hb51
  replace HB := tm HB hb51
  obtain ⟨N5, hN5⟩ : ∃ N, N = ((P.filter (othersB x)).flatMap toPortD).length := ⟨_, rfl⟩
  rw [← hN5] at ho5
  have HN5 := hide hN5
  clear hN5
  obtain ⟨oo5, oc5, rfl⟩ := own_slc ho5
  have HD5 := hide (own_less ho5 HBold)
  clear ho5 HBold
  clear hb51
  refine hK.out _ _ ⟨k0, k1, k2, d0, d1, d2, d3, d4, m0, m1, m2, e0, e1, e2⟩ (fun hHeld => ?_)
  clear hK K
  (try simp only [nz])
  refine rd (i := 32) (o := ⟨some 45, _, _, _, _, _⟩) (by kernel_rfl) rfl (fun K hK => ?_)
  go_simp
  clear hHeld
  refine alloc_step (fun V53 g53 hV hg => ?_)
  rw [← hg]
  have hbN := bn hV
  have hg53 : V51.heap.size ≤ g53 := by omega
  have hl53 := ln hV hg
  have HM5 : Hid (V53.ownsRow w.heap.size 95 3 (.slice (some ⟨g53, 0, none⟩) 2 2) 2 (M [isM 0 x.i, isM 1 65535])) := by rw [hV, hg]; exact hide (World.ownsRow_lit V51 _ 2 HB.size (by decide) rfl)
  have hs54 := hbN.size
  replace k0 := zC k0 hbN
  replace k1 := zC k1 hbN
  replace k2 := zC k2 hbN
  replace d0 := zC d0 hbN
  replace d1 := zC d1 hbN
  replace d2 := zC d2 hbN
  replace d3 := zC d3 hbN
  replace d4 := zC d4 hbN
  replace m0 := zC m0 hbN
  replace m1 := zC m1 hbN
  replace m2 := zC m2 hbN
  replace e0 := zC e0 hbN
  replace e1 := zC e1 hbN
  replace e2 := zC e2 hbN
  replace HM1 := ob HM1 hbN
  replace HD1 := ob HD1 hbN
  replace HM2 := ob HM2 hbN
  replace HD2 := ob HD2 hbN
  replace HM3 := ob HM3 hbN
  replace HM4 := ob HM4 hbN
  replace HD5 := ob HD5 hbN
  replace HB := tm HB hbN
  clear hV hg hbN
  refine hK.out _ _ ⟨k0, k1, k2, d0, d1, d2, d3, d4, m0, m1, m2, e0, e1, e2⟩ (fun hHeld => ?_)
  clear hK K
  (try simp only [nz])
  refine rd (i := 36) (o := ⟨some 49, _, _, _, _, _⟩) (by kernel_rfl) rfl (fun K hK => ?_)
  go_simp
  clear hHeld
  refine (flowOf_any _ _ _ _ _ _ _ _ _).mono ?_
  rintro e V55 ⟨rfl, hb55⟩
  have hs56 := hb55.size
  replace k0 := zC k0 hb55
  replace k1 := zC k1 hb55
  replace k2 := zC k2 hb55
  replace d0 := zC d0 hb55
  replace d1 := zC d1 hb55
  replace d2 := zC d2 hb55
  replace d3 := zC d3 hb55
  replace d4 := zC d4 hb55
  replace m0 := zC m0 hb55
  replace m1 := zC m1 hb55
  replace m2 := zC m2 hb55
  replace e0 := zC e0 hb55
  replace e1 := zC e1 hb55
  replace e2 := zC e2 hb55
  replace HM1 := ob HM1 hb55
  replace HD1 := ob HD1 hb55
  replace HM2 := ob HM2 hb55
  replace HD2 := ob HD2 hb55
  replace HM3 := ob HM3 hb55
  replace HM4 := ob HM4 hb55
  replace HD5 := ob HD5 hb55
  replace HM5 := ob HM5 hb55
  replace HB := tm HB hb55
  clear hb55
  refine hK.out _ _ ⟨k0, k1, k2, d0, d1, d2, d3, d4, m0, m1, m2, e0, e1, e2⟩ (fun hHeld => ?_)
  clear hK K
  (try simp only [nz])
  refine rd (i := 39) (o := ⟨some 52, _, _, _, _, _⟩) (by kernel_rfl) rfl (fun K hK => ?_)
  go_simp
  clear hHeld
  refine (is_any _ _ _).mono ?_
  rintro e V57 ⟨rfl, hb57⟩
  have hs58 := hb57.size
  replace k0 := zC k0 hb57
  replace k1 := zC k1 hb57
  replace k2 := zC k2 hb57
  replace d0 := zC d0 hb57
  replace d1 := zC d1 hb57
  replace d2 := zC d2 hb57
  replace d3 := zC d3 hb57
  replace d4 := zC d4 hb57
  replace m0 := zC m0 hb57
  replace m1 := zC m1 hb57
  replace m2 := zC m2 hb57
  replace e0 := zC e0 hb57
  replace e1 := zC e1 hb57
  replace e2 := zC e2 hb57
  replace HM1 := ob HM1 hb57
  replace HD1 := ob HD1 hb57
  replace HM2 := ob HM2 hb57
  replace HD2 := ob HD2 hb57
  replace HM3 := ob HM3 hb57
  replace HM4 := ob HM4 hb57
  replace HD5 := ob HD5 hb57
  replace HM5 := ob HM5 hb57
  replace HB := tm HB hb57
  clear hb57
  refine hK.out _ _ ⟨k0, k1, k2, d0, d1, d2, d3, d4, m0, m1, m2, e0, e1, e2⟩ (fun hHeld => ?_)
  clear hK K
  (try simp only [nz])
  refine rd (i := 42) (o := ⟨some 55, _, _, _, _, _⟩) (by kernel_rfl) rfl (fun K hK => ?_)
  go_simp
  clear hHeld
  refine (is_any _ _ _).mono ?_
  rintro e V59 ⟨rfl, hb59⟩
  have hs60 := hb59.size
  replace k0 := zC k0 hb59
  replace k1 := zC k1 hb59
  replace k2 := zC k2 hb59
  replace d0 := zC d0 hb59
  replace d1 := zC d1 hb59
  replace d2 := zC d2 hb59
  replace d3 := zC d3 hb59
  replace d4 := zC d4 hb59
  replace m0 := zC m0 hb59
  replace m1 := zC m1 hb59
  replace m2 := zC m2 hb59
  replace e0 := zC e0 hb59
  replace e1 := zC e1 hb59
  replace e2 := zC e2 hb59
  replace HM1 := ob HM1 hb59
  replace HD1 := ob HD1 hb59
  replace HM2 := ob HM2 hb59
  replace HD2 := ob HD2 hb59
  replace HM3 := ob HM3 hb59
  replace HM4 := ob HM4 hb59
  replace HD5 := ob HD5 hb59
  replace HM5 := ob HM5 hb59
  replace HB := tm HB hb59
  clear hb59
  refine hK.out _ _ ⟨k0, k1, k2, d0, d1, d2, d3, d4, m0, m1, m2, e0, e1, e2⟩ (fun hHeld => ?_)
  clear hK K
  (try simp only [nz])
  refine wpAnyH_ready (rs := [43, 46]) (by kernel_rfl) (by simp) ?_
  refine (AllReadyH.cons (o := ⟨some 56, _, _, _, _, _⟩) rfl (fun K hK => ?_) (AllReadyH.cons (o := ⟨some 59, _, _, _, _, _⟩) rfl (fun K hK => ?_) AllReadyH.nil))
  ·go_simp
   clear hHeld
   refine alloc_step (fun V61 g61 hV hg => ?_)
   rw [← hg]
   have hbN := bn hV
   have hg61 : V59.heap.size ≤ g61 := by omega
   have hl61 := ln hV hg
   have HM6 : Hid (V61.ownsRow w.heap.size 95 3 (.slice (some ⟨g61, 0, none⟩) 2 2) 2 (M [isM 8 x.s, isM 9 x.i])) := by rw [hV, hg]; exact hide (World.ownsRow_lit V59 _ 2 HB.size (by decide) rfl)
   have hs62 := hbN.size
   replace k0 := zC k0 hbN
   replace k1 := zC k1 hbN
   replace k2 := zC k2 hbN
   replace d0 := zC d0 hbN
   replace d1 := zC d1 hbN
   replace d2 := zC d2 hbN
   replace d3 := zC d3 hbN
   replace d4 := zC d4 hbN
   replace m0 := zC m0 hbN
   replace m1 := zC m1 hbN
   replace m2 := zC m2 hbN
   replace e0 := zC e0 hbN
   replace e1 := zC e1 hbN
   replace e2 := zC e2 hbN
   replace HM1 := ob HM1 hbN
   replace HD1 := ob HD1 hbN
   replace HM2 := ob HM2 hbN
   replace HD2 := ob HD2 hbN
   replace HM3 := ob HM3 hbN
   replace HM4 := ob HM4 hbN
   replace HD5 := ob HD5 hbN
   replace HM5 := ob HM5 hbN
   replace HB := tm HB hbN
   clear hV hg hbN
   refine hK.out _ _ ⟨k0, k1, k2, d0, d1, d2, d3, d4, m0, m1, m2, e0, e1, e2⟩ (fun hHeld => ?_)
   clear hK K
   (try simp only [nz])
   refine rd (i := 46) (o := ⟨some 59, _, _, _, _, _⟩) (by kernel_rfl) rfl (fun K hK => ?_)
   go_simp
   clear hHeld
   refine (does_any _ _ _ _).mono ?_
   rintro e V63 ⟨rfl, hb63⟩
   have hs64 := hb63.size
   replace k0 := zC k0 hb63
   replace k1 := zC k1 hb63
   replace k2 := zC k2 hb63
   replace d0 := zC d0 hb63
   replace d1 := zC d1 hb63
   replace d2 := zC d2 hb63
   replace d3 := zC d3 hb63
   replace d4 := zC d4 hb63
   replace m0 := zC m0 hb63
   replace m1 := zC m1 hb63
   replace m2 := zC m2 hb63
   replace e0 := zC e0 hb63
   replace e1 := zC e1 hb63
   replace e2 := zC e2 hb63
   replace HM1 := ob HM1 hb63
   replace HD1 := ob HD1 hb63
   replace HM2 := ob HM2 hb63
   replace HD2 := ob HD2 hb63
   replace HM3 := ob HM3 hb63
   replace HM4 := ob HM4 hb63
   replace HD5 := ob HD5 hb63
   replace HM5 := ob HM5 hb63
   replace HM6 := ob HM6 hb63
   replace HB := tm HB hb63
   clear hb63
   refine hK.out _ _ ⟨k0, k1, k2, d0, d1, d2, d3, d4, m0, m1, m2, e0, e1, e2⟩ (fun hHeld => ?_)
   clear hK K
   (try simp only [nz])
   refine rd (i := 47) (o := ⟨some 60, _, _, _, _, _⟩) (by kernel_rfl) rfl (fun K hK => ?_)
   go_simp
   clear hHeld
   refine alloc_step (fun V65 g65 hV hg => ?_)
   rw [← hg]
   have hbN := bn hV
   have hg65 : V63.heap.size ≤ g65 := by omega
   have hl65 := ln hV hg
   have HD6 : Hid (V65.ownsRow w.heap.size 98 3 (.slice (some ⟨g65, 0, none⟩) 1 1) 1 (D [⟨5, 0, x.i⟩])) := by rw [hV, hg]; exact hide (World.ownsRow_lit V63 _ 1 HB.size (by decide) rfl)
   have hs66 := hbN.size
   replace k0 := zC k0 hbN
   replace k1 := zC k1 hbN
   replace k2 := zC k2 hbN
   replace d0 := zC d0 hbN
   replace d1 := zC d1 hbN
   replace d2 := zC d2 hbN
   replace d3 := zC d3 hbN
   replace d4 := zC d4 hbN
   replace m0 := zC m0 hbN
   replace m1 := zC m1 hbN
   replace m2 := zC m2 hbN
   replace e0 := zC e0 hbN
   replace e1 := zC e1 hbN
   replace e2 := zC e2 hbN
   replace HM1 := ob HM1 hbN
   replace HD1 := ob HD1 hbN
   replace HM2 := ob HM2 hbN
   replace HD2 := ob HD2 hbN
   replace HM3 := ob HM3 hbN
   replace HM4 := ob HM4 hbN
   replace HD5 := ob HD5 hbN
   replace HM5 := ob HM5 hbN
   replace HM6 := ob HM6 hbN
   replace HB := tm HB hbN
   clear hV hg hbN
   refine hK.out _ _ ⟨k0, k1, k2, d0, d1, d2, d3, d4, m0, m1, m2, e0, e1, e2⟩ (fun hHeld => ?_)
   clear hK K
   (try simp only [nz])
   refine rd (i := 48) (o := ⟨some 61, _, _, _, _, _⟩) (by kernel_rfl) rfl (fun K hK => ?_)
   go_simp
   clear hHeld
   refine (flowOf_any _ _ _ _ _ _ _ _ _).mono ?_
   rintro e V67 ⟨rfl, hb67⟩
   have hs68 := hb67.size
   replace k0 := zC k0 hb67
   replace k1 := zC k1 hb67
   replace k2 := zC k2 hb67
   replace d0 := zC d0 hb67
   replace d1 := zC d1 hb67
   replace d2 := zC d2 hb67
   replace d3 := zC d3 hb67
   replace d4 := zC d4 hb67
   replace m0 := zC m0 hb67
   replace m1 := zC m1 hb67
   replace m2 := zC m2 hb67
   replace e0 := zC e0 hb67
   replace e1 := zC e1 hb67
   replace e2 := zC e2 hb67
   replace HM1 := ob HM1 hb67
   replace HD1 := ob HD1 hb67
   replace HM2 := ob HM2 hb67
   replace HD2 := ob HD2 hb67
   replace HM3 := ob HM3 hb67
   replace HM4 := ob HM4 hb67
   replace HD5 := ob HD5 hb67
   replace HM5 := ob HM5 hb67
   replace HM6 := ob HM6 hb67
   replace HD6 := ob HD6 hb67
   replace HB := tm HB hb67
   clear hb67
   refine hK.out _ _ ⟨k0, k1, k2, d0, d1, d2, d3, d4, m0, m1, m2, e0, e1, e2⟩ (fun hHeld => ?_)
   clear hK K
   (try simp only [nz])
   refine rd (i := 49) (o := ⟨some 62, _, _, _, _, _⟩) (by kernel_rfl) rfl (fun K hK => ?_)
   go_simp
   clear hHeld
   refine alloc_step (fun V69 g69 hV hg => ?_)
   rw [← hg]
   have hbN := bn hV
   have hg69 : V67.heap.size ≤ g69 := by omega
   have hl69 := ln hV hg
   have HF : Hid (FR V69 w.heap.size (.slice (some ⟨g69, 0, none⟩) 6 6) (portFl P x)) := by
    rw [hV, hg]
    refine hide (FR.lit (lo := [⟨⟨0, 0, sentMs x ++ dataMs, [⟨1, 8, x.s⟩, gotoD 2]⟩, .slice (some ⟨g13, 0, none⟩) 7 c13, .slice (some ⟨g16, 0, none⟩) 2 2⟩, ⟨⟨0, 0, sentMs x ++ bareMs 1, [⟨1, 8, x.s⟩, gotoD 1]⟩, .slice (some ⟨g30, 0, none⟩) 8 c30, .slice (some ⟨g33, 0, none⟩) 2 2⟩, ⟨⟨1, 1, [isM 0 x.i, isM 5 x.p], []⟩, .slice (some ⟨g39, 0, none⟩) 2 2, .slice none 0 0⟩, ⟨⟨3, 1, [isM 0 x.i, isM 1 x.m], []⟩, .slice (some ⟨g45, 0, none⟩) 2 2, .slice none 0 0⟩, ⟨⟨3, 0, [isM 0 x.i, isM 1 65535], (P.filter (othersB x)).flatMap toPortD⟩, .slice (some ⟨g53, 0, none⟩) 2 2, .slice oo5 N5 oc5⟩, ⟨⟨5, 0, [isM 8 x.s, isM 9 x.i], [⟨5, 0, x.i⟩]⟩, .slice (some ⟨g61, 0, none⟩) 2 2, .slice (some ⟨g65, 0, none⟩) 1 1⟩]) rfl rfl HB.size (by decide) (fun x hx => ?_))
    simp only [List.mem_cons, List.not_mem_nil, or_false] at hx
    rcases hx with rfl | rfl | rfl | rfl | rfl | rfl
    ·exact fv_in HM1.out HD1.out (by simp [Value.ownBlock])
    ·exact fv_in HM2.out HD2.out (by simp [Value.ownBlock])
    ·exact fv_in HM3.out (World.ownsRow_nil _ _ _ _) (by simp [Value.ownBlock])
    ·exact fv_in HM4.out (World.ownsRow_nil _ _ _ _) (by simp [Value.ownBlock])
    ·exact fv_in HM5.out (by rw [← HN5.out]; exact HD5.out) (by simp [Value.ownBlock])
    ·exact fv_in HM6.out HD6.out (by simp [Value.ownBlock])
   have hs70 := hbN.size
   replace k0 := zC k0 hbN
   replace k1 := zC k1 hbN
   replace k2 := zC k2 hbN
   replace d0 := zC d0 hbN
   replace d1 := zC d1 hbN
   replace d2 := zC d2 hbN
   replace d3 := zC d3 hbN
   replace d4 := zC d4 hbN
   replace m0 := zC m0 hbN
   replace m1 := zC m1 hbN
   replace m2 := zC m2 hbN
   replace e0 := zC e0 hbN
   replace e1 := zC e1 hbN
   replace e2 := zC e2 hbN
   replace HM1 := ob HM1 hbN
   replace HD1 := ob HD1 hbN
   replace HM2 := ob HM2 hbN
   replace HD2 := ob HD2 hbN
   replace HM3 := ob HM3 hbN
   replace HM4 := ob HM4 hbN
   replace HD5 := ob HD5 hbN
   replace HM5 := ob HM5 hbN
   replace HM6 := ob HM6 hbN
   replace HD6 := ob HD6 hbN
   replace HB := tm HB hbN
   clear hV hg hbN
   refine hK.out _ _ ⟨k0, k1, k2, d0, d1, d2, d3, d4, m0, m1, m2, e0, e1, e2⟩ (fun hHeld => ?_)
   clear hK K
   (try simp only [nz])
   refine tk (i := 50) (d := 4) rfl (by kernel_rfl) (fun _ _ _ h => h) rfl ‹_› (by intro w h; (try dsimp only at h); go_simp <;> with_reducible rfl) ?_
   simp only [nz]
   refine wpAnyH_done (by kernel_rfl) ?_ _
   clear hHeld
   go_wp2_with fail
   go_ret
   exact ⟨_, rfl, HF.out, HB⟩
  ·go_simp
   clear hHeld
   refine (does_any _ _ _ _).mono ?_
   rintro e V61 ⟨rfl, hb61⟩
   have hs62 := hb61.size
   replace k0 := zC k0 hb61
   replace k1 := zC k1 hb61
   replace k2 := zC k2 hb61
   replace d0 := zC d0 hb61
   replace d1 := zC d1 hb61
   replace d2 := zC d2 hb61
   replace d3 := zC d3 hb61
   replace d4 := zC d4 hb61
   replace m0 := zC m0 hb61
   replace m1 := zC m1 hb61
   replace m2 := zC m2 hb61
   replace e0 := zC e0 hb61
   replace e1 := zC e1 hb61
   replace e2 := zC e2 hb61
   replace HM1 := ob HM1 hb61
   replace HD1 := ob HD1 hb61
   replace HM2 := ob HM2 hb61
   replace HD2 := ob HD2 hb61
   replace HM3 := ob HM3 hb61
   replace HM4 := ob HM4 hb61
   replace HD5 := ob HD5 hb61
   replace HM5 := ob HM5 hb61
   replace HB := tm HB hb61
   clear hb61
   refine hK.out _ _ ⟨k0, k1, k2, d0, d1, d2, d3, d4, m0, m1, m2, e0, e1, e2⟩ (fun hHeld => ?_)
   clear hK K
   (try simp only [nz])
   refine wpAnyH_ready (rs := [43, 47]) (by kernel_rfl) (by simp) ?_
   refine (AllReadyH.cons (o := ⟨some 56, _, _, _, _, _⟩) rfl (fun K hK => ?_) (AllReadyH.cons (o := ⟨some 60, _, _, _, _, _⟩) rfl (fun K hK => ?_) AllReadyH.nil))
   ·go_simp
    clear hHeld
    refine alloc_step (fun V63 g63 hV hg => ?_)
    rw [← hg]
    have hbN := bn hV
    have hg63 : V61.heap.size ≤ g63 := by omega
    have hl63 := ln hV hg
    have HM6 : Hid (V63.ownsRow w.heap.size 95 3 (.slice (some ⟨g63, 0, none⟩) 2 2) 2 (M [isM 8 x.s, isM 9 x.i])) := by rw [hV, hg]; exact hide (World.ownsRow_lit V61 _ 2 HB.size (by decide) rfl)
    have hs64 := hbN.size
    replace k0 := zC k0 hbN
    replace k1 := zC k1 hbN
    replace k2 := zC k2 hbN
    replace d0 := zC d0 hbN
    replace d1 := zC d1 hbN
    replace d2 := zC d2 hbN
    replace d3 := zC d3 hbN
    replace d4 := zC d4 hbN
    replace m0 := zC m0 hbN
    replace m1 := zC m1 hbN
    replace m2 := zC m2 hbN
    replace e0 := zC e0 hbN
    replace e1 := zC e1 hbN
    replace e2 := zC e2 hbN
    replace HM1 := ob HM1 hbN
    replace HD1 := ob HD1 hbN
    replace HM2 := ob HM2 hbN
    replace HD2 := ob HD2 hbN
    replace HM3 := ob HM3 hbN
    replace HM4 := ob HM4 hbN
    replace HD5 := ob HD5 hbN
    replace HM5 := ob HM5 hbN
    replace HB := tm HB hbN
    clear hV hg hbN
    refine hK.out _ _ ⟨k0, k1, k2, d0, d1, d2, d3, d4, m0, m1, m2, e0, e1, e2⟩ (fun hHeld => ?_)
    clear hK K
    (try simp only [nz])
    refine rd (i := 47) (o := ⟨some 60, _, _, _, _, _⟩) (by kernel_rfl) rfl (fun K hK => ?_)
    go_simp
    clear hHeld
    refine alloc_step (fun V65 g65 hV hg => ?_)
    rw [← hg]
    have hbN := bn hV
    have hg65 : V63.heap.size ≤ g65 := by omega
    have hl65 := ln hV hg
    have HD6 : Hid (V65.ownsRow w.heap.size 98 3 (.slice (some ⟨g65, 0, none⟩) 1 1) 1 (D [⟨5, 0, x.i⟩])) := by rw [hV, hg]; exact hide (World.ownsRow_lit V63 _ 1 HB.size (by decide) rfl)
    have hs66 := hbN.size
    replace k0 := zC k0 hbN
    replace k1 := zC k1 hbN
    replace k2 := zC k2 hbN
    replace d0 := zC d0 hbN
    replace d1 := zC d1 hbN
    replace d2 := zC d2 hbN
    replace d3 := zC d3 hbN
    replace d4 := zC d4 hbN
    replace m0 := zC m0 hbN
    replace m1 := zC m1 hbN
    replace m2 := zC m2 hbN
    replace e0 := zC e0 hbN
    replace e1 := zC e1 hbN
    replace e2 := zC e2 hbN
    replace HM1 := ob HM1 hbN
    replace HD1 := ob HD1 hbN
    replace HM2 := ob HM2 hbN
    replace HD2 := ob HD2 hbN
    replace HM3 := ob HM3 hbN
    replace HM4 := ob HM4 hbN
    replace HD5 := ob HD5 hbN
    replace HM5 := ob HM5 hbN
    replace HM6 := ob HM6 hbN
    replace HB := tm HB hbN
    clear hV hg hbN
    refine hK.out _ _ ⟨k0, k1, k2, d0, d1, d2, d3, d4, m0, m1, m2, e0, e1, e2⟩ (fun hHeld => ?_)
    clear hK K
    (try simp only [nz])
    refine rd (i := 48) (o := ⟨some 61, _, _, _, _, _⟩) (by kernel_rfl) rfl (fun K hK => ?_)
    go_simp
    clear hHeld
    refine (flowOf_any _ _ _ _ _ _ _ _ _).mono ?_
    rintro e V67 ⟨rfl, hb67⟩
    have hs68 := hb67.size
    replace k0 := zC k0 hb67
    replace k1 := zC k1 hb67
    replace k2 := zC k2 hb67
    replace d0 := zC d0 hb67
    replace d1 := zC d1 hb67
    replace d2 := zC d2 hb67
    replace d3 := zC d3 hb67
    replace d4 := zC d4 hb67
    replace m0 := zC m0 hb67
    replace m1 := zC m1 hb67
    replace m2 := zC m2 hb67
    replace e0 := zC e0 hb67
    replace e1 := zC e1 hb67
    replace e2 := zC e2 hb67
    replace HM1 := ob HM1 hb67
    replace HD1 := ob HD1 hb67
    replace HM2 := ob HM2 hb67
    replace HD2 := ob HD2 hb67
    replace HM3 := ob HM3 hb67
    replace HM4 := ob HM4 hb67
    replace HD5 := ob HD5 hb67
    replace HM5 := ob HM5 hb67
    replace HM6 := ob HM6 hb67
    replace HD6 := ob HD6 hb67
    replace HB := tm HB hb67
    clear hb67
    refine hK.out _ _ ⟨k0, k1, k2, d0, d1, d2, d3, d4, m0, m1, m2, e0, e1, e2⟩ (fun hHeld => ?_)
    clear hK K
    (try simp only [nz])
    refine rd (i := 49) (o := ⟨some 62, _, _, _, _, _⟩) (by kernel_rfl) rfl (fun K hK => ?_)
    go_simp
    clear hHeld
    refine alloc_step (fun V69 g69 hV hg => ?_)
    rw [← hg]
    have hbN := bn hV
    have hg69 : V67.heap.size ≤ g69 := by omega
    have hl69 := ln hV hg
    have HF : Hid (FR V69 w.heap.size (.slice (some ⟨g69, 0, none⟩) 6 6) (portFl P x)) := by
     rw [hV, hg]
     refine hide (FR.lit (lo := [⟨⟨0, 0, sentMs x ++ dataMs, [⟨1, 8, x.s⟩, gotoD 2]⟩, .slice (some ⟨g13, 0, none⟩) 7 c13, .slice (some ⟨g16, 0, none⟩) 2 2⟩, ⟨⟨0, 0, sentMs x ++ bareMs 1, [⟨1, 8, x.s⟩, gotoD 1]⟩, .slice (some ⟨g30, 0, none⟩) 8 c30, .slice (some ⟨g33, 0, none⟩) 2 2⟩, ⟨⟨1, 1, [isM 0 x.i, isM 5 x.p], []⟩, .slice (some ⟨g39, 0, none⟩) 2 2, .slice none 0 0⟩, ⟨⟨3, 1, [isM 0 x.i, isM 1 x.m], []⟩, .slice (some ⟨g45, 0, none⟩) 2 2, .slice none 0 0⟩, ⟨⟨3, 0, [isM 0 x.i, isM 1 65535], (P.filter (othersB x)).flatMap toPortD⟩, .slice (some ⟨g53, 0, none⟩) 2 2, .slice oo5 N5 oc5⟩, ⟨⟨5, 0, [isM 8 x.s, isM 9 x.i], [⟨5, 0, x.i⟩]⟩, .slice (some ⟨g63, 0, none⟩) 2 2, .slice (some ⟨g65, 0, none⟩) 1 1⟩]) rfl rfl HB.size (by decide) (fun x hx => ?_))
     simp only [List.mem_cons, List.not_mem_nil, or_false] at hx
     rcases hx with rfl | rfl | rfl | rfl | rfl | rfl
     ·exact fv_in HM1.out HD1.out (by simp [Value.ownBlock])
     ·exact fv_in HM2.out HD2.out (by simp [Value.ownBlock])
     ·exact fv_in HM3.out (World.ownsRow_nil _ _ _ _) (by simp [Value.ownBlock])
     ·exact fv_in HM4.out (World.ownsRow_nil _ _ _ _) (by simp [Value.ownBlock])
     ·exact fv_in HM5.out (by rw [← HN5.out]; exact HD5.out) (by simp [Value.ownBlock])
     ·exact fv_in HM6.out HD6.out (by simp [Value.ownBlock])
    have hs70 := hbN.size
    replace k0 := zC k0 hbN
    replace k1 := zC k1 hbN
    replace k2 := zC k2 hbN
    replace d0 := zC d0 hbN
    replace d1 := zC d1 hbN
    replace d2 := zC d2 hbN
    replace d3 := zC d3 hbN
    replace d4 := zC d4 hbN
    replace m0 := zC m0 hbN
    replace m1 := zC m1 hbN
    replace m2 := zC m2 hbN
    replace e0 := zC e0 hbN
    replace e1 := zC e1 hbN
    replace e2 := zC e2 hbN
    replace HM1 := ob HM1 hbN
    replace HD1 := ob HD1 hbN
    replace HM2 := ob HM2 hbN
    replace HD2 := ob HD2 hbN
    replace HM3 := ob HM3 hbN
    replace HM4 := ob HM4 hbN
    replace HD5 := ob HD5 hbN
    replace HM5 := ob HM5 hbN
    replace HM6 := ob HM6 hbN
    replace HD6 := ob HD6 hbN
    replace HB := tm HB hbN
    clear hV hg hbN
    refine hK.out _ _ ⟨k0, k1, k2, d0, d1, d2, d3, d4, m0, m1, m2, e0, e1, e2⟩ (fun hHeld => ?_)
    clear hK K
    (try simp only [nz])
    refine tk (i := 50) (d := 4) rfl (by kernel_rfl) (fun _ _ _ h => h) rfl ‹_› (by intro w h; (try dsimp only at h); go_simp <;> with_reducible rfl) ?_
    simp only [nz]
    refine wpAnyH_done (by kernel_rfl) ?_ _
    clear hHeld
    go_wp2_with fail
    go_ret
    exact ⟨_, rfl, HF.out, HB⟩
   ·go_simp
    clear hHeld
    refine alloc_step (fun V63 g63 hV hg => ?_)
    rw [← hg]
    have hbN := bn hV
    have hg63 : V61.heap.size ≤ g63 := by omega
    have hl63 := ln hV hg
    have HD6 : Hid (V63.ownsRow w.heap.size 98 3 (.slice (some ⟨g63, 0, none⟩) 1 1) 1 (D [⟨5, 0, x.i⟩])) := by rw [hV, hg]; exact hide (World.ownsRow_lit V61 _ 1 HB.size (by decide) rfl)
    have hs64 := hbN.size
    replace k0 := zC k0 hbN
    replace k1 := zC k1 hbN
    replace k2 := zC k2 hbN
    replace d0 := zC d0 hbN
    replace d1 := zC d1 hbN
    replace d2 := zC d2 hbN
    replace d3 := zC d3 hbN
    replace d4 := zC d4 hbN
    replace m0 := zC m0 hbN
    replace m1 := zC m1 hbN
    replace m2 := zC m2 hbN
    replace e0 := zC e0 hbN
    replace e1 := zC e1 hbN
    replace e2 := zC e2 hbN
    replace HM1 := ob HM1 hbN
    replace HD1 := ob HD1 hbN
    replace HM2 := ob HM2 hbN
    replace HD2 := ob HD2 hbN
    replace HM3 := ob HM3 hbN
    replace HM4 := ob HM4 hbN
    replace HD5 := ob HD5 hbN
    replace HM5 := ob HM5 hbN
    replace HB := tm HB hbN
    clear hV hg hbN
    refine hK.out _ _ ⟨k0, k1, k2, d0, d1, d2, d3, d4, m0, m1, m2, e0, e1, e2⟩ (fun hHeld => ?_)
    clear hK K
    (try simp only [nz])
    refine rd (i := 43) (o := ⟨some 56, _, _, _, _, _⟩) (by kernel_rfl) rfl (fun K hK => ?_)
    go_simp
    clear hHeld
    refine alloc_step (fun V65 g65 hV hg => ?_)
    rw [← hg]
    have hbN := bn hV
    have hg65 : V63.heap.size ≤ g65 := by omega
    have hl65 := ln hV hg
    have HM6 : Hid (V65.ownsRow w.heap.size 95 3 (.slice (some ⟨g65, 0, none⟩) 2 2) 2 (M [isM 8 x.s, isM 9 x.i])) := by rw [hV, hg]; exact hide (World.ownsRow_lit V63 _ 2 HB.size (by decide) rfl)
    have hs66 := hbN.size
    replace k0 := zC k0 hbN
    replace k1 := zC k1 hbN
    replace k2 := zC k2 hbN
    replace d0 := zC d0 hbN
    replace d1 := zC d1 hbN
    replace d2 := zC d2 hbN
    replace d3 := zC d3 hbN
    replace d4 := zC d4 hbN
    replace m0 := zC m0 hbN
    replace m1 := zC m1 hbN
    replace m2 := zC m2 hbN
    replace e0 := zC e0 hbN
    replace e1 := zC e1 hbN
    replace e2 := zC e2 hbN
    replace HM1 := ob HM1 hbN
    replace HD1 := ob HD1 hbN
    replace HM2 := ob HM2 hbN
    replace HD2 := ob HD2 hbN
    replace HM3 := ob HM3 hbN
    replace HM4 := ob HM4 hbN
    replace HD5 := ob HD5 hbN
    replace HM5 := ob HM5 hbN
    replace HD6 := ob HD6 hbN
    replace HB := tm HB hbN
    clear hV hg hbN
    refine hK.out _ _ ⟨k0, k1, k2, d0, d1, d2, d3, d4, m0, m1, m2, e0, e1, e2⟩ (fun hHeld => ?_)
    clear hK K
    (try simp only [nz])
    refine rd (i := 48) (o := ⟨some 61, _, _, _, _, _⟩) (by kernel_rfl) rfl (fun K hK => ?_)
    go_simp
    clear hHeld
    refine (flowOf_any _ _ _ _ _ _ _ _ _).mono ?_
    rintro e V67 ⟨rfl, hb67⟩
    have hs68 := hb67.size
    replace k0 := zC k0 hb67
    replace k1 := zC k1 hb67
    replace k2 := zC k2 hb67
    replace d0 := zC d0 hb67
    replace d1 := zC d1 hb67
    replace d2 := zC d2 hb67
    replace d3 := zC d3 hb67
    replace d4 := zC d4 hb67
    replace m0 := zC m0 hb67
    replace m1 := zC m1 hb67
    replace m2 := zC m2 hb67
    replace e0 := zC e0 hb67
    replace e1 := zC e1 hb67
    replace e2 := zC e2 hb67
    replace HM1 := ob HM1 hb67
    replace HD1 := ob HD1 hb67
    replace HM2 := ob HM2 hb67
    replace HD2 := ob HD2 hb67
    replace HM3 := ob HM3 hb67
    replace HM4 := ob HM4 hb67
    replace HD5 := ob HD5 hb67
    replace HM5 := ob HM5 hb67
    replace HD6 := ob HD6 hb67
    replace HM6 := ob HM6 hb67
    replace HB := tm HB hb67
    clear hb67
    refine hK.out _ _ ⟨k0, k1, k2, d0, d1, d2, d3, d4, m0, m1, m2, e0, e1, e2⟩ (fun hHeld => ?_)
    clear hK K
    (try simp only [nz])
    refine rd (i := 49) (o := ⟨some 62, _, _, _, _, _⟩) (by kernel_rfl) rfl (fun K hK => ?_)
    go_simp
    clear hHeld
    refine alloc_step (fun V69 g69 hV hg => ?_)
    rw [← hg]
    have hbN := bn hV
    have hg69 : V67.heap.size ≤ g69 := by omega
    have hl69 := ln hV hg
    have HF : Hid (FR V69 w.heap.size (.slice (some ⟨g69, 0, none⟩) 6 6) (portFl P x)) := by
     rw [hV, hg]
     refine hide (FR.lit (lo := [⟨⟨0, 0, sentMs x ++ dataMs, [⟨1, 8, x.s⟩, gotoD 2]⟩, .slice (some ⟨g13, 0, none⟩) 7 c13, .slice (some ⟨g16, 0, none⟩) 2 2⟩, ⟨⟨0, 0, sentMs x ++ bareMs 1, [⟨1, 8, x.s⟩, gotoD 1]⟩, .slice (some ⟨g30, 0, none⟩) 8 c30, .slice (some ⟨g33, 0, none⟩) 2 2⟩, ⟨⟨1, 1, [isM 0 x.i, isM 5 x.p], []⟩, .slice (some ⟨g39, 0, none⟩) 2 2, .slice none 0 0⟩, ⟨⟨3, 1, [isM 0 x.i, isM 1 x.m], []⟩, .slice (some ⟨g45, 0, none⟩) 2 2, .slice none 0 0⟩, ⟨⟨3, 0, [isM 0 x.i, isM 1 65535], (P.filter (othersB x)).flatMap toPortD⟩, .slice (some ⟨g53, 0, none⟩) 2 2, .slice oo5 N5 oc5⟩, ⟨⟨5, 0, [isM 8 x.s, isM 9 x.i], [⟨5, 0, x.i⟩]⟩, .slice (some ⟨g65, 0, none⟩) 2 2, .slice (some ⟨g63, 0, none⟩) 1 1⟩]) rfl rfl HB.size (by decide) (fun x hx => ?_))
     simp only [List.mem_cons, List.not_mem_nil, or_false] at hx
     rcases hx with rfl | rfl | rfl | rfl | rfl | rfl
     ·exact fv_in HM1.out HD1.out (by simp [Value.ownBlock])
     ·exact fv_in HM2.out HD2.out (by simp [Value.ownBlock])
     ·exact fv_in HM3.out (World.ownsRow_nil _ _ _ _) (by simp [Value.ownBlock])
     ·exact fv_in HM4.out (World.ownsRow_nil _ _ _ _) (by simp [Value.ownBlock])
     ·exact fv_in HM5.out (by rw [← HN5.out]; exact HD5.out) (by simp [Value.ownBlock])
     ·exact fv_in HM6.out HD6.out (by simp [Value.ownBlock])
    have hs70 := hbN.size
    replace k0 := zC k0 hbN
    replace k1 := zC k1 hbN
    replace k2 := zC k2 hbN
    replace d0 := zC d0 hbN
    replace d1 := zC d1 hbN
    replace d2 := zC d2 hbN
    replace d3 := zC d3 hbN
    replace d4 := zC d4 hbN
    replace m0 := zC m0 hbN
    replace m1 := zC m1 hbN
    replace m2 := zC m2 hbN
    replace e0 := zC e0 hbN
    replace e1 := zC e1 hbN
    replace e2 := zC e2 hbN
    replace HM1 := ob HM1 hbN
    replace HD1 := ob HD1 hbN
    replace HM2 := ob HM2 hbN
    replace HD2 := ob HD2 hbN
    replace HM3 := ob HM3 hbN
    replace HM4 := ob HM4 hbN
    replace HD5 := ob HD5 hbN
    replace HM5 := ob HM5 hbN
    replace HD6 := ob HD6 hbN
    replace HM6 := ob HM6 hbN
    replace HB := tm HB hbN
    clear hV hg hbN
    refine hK.out _ _ ⟨k0, k1, k2, d0, d1, d2, d3, d4, m0, m1, m2, e0, e1, e2⟩ (fun hHeld => ?_)
    clear hK K
    (try simp only [nz])
    refine tk (i := 50) (d := 4) rfl (by kernel_rfl) (fun _ _ _ h => h) rfl ‹_› (by intro w h; (try dsimp only at h); go_simp <;> with_reducible rfl) ?_
    simp only [nz]
    refine wpAnyH_done (by kernel_rfl) ?_ _
    clear hHeld
    go_wp2_with fail
    go_ret
    exact ⟨_, rfl, HF.out, HB⟩
end Go.Proofs.YtncdininppehkaaGreat
