/-
  The six orders of flows, and their order in turn.
-/
import Derived.Test.YtonhfgdnkkkikacOc
namespace Go.Proofs.Ytonhfgdnkkkikac
open Go.RowKit
set_option linter.unusedVariables false
set_option maxRecDepth 100000

set_option maxHeartbeats 1000000 in
theorem places1_any (xt xp yt yp : Int) (xa ya xb yb : Option Addr) (xm xc ym yc xd xe yd ye : Nat) (w : World) :
    Calls Try.prog 62 #[.agg #[.int .i64 xt, .int .i64 xp, .slice xa xm xc, .slice xb xd xe], .agg #[.int .i64 yt, .int .i64 yp, .slice ya ym yc, .slice yb yd ye]] w fun e w' => e = .returned (.int .i64 (cmpI xt yt)) ∧ Grw w w' := by
  have H0 := hide (fun W => compare_any (xt) (yt) W)
  generalize cmpI xt yt = R at H0 ⊢
  go_enter Try.func62, Try.ntmps62
  go_wp2_with fail
  refine (unhide H0 _).mono ?_
  rintro e w1 ⟨rfl, rfl⟩
  go_wp2_with fail
  go_ret
  exact ⟨rfl, ((Grw.refl w).alloc _).alloc _⟩

set_option maxHeartbeats 1000000 in
theorem places2_any (xt xp yt yp : Int) (xa ya xb yb : Option Addr) (xm xc ym yc xd xe yd ye : Nat) (w : World) :
    Calls Try.prog 64 #[.agg #[.int .i64 xt, .int .i64 xp, .slice xa xm xc, .slice xb xd xe], .agg #[.int .i64 yt, .int .i64 yp, .slice ya ym yc, .slice yb yd ye]] w fun e w' => e = .returned (.int .i64 (cmpI yp xp)) ∧ Grw w w' := by
  have H0 := hide (fun W => compare_any (yp) (xp) W)
  generalize cmpI yp xp = R at H0 ⊢
  go_enter Try.func64, Try.ntmps64
  go_wp2_with fail
  refine (unhide H0 _).mono ?_
  rintro e w1 ⟨rfl, rfl⟩
  go_wp2_with fail
  go_ret
  exact ⟨rfl, ((Grw.refl w).alloc _).alloc _⟩

set_option maxHeartbeats 1000000 in
theorem places3_any (xt xp yt yp : Int) (xa ya xb yb : Option Addr) (xm xc ym yc xd xe yd ye : Nat) (w : World) :
    Calls Try.prog 65 #[.agg #[.int .i64 xt, .int .i64 xp, .slice xa xm xc, .slice xb xd xe], .agg #[.int .i64 yt, .int .i64 yp, .slice ya ym yc, .slice yb yd ye]] w fun e w' => e = .returned (.int .i64 (cmpI (xm : Int) (ym : Int))) ∧ Grw w w' := by
  have H0 := hide (fun W => compare_any ((xm : Int)) ((ym : Int)) W)
  generalize cmpI (xm : Int) (ym : Int) = R at H0 ⊢
  go_enter Try.func65, Try.ntmps65
  go_wp2_with fail
  refine (unhide H0 _).mono ?_
  rintro e w1 ⟨rfl, rfl⟩
  go_wp2_with fail
  go_ret
  exact ⟨rfl, ((Grw.refl w).alloc _).alloc _⟩

set_option maxHeartbeats 1000000 in
theorem places4_any (xt xp yt yp : Int) (xa ya xb yb : Option Addr) (xm xc ym yc xd xe yd ye : Nat) (w : World) :
    Calls Try.prog 66 #[.agg #[.int .i64 xt, .int .i64 xp, .slice xa xm xc, .slice xb xd xe], .agg #[.int .i64 yt, .int .i64 yp, .slice ya ym yc, .slice yb yd ye]] w fun e w' => e = .returned (.int .i64 (cmpI (xd : Int) (yd : Int))) ∧ Grw w w' := by
  have H0 := hide (fun W => compare_any ((xd : Int)) ((yd : Int)) W)
  generalize cmpI (xd : Int) (yd : Int) = R at H0 ⊢
  go_enter Try.func66, Try.ntmps66
  go_wp2_with fail
  refine (unhide H0 _).mono ?_
  rintro e w1 ⟨rfl, rfl⟩
  go_wp2_with fail
  go_ret
  exact ⟨rfl, ((Grw.refl w).alloc _).alloc _⟩

set_option maxHeartbeats 1000000 in
theorem places5_any (x y : Fl) (xa ya xb yb : Option Addr) (xc yc xe ye : Nat) (w : World) (hx : MsAt w (.slice xa x.ms.length xc) x.ms) (hy : MsAt w (.slice ya y.ms.length yc) y.ms) (hl : x.ms.length ≤ 2000000) (hl2 : y.ms.length ≤ 2000000) :
    Calls Try.prog 67 #[.agg #[.int .i64 x.t, .int .i64 x.p, .slice xa x.ms.length xc, .slice xb x.ds.length xe], .agg #[.int .i64 y.t, .int .i64 y.p, .slice ya y.ms.length yc, .slice yb y.ds.length ye]] w fun e w' => e = .returned (.int .i64 (lexM x.ms y.ms)) ∧ Grw w w' := by
  have HX := hide hx
  have HY := hide hy
  have HC : Hid (∀ W : World, Below w.heap.size w W → Calls Try.prog 68 #[.slice xa x.ms.length xc, .slice ya y.ms.length yc, .func (.func 69) #[] #[]] W fun e w' => e = .returned (.int .i64 (lexM x.ms y.ms)) ∧ Grw W w') := fun W hW => compareFuncMs_any _ _ _ _ W (HX.out.below hW (Nat.le_refl _)) (HY.out.below hW (Nat.le_refl _)) hl hl2
  clear hx hy HX HY
  generalize lexM x.ms y.ms = R at HC ⊢
  have hA : Grw w ((w.alloc (.cells #[.int .i64 x.t, .int .i64 x.p, .slice xa x.ms.length xc, .slice xb x.ds.length xe] 41)).alloc (.cells #[.int .i64 y.t, .int .i64 y.p, .slice ya y.ms.length yc, .slice yb y.ds.length ye] 41)) := ((Grw.refl w).alloc _).alloc _
  go_enter Try.func67, Try.ntmps67
  go_wp2_with fail
  refine (unhide HC _ hA.below).mono ?_
  rintro e w1 ⟨rfl, hg1⟩
  have hg := hA.trans hg1
  go_wp2_with fail
  go_ret
  exact ⟨rfl, hg⟩

set_option maxHeartbeats 1000000 in
theorem places6_any (x y : Fl) (xa ya xb yb : Option Addr) (xc yc xe ye : Nat) (w : World) (hx : DsAt w (.slice xb x.ds.length xe) x.ds) (hy : DsAt w (.slice yb y.ds.length ye) y.ds) (hl : x.ds.length ≤ 2000000) (hl2 : y.ds.length ≤ 2000000) :
    Calls Try.prog 70 #[.agg #[.int .i64 x.t, .int .i64 x.p, .slice xa x.ms.length xc, .slice xb x.ds.length xe], .agg #[.int .i64 y.t, .int .i64 y.p, .slice ya y.ms.length yc, .slice yb y.ds.length ye]] w fun e w' => e = .returned (.int .i64 (lexD x.ds y.ds)) ∧ Grw w w' := by
  have HX := hide hx
  have HY := hide hy
  have HC : Hid (∀ W : World, Below w.heap.size w W → Calls Try.prog 71 #[.slice xb x.ds.length xe, .slice yb y.ds.length ye, .func (.func 72) #[] #[]] W fun e w' => e = .returned (.int .i64 (lexD x.ds y.ds)) ∧ Grw W w') := fun W hW => compareFuncDs_any _ _ _ _ W (HX.out.below hW (Nat.le_refl _)) (HY.out.below hW (Nat.le_refl _)) hl hl2
  clear hx hy HX HY
  generalize lexD x.ds y.ds = R at HC ⊢
  have hA : Grw w ((w.alloc (.cells #[.int .i64 x.t, .int .i64 x.p, .slice xa x.ms.length xc, .slice xb x.ds.length xe] 41)).alloc (.cells #[.int .i64 y.t, .int .i64 y.p, .slice ya y.ms.length yc, .slice yb y.ds.length ye] 41)) := ((Grw.refl w).alloc _).alloc _
  go_enter Try.func70, Try.ntmps70
  go_wp2_with fail
  refine (unhide HC _ hA.below).mono ?_
  rintro e w1 ⟨rfl, hg1⟩
  have hg := hA.trans hg1
  go_wp2_with fail
  go_ret
  exact ⟨rfl, hg⟩

/-- The order of flows lies at a block. -/
def OrdAt (w : World) (g : Nat) : Prop := ∃ q, w.cell? ⟨g, 0, none⟩ = some (.slice (some ⟨q, 0, none⟩) 6 6) ∧ w.cell? ⟨q, 0, none⟩ = some (.func (.func 62) #[] #[]) ∧ w.cell? ⟨q, 1, none⟩ = some (.func (.func 64) #[] #[]) ∧ w.cell? ⟨q, 2, none⟩ = some (.func (.func 65) #[] #[])
  ∧ w.cell? ⟨q, 3, none⟩ = some (.func (.func 66) #[] #[]) ∧ w.cell? ⟨q, 4, none⟩ = some (.func (.func 67) #[] #[]) ∧ w.cell? ⟨q, 5, none⟩ = some (.func (.func 70) #[] #[])
theorem OrdAt.below {w w' : World} {g : Nat} (h : OrdAt w g) (hb : Below w.heap.size w w') : OrdAt w' g := by
  obtain ⟨q, h0, h1, h2, h3, h4, h5, h6⟩ := h
  exact ⟨q, cell_below h0 hb (Nat.le_refl _), cell_below h1 hb (Nat.le_refl _), cell_below h2 hb (Nat.le_refl _), cell_below h3 hb (Nat.le_refl _), cell_below h4 hb (Nat.le_refl _), cell_below h5 hb (Nat.le_refl _), cell_below h6 hb (Nat.le_refl _)⟩
/-- The first of the six that tells two flows apart. -/
def ordF (x y : Fl) : Int :=
  if cmpI x.t y.t ≠ 0 then cmpI x.t y.t else if cmpI y.p x.p ≠ 0 then cmpI y.p x.p else if cmpI (x.ms.length : Int) (y.ms.length : Int) ≠ 0 then cmpI (x.ms.length : Int) (y.ms.length : Int) else
  if cmpI (x.ds.length : Int) (y.ds.length : Int) ≠ 0 then cmpI (x.ds.length : Int) (y.ds.length : Int) else if lexM x.ms y.ms ≠ 0 then lexM x.ms y.ms else lexD x.ds y.ds

set_option maxHeartbeats 8000000 in
theorem order_any (x y : Fl) (xa ya xb yb : Option Addr) (xc yc xe ye g : Nat) (w : World) (hO : OrdAt w g) (h1 : MsAt w (.slice xa x.ms.length xc) x.ms) (h2 : DsAt w (.slice xb x.ds.length xe) x.ds) (h3 : MsAt w (.slice ya y.ms.length yc) y.ms) (h4 : DsAt w (.slice yb y.ds.length ye) y.ds)
    (l1 : x.ms.length ≤ 2000000) (l2 : x.ds.length ≤ 2000000) (l3 : y.ms.length ≤ 2000000) (l4 : y.ds.length ≤ 2000000) :
    Calls Try.prog 89 #[.agg #[.int .i64 x.t, .int .i64 x.p, .slice xa x.ms.length xc, .slice xb x.ds.length xe], .agg #[.int .i64 y.t, .int .i64 y.p, .slice ya y.ms.length yc, .slice yb y.ds.length ye], .pointer (some ⟨g, 0, none⟩)] w fun e w' => e = .returned (.int .i64 (ordF x y)) ∧ Grw w w' := by
  have K1 := hide (fun W => places1_any x.t x.p y.t y.p xa ya xb yb x.ms.length xc y.ms.length yc x.ds.length xe y.ds.length ye W)
  have K2 := hide (fun W => places2_any x.t x.p y.t y.p xa ya xb yb x.ms.length xc y.ms.length yc x.ds.length xe y.ds.length ye W)
  have K3 := hide (fun W => places3_any x.t x.p y.t y.p xa ya xb yb x.ms.length xc y.ms.length yc x.ds.length xe y.ds.length ye W)
  have K4 := hide (fun W => places4_any x.t x.p y.t y.p xa ya xb yb x.ms.length xc y.ms.length yc x.ds.length xe y.ds.length ye W)
  have K5 := hide (fun W (hW : Below w.heap.size w W) => places5_any x y xa ya xb yb xc yc xe ye W (h1.below hW (Nat.le_refl _)) (h3.below hW (Nat.le_refl _)) l1 l3)
  have K6 := hide (fun W (hW : Below w.heap.size w W) => places6_any x y xa ya xb yb xc yc xe ye W (h2.below hW (Nat.le_refl _)) (h4.below hW (Nat.le_refl _)) l2 l4)
  clear h1 h2 h3 h4
  have HO : Hid (ordF x y = if cmpI x.t y.t ≠ 0 then cmpI x.t y.t else if cmpI y.p x.p ≠ 0 then cmpI y.p x.p else if cmpI (x.ms.length : Int) (y.ms.length : Int) ≠ 0 then cmpI (x.ms.length : Int) (y.ms.length : Int) else
    if cmpI (x.ds.length : Int) (y.ds.length : Int) ≠ 0 then cmpI (x.ds.length : Int) (y.ds.length : Int) else if lexM x.ms y.ms ≠ 0 then lexM x.ms y.ms else lexD x.ds y.ds) := rfl
  generalize ordF x y = R at *
  generalize cmpI x.t y.t = r1 at *
  generalize cmpI y.p x.p = r2 at *
  generalize cmpI (x.ms.length : Int) (y.ms.length : Int) = r3 at *
  generalize cmpI (x.ds.length : Int) (y.ds.length : Int) = r4 at *
  generalize lexM x.ms y.ms = r5 at *
  generalize lexD x.ds y.ds = r6 at *
  obtain ⟨q, o0, o1, o2, o3, o4, o5, o6⟩ := hO
  have hgl := cell_lt o0
  have hql := cell_lt o1
  go_enter Try.func89, Try.ntmps89
  go_wp2_with fail
  obtain ⟨W1, hW1⟩ : ∃ W1, W1 = (w.alloc (.cells #[.int .i64 x.t, .int .i64 x.p, .slice xa x.ms.length xc, .slice xb x.ds.length xe] 41)).alloc (.cells #[.int .i64 y.t, .int .i64 y.p, .slice ya y.ms.length yc, .slice yb y.ds.length ye] 41) := ⟨_, rfl⟩
  have hgW : Grw w W1 := by rw [hW1]; exact ((Grw.refl w).alloc _).alloc _
  have hbW := hgW.below
  have b0 : W1.cell? ⟨w.heap.size, 0, none⟩ = some (.int .i64 x.t) := by rw [hW1]; simp
  have b1 : W1.cell? ⟨w.heap.size, 1, none⟩ = some (.int .i64 x.p) := by rw [hW1]; simp
  have b2 : W1.cell? ⟨w.heap.size, 2, none⟩ = some (.slice xa x.ms.length xc) := by rw [hW1]; simp
  have b3 : W1.cell? ⟨w.heap.size, 3, none⟩ = some (.slice xb x.ds.length xe) := by rw [hW1]; simp
  have d0 : W1.cell? ⟨w.heap.size + 1, 0, none⟩ = some (.int .i64 y.t) := by
    rw [hW1]
    have e : w.heap.size + 1 = (w.alloc (.cells #[.int .i64 x.t, .int .i64 x.p, .slice xa x.ms.length xc, .slice xb x.ds.length xe] 41)).heap.size := by simp
    rw [e]; simp
  have d1 : W1.cell? ⟨w.heap.size + 1, 1, none⟩ = some (.int .i64 y.p) := by
    rw [hW1]
    have e : w.heap.size + 1 = (w.alloc (.cells #[.int .i64 x.t, .int .i64 x.p, .slice xa x.ms.length xc, .slice xb x.ds.length xe] 41)).heap.size := by simp
    rw [e]; simp
  have d2 : W1.cell? ⟨w.heap.size + 1, 2, none⟩ = some (.slice ya y.ms.length yc) := by
    rw [hW1]
    have e : w.heap.size + 1 = (w.alloc (.cells #[.int .i64 x.t, .int .i64 x.p, .slice xa x.ms.length xc, .slice xb x.ds.length xe] 41)).heap.size := by simp
    rw [e]; simp
  have d3 : W1.cell? ⟨w.heap.size + 1, 3, none⟩ = some (.slice yb y.ds.length ye) := by
    rw [hW1]
    have e : w.heap.size + 1 = (w.alloc (.cells #[.int .i64 x.t, .int .i64 x.p, .slice xa x.ms.length xc, .slice xb x.ds.length xe] 41)).heap.size := by simp
    rw [e]; simp
  replace o1 := cell_below o1 hbW (Nat.le_refl _)
  replace o2 := cell_below o2 hbW (Nat.le_refl _)
  replace o3 := cell_below o3 hbW (Nat.le_refl _)
  replace o4 := cell_below o4 hbW (Nat.le_refl _)
  replace o5 := cell_below o5 hbW (Nat.le_refl _)
  replace o6 := cell_below o6 hbW (Nat.le_refl _)
  rw [← hW1]
  clear hW1 o0
  go_loopw [11] (fun i wr => ∃ k : Nat, k ≤ 6 ∧ i = .int .i64 k ∧ Hid ((1 ≤ k → r1 = 0) ∧ (2 ≤ k → r2 = 0) ∧ (3 ≤ k → r3 = 0) ∧ (4 ≤ k → r4 = 0) ∧ (5 ≤ k → r5 = 0) ∧ (6 ≤ k → r6 = 0)) ∧ Grw W1 wr) (fun i _ => 6 - (intOf i).toNat)
  case atStart => exact ⟨0, by omega, rfl, hide ⟨fun h => absurd h (by omega), fun h => absurd h (by omega), fun h => absurd h (by omega), fun h => absurd h (by omega), fun h => absurd h (by omega), fun h => absurd h (by omega)⟩, Grw.refl _⟩
  case round =>
    obtain ⟨k, hk, rfl, HZ, hgr⟩ := hrel
    have hbr := hgr.below
    have hgw := hgW.trans hgr
    have hbw := hgw.below
    replace b0 := cell_below b0 hbr (Nat.le_refl _)
    replace b1 := cell_below b1 hbr (Nat.le_refl _)
    replace b2 := cell_below b2 hbr (Nat.le_refl _)
    replace b3 := cell_below b3 hbr (Nat.le_refl _)
    replace d0 := cell_below d0 hbr (Nat.le_refl _)
    replace d1 := cell_below d1 hbr (Nat.le_refl _)
    replace d2 := cell_below d2 hbr (Nat.le_refl _)
    replace d3 := cell_below d3 hbr (Nat.le_refl _)
    replace o1 := cell_below o1 hbr (Nat.le_refl _)
    replace o2 := cell_below o2 hbr (Nat.le_refl _)
    replace o3 := cell_below o3 hbr (Nat.le_refl _)
    replace o4 := cell_below o4 hbr (Nat.le_refl _)
    replace o5 := cell_below o5 hbr (Nat.le_refl _)
    replace o6 := cell_below o6 hbr (Nat.le_refl _)
    have hc : k = 0 ∨ k = 1 ∨ k = 2 ∨ k = 3 ∨ k = 4 ∨ k = 5 ∨ k = 6 := by omega
    rcases hc with rfl | rfl | rfl | rfl | rfl | rfl | rfl
    · go_wp2_with fail
      refine (unhide K1 _).mono ?_
      rintro e w1 ⟨rfl, hg1⟩
      have hg2 := hgr.trans hg1
      have hg3 := hgw.trans hg1
      by_cases hr : r1 = 0
      · have HZ2 : Hid ((1 ≤ 1 → r1 = 0) ∧ (2 ≤ 1 → r2 = 0) ∧ (3 ≤ 1 → r3 = 0) ∧ (4 ≤ 1 → r4 = 0) ∧ (5 ≤ 1 → r5 = 0) ∧ (6 ≤ 1 → r6 = 0)) := by
          obtain ⟨z1, z2, z3, z4, z5, z6⟩ := HZ.out
          exact hide ⟨fun _ => hr, fun h => absurd h (by omega), fun h => absurd h (by omega), fun h => absurd h (by omega), fun h => absurd h (by omega), fun h => absurd h (by omega)⟩
        rw [hr]
        clear HZ
        go_wp2_with fail
        go_roundw
        case rel => exact ⟨1, by omega, rfl, HZ2, hg2⟩
        case measure => simp [intOf]
      · have HV : Hid (R = r1) := by
          obtain ⟨z1, z2, z3, z4, z5, z6⟩ := HZ.out
          show _ = _
          rw [HO.out, if_pos hr]
        clear HZ
        go_wp2_with fail
        go_ret
        exact ⟨int_ret HV.out.symm, hg3⟩
    · go_wp2_with fail
      refine (unhide K2 _).mono ?_
      rintro e w1 ⟨rfl, hg1⟩
      have hg2 := hgr.trans hg1
      have hg3 := hgw.trans hg1
      by_cases hr : r2 = 0
      · have HZ2 : Hid ((1 ≤ 2 → r1 = 0) ∧ (2 ≤ 2 → r2 = 0) ∧ (3 ≤ 2 → r3 = 0) ∧ (4 ≤ 2 → r4 = 0) ∧ (5 ≤ 2 → r5 = 0) ∧ (6 ≤ 2 → r6 = 0)) := by
          obtain ⟨z1, z2, z3, z4, z5, z6⟩ := HZ.out
          exact hide ⟨fun _ => z1 (by omega), fun _ => hr, fun h => absurd h (by omega), fun h => absurd h (by omega), fun h => absurd h (by omega), fun h => absurd h (by omega)⟩
        rw [hr]
        clear HZ
        go_wp2_with fail
        go_roundw
        case rel => exact ⟨2, by omega, rfl, HZ2, hg2⟩
        case measure => simp [intOf]
      · have HV : Hid (R = r2) := by
          obtain ⟨z1, z2, z3, z4, z5, z6⟩ := HZ.out
          show _ = _
          rw [HO.out, if_neg (fun h => h (z1 (by omega))), if_pos hr]
        clear HZ
        go_wp2_with fail
        go_ret
        exact ⟨int_ret HV.out.symm, hg3⟩
    · go_wp2_with fail
      refine (unhide K3 _).mono ?_
      rintro e w1 ⟨rfl, hg1⟩
      have hg2 := hgr.trans hg1
      have hg3 := hgw.trans hg1
      by_cases hr : r3 = 0
      · have HZ2 : Hid ((1 ≤ 3 → r1 = 0) ∧ (2 ≤ 3 → r2 = 0) ∧ (3 ≤ 3 → r3 = 0) ∧ (4 ≤ 3 → r4 = 0) ∧ (5 ≤ 3 → r5 = 0) ∧ (6 ≤ 3 → r6 = 0)) := by
          obtain ⟨z1, z2, z3, z4, z5, z6⟩ := HZ.out
          exact hide ⟨fun _ => z1 (by omega), fun _ => z2 (by omega), fun _ => hr, fun h => absurd h (by omega), fun h => absurd h (by omega), fun h => absurd h (by omega)⟩
        rw [hr]
        clear HZ
        go_wp2_with fail
        go_roundw
        case rel => exact ⟨3, by omega, rfl, HZ2, hg2⟩
        case measure => simp [intOf]
      · have HV : Hid (R = r3) := by
          obtain ⟨z1, z2, z3, z4, z5, z6⟩ := HZ.out
          show _ = _
          rw [HO.out, if_neg (fun h => h (z1 (by omega))), if_neg (fun h => h (z2 (by omega))), if_pos hr]
        clear HZ
        go_wp2_with fail
        go_ret
        exact ⟨int_ret HV.out.symm, hg3⟩
    · go_wp2_with fail
      refine (unhide K4 _).mono ?_
      rintro e w1 ⟨rfl, hg1⟩
      have hg2 := hgr.trans hg1
      have hg3 := hgw.trans hg1
      by_cases hr : r4 = 0
      · have HZ2 : Hid ((1 ≤ 4 → r1 = 0) ∧ (2 ≤ 4 → r2 = 0) ∧ (3 ≤ 4 → r3 = 0) ∧ (4 ≤ 4 → r4 = 0) ∧ (5 ≤ 4 → r5 = 0) ∧ (6 ≤ 4 → r6 = 0)) := by
          obtain ⟨z1, z2, z3, z4, z5, z6⟩ := HZ.out
          exact hide ⟨fun _ => z1 (by omega), fun _ => z2 (by omega), fun _ => z3 (by omega), fun _ => hr, fun h => absurd h (by omega), fun h => absurd h (by omega)⟩
        rw [hr]
        clear HZ
        go_wp2_with fail
        go_roundw
        case rel => exact ⟨4, by omega, rfl, HZ2, hg2⟩
        case measure => simp [intOf]
      · have HV : Hid (R = r4) := by
          obtain ⟨z1, z2, z3, z4, z5, z6⟩ := HZ.out
          show _ = _
          rw [HO.out, if_neg (fun h => h (z1 (by omega))), if_neg (fun h => h (z2 (by omega))), if_neg (fun h => h (z3 (by omega))), if_pos hr]
        clear HZ
        go_wp2_with fail
        go_ret
        exact ⟨int_ret HV.out.symm, hg3⟩
    · go_wp2_with fail
      refine (unhide K5 _ hbw).mono ?_
      rintro e w1 ⟨rfl, hg1⟩
      have hg2 := hgr.trans hg1
      have hg3 := hgw.trans hg1
      by_cases hr : r5 = 0
      · have HZ2 : Hid ((1 ≤ 5 → r1 = 0) ∧ (2 ≤ 5 → r2 = 0) ∧ (3 ≤ 5 → r3 = 0) ∧ (4 ≤ 5 → r4 = 0) ∧ (5 ≤ 5 → r5 = 0) ∧ (6 ≤ 5 → r6 = 0)) := by
          obtain ⟨z1, z2, z3, z4, z5, z6⟩ := HZ.out
          exact hide ⟨fun _ => z1 (by omega), fun _ => z2 (by omega), fun _ => z3 (by omega), fun _ => z4 (by omega), fun _ => hr, fun h => absurd h (by omega)⟩
        rw [hr]
        clear HZ
        go_wp2_with fail
        go_roundw
        case rel => exact ⟨5, by omega, rfl, HZ2, hg2⟩
        case measure => simp [intOf]
      · have HV : Hid (R = r5) := by
          obtain ⟨z1, z2, z3, z4, z5, z6⟩ := HZ.out
          show _ = _
          rw [HO.out, if_neg (fun h => h (z1 (by omega))), if_neg (fun h => h (z2 (by omega))), if_neg (fun h => h (z3 (by omega))), if_neg (fun h => h (z4 (by omega))), if_pos hr]
        clear HZ
        go_wp2_with fail
        go_ret
        exact ⟨int_ret HV.out.symm, hg3⟩
    · go_wp2_with fail
      refine (unhide K6 _ hbw).mono ?_
      rintro e w1 ⟨rfl, hg1⟩
      have hg2 := hgr.trans hg1
      have hg3 := hgw.trans hg1
      by_cases hr : r6 = 0
      · have HZ2 : Hid ((1 ≤ 6 → r1 = 0) ∧ (2 ≤ 6 → r2 = 0) ∧ (3 ≤ 6 → r3 = 0) ∧ (4 ≤ 6 → r4 = 0) ∧ (5 ≤ 6 → r5 = 0) ∧ (6 ≤ 6 → r6 = 0)) := by
          obtain ⟨z1, z2, z3, z4, z5, z6⟩ := HZ.out
          exact hide ⟨fun _ => z1 (by omega), fun _ => z2 (by omega), fun _ => z3 (by omega), fun _ => z4 (by omega), fun _ => z5 (by omega), fun _ => hr⟩
        rw [hr]
        clear HZ
        go_wp2_with fail
        go_roundw
        case rel => exact ⟨6, by omega, rfl, HZ2, hg2⟩
        case measure => simp [intOf]
      · have HV : Hid (R = r6) := by
          obtain ⟨z1, z2, z3, z4, z5, z6⟩ := HZ.out
          show _ = _
          rw [HO.out, if_neg (fun h => h (z1 (by omega))), if_neg (fun h => h (z2 (by omega))), if_neg (fun h => h (z3 (by omega))), if_neg (fun h => h (z4 (by omega))), if_neg (fun h => h (z5 (by omega)))]
        clear HZ
        go_wp2_with fail
        go_ret
        exact ⟨int_ret HV.out.symm, hg3⟩
    · have HV : Hid (R = 0) := by
        obtain ⟨z1, z2, z3, z4, z5, z6⟩ := HZ.out
        show _ = _
        rw [HO.out, if_neg (fun h => h (z1 (by omega))), if_neg (fun h => h (z2 (by omega))), if_neg (fun h => h (z3 (by omega))), if_neg (fun h => h (z4 (by omega))), if_neg (fun h => h (z5 (by omega))), z6 (by omega)]
      clear HZ
      go_wp2_with fail
      go_ret
      exact ⟨int_ret HV.out.symm, hgw⟩

end Go.Proofs.Ytonhfgdnkkkikac
