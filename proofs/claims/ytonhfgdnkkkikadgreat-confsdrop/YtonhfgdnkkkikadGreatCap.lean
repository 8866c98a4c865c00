/-
  What conf.portAt, checkThere, checkBind and checkAct answer.
-/
import Derived.Test.YtonhfgdnkkkikadGreatCm
import Derived.Test.YtonhfgdnkkkikadGreatCia
namespace Go.Proofs.YtonhfgdnkkkikadGreat
open Go.RowKit
set_option linter.unusedVariables false
set_option maxRecDepth 100000

/-- An act. -/
structure Ax where
  k : Int
  si : Int
  st : Int
  sg : Int
  pi : Int
  ps : Int
  pm : Int
  pp : Int
  pc : Int
  rs : Int
  rp : Int
  rn : Bool
  rf : Int
  rb : Int
  rt : Int
  re : Int
  ro : Int
  rd : Bool
  n : Int
  m : Int
  f0 : Int
  f1 : Int
  f2 : Int
  f3 : Int
  f4 : Int
  f5 : Int
  f6 : Int
  body : ByteArray

def Ax.s (a : Ax) : Sw := ⟨a.si, a.st, a.sg⟩
def Ax.p (a : Ax) : Pr := ⟨a.pi, a.ps, a.pm, a.pp, a.pc⟩
def Ax.r (a : Ax) : Ac := ⟨a.rs, a.rp, a.rn, a.rf, a.rb, a.rt, a.re, a.ro, a.rd⟩
abbrev actV (a : Ax) : Value := .agg #[.int .i64 a.k, .int .i64 a.si, .int .i64 a.st, .int .i64 a.sg, .int .i64 a.pi, .int .i64 a.ps, .int .i64 a.pm, .int .i64 a.pp, .int .i64 a.pc, .int .i64 a.rs, .int .i64 a.rp, .bool a.rn, .int .i64 a.rf, .int .i64 a.rb, .int .i64 a.rt, .int .i64 a.re, .int .i64 a.ro, .bool a.rd, .int .i64 a.n, .int .i64 a.m, .int .i64 a.f0, .int .i64 a.f1, .int .i64 a.f2, .int .i64 a.f3, .int .i64 a.f4, .int .i64 a.f5, .int .i64 a.f6, .string a.body]

set_option maxHeartbeats 400000 in
theorem isAt_any (x : Pr) (id : Int) (b : Nat) (w : World) (h : w.cell? ⟨b, 0, none⟩ = some (.int .i64 id)) :
    Calls Tryz.prog 64 #[.agg #[.int .i64 x.i, .int .i64 x.s, .int .i64 x.m, .int .i64 x.p, .int .i64 x.c], .pointer (some ⟨b, 0, none⟩)] w fun e w' => e = .returned (.bool (x.i == id)) ∧ Below w.heap.size w w' := by
  have hlt := cell_in h
  have hne : b ≠ w.heap.size := by omega
  go_enter Tryz.func64, Tryz.ntmps64
  go_wp2
  all_goals go_ret
  all_goals exact ⟨bool_ret (by rw [Bool.eq_iff_iff] <;> simp), (Below.refl _ _).alloc (Nat.le_refl _) _⟩
theorem asksAt {w : World} {b : Nat} {id : Int} (h : w.cell? ⟨b, 0, none⟩ = some (.int .i64 id)) : AsksAt w b (fun x => x.i == id) := fun W x hW => isAt_any x id b W (cell_beh h hW (Nat.le_refl _))

/-- The place of the port with a number. -/
def pat (P : List Pr) (id : Int) : Int := idx (fun x => x.i == id) P

set_option maxHeartbeats 1000000 in
theorem portAt_any (sv pv av : Value) (S : List Sw) (P : List Pr) (A : List Ac) (id : Int) (w : World) (hC : CfAt w sv pv av S P A) (h2 : P.length * 40 ≤ 140737488355328) :
    Calls Tryz.prog 33 #[.agg #[sv, pv, av], .int .i64 id] w fun e w' => e = .returned (.int .i64 (pat P id)) ∧ Below w.heap.size w w' := by
  have HI : Hid (∀ (W : World) (b : Nat), Below w.heap.size w W → W.cell? ⟨b, 0, none⟩ = some (.int .i64 id) → Calls Tryz.prog 63 #[pv, .func (.func 64) #[] #[.pointer (some ⟨b, 0, none⟩)]] W fun e w' => e = .returned (.int .i64 (pat P id)) ∧ Below W.heap.size W w') :=
    fun W b hW a => idxAt_any P _ pv _ W (RowAt.below hC.2.1 hW (Nat.le_refl _)) (asksAt a) h2
  obtain ⟨s1, s2, rfl⟩ := hC.1.slice
  obtain ⟨p1, p2, rfl⟩ := hC.2.1.slice
  obtain ⟨a1, a2, rfl⟩ := hC.2.2.slice
  clear hC
  generalize pat P id = R at *
  go_enter Tryz.func33, Tryz.ntmps33
  go_wp2_with fail
  refine (unhide HI _ _ (((Below.refl _ _).alloc (Nat.le_refl _) _).alloc (by simp) _) (by first | exact new_cell _ _ (by simp) _ _ _ _ rfl | exact old_cell (new_cell w _ rfl _ _ _ _ rfl) _)).mono ?_
  rintro e w1 ⟨rfl, hb1⟩
  have hb : Below w.heap.size w w1 := (((Below.refl _ w).alloc (Nat.le_refl _) _).alloc (by simp) _).trans (hb1.mono (by simp; omega))
  clear hb1 HI
  go_wp2_with fail
  go_ret
  exact ⟨rfl, hb⟩

set_option maxHeartbeats 1000000 in
theorem checkThere_any (place many : Int) (w : World) (h0 : 0 ≤ many) (h1 : many ≤ 1000000000000000) :
    Calls Tryz.prog 32 #[.int .i64 place, .int .i64 many] w fun e w' => e = .returned (.int .i64 (if inB place 0 (many - 1) = true then 0 else 6)) ∧ w' = w := by
  have HW := hide (fun W => within_any place 0 (many - 1) W)
  have hw : IntKind.i64.wrap (many - 1) = many - 1 := by
    simp [IntKind.wrap, IntKind.bits, IntKind.signed]
    split <;> omega
  generalize inB place 0 (many - 1) = R at *
  go_enter Tryz.func32, Tryz.ntmps32
  go_wp2_with fail
  refine (unhide HW _).mono ?_
  rintro e w' ⟨rfl, rfl⟩
  cases R
  · go_wp2_with fail
    go_ret
    exact ⟨rfl, rfl⟩
  · go_wp2_with fail
    go_ret
    exact ⟨rfl, rfl⟩

set_option maxHeartbeats 1000000 in
theorem checkBind_any (sv pv av : Value) (S : List Sw) (P : List Pr) (A : List Ac) (id m : Int) (w : World) (hC : CfAt w sv pv av S P A) (h2 : P.length * 40 ≤ 140737488355328) :
    Calls Tryz.prog 34 #[.agg #[sv, pv, av], .int .i64 id, .int .i64 m] w fun e w' => e = .returned (.int .i64 (if inB (pat P id) 0 (P.length - 1) = true then (if inB m (-1) 5 = true then 0 else 2) else 6)) ∧ Below w.heap.size w w' := by
  have HI : Hid (∀ (W : World), Below w.heap.size w W → Calls Tryz.prog 33 #[.agg #[sv, pv, av], .int .i64 id] W fun e w' => e = .returned (.int .i64 (pat P id)) ∧ Below W.heap.size W w') := fun W hW => portAt_any sv pv av S P A id W (hC.below hW (Nat.le_refl _)) h2
  have HT := hide (fun W => checkThere_any (pat P id) (P.length : Int) W (by omega) (by omega))
  have HB := hide (fun W => isChassis_any m W)
  obtain ⟨s1, s2, rfl⟩ := hC.1.slice
  obtain ⟨p1, p2, rfl⟩ := hC.2.1.slice
  obtain ⟨a1, a2, rfl⟩ := hC.2.2.slice
  clear hC
  obtain ⟨E, hE⟩ : ∃ E : Int, E = if inB (pat P id) 0 ((P.length : Int) - 1) = true then 0 else 6 := ⟨_, rfl⟩
  rw [← hE] at HT
  have HE := hide hE
  clear hE
  generalize inB (pat P id) 0 ((P.length : Int) - 1) = R at *
  generalize pat P id = I at *
  generalize inB m (-1) 5 = Q at *
  have hb0 : Below w.heap.size w (w.alloc (.cells #[.slice s1 S.length s2, .slice p1 P.length p2, .slice a1 A.length a2] 28)) := (Below.refl _ _).alloc (Nat.le_refl _) _
  go_enter Tryz.func34, Tryz.ntmps34
  go_wp2_with fail
  obtain ⟨W0, hW0⟩ : ∃ W0, W0 = w.alloc (.cells #[.slice s1 S.length s2, .slice p1 P.length p2, .slice a1 A.length a2] 28) := ⟨_, rfl⟩
  have c0 : W0.cell? ⟨w.heap.size, 0, none⟩ = some (.slice s1 S.length s2) := by rw [hW0]; exact new_cell w _ rfl _ _ _ _ rfl
  have c1 : W0.cell? ⟨w.heap.size, 1, none⟩ = some (.slice p1 P.length p2) := by rw [hW0]; exact new_cell w _ rfl _ _ _ _ rfl
  have c2 : W0.cell? ⟨w.heap.size, 2, none⟩ = some (.slice a1 A.length a2) := by rw [hW0]; exact new_cell w _ rfl _ _ _ _ rfl
  rw [← hW0] at hb0 ⊢
  clear hW0
  go_region_held3 (fun w' => w'.cell? ⟨w.heap.size, 0, none⟩ = some (.slice s1 S.length s2) ∧ w'.cell? ⟨w.heap.size, 1, none⟩ = some (.slice p1 P.length p2) ∧ w'.cell? ⟨w.heap.size, 2, none⟩ = some (.slice a1 A.length a2)) (go_keep)
    (first | (go_at_call 33; refine (unhide HI _ hb0.drew).mono ?_; rintro e w1 ⟨rfl, hc1⟩; have g1 : Below W0.heap.size W0 w1 := ((Below.refl _ W0).drew).trans hc1; have hb : Below w.heap.size w w1 := hb0.trans (g1.mono hb0.size); have z0 := cell_beh c0 g1 (Nat.le_refl _); have z1 := cell_beh c1 g1 (Nat.le_refl _); have z2 := cell_beh c2 g1 (Nat.le_refl _)) | (go_at_call 32; refine (unhide HT _).mono ?_; rintro e w2 ⟨rfl, rfl⟩))
  clear c0 c1 c2 z0 z1 z2 g1 hc1 hb0 HI HT
  cases R
  · obtain rfl : E = 6 := HE.out
    go_wp2_with fail
    go_ret
    exact ⟨rfl, hb⟩
  · obtain rfl : E = 0 := HE.out
    go_wp2_with fail
    refine (unhide HB _).mono ?_
    rintro e w2 ⟨rfl, rfl⟩
    cases Q
    · go_wp2_with fail
      go_ret
      exact ⟨rfl, hb⟩
    · go_wp2_with fail
      go_ret
      exact ⟨rfl, hb⟩

/-- P3.5: what is wrong with an act, where what is wanted may be. -/
def actFault (S : List Sw) (P : List Pr) (A : List Ac) (a : Ax) : Int :=
  if a.k = 1 then swFault S P a.s else if a.k = 2 then prFault S P a.p else if a.k = 3 then acFault S A a.r else if a.k = 4 then (if inB (pat P a.n) 0 (P.length - 1) = true then 0 else 6) else
  if a.k = 6 then (if inB (pat P a.n) 0 (P.length - 1) = true then (if inB a.m (-1) 5 = true then 0 else 2) else 6) else if a.k = 5 then (if inB a.n 0 (A.length - 1) = true then 0 else 6) else 3

set_option maxHeartbeats 8000000 in
theorem checkAct_any (sv pv av : Value) (S : List Sw) (P : List Pr) (A : List Ac) (a : Ax) (w : World) (hC : CfAt w sv pv av S P A) (h1 : S.length * 24 ≤ 140737488355328) (h2 : P.length * 40 ≤ 140737488355328) (h3 : A.length * 72 ≤ 140737488355328) :
    Calls Tryz.prog 18 #[.agg #[sv, pv, av], actV a] w fun e w' => e = .returned (.int .i64 (actFault S P A a)) ∧ Below w.heap.size w w' := by
  have H1 := hide (fun W (hW : Below w.heap.size w W) => checkSwitch_any sv pv av S P A a.s W (hC.below hW (Nat.le_refl _)) h1 h2)
  have H2 := hide (fun W (hW : Below w.heap.size w W) => checkPort_any sv pv av S P A a.p W (hC.below hW (Nat.le_refl _)) h1 h2)
  have H3 := hide (fun W (hW : Below w.heap.size w W) => checkAcl_any sv pv av S P A a.r W (hC.below hW (Nat.le_refl _)) h1)
  have H4 := hide (fun W (hW : Below w.heap.size w W) => portAt_any sv pv av S P A a.n W (hC.below hW (Nat.le_refl _)) h2)
  have H5 := hide (fun W => checkThere_any (pat P a.n) (P.length : Int) W (by omega) (by omega))
  have H6 := hide (fun W (hW : Below w.heap.size w W) => checkBind_any sv pv av S P A a.n a.m W (hC.below hW (Nat.le_refl _)) h2)
  have H7 := hide (fun W => checkThere_any a.n (A.length : Int) W (by omega) (by omega))
  obtain ⟨s1, s2, rfl⟩ := hC.1.slice
  obtain ⟨p1, p2, rfl⟩ := hC.2.1.slice
  obtain ⟨a1, a2, rfl⟩ := hC.2.2.slice
  clear hC
  obtain ⟨k, si, st, sg, pi, ps, pm, pp, pc, rs, rp, rn, rf, rb, rt, re, ro, rd, n, m, f0, f1, f2, f3, f4, f5, f6, body⟩ := a
  have hcase : k = 1 ∨ k = 2 ∨ k = 3 ∨ k = 4 ∨ k = 5 ∨ k = 6 ∨ (¬ k = 1 ∧ ¬ k = 2 ∧ ¬ k = 3 ∧ ¬ k = 4 ∧ ¬ k = 5 ∧ ¬ k = 6) := by omega
  have HR : Hid (actFault S P A ⟨k, si, st, sg, pi, ps, pm, pp, pc, rs, rp, rn, rf, rb, rt, re, ro, rd, n, m, f0, f1, f2, f3, f4, f5, f6, body⟩ = if k = 1 then swFault S P ⟨si, st, sg⟩ else if k = 2 then prFault S P ⟨pi, ps, pm, pp, pc⟩ else if k = 3 then acFault S A ⟨rs, rp, rn, rf, rb, rt, re, ro, rd⟩ else if k = 4 then (if inB (pat P n) 0 (P.length - 1) = true then 0 else 6) else
    if k = 6 then (if inB (pat P n) 0 (P.length - 1) = true then (if inB m (-1) 5 = true then 0 else 2) else 6) else if k = 5 then (if inB n 0 (A.length - 1) = true then 0 else 6) else 3) := rfl
  generalize actFault S P A ⟨k, si, st, sg, pi, ps, pm, pp, pc, rs, rp, rn, rf, rb, rt, re, ro, rd, n, m, f0, f1, f2, f3, f4, f5, f6, body⟩ = R at *
  simp only [Ax.s, Ax.p, Ax.r] at H1 H2 H3 H4 H5 H6 H7 ⊢
  generalize swFault S P ⟨si, st, sg⟩ = E1 at *
  generalize prFault S P ⟨pi, ps, pm, pp, pc⟩ = E2 at *
  generalize acFault S A ⟨rs, rp, rn, rf, rb, rt, re, ro, rd⟩ = E3 at *
  generalize (if inB (pat P n) 0 ((P.length : Int) - 1) = true then (if inB m (-1) 5 = true then (0 : Int) else 2) else 6) = E6 at *
  generalize (if inB (pat P n) 0 ((P.length : Int) - 1) = true then (0 : Int) else 6) = E4 at *
  generalize (if inB n 0 ((A.length : Int) - 1) = true then (0 : Int) else 6) = E5 at *
  generalize pat P n = I at *
  have hb0 : Below w.heap.size w ((w.alloc (.cells #[.slice s1 S.length s2, .slice p1 P.length p2, .slice a1 A.length a2] 28)).alloc (.cells #[.int .i64 k, .int .i64 si, .int .i64 st, .int .i64 sg, .int .i64 pi, .int .i64 ps, .int .i64 pm, .int .i64 pp, .int .i64 pc, .int .i64 rs, .int .i64 rp, .bool rn, .int .i64 rf, .int .i64 rb, .int .i64 rt, .int .i64 re, .int .i64 ro, .bool rd, .int .i64 n, .int .i64 m, .int .i64 f0, .int .i64 f1, .int .i64 f2, .int .i64 f3, .int .i64 f4, .int .i64 f5, .int .i64 f6, .string body] 43)) := ((Below.refl _ _).alloc (Nat.le_refl _) _).alloc (by simp) _
  go_enter Tryz.func18, Tryz.ntmps18
  rcases hcase with rfl | rfl | rfl | rfl | rfl | rfl | ⟨k1, k2, k3, k4, k5, k6⟩
  · go_wp2_with fail
    refine (unhide H1 _ hb0).mono ?_
    rintro e w1 ⟨rfl, hb1⟩
    have hb := hb0.trans (hb1.mono hb0.size)
    clear hb0 hb1 H1 H2 H3 H4 H5 H6 H7
    go_wp2_with fail
    go_ret
    exact ⟨int_ret (by rw [HR.out]; simp), hb⟩
  · go_wp2_with fail
    refine (unhide H2 _ hb0).mono ?_
    rintro e w1 ⟨rfl, hb1⟩
    have hb := hb0.trans (hb1.mono hb0.size)
    clear hb0 hb1 H1 H2 H3 H4 H5 H6 H7
    go_wp2_with fail
    go_ret
    exact ⟨int_ret (by rw [HR.out]; simp), hb⟩
  · go_wp2_with fail
    refine (unhide H3 _ hb0).mono ?_
    rintro e w1 ⟨rfl, hb1⟩
    have hb := hb0.trans (hb1.mono hb0.size)
    clear hb0 hb1 H1 H2 H3 H4 H5 H6 H7
    go_wp2_with fail
    go_ret
    exact ⟨int_ret (by rw [HR.out]; simp), hb⟩
  · go_wp2_with fail
    obtain ⟨W0, hW0⟩ : ∃ W0, W0 = (w.alloc (.cells #[.slice s1 S.length s2, .slice p1 P.length p2, .slice a1 A.length a2] 28)).alloc (.cells #[.int .i64 4, .int .i64 si, .int .i64 st, .int .i64 sg, .int .i64 pi, .int .i64 ps, .int .i64 pm, .int .i64 pp, .int .i64 pc, .int .i64 rs, .int .i64 rp, .bool rn, .int .i64 rf, .int .i64 rb, .int .i64 rt, .int .i64 re, .int .i64 ro, .bool rd, .int .i64 n, .int .i64 m, .int .i64 f0, .int .i64 f1, .int .i64 f2, .int .i64 f3, .int .i64 f4, .int .i64 f5, .int .i64 f6, .string body] 43) := ⟨_, rfl⟩
    have c0 : W0.cell? ⟨w.heap.size, 0, none⟩ = some (.slice s1 S.length s2) := by rw [hW0]; exact old_cell (new_cell w _ rfl _ _ _ _ rfl) _
    have c1 : W0.cell? ⟨w.heap.size, 1, none⟩ = some (.slice p1 P.length p2) := by rw [hW0]; exact old_cell (new_cell w _ rfl _ _ _ _ rfl) _
    have c2 : W0.cell? ⟨w.heap.size, 2, none⟩ = some (.slice a1 A.length a2) := by rw [hW0]; exact old_cell (new_cell w _ rfl _ _ _ _ rfl) _
    have c3 : W0.cell? ⟨w.heap.size + 1, 18, none⟩ = some (.int .i64 n) := by rw [hW0]; exact new_cell _ _ (by simp) _ _ _ _ rfl
    rw [← hW0] at hb0 ⊢
    clear hW0 H1 H2 H3 H6 H7
    go_region_held3 (fun w' => w'.cell? ⟨w.heap.size, 0, none⟩ = some (.slice s1 S.length s2) ∧ w'.cell? ⟨w.heap.size, 1, none⟩ = some (.slice p1 P.length p2) ∧ w'.cell? ⟨w.heap.size, 2, none⟩ = some (.slice a1 A.length a2) ∧ w'.cell? ⟨w.heap.size + 1, 18, none⟩ = some (.int .i64 n)) (go_keep)
      (first | (go_at_call 33; refine (unhide H4 _ hb0.drew).mono ?_; rintro e w1 ⟨rfl, hc1⟩; have g1 : Below W0.heap.size W0 w1 := ((Below.refl _ W0).drew).trans hc1; have hb : Below w.heap.size w w1 := hb0.trans (g1.mono hb0.size); have z0 := cell_beh c0 g1 (Nat.le_refl _); have z1 := cell_beh c1 g1 (Nat.le_refl _); have z2 := cell_beh c2 g1 (Nat.le_refl _); have z3 := cell_beh c3 g1 (Nat.le_refl _)) | (go_at_call 32; refine (unhide H5 _).mono ?_; rintro e w2 ⟨rfl, rfl⟩))
    clear c0 c1 c2 c3 z0 z1 z2 z3 g1 hc1 hb0 H4 H5
    go_wp2_with fail
    go_ret
    exact ⟨int_ret (by rw [HR.out]; simp), hb⟩
  · clear H1 H2 H3 H4 H5 H6
    go_wp2_with fail
    refine (unhide H7 _).mono ?_
    rintro e w2 ⟨rfl, rfl⟩
    go_wp2_with fail
    go_ret
    exact ⟨int_ret (by rw [HR.out]; simp), hb0⟩
  · go_wp2_with fail
    refine (unhide H6 _ hb0).mono ?_
    rintro e w1 ⟨rfl, hb1⟩
    have hb := hb0.trans (hb1.mono hb0.size)
    clear hb0 hb1 H1 H2 H3 H4 H5 H6 H7
    go_wp2_with fail
    go_ret
    exact ⟨int_ret (by rw [HR.out]; simp), hb⟩
  · clear H1 H2 H3 H4 H5 H6 H7
    go_wp2_with fail
    go_ret
    exact ⟨int_ret (by rw [HR.out]; simp_all), hb0⟩

end Go.Proofs.YtonhfgdnkkkikadGreat
