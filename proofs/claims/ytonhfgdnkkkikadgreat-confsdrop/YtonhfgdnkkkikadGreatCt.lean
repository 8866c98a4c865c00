/-
  What conf.isTaken answers.
-/
import Derived.Test.YtonhfgdnkkkikadGreatCc
namespace Go.Proofs.YtonhfgdnkkkikadGreat
open Go.RowKit
set_option linter.unusedVariables false
set_option maxRecDepth 100000

/-- Has something of a tenant that number? -/
def takenB (S : List Sw) (P : List Pr) (t ip : Int) : Bool := S.any (fun x => x.t == t && x.g == ip) || P.any (fun x => x.p == ip && S.any (fun s => s.i == x.s && s.t == t))

theorem anySlice {α : Type} {C : α → List Value} {sz : Nat} {w : World} {v : Value} {l : List α} (h : RowAt C sz w v l) : ∃ o n c, v = .slice o n c := by
  obtain ⟨o, c, h⟩ := h.slice
  exact ⟨o, _, c, h⟩

set_option maxHeartbeats 2000000 in
theorem isIp_any (x : Pr) (S : List Sw) (sv pv av : Value) (ip t : Int) (bi bc bt : Nat) (w : World) (hS : SwsAt w sv S) (hpv : ∃ o n c, pv = .slice o n c) (hav : ∃ o n c, av = .slice o n c) (h1 : w.cell? ⟨bi, 0, none⟩ = some (.int .i64 ip)) (h2 : w.cell? ⟨bc, 0, none⟩ = some sv) (h3 : w.cell? ⟨bc, 1, none⟩ = some pv) (h4 : w.cell? ⟨bc, 2, none⟩ = some av)
    (h5 : w.cell? ⟨bt, 0, none⟩ = some (.int .i64 t)) (hl : S.length * 24 ≤ 140737488355328) :
    Calls Tryz.prog 84 #[.agg #[.int .i64 x.i, .int .i64 x.s, .int .i64 x.m, .int .i64 x.p, .int .i64 x.c], .pointer (some ⟨bi, 0, none⟩), .pointer (some ⟨bc, 0, none⟩), .pointer (some ⟨bt, 0, none⟩)] w fun e w' => e = .returned (.bool (x.p == ip && S.any (fun s => s.i == x.s && s.t == t))) ∧ Below w.heap.size w w' := by
  have q1 := cell_in h1
  have q2 := cell_in h2
  have q5 := cell_in h5
  have n1 : bi ≠ w.heap.size := by omega
  have n2 : bc ≠ w.heap.size := by omega
  have n5 : bt ≠ w.heap.size := by omega
  obtain ⟨xi, xs, xm, xp, xc⟩ := x
  have HS := hide hS
  have HH : Hid (∀ W : World, Below w.heap.size w W → W.cell? ⟨w.heap.size, 1, none⟩ = some (.int .i64 xs) → Calls Tryz.prog 54 #[.agg #[sv, pv, av], .func (.func 85) #[] #[.pointer (some ⟨w.heap.size, 0, none⟩), .pointer (some ⟨bt, 0, none⟩)]] W fun e w' => e = .returned (.bool (S.any (fun s => s.i == xs && s.t == t))) ∧ Below W.heap.size W w') :=
    fun W hW hx => hasSwitchOf_any sv pv av S _ w.heap.size bt W (RowAt.below hS hW (Nat.le_refl _)) hpv hav (asksOf hx (cell_beh h5 hW (Nat.le_refl _))) hl
  obtain ⟨s1, s2, rfl⟩ := hS.slice
  obtain ⟨p1, pn, p2, rfl⟩ := hpv
  obtain ⟨a1, an, a2, rfl⟩ := hav
  clear hS
  generalize S.any (fun s => s.i == xs && s.t == t) = R at *
  have hb0 : Below w.heap.size w (w.alloc (.cells #[.int .i64 xi, .int .i64 xs, .int .i64 xm, .int .i64 xp, .int .i64 xc] 32)) := (Below.refl _ _).alloc (Nat.le_refl _) _
  go_enter Tryz.func84, Tryz.ntmps84
  by_cases hx : xp = ip
  · subst hx
    go_wp2_with fail
    refine (unhide HH _ hb0 (by simp)).mono ?_
    rintro e w1 ⟨rfl, hb1⟩
    have hb := hb0.trans (hb1.mono hb0.size)
    clear hb1 hb0 HH
    go_wp2_with fail
    go_ret
    exact ⟨bool_ret (by simp), hb⟩
  · clear HH
    go_wp2
    go_ret
    exact ⟨bool_ret (by simp [hx]), hb0⟩

set_option maxHeartbeats 4000000 in
theorem isTaken_any (sv pv av : Value) (S : List Sw) (P : List Pr) (A : List Ac) (t ip : Int) (w : World) (hC : CfAt w sv pv av S P A) (h1 : S.length * 24 ≤ 140737488355328) (h2 : P.length * 40 ≤ 140737488355328) :
    Calls Tryz.prog 56 #[.agg #[sv, pv, av], .int .i64 t, .int .i64 ip] w fun e w' => e = .returned (.bool (takenB S P t ip)) ∧ Below w.heap.size w w' := by
  have HC := hide hC
  have HG : Hid (∀ W : World, Below w.heap.size w W → W.cell? ⟨w.heap.size + 1, 0, none⟩ = some (.int .i64 t) → W.cell? ⟨w.heap.size + 1 + 1, 0, none⟩ = some (.int .i64 ip) → Calls Tryz.prog 54 #[.agg #[sv, pv, av], .func (.func 83) #[] #[.pointer (some ⟨w.heap.size + 1, 0, none⟩), .pointer (some ⟨w.heap.size + 1 + 1, 0, none⟩)]] W fun e w' => e = .returned (.bool (S.any (fun x => x.t == t && x.g == ip))) ∧ Below W.heap.size W w') :=
    fun W hW a b => hasSwitchGate_any sv pv av S _ _ _ W (RowAt.below hC.1 hW (Nat.le_refl _)) (anySlice hC.2.1) (anySlice hC.2.2) (asksGate a b) h1
  have HP : Hid (∀ W : World, Below w.heap.size w W → W.cell? ⟨w.heap.size, 0, none⟩ = some sv → W.cell? ⟨w.heap.size, 1, none⟩ = some pv → W.cell? ⟨w.heap.size, 2, none⟩ = some av → W.cell? ⟨w.heap.size + 1, 0, none⟩ = some (.int .i64 t) → W.cell? ⟨w.heap.size + 1 + 1, 0, none⟩ = some (.int .i64 ip) →
      Calls Tryz.prog 59 #[.agg #[sv, pv, av], .func (.func 84) #[] #[.pointer (some ⟨w.heap.size + 1 + 1, 0, none⟩), .pointer (some ⟨w.heap.size, 0, none⟩), .pointer (some ⟨w.heap.size + 1, 0, none⟩)]] W fun e w' => e = .returned (.bool (P.any (fun x => x.p == ip && S.any (fun s => s.i == x.s && s.t == t)))) ∧ Below W.heap.size W w') :=
    fun W hW c0 c1 c2 a b => hasPortIp_any sv pv av P _ _ _ _ W (anySlice hC.1) (RowAt.below hC.2.1 hW (Nat.le_refl _)) (anySlice hC.2.2)
      (fun W' x hW' => isIp_any x S sv pv av ip t _ _ _ W' (RowAt.below hC.1 (hW.trans (hW'.mono hW.size)) (Nat.le_refl _)) (anySlice hC.2.1) (anySlice hC.2.2) (cell_beh b hW' (Nat.le_refl _)) (cell_beh c0 hW' (Nat.le_refl _)) (cell_beh c1 hW' (Nat.le_refl _)) (cell_beh c2 hW' (Nat.le_refl _)) (cell_beh a hW' (Nat.le_refl _)) h1) h2
  have HR : Hid (takenB S P t ip = (S.any (fun x => x.t == t && x.g == ip) || P.any (fun x => x.p == ip && S.any (fun s => s.i == x.s && s.t == t)))) := rfl
  generalize takenB S P t ip = R at *
  generalize S.any (fun x => x.t == t && x.g == ip) = R1 at *
  generalize P.any (fun x => x.p == ip && S.any (fun s => s.i == x.s && s.t == t)) = R2 at *
  obtain ⟨s1, s2, rfl⟩ := hC.1.slice
  obtain ⟨p1, p2, rfl⟩ := hC.2.1.slice
  obtain ⟨a1, a2, rfl⟩ := hC.2.2.slice
  clear hC HC
  go_enter Tryz.func56, Tryz.ntmps56
  go_wp2_with fail
  obtain ⟨W0, hW0⟩ : ∃ W0, W0 = ((w.alloc (.cells #[.slice s1 S.length s2, .slice p1 P.length p2, .slice a1 A.length a2] 28)).alloc (.cells #[.int .i64 t] 3)).alloc (.cells #[.int .i64 ip] 3) := ⟨_, rfl⟩
  have hb0 : Below w.heap.size w W0 := by rw [hW0]; exact (((Below.refl _ _).alloc (Nat.le_refl _) _).alloc (by simp) _).alloc (by simp; omega) _
  have c0 : W0.cell? ⟨w.heap.size, 0, none⟩ = some (.slice s1 S.length s2) := by rw [hW0]; exact old_cell (old_cell (new_cell w _ rfl _ _ _ _ rfl) _) _
  have c1 : W0.cell? ⟨w.heap.size, 1, none⟩ = some (.slice p1 P.length p2) := by rw [hW0]; exact old_cell (old_cell (new_cell w _ rfl _ _ _ _ rfl) _) _
  have c2 : W0.cell? ⟨w.heap.size, 2, none⟩ = some (.slice a1 A.length a2) := by rw [hW0]; exact old_cell (old_cell (new_cell w _ rfl _ _ _ _ rfl) _) _
  have ct : W0.cell? ⟨w.heap.size + 1, 0, none⟩ = some (.int .i64 t) := by rw [hW0]; exact old_cell (new_cell _ _ (by simp) _ _ _ _ rfl) _
  have ci : W0.cell? ⟨w.heap.size + 1 + 1, 0, none⟩ = some (.int .i64 ip) := by rw [hW0]; exact new_cell _ _ (by simp) _ _ _ _ rfl
  rw [← hW0]
  clear hW0
  refine (unhide HG _ hb0 ct ci).mono ?_
  rintro e w1 ⟨rfl, hb1⟩
  have z0 := cell_beh c0 hb1 (Nat.le_refl _)
  have z1 := cell_beh c1 hb1 (Nat.le_refl _)
  have z2 := cell_beh c2 hb1 (Nat.le_refl _)
  have zt := cell_beh ct hb1 (Nat.le_refl _)
  have zi := cell_beh ci hb1 (Nat.le_refl _)
  have hb01 := hb0.trans (hb1.mono hb0.size)
  clear c0 c1 c2 ct ci hb0 hb1 HG
  cases R1
  · go_wp2_with fail
    refine (unhide HP _ hb01 z0 z1 z2 zt zi).mono ?_
    rintro e w2 ⟨rfl, hb2⟩
    have hb := hb01.trans (hb2.mono hb01.size)
    clear z0 z1 z2 zt zi hb01 hb2 HP
    go_wp2_with fail
    go_ret
    exact ⟨bool_ret (by rw [HR.out]; simp), hb⟩
  · clear z0 z1 z2 zt zi HP
    go_wp2
    go_ret
    exact ⟨bool_ret (by rw [HR.out]; simp), hb01⟩

end Go.Proofs.YtonhfgdnkkkikadGreat
