/-
  What conf's small functions answer; its closures; isTaken.
-/
import Derived.Test.YtonhfgdnkkkikadGreatCi
namespace Go.Proofs.YtonhfgdnkkkikadGreat
open Go.RowKit
set_option linter.unusedVariables false
set_option maxRecDepth 100000

def inB (n a b : Int) : Bool := decide (a ≤ n ∧ n ≤ b)

set_option maxHeartbeats 400000 in
theorem within_any (n a b : Int) (w : World) :
    Calls Tryz.prog 52 #[.int .i64 n, .int .i64 a, .int .i64 b] w fun e w' => e = .returned (.bool (inB n a b)) ∧ w' = w := by
  go_enter Tryz.func52, Tryz.ntmps52
  go_wp2
  all_goals go_ret
  all_goals refine ⟨bool_ret ?_, rfl⟩
  all_goals (unfold inB; rw [Bool.eq_iff_iff]; simp_all; try omega)

set_option maxHeartbeats 400000 in
theorem cIsWord_any (n : Int) (w : World) :
    Calls Tryz.prog 53 #[.int .i64 n] w fun e w' => e = .returned (.bool (inB n 0 65535)) ∧ w' = w := by
  go_enter Tryz.func53, Tryz.ntmps53
  go_wp2_with (go_at_call 52; refine (within_any _ _ _ _).mono ?_; rintro e w' ⟨rfl, rfl⟩)
  go_ret
  exact ⟨rfl, rfl⟩
set_option maxHeartbeats 400000 in
theorem isChassis_any (n : Int) (w : World) :
    Calls Tryz.prog 65 #[.int .i64 n] w fun e w' => e = .returned (.bool (inB n (-1) 5)) ∧ w' = w := by
  go_enter Tryz.func65, Tryz.ntmps65
  go_wp2_with (go_at_call 52; refine (within_any _ _ _ _).mono ?_; rintro e w' ⟨rfl, rfl⟩)
  go_ret
  exact ⟨rfl, rfl⟩

/-- Are a port's numbers within their bounds? -/
def prInB (x : Pr) : Bool := inB x.i 1 999 && inB x.m 1 59999 && inB x.p 1 65535 && inB x.c (-1) 5
set_option maxHeartbeats 1000000 in
theorem portInBounds_any (i s m p c : Int) (w : World) :
    Calls Tryz.prog 57 #[.agg #[.int .i64 i, .int .i64 s, .int .i64 m, .int .i64 p, .int .i64 c]] w fun e w' => e = .returned (.bool (prInB ⟨i, s, m, p, c⟩)) ∧ Below w.heap.size w w' := by
  go_enter Tryz.func57, Tryz.ntmps57
  go_wp2_with (first | (go_at_call 52; refine (within_any _ _ _ _).mono ?_; rintro e w' ⟨rfl, rfl⟩) | (go_at_call 65; refine (isChassis_any _ _).mono ?_; rintro e w' ⟨rfl, rfl⟩))
  all_goals go_ret
  all_goals refine ⟨bool_ret ?_, (Below.refl _ _).alloc (Nat.le_refl _) _⟩
  all_goals (unfold prInB; simp_all)

/-- Are a rule's numbers within their bounds? -/
def acInB (x : Ac) : Bool := inB x.p 0 1000 && inB x.src 0 65535 && inB x.dst 0 65535 && inB x.sb 0 16 && inB x.db 0 16 && inB x.o (-1) 65535
set_option maxHeartbeats 2000000 in
theorem aclInBounds_any (s p : Int) (n : Bool) (src sb dst db o : Int) (d : Bool) (w : World) :
    Calls Tryz.prog 61 #[.agg #[.int .i64 s, .int .i64 p, .bool n, .int .i64 src, .int .i64 sb, .int .i64 dst, .int .i64 db, .int .i64 o, .bool d]] w fun e w' => e = .returned (.bool (acInB ⟨s, p, n, src, sb, dst, db, o, d⟩)) ∧ Below w.heap.size w w' := by
  go_enter Tryz.func61, Tryz.ntmps61
  go_wp2_with (first | (go_at_call 52; refine (within_any _ _ _ _).mono ?_; rintro e w' ⟨rfl, rfl⟩) | (go_at_call 53; refine (cIsWord_any _ _).mono ?_; rintro e w' ⟨rfl, rfl⟩))
  all_goals go_ret
  all_goals refine ⟨bool_ret ?_, (Below.refl _ _).alloc (Nat.le_refl _) _⟩
  all_goals (unfold acInB; simp_all)

/- the closures -/
set_option maxHeartbeats 400000 in
theorem withId1_any (x : Sw) (id : Int) (b : Nat) (w : World) (h : w.cell? ⟨b, 0, none⟩ = some (.int .i64 id)) :
    Calls Tryz.prog 82 #[.agg #[.int .i64 x.i, .int .i64 x.t, .int .i64 x.g], .pointer (some ⟨b, 0, none⟩)] w fun e w' => e = .returned (.bool (x.i == id)) ∧ Below w.heap.size w w' := by
  have hlt := cell_in h
  have hne : b ≠ w.heap.size := by omega
  go_enter Tryz.func82, Tryz.ntmps82
  go_wp2
  all_goals go_ret
  all_goals exact ⟨bool_ret (by rw [Bool.eq_iff_iff] <;> simp), (Below.refl _ _).alloc (Nat.le_refl _) _⟩

theorem asksId {w : World} {b : Nat} {id : Int} (h : w.cell? ⟨b, 0, none⟩ = some (.int .i64 id)) : AsksId w b (fun x => x.i == id) := fun W x hW => withId1_any x id b W (cell_beh h hW (Nat.le_refl _))

set_option maxHeartbeats 400000 in
theorem isGate_any (x : Sw) (tenant ip : Int) (b c : Nat) (w : World) (h : w.cell? ⟨b, 0, none⟩ = some (.int .i64 tenant)) (h2 : w.cell? ⟨c, 0, none⟩ = some (.int .i64 ip)) :
    Calls Tryz.prog 83 #[.agg #[.int .i64 x.i, .int .i64 x.t, .int .i64 x.g], .pointer (some ⟨b, 0, none⟩), .pointer (some ⟨c, 0, none⟩)] w fun e w' => e = .returned (.bool (x.t == tenant && x.g == ip)) ∧ Below w.heap.size w w' := by
  have hlt := cell_in h
  have hne : b ≠ w.heap.size := by omega
  have hlt2 := cell_in h2
  have hne2 : c ≠ w.heap.size := by omega
  go_enter Tryz.func83, Tryz.ntmps83
  go_wp2
  all_goals go_ret
  all_goals exact ⟨bool_ret (by rw [Bool.eq_iff_iff]; simp_all), (Below.refl _ _).alloc (Nat.le_refl _) _⟩
theorem asksGate {w : World} {b c : Nat} {tenant ip : Int} (h : w.cell? ⟨b, 0, none⟩ = some (.int .i64 tenant)) (h2 : w.cell? ⟨c, 0, none⟩ = some (.int .i64 ip)) : AsksGate w b c (fun x => x.t == tenant && x.g == ip) := fun W x hW => isGate_any x tenant ip b c W (cell_beh h hW (Nat.le_refl _)) (cell_beh h2 hW (Nat.le_refl _))

set_option maxHeartbeats 400000 in
theorem isOf_any (x : Sw) (s tenant : Int) (b c : Nat) (w : World) (h : w.cell? ⟨b, 1, none⟩ = some (.int .i64 s)) (h2 : w.cell? ⟨c, 0, none⟩ = some (.int .i64 tenant)) :
    Calls Tryz.prog 85 #[.agg #[.int .i64 x.i, .int .i64 x.t, .int .i64 x.g], .pointer (some ⟨b, 0, none⟩), .pointer (some ⟨c, 0, none⟩)] w fun e w' => e = .returned (.bool (x.i == s && x.t == tenant)) ∧ Below w.heap.size w w' := by
  have hlt := cell_in h
  have hne : b ≠ w.heap.size := by omega
  have hlt2 := cell_in h2
  have hne2 : c ≠ w.heap.size := by omega
  go_enter Tryz.func85, Tryz.ntmps85
  go_wp2
  all_goals go_ret
  all_goals exact ⟨bool_ret (by rw [Bool.eq_iff_iff]; simp_all), (Below.refl _ _).alloc (Nat.le_refl _) _⟩
theorem asksOf {w : World} {b c : Nat} {s tenant : Int} (h : w.cell? ⟨b, 1, none⟩ = some (.int .i64 s)) (h2 : w.cell? ⟨c, 0, none⟩ = some (.int .i64 tenant)) : AsksOf w b c (fun x => x.i == s && x.t == tenant) := fun W x hW => isOf_any x s tenant b c W (cell_beh h hW (Nat.le_refl _)) (cell_beh h2 hW (Nat.le_refl _))

set_option maxHeartbeats 1000000 in
theorem isSame_any (x : Pr) (i s m : Int) (b : Nat) (w : World) (h : w.cell? ⟨b, 0, none⟩ = some (.int .i64 i)) (h1 : w.cell? ⟨b, 1, none⟩ = some (.int .i64 s)) (h2 : w.cell? ⟨b, 2, none⟩ = some (.int .i64 m)) :
    Calls Tryz.prog 60 #[.agg #[.int .i64 x.i, .int .i64 x.s, .int .i64 x.m, .int .i64 x.p, .int .i64 x.c], .pointer (some ⟨b, 0, none⟩)] w fun e w' => e = .returned (.bool (x.i == i || x.s == s && x.m == m)) ∧ Below w.heap.size w w' := by
  have hlt := cell_in h
  have hne : b ≠ w.heap.size := by omega
  go_enter Tryz.func60, Tryz.ntmps60
  go_wp2
  all_goals go_ret
  all_goals exact ⟨bool_ret (by rw [Bool.eq_iff_iff]; simp_all), (Below.refl _ _).alloc (Nat.le_refl _) _⟩
theorem asksSame {w : World} {b : Nat} {i s m : Int} (h : w.cell? ⟨b, 0, none⟩ = some (.int .i64 i)) (h1 : w.cell? ⟨b, 1, none⟩ = some (.int .i64 s)) (h2 : w.cell? ⟨b, 2, none⟩ = some (.int .i64 m)) : AsksSame w b (fun x => x.i == i || x.s == s && x.m == m) :=
  fun W x hW => isSame_any x i s m b W (cell_beh h hW (Nat.le_refl _)) (cell_beh h1 hW (Nat.le_refl _)) (cell_beh h2 hW (Nat.le_refl _))

/- hasSwitch, hasPort -/
set_option maxHeartbeats 1000000 in
theorem hasSwitchId_any (sv pv av : Value) (S : List Sw) (p : Sw → Bool) (b0 : Nat) (w : World) (hF : SwsAt w sv S) (hpv : ∃ o n c, pv = .slice o n c) (hav : ∃ o n c, av = .slice o n c) (hT : AsksId w b0 p) (hl : S.length * 24 ≤ 140737488355328) :
    Calls Tryz.prog 54 #[.agg #[sv, pv, av], .func (.func 82) #[] #[.pointer (some ⟨b0, 0, none⟩)]] w fun e w' => e = .returned (.bool (S.any p)) ∧ Below w.heap.size w w' := by
  have HI := hide (fun W (hW : Below w.heap.size w W) => hasId_any S p sv b0 W (RowAt.below hF hW (Nat.le_refl _)) (fun W' x hW' => hT W' x (hW.trans (hW'.mono hW.size))) hl)
  obtain ⟨o1, c1, rfl⟩ := hF.slice
  obtain ⟨o2, n2, c2, rfl⟩ := hpv
  obtain ⟨o3, n3, c3, rfl⟩ := hav
  clear hF hT
  generalize S.any p = R at *
  go_enter Tryz.func54, Tryz.ntmps54
  go_wp2_with fail
  have hb0 : Below w.heap.size w (w.alloc (.cells #[.slice o1 S.length c1, .slice o2 n2 c2, .slice o3 n3 c3] 28)) := (Below.refl _ _).alloc (Nat.le_refl _) _
  refine (unhide HI _ hb0).mono ?_
  rintro e w1 ⟨rfl, hb1⟩
  have hb := hb0.trans (hb1.mono hb0.size)
  clear hb1 hb0 HI
  go_wp2_with fail
  go_ret
  exact ⟨rfl, hb⟩
set_option maxHeartbeats 1000000 in
theorem hasSwitchGate_any (sv pv av : Value) (S : List Sw) (p : Sw → Bool) (b0 b1 : Nat) (w : World) (hF : SwsAt w sv S) (hpv : ∃ o n c, pv = .slice o n c) (hav : ∃ o n c, av = .slice o n c) (hT : AsksGate w b0 b1 p) (hl : S.length * 24 ≤ 140737488355328) :
    Calls Tryz.prog 54 #[.agg #[sv, pv, av], .func (.func 83) #[] #[.pointer (some ⟨b0, 0, none⟩), .pointer (some ⟨b1, 0, none⟩)]] w fun e w' => e = .returned (.bool (S.any p)) ∧ Below w.heap.size w w' := by
  have HI := hide (fun W (hW : Below w.heap.size w W) => hasGate_any S p sv b0 b1 W (RowAt.below hF hW (Nat.le_refl _)) (fun W' x hW' => hT W' x (hW.trans (hW'.mono hW.size))) hl)
  obtain ⟨o1, c1, rfl⟩ := hF.slice
  obtain ⟨o2, n2, c2, rfl⟩ := hpv
  obtain ⟨o3, n3, c3, rfl⟩ := hav
  clear hF hT
  generalize S.any p = R at *
  go_enter Tryz.func54, Tryz.ntmps54
  go_wp2_with fail
  have hb0 : Below w.heap.size w (w.alloc (.cells #[.slice o1 S.length c1, .slice o2 n2 c2, .slice o3 n3 c3] 28)) := (Below.refl _ _).alloc (Nat.le_refl _) _
  refine (unhide HI _ hb0).mono ?_
  rintro e w1 ⟨rfl, hb1⟩
  have hb := hb0.trans (hb1.mono hb0.size)
  clear hb1 hb0 HI
  go_wp2_with fail
  go_ret
  exact ⟨rfl, hb⟩
set_option maxHeartbeats 1000000 in
theorem hasSwitchOf_any (sv pv av : Value) (S : List Sw) (p : Sw → Bool) (b0 b1 : Nat) (w : World) (hF : SwsAt w sv S) (hpv : ∃ o n c, pv = .slice o n c) (hav : ∃ o n c, av = .slice o n c) (hT : AsksOf w b0 b1 p) (hl : S.length * 24 ≤ 140737488355328) :
    Calls Tryz.prog 54 #[.agg #[sv, pv, av], .func (.func 85) #[] #[.pointer (some ⟨b0, 0, none⟩), .pointer (some ⟨b1, 0, none⟩)]] w fun e w' => e = .returned (.bool (S.any p)) ∧ Below w.heap.size w w' := by
  have HI := hide (fun W (hW : Below w.heap.size w W) => hasOf_any S p sv b0 b1 W (RowAt.below hF hW (Nat.le_refl _)) (fun W' x hW' => hT W' x (hW.trans (hW'.mono hW.size))) hl)
  obtain ⟨o1, c1, rfl⟩ := hF.slice
  obtain ⟨o2, n2, c2, rfl⟩ := hpv
  obtain ⟨o3, n3, c3, rfl⟩ := hav
  clear hF hT
  generalize S.any p = R at *
  go_enter Tryz.func54, Tryz.ntmps54
  go_wp2_with fail
  have hb0 : Below w.heap.size w (w.alloc (.cells #[.slice o1 S.length c1, .slice o2 n2 c2, .slice o3 n3 c3] 28)) := (Below.refl _ _).alloc (Nat.le_refl _) _
  refine (unhide HI _ hb0).mono ?_
  rintro e w1 ⟨rfl, hb1⟩
  have hb := hb0.trans (hb1.mono hb0.size)
  clear hb1 hb0 HI
  go_wp2_with fail
  go_ret
  exact ⟨rfl, hb⟩
set_option maxHeartbeats 1000000 in
theorem hasPortSame_any (sv pv av : Value) (P : List Pr) (p : Pr → Bool) (b0 : Nat) (w : World) (hsv : ∃ o n c, sv = .slice o n c) (hF : PrsAt w pv P) (hav : ∃ o n c, av = .slice o n c) (hT : AsksSame w b0 p) (hl : P.length * 40 ≤ 140737488355328) :
    Calls Tryz.prog 59 #[.agg #[sv, pv, av], .func (.func 60) #[] #[.pointer (some ⟨b0, 0, none⟩)]] w fun e w' => e = .returned (.bool (P.any p)) ∧ Below w.heap.size w w' := by
  have HI := hide (fun W (hW : Below w.heap.size w W) => hasSame_any P p pv b0 W (RowAt.below hF hW (Nat.le_refl _)) (fun W' x hW' => hT W' x (hW.trans (hW'.mono hW.size))) hl)
  obtain ⟨o1, c1, rfl⟩ := hF.slice
  obtain ⟨o2, n2, c2, rfl⟩ := hsv
  obtain ⟨o3, n3, c3, rfl⟩ := hav
  clear hF hT
  generalize P.any p = R at *
  go_enter Tryz.func59, Tryz.ntmps59
  go_wp2_with fail
  have hb0 : Below w.heap.size w (w.alloc (.cells #[.slice o2 n2 c2, .slice o1 P.length c1, .slice o3 n3 c3] 28)) := (Below.refl _ _).alloc (Nat.le_refl _) _
  refine (unhide HI _ hb0).mono ?_
  rintro e w1 ⟨rfl, hb1⟩
  have hb := hb0.trans (hb1.mono hb0.size)
  clear hb1 hb0 HI
  go_wp2_with fail
  go_ret
  exact ⟨rfl, hb⟩
set_option maxHeartbeats 1000000 in
theorem hasPortIp_any (sv pv av : Value) (P : List Pr) (p : Pr → Bool) (b0 b1 b2 : Nat) (w : World) (hsv : ∃ o n c, sv = .slice o n c) (hF : PrsAt w pv P) (hav : ∃ o n c, av = .slice o n c) (hT : AsksIp w b0 b1 b2 p) (hl : P.length * 40 ≤ 140737488355328) :
    Calls Tryz.prog 59 #[.agg #[sv, pv, av], .func (.func 84) #[] #[.pointer (some ⟨b0, 0, none⟩), .pointer (some ⟨b1, 0, none⟩), .pointer (some ⟨b2, 0, none⟩)]] w fun e w' => e = .returned (.bool (P.any p)) ∧ Below w.heap.size w w' := by
  have HI := hide (fun W (hW : Below w.heap.size w W) => hasIp_any P p pv b0 b1 b2 W (RowAt.below hF hW (Nat.le_refl _)) (fun W' x hW' => hT W' x (hW.trans (hW'.mono hW.size))) hl)
  obtain ⟨o1, c1, rfl⟩ := hF.slice
  obtain ⟨o2, n2, c2, rfl⟩ := hsv
  obtain ⟨o3, n3, c3, rfl⟩ := hav
  clear hF hT
  generalize P.any p = R at *
  go_enter Tryz.func59, Tryz.ntmps59
  go_wp2_with fail
  have hb0 : Below w.heap.size w (w.alloc (.cells #[.slice o2 n2 c2, .slice o1 P.length c1, .slice o3 n3 c3] 28)) := (Below.refl _ _).alloc (Nat.le_refl _) _
  refine (unhide HI _ hb0).mono ?_
  rintro e w1 ⟨rfl, hb1⟩
  have hb := hb0.trans (hb1.mono hb0.size)
  clear hb1 hb0 HI
  go_wp2_with fail
  go_ret
  exact ⟨rfl, hb⟩

end Go.Proofs.YtonhfgdnkkkikadGreat
