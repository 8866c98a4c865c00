/-
  What the law's sameConf answers at what holds the same.
-/
import Derived.Test.YtonhfgdnkkkikadCn
import Derived.Laws.StructEq
import Derived.Deep.QuietTactic
import Derived.BigQuiet
import Derived.Deep.RegionHeld3
namespace Go.Proofs.Ytonhfgdnkkkikad
open Go.RowKit
set_option linter.unusedVariables false
set_option maxRecDepth 100000

theorem eqSw (x0 : Int) (x1 : Int) (x2 : Int) (w : World) : (Op.equalIn 10000 31 (.agg #[.int .i64 x0, .int .i64 x1, .int .i64 x2]) (.agg #[.int .i64 x0, .int .i64 x1, .int .i64 x2])).run Try.prog w = .ok true w := by
  have hS : Try.prog.underlying 31 = some (.struct (Try.prog.fieldsOf 31)) := by kernel_rfl
  have hp : Try.prog.stoodInHeld 31 = false := by kernel_rfl
  rw [show (10000 : Nat) = 9999 + 1 from rfl, run_equalIn_agg w 9999 31 _ _ hS hp]
  simp only [Program.fieldsOf, Try.underlying31]
  go_simp
theorem guardSw : Try.prog.eqGuardType Try.prog.depth 31 = false := by kernel_rfl
theorem eqPr (x0 : Int) (x1 : Int) (x2 : Int) (x3 : Int) (x4 : Int) (w : World) : (Op.equalIn 10000 33 (.agg #[.int .i64 x0, .int .i64 x1, .int .i64 x2, .int .i64 x3, .int .i64 x4]) (.agg #[.int .i64 x0, .int .i64 x1, .int .i64 x2, .int .i64 x3, .int .i64 x4])).run Try.prog w = .ok true w := by
  have hS : Try.prog.underlying 33 = some (.struct (Try.prog.fieldsOf 33)) := by kernel_rfl
  have hp : Try.prog.stoodInHeld 33 = false := by kernel_rfl
  rw [show (10000 : Nat) = 9999 + 1 from rfl, run_equalIn_agg w 9999 33 _ _ hS hp]
  simp only [Program.fieldsOf, Try.underlying33]
  go_simp
theorem guardPr : Try.prog.eqGuardType Try.prog.depth 33 = false := by kernel_rfl
theorem eqAc (x0 : Int) (x1 : Int) (x2 : Bool) (x3 : Int) (x4 : Int) (x5 : Int) (x6 : Int) (x7 : Int) (x8 : Bool) (w : World) : (Op.equalIn 10000 35 (.agg #[.int .i64 x0, .int .i64 x1, .bool x2, .int .i64 x3, .int .i64 x4, .int .i64 x5, .int .i64 x6, .int .i64 x7, .bool x8]) (.agg #[.int .i64 x0, .int .i64 x1, .bool x2, .int .i64 x3, .int .i64 x4, .int .i64 x5, .int .i64 x6, .int .i64 x7, .bool x8])).run Try.prog w = .ok true w := by
  have hS : Try.prog.underlying 35 = some (.struct (Try.prog.fieldsOf 35)) := by kernel_rfl
  have hp : Try.prog.stoodInHeld 35 = false := by kernel_rfl
  rw [show (10000 : Nat) = 9999 + 1 from rfl, run_equalIn_agg w 9999 35 _ _ hS hp]
  simp only [Program.fieldsOf, Try.underlying35]
  go_simp
theorem guardAc : Try.prog.eqGuardType Try.prog.depth 35 = false := by kernel_rfl

theorem drewN_below {B : Nat} {a w : World} (h : Below B a w) : ∀ n, Below B a (w.drewN n)
  := fun n => ⟨h.os, h.tape, h.output, h.size, h.block⟩

set_option maxHeartbeats 4000000 in
theorem sameConf_any (u1 u2 u3 v1 v2 v3 : Value) (S : List Sw) (P : List Pr) (A : List Ac) (w : World) (h1 : CfAt w u1 u2 u3 S P A) (h2 : CfAt w v1 v2 v3 S P A) (l1 : S.length * 24 ≤ 140737488355328) (l2 : P.length * 40 ≤ 140737488355328) (l3 : A.length * 72 ≤ 140737488355328) :
    Calls Try.prog 9 #[.agg #[u1, u2, u3], .agg #[v1, v2, v3]] w fun e w' => e = .returned (.bool true) ∧ Below w.heap.size w w' := by
  have H1 := hide h1
  have H2 := hide h2
  obtain ⟨s1, sc1, rfl⟩ := h1.1.slice
  obtain ⟨p1, pc1, rfl⟩ := h1.2.1.slice
  obtain ⟨a1, ac1, rfl⟩ := h1.2.2.slice
  obtain ⟨s2, sc2, rfl⟩ := h2.1.slice
  obtain ⟨p2, pc2, rfl⟩ := h2.2.1.slice
  obtain ⟨a2, ac2, rfl⟩ := h2.2.2.slice
  clear h1 h2
  go_enter Try.func9, Try.ntmps9
  go_wp2_with fail
  obtain ⟨W0, hW0⟩ : ∃ W0, W0 = (w.alloc (.cells #[.slice s1 S.length sc1, .slice p1 P.length pc1, .slice a1 A.length ac1] 26)).alloc (.cells #[.slice s2 S.length sc2, .slice p2 P.length pc2, .slice a2 A.length ac2] 26) := ⟨_, rfl⟩
  have hb0 : Below w.heap.size w W0 := by rw [hW0]; exact ((Below.refl _ _).alloc (Nat.le_refl _) _).alloc (by simp) _
  have c0 : W0.cell? ⟨w.heap.size, 0, none⟩ = some (.slice s1 S.length sc1) := by rw [hW0]; simp
  have c1 : W0.cell? ⟨w.heap.size, 1, none⟩ = some (.slice p1 P.length pc1) := by rw [hW0]; simp
  have c2 : W0.cell? ⟨w.heap.size, 2, none⟩ = some (.slice a1 A.length ac1) := by rw [hW0]; simp
  have d0 : W0.cell? ⟨w.heap.size + 1, 0, none⟩ = some (.slice s2 S.length sc2) := by rw [hW0]; simp
  have d1 : W0.cell? ⟨w.heap.size + 1, 1, none⟩ = some (.slice p2 P.length pc2) := by rw [hW0]; simp
  have d2 : W0.cell? ⟨w.heap.size + 1, 2, none⟩ = some (.slice a2 A.length ac2) := by rw [hW0]; simp
  rw [← hW0]
  clear hW0
  have G1 := hide (H1.out.below hb0 (Nat.le_refl _))
  have G2 := hide (H2.out.below hb0 (Nat.le_refl _))
  have HB := hide hb0
  clear H1 H2 hb0
  go_loopw [5] (fun i wr => ∃ k : Nat, k ≤ S.length ∧ i = .int .i64 k ∧ ∃ n, wr = W0.drewN n) (fun i _ => S.length - (intOf i).toNat)
  case atStart => exact ⟨0, by omega, rfl, 0, rfl⟩
  case round =>
    obtain ⟨k, hk, rfl, n, hwn⟩ := hrel
    have HW := hide hwn
    have e : ∀ a : Addr, wr.cell? a = W0.cell? a := fun a => by rw [hwn]; rfl
    have c := (e _).trans c0
    have d := (e _).trans d0
    by_cases hlt : k < S.length
    · obtain ⟨b1, o1, z1, e1, hc1, -, g0, g1, g2⟩ := sw_at G1.out.1 hlt
      obtain ⟨b2, o2, z2, e2, hc2, -, k0, k1, k2⟩ := sw_at G2.out.1 hlt
      simp only [Value.slice.injEq, true_and] at e1 e2
      obtain ⟨rfl, rfl⟩ := e1
      obtain ⟨rfl, rfl⟩ := e2
      rw [← e] at g0 k0 g1 k1 g2 k2
      clear e hwn
      generalize (S.getD k sw0).i = x0 at *
      generalize (S.getD k sw0).t = x1 at *
      generalize (S.getD k sw0).g = x2 at *
      have heq := eqSw x0 x1 x2
      have hgd := guardSw
      go_wp2_with fail
      go_quiet (fail)
      go_wp2
      go_roundw
      case rel => exact ⟨k + 1, by omega, by go_num, _, by rw [HW.out]; exact World.drewN_drewN _ _ _⟩
      case measure => simp [intOf]; omega
    · clear e hwn
      go_wp2_with fail
      clear c d
      rename World => W1
      go_loopw [6] (fun i wr => ∃ k : Nat, k ≤ P.length ∧ i = .int .i64 k ∧ ∃ n, wr = W0.drewN n) (fun i _ => P.length - (intOf i).toNat)
      case atStart => exact ⟨0, by omega, rfl, _, HW.out⟩
      case round =>
        obtain ⟨k, hk, rfl, n, hwn⟩ := hrel
        have HW := hide hwn
        have e : ∀ a : Addr, wr.cell? a = W0.cell? a := fun a => by rw [hwn]; rfl
        have c := (e _).trans c1
        have d := (e _).trans d1
        by_cases hlt : k < P.length
        · obtain ⟨b1, o1, z1, e1, hc1, -, g0, g1, g2, g3, g4⟩ := pr_at G1.out.2.1 hlt
          obtain ⟨b2, o2, z2, e2, hc2, -, k0, k1, k2, k3, k4⟩ := pr_at G2.out.2.1 hlt
          simp only [Value.slice.injEq, true_and] at e1 e2
          obtain ⟨rfl, rfl⟩ := e1
          obtain ⟨rfl, rfl⟩ := e2
          rw [← e] at g0 k0 g1 k1 g2 k2 g3 k3 g4 k4
          clear e hwn
          generalize (P.getD k pr0).i = x0 at *
          generalize (P.getD k pr0).s = x1 at *
          generalize (P.getD k pr0).m = x2 at *
          generalize (P.getD k pr0).p = x3 at *
          generalize (P.getD k pr0).c = x4 at *
          have heq := eqPr x0 x1 x2 x3 x4
          have hgd := guardPr
          go_wp2_with fail
          go_quiet (fail)
          go_wp2
          go_roundw
          case rel => exact ⟨k + 1, by omega, by go_num, _, by rw [HW.out]; exact World.drewN_drewN _ _ _⟩
          case measure => simp [intOf]; omega
        · clear e hwn
          go_wp2_with fail
          clear c d
          rename World => W2
          go_loopw [7] (fun i wr => ∃ k : Nat, k ≤ A.length ∧ i = .int .i64 k ∧ ∃ n, wr = W0.drewN n) (fun i _ => A.length - (intOf i).toNat)
          case atStart => exact ⟨0, by omega, rfl, _, HW.out⟩
          case round =>
            obtain ⟨k, hk, rfl, n, hwn⟩ := hrel
            have HW := hide hwn
            have e : ∀ a : Addr, wr.cell? a = W0.cell? a := fun a => by rw [hwn]; rfl
            have c := (e _).trans c2
            have d := (e _).trans d2
            by_cases hlt : k < A.length
            · obtain ⟨b1, o1, z1, e1, hc1, -, g0, g1, g2, g3, g4, g5, g6, g7, g8⟩ := ac_at G1.out.2.2 hlt
              obtain ⟨b2, o2, z2, e2, hc2, -, k0, k1, k2, k3, k4, k5, k6, k7, k8⟩ := ac_at G2.out.2.2 hlt
              simp only [Value.slice.injEq, true_and] at e1 e2
              obtain ⟨rfl, rfl⟩ := e1
              obtain ⟨rfl, rfl⟩ := e2
              rw [← e] at g0 k0 g1 k1 g2 k2 g3 k3 g4 k4 g5 k5 g6 k6 g7 k7 g8 k8
              clear e hwn
              generalize (A.getD k ac0).s = x0 at *
              generalize (A.getD k ac0).p = x1 at *
              generalize (A.getD k ac0).n = x2 at *
              generalize (A.getD k ac0).src = x3 at *
              generalize (A.getD k ac0).sb = x4 at *
              generalize (A.getD k ac0).dst = x5 at *
              generalize (A.getD k ac0).db = x6 at *
              generalize (A.getD k ac0).o = x7 at *
              generalize (A.getD k ac0).d = x8 at *
              have heq := eqAc x0 x1 x2 x3 x4 x5 x6 x7 x8
              have hgd := guardAc
              go_wp2_with fail
              go_quiet (fail)
              go_wp2
              go_roundw
              case rel => exact ⟨k + 1, by omega, by go_num, _, by rw [HW.out]; exact World.drewN_drewN _ _ _⟩
              case measure => simp [intOf]; omega
            · clear e hwn
              go_wp2_with fail
              go_ret
              exact ⟨rfl, by rw [HW.out]; exact drewN_below HB.out _⟩

end Go.Proofs.Ytonhfgdnkkkikad
