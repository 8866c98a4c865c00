/-
  '==' of a sent thing with itself; what the law's sameSent answers at two rows that hold the same.
-/
import Derived.Test.YtgkdmmfogibbjabFn
import Derived.Laws.StructEq
import Derived.ChangeKeysEq
namespace Go.Proofs.Ytgkdmmfogibbjab
open Go.RowKit
set_option linter.unusedVariables false
set_option maxRecDepth 100000

theorem infoI : (Try.prog.info? 3).map (fun i => (i.zero, i.size, i.bytes)) = some (some (.int .i64 0), 1, 8) := by kernel_rfl

theorem eqArr (f0 f1 f2 f3 f4 f5 f6 f7 f8 f9 : Int) (w : World) : (Op.equalIn 9998 40 (.agg #[.int .i64 f0, .int .i64 f1, .int .i64 f2, .int .i64 f3, .int .i64 f4, .int .i64 f5, .int .i64 f6, .int .i64 f7, .int .i64 f8, .int .i64 f9]) (.agg #[.int .i64 f0, .int .i64 f1, .int .i64 f2, .int .i64 f3, .int .i64 f4, .int .i64 f5, .int .i64 f6, .int .i64 f7, .int .i64 f8, .int .i64 f9])).run Try.prog w = .ok true w := by
  obtain ⟨i0, hi, hz0, hz1, hz2⟩ := info_parts infoI
  have hc : Try.prog.cellsOf 3 = 1 := by kernel_rfl
  rw [show (9998 : Nat) = 9997 + 1 from rfl, run_equalIn_array w 9997 _ _ Try.underlying40 hi, hc]
  simp only [show List.range 10 = [0, 1, 2, 3, 4, 5, 6, 7, 8, 9] from rfl, Op.eqItems]
  go_simp
theorem eqPkt (f0 f1 f2 f3 f4 f5 f6 f7 f8 f9 : Int) (body : ByteArray) (w : World) : (Op.equalIn 9999 42 (pkt f0 f1 f2 f3 f4 f5 f6 f7 f8 f9 body) (pkt f0 f1 f2 f3 f4 f5 f6 f7 f8 f9 body)).run Try.prog w = .ok true w := by
  have hS : Try.prog.underlying 42 = some (.struct (Try.prog.fieldsOf 42)) := by kernel_rfl
  have hp : Try.prog.stoodInHeld 42 = false := by kernel_rfl
  have ha := eqArr f0 f1 f2 f3 f4 f5 f6 f7 f8 f9
  rw [show (9999 : Nat) = 9998 + 1 from rfl, run_equalIn_agg w 9998 42 _ _ hS hp]
  simp only [Program.fieldsOf, Try.underlying42]
  go_simp
theorem eqSent (k n f0 f1 f2 f3 f4 f5 f6 f7 f8 f9 : Int) (body : ByteArray) (w : World) : (Op.equalIn 10000 72 (.agg #[.int .i64 k, .int .i64 n, .int .i64 f0, .int .i64 f1, .int .i64 f2, .int .i64 f3, .int .i64 f4, .int .i64 f5, .int .i64 f6, .int .i64 f7, .int .i64 f8, .int .i64 f9, .string body]) (.agg #[.int .i64 k, .int .i64 n, .int .i64 f0, .int .i64 f1, .int .i64 f2, .int .i64 f3, .int .i64 f4, .int .i64 f5, .int .i64 f6, .int .i64 f7, .int .i64 f8, .int .i64 f9, .string body])).run Try.prog w = .ok true w := by
  have hS : Try.prog.underlying 72 = some (.struct (Try.prog.fieldsOf 72)) := by kernel_rfl
  have hp : Try.prog.stoodInHeld 72 = false := by kernel_rfl
  have ha := eqPkt f0 f1 f2 f3 f4 f5 f6 f7 f8 f9 body
  rw [show (10000 : Nat) = 9999 + 1 from rfl, run_equalIn_agg w 9999 72 _ _ hS hp]
  simp only [Program.fieldsOf, Try.underlying72]
  go_simp
theorem guardSent : Try.prog.eqGuardType Try.prog.depth 72 = false := by kernel_rfl

theorem S_length (body : ByteArray) (l : List Sn) : (S body l).length = 13 * l.length := by
  induction l with
  | nil => rfl
  | cons x r ih => simp [S] at ih ⊢; omega
def sn0 : Sn := ⟨0, 0, []⟩
theorem S_at (body : ByteArray) : ∀ (l : List Sn) (i j : Nat), i < l.length → j < 13 → (S body l)[i * 13 + j]? = (S body [l.getD i sn0])[j]?
  | [], i, _, h, _ => by simp at h
  | x :: r, 0, j, _, hj => by
    simp only [Nat.zero_mul, Nat.zero_add, List.getD_cons_zero]
    rw [show S body (x :: r) = S body [x] ++ S body r by simp [S]]
    rw [List.getElem?_append_left (by simpa [S] using hj)]
  | x :: r, i + 1, j, h, hj => by
    have ih := S_at body r i j (by simpa using h) hj
    rw [List.getD_cons_succ, ← ih]
    rw [show S body (x :: r) = S body [x] ++ S body r by simp [S]]
    rw [List.getElem?_append_right (by simp [S]; omega)]
    congr 1
    simp [S]
    omega
/-- What a row of sent things holds, cell by cell. -/
theorem own_sent {w : World} {B g cap : Nat} {body : ByteArray} {l : List Sn} (h : w.ownsRow B 72 13 (.slice (some ⟨g, 0, none⟩) l.length cap) l.length (S body l)) {i : Nat} (hi : i < l.length) (j : Nat) (hj : j < 13) :
    w.cell? ⟨g, i * 13 + j, none⟩ = (S body [l.getD i sn0])[j]? := by
  rw [h.cellAt _ (by omega), S_at body l i j hi hj]

set_option maxHeartbeats 4000000 in
theorem sameSent_any (u v : Value) (l : List Sn) (body : ByteArray) (B B' : Nat) (w : World) (hu : w.ownsRow B 72 13 u l.length (S body l)) (hv : w.ownsRow B' 72 13 v l.length (S body l)) (hl : l.length ≤ 1000000) :
    Calls Try.prog 20 #[u, v] w fun e w' => e = .returned (.bool true) ∧ Below w.heap.size w w' := by
  have HU := hide hu
  have HV := hide hv
  obtain ⟨ua, uc, rfl, huc, hug⟩ : ∃ oo oc, u = .slice oo l.length oc ∧ l.length ≤ oc ∧ (0 < l.length → ∃ g, oo = some ⟨g, 0, none⟩) := by
    obtain ⟨_, ⟨rfl, h0⟩ | ⟨g, cap, cur, rfl, _, _, hc, _⟩⟩ := hu
    · exact ⟨none, 0, by rw [h0], by omega, fun h => absurd h (by omega)⟩
    · exact ⟨_, cap, rfl, hc, fun _ => ⟨g, rfl⟩⟩
  obtain ⟨va, vc, rfl, hvc, hvg⟩ : ∃ oo oc, v = .slice oo l.length oc ∧ l.length ≤ oc ∧ (0 < l.length → ∃ g, oo = some ⟨g, 0, none⟩) := by
    obtain ⟨_, ⟨rfl, h0⟩ | ⟨g, cap, cur, rfl, _, _, hc, _⟩⟩ := hv
    · exact ⟨none, 0, by rw [h0], by omega, fun h => absurd h (by omega)⟩
    · exact ⟨_, cap, rfl, hc, fun _ => ⟨g, rfl⟩⟩
  clear hu hv
  go_enter Try.func20, Try.ntmps20
  go_wp2_with fail
  go_loopw [5] (fun i wr => ∃ k : Nat, k ≤ l.length ∧ i = .int .i64 k ∧ Below w.heap.size w wr) (fun i _ => l.length - (intOf i).toNat)
  case atStart => exact ⟨0, by omega, rfl, Below.refl _ _⟩
  case round =>
    obtain ⟨k, hk, rfl, hbel⟩ := hrel
    by_cases hlt : k < l.length
    · obtain ⟨ug, rfl⟩ := hug (by omega)
      obtain ⟨vg, rfl⟩ := hvg (by omega)
      have a0 : w.cell? ⟨ug, k * 13, none⟩ = (S body [l.getD k sn0])[0]? := own_sent HU.out hlt 0 (by omega)
      have a1 : w.cell? ⟨ug, k * 13 + 1, none⟩ = (S body [l.getD k sn0])[1]? := own_sent HU.out hlt 1 (by omega)
      have a2 : w.cell? ⟨ug, k * 13 + 2, none⟩ = (S body [l.getD k sn0])[2]? := own_sent HU.out hlt 2 (by omega)
      have a3 : w.cell? ⟨ug, k * 13 + 3, none⟩ = (S body [l.getD k sn0])[3]? := own_sent HU.out hlt 3 (by omega)
      have a4 : w.cell? ⟨ug, k * 13 + 4, none⟩ = (S body [l.getD k sn0])[4]? := own_sent HU.out hlt 4 (by omega)
      have a5 : w.cell? ⟨ug, k * 13 + 5, none⟩ = (S body [l.getD k sn0])[5]? := own_sent HU.out hlt 5 (by omega)
      have a6 : w.cell? ⟨ug, k * 13 + 6, none⟩ = (S body [l.getD k sn0])[6]? := own_sent HU.out hlt 6 (by omega)
      have a7 : w.cell? ⟨ug, k * 13 + 7, none⟩ = (S body [l.getD k sn0])[7]? := own_sent HU.out hlt 7 (by omega)
      have a8 : w.cell? ⟨ug, k * 13 + 8, none⟩ = (S body [l.getD k sn0])[8]? := own_sent HU.out hlt 8 (by omega)
      have a9 : w.cell? ⟨ug, k * 13 + 9, none⟩ = (S body [l.getD k sn0])[9]? := own_sent HU.out hlt 9 (by omega)
      have a10 : w.cell? ⟨ug, k * 13 + 10, none⟩ = (S body [l.getD k sn0])[10]? := own_sent HU.out hlt 10 (by omega)
      have a11 : w.cell? ⟨ug, k * 13 + 11, none⟩ = (S body [l.getD k sn0])[11]? := own_sent HU.out hlt 11 (by omega)
      have a12 : w.cell? ⟨ug, k * 13 + 12, none⟩ = (S body [l.getD k sn0])[12]? := own_sent HU.out hlt 12 (by omega)
      have b0 : w.cell? ⟨vg, k * 13, none⟩ = (S body [l.getD k sn0])[0]? := own_sent HV.out hlt 0 (by omega)
      have b1 : w.cell? ⟨vg, k * 13 + 1, none⟩ = (S body [l.getD k sn0])[1]? := own_sent HV.out hlt 1 (by omega)
      have b2 : w.cell? ⟨vg, k * 13 + 2, none⟩ = (S body [l.getD k sn0])[2]? := own_sent HV.out hlt 2 (by omega)
      have b3 : w.cell? ⟨vg, k * 13 + 3, none⟩ = (S body [l.getD k sn0])[3]? := own_sent HV.out hlt 3 (by omega)
      have b4 : w.cell? ⟨vg, k * 13 + 4, none⟩ = (S body [l.getD k sn0])[4]? := own_sent HV.out hlt 4 (by omega)
      have b5 : w.cell? ⟨vg, k * 13 + 5, none⟩ = (S body [l.getD k sn0])[5]? := own_sent HV.out hlt 5 (by omega)
      have b6 : w.cell? ⟨vg, k * 13 + 6, none⟩ = (S body [l.getD k sn0])[6]? := own_sent HV.out hlt 6 (by omega)
      have b7 : w.cell? ⟨vg, k * 13 + 7, none⟩ = (S body [l.getD k sn0])[7]? := own_sent HV.out hlt 7 (by omega)
      have b8 : w.cell? ⟨vg, k * 13 + 8, none⟩ = (S body [l.getD k sn0])[8]? := own_sent HV.out hlt 8 (by omega)
      have b9 : w.cell? ⟨vg, k * 13 + 9, none⟩ = (S body [l.getD k sn0])[9]? := own_sent HV.out hlt 9 (by omega)
      have b10 : w.cell? ⟨vg, k * 13 + 10, none⟩ = (S body [l.getD k sn0])[10]? := own_sent HV.out hlt 10 (by omega)
      have b11 : w.cell? ⟨vg, k * 13 + 11, none⟩ = (S body [l.getD k sn0])[11]? := own_sent HV.out hlt 11 (by omega)
      have b12 : w.cell? ⟨vg, k * 13 + 12, none⟩ = (S body [l.getD k sn0])[12]? := own_sent HV.out hlt 12 (by omega)
      generalize l.getD k sn0 = x at *
      simp only [S, List.flatMap_cons, List.flatMap_nil, List.append_nil, List.getElem?_cons_zero, List.getElem?_cons_succ] at a0 a1 a2 a3 a4 a5 a6 a7 a8 a9 a10 a11 a12 b0 b1 b2 b3 b4 b5 b6 b7 b8 b9 b10 b11 b12
      replace a0 := cell_below a0 hbel (Nat.le_refl _)
      replace a1 := cell_below a1 hbel (Nat.le_refl _)
      replace a2 := cell_below a2 hbel (Nat.le_refl _)
      replace a3 := cell_below a3 hbel (Nat.le_refl _)
      replace a4 := cell_below a4 hbel (Nat.le_refl _)
      replace a5 := cell_below a5 hbel (Nat.le_refl _)
      replace a6 := cell_below a6 hbel (Nat.le_refl _)
      replace a7 := cell_below a7 hbel (Nat.le_refl _)
      replace a8 := cell_below a8 hbel (Nat.le_refl _)
      replace a9 := cell_below a9 hbel (Nat.le_refl _)
      replace a10 := cell_below a10 hbel (Nat.le_refl _)
      replace a11 := cell_below a11 hbel (Nat.le_refl _)
      replace a12 := cell_below a12 hbel (Nat.le_refl _)
      replace b0 := cell_below b0 hbel (Nat.le_refl _)
      replace b1 := cell_below b1 hbel (Nat.le_refl _)
      replace b2 := cell_below b2 hbel (Nat.le_refl _)
      replace b3 := cell_below b3 hbel (Nat.le_refl _)
      replace b4 := cell_below b4 hbel (Nat.le_refl _)
      replace b5 := cell_below b5 hbel (Nat.le_refl _)
      replace b6 := cell_below b6 hbel (Nat.le_refl _)
      replace b7 := cell_below b7 hbel (Nat.le_refl _)
      replace b8 := cell_below b8 hbel (Nat.le_refl _)
      replace b9 := cell_below b9 hbel (Nat.le_refl _)
      replace b10 := cell_below b10 hbel (Nat.le_refl _)
      replace b11 := cell_below b11 hbel (Nat.le_refl _)
      replace b12 := cell_below b12 hbel (Nat.le_refl _)
      obtain ⟨xk, xn, xF⟩ := x
      simp only at a0 a1 a2 a3 a4 a5 a6 a7 a8 a9 a10 a11 a12 b0 b1 b2 b3 b4 b5 b6 b7 b8 b9 b10 b11 b12
      generalize xF.getD 0 0 = f0 at *
      generalize xF.getD 1 0 = f1 at *
      generalize xF.getD 2 0 = f2 at *
      generalize xF.getD 3 0 = f3 at *
      generalize xF.getD 4 0 = f4 at *
      generalize xF.getD 5 0 = f5 at *
      generalize xF.getD 6 0 = f6 at *
      generalize xF.getD 7 0 = f7 at *
      generalize xF.getD 8 0 = f8 at *
      generalize xF.getD 9 0 = f9 at *
      have heq := eqSent xk xn f0 f1 f2 f3 f4 f5 f6 f7 f8 f9 body
      have hgd := guardSent
      go_wp2_with fail
      go_quiet (fail)
      go_wp2
      go_roundw
      case rel => exact ⟨k + 1, by omega, by go_num, below_drewN hbel _⟩
      case measure => simp [intOf]; omega
    · go_wp2_with fail
      go_ret
      exact ⟨rfl, hbel⟩

end Go.Proofs.Ytgkdmmfogibbjab
