/-
  What pipe.Packet answers.
-/
import Derived.Test.YtonhfgdnkkkikadFp
import Derived.Test.YtonhfgdnkkkikadCn
import Derived.Laws.IdiomCopy
namespace Go.Proofs.Ytonhfgdnkkkikad
open Go.RowKit
set_option linter.unusedVariables false
set_option maxRecDepth 100000

/-- Cells that were filled. -/
theorem fill_at {w : World} {b : Nat} {vs : List Value} (h : ∀ j, j < vs.length → (w.cell? ⟨b, j, none⟩).isSome = true) {j : Nat} {v : Value} (hv : vs[j]? = some v) : (w.setCells b 0 vs).cell? ⟨b, j, none⟩ = some v := by
  have hj : j < vs.length := by
    rcases Nat.lt_or_ge j vs.length with h' | h'
    · exact h'
    · simp [List.getElem?_eq_none h'] at hv
  have := World.cell?_setCells_in b vs 0 w (fun k hk => by rw [Nat.zero_add]; exact h k hk) j hj
  rw [Nat.zero_add] at this
  rw [this]
  rw [List.getElem?_eq_getElem hj] at hv
  exact hv
theorem fill_below {B b : Nat} {a : World} (hb : B ≤ b) : ∀ (vs : List Value) (o : Nat) (w : World), Below B a w → Below B a (w.setCells b o vs)
  | [], _, _, h => h
  | v :: vs, o, w, h => fill_below hb vs (o + 1) _ (h.setCell hb v)
theorem new_cell_range (W : World) (n : Nat) (h : W.heap.size = n) (cs : Array Value) (t : TypeId) (j : Nat) (hj : j < cs.size) : ((W.alloc (.cells cs t)).cell? ⟨n, j, none⟩).isSome = true := by
  rw [new_cell W n h cs t j cs[j] (by simp [hj])]
  rfl

/-- P4.1: what Packet refuses. -/
def pkE (dst src kind ips ipd ttl port : Int) (n : Nat) (i net t : Int) : Int :=
  if fault dst src kind ips ipd ttl port n = 0 then pktFault [i, dst, src, kind, ips, ipd, ttl, port, net, t] n else fault dst src kind ips ipd ttl port n
abbrev pkZ : Value := pkt 0 0 0 0 0 0 0 0 0 0 ⟨#[]⟩

set_option maxHeartbeats 4000000 in
theorem pPacket_any (dst src kind ips ipd ttl port : Int) (body : ByteArray) (i net t : Int) (w : World) (hb : body.size ≤ maxLen) :
    Calls Try.prog 17 #[fr dst src kind ips ipd ttl port body, .int .i64 i, .int .i64 net, .int .i64 t] w fun e w' => e = .returned (.tuple #[if pkE dst src kind ips ipd ttl port body.size i net t = 0 then pkt i dst src kind ips ipd ttl port net t body else pkZ, .int .i64 (pkE dst src kind ips ipd ttl port body.size i net t)]) ∧ Below w.heap.size w w' := by
  have HE : Hid (pkE dst src kind ips ipd ttl port body.size i net t = if fault dst src kind ips ipd ttl port body.size = 0 then pktFault [i, dst, src, kind, ips, ipd, ttl, port, net, t] body.size else fault dst src kind ips ipd ttl port body.size) := rfl
  generalize pkE dst src kind ips ipd ttl port body.size i net t = E at *
  have H1 := hide (fun W => check_any dst src kind ips ipd ttl port body W hb)
  have H2 := hide (fun W => checkPacket_any i dst src kind ips ipd ttl port net t body W hb)
  generalize fault dst src kind ips ipd ttl port body.size = G at *
  generalize pktFault [i, dst, src, kind, ips, ipd, ttl, port, net, t] body.size = K at *
  go_enter Try.func17, Try.ntmps17
  go_wp2_with fail
  obtain ⟨W0, hW0⟩ : ∃ W0, W0 = (w.alloc (.cells #[.int .i64 dst, .int .i64 src, .int .i64 kind, .int .i64 ips, .int .i64 ipd, .int .i64 ttl, .int .i64 port, .string body] 37)).alloc (.cells #[.int .i64 0, .int .i64 0, .int .i64 0, .int .i64 0, .int .i64 0, .int .i64 0, .int .i64 0, .int .i64 0, .int .i64 0, .int .i64 0, .string ⟨#[]⟩] 55) := ⟨_, rfl⟩
  have hb0 : Below w.heap.size w W0 := by rw [hW0]; exact ((Below.refl _ w).alloc (Nat.le_refl _) _).alloc (by simp) _
  have hz0 : W0.heap.size = w.heap.size + 1 + 1 := by rw [hW0]; simp
  have c0 : W0.cell? ⟨w.heap.size, 0, none⟩ = some (.int .i64 dst) := by rw [hW0]; exact old_cell (new_cell w _ rfl _ _ _ _ rfl) _
  have c1 : W0.cell? ⟨w.heap.size, 1, none⟩ = some (.int .i64 src) := by rw [hW0]; exact old_cell (new_cell w _ rfl _ _ _ _ rfl) _
  have c2 : W0.cell? ⟨w.heap.size, 2, none⟩ = some (.int .i64 kind) := by rw [hW0]; exact old_cell (new_cell w _ rfl _ _ _ _ rfl) _
  have c3 : W0.cell? ⟨w.heap.size, 3, none⟩ = some (.int .i64 ips) := by rw [hW0]; exact old_cell (new_cell w _ rfl _ _ _ _ rfl) _
  have c4 : W0.cell? ⟨w.heap.size, 4, none⟩ = some (.int .i64 ipd) := by rw [hW0]; exact old_cell (new_cell w _ rfl _ _ _ _ rfl) _
  have c5 : W0.cell? ⟨w.heap.size, 5, none⟩ = some (.int .i64 ttl) := by rw [hW0]; exact old_cell (new_cell w _ rfl _ _ _ _ rfl) _
  have c6 : W0.cell? ⟨w.heap.size, 6, none⟩ = some (.int .i64 port) := by rw [hW0]; exact old_cell (new_cell w _ rfl _ _ _ _ rfl) _
  have c7 : W0.cell? ⟨w.heap.size, 7, none⟩ = some (.string body) := by rw [hW0]; exact old_cell (new_cell w _ rfl _ _ _ _ rfl) _
  have r0 : W0.cell? ⟨w.heap.size + 1, 0, none⟩ = some (.int .i64 0) := by rw [hW0]; exact new_cell _ _ (by simp) _ _ _ _ rfl
  have r1 : W0.cell? ⟨w.heap.size + 1, 1, none⟩ = some (.int .i64 0) := by rw [hW0]; exact new_cell _ _ (by simp) _ _ _ _ rfl
  have r2 : W0.cell? ⟨w.heap.size + 1, 2, none⟩ = some (.int .i64 0) := by rw [hW0]; exact new_cell _ _ (by simp) _ _ _ _ rfl
  have r3 : W0.cell? ⟨w.heap.size + 1, 3, none⟩ = some (.int .i64 0) := by rw [hW0]; exact new_cell _ _ (by simp) _ _ _ _ rfl
  have r4 : W0.cell? ⟨w.heap.size + 1, 4, none⟩ = some (.int .i64 0) := by rw [hW0]; exact new_cell _ _ (by simp) _ _ _ _ rfl
  have r5 : W0.cell? ⟨w.heap.size + 1, 5, none⟩ = some (.int .i64 0) := by rw [hW0]; exact new_cell _ _ (by simp) _ _ _ _ rfl
  have r6 : W0.cell? ⟨w.heap.size + 1, 6, none⟩ = some (.int .i64 0) := by rw [hW0]; exact new_cell _ _ (by simp) _ _ _ _ rfl
  have r7 : W0.cell? ⟨w.heap.size + 1, 7, none⟩ = some (.int .i64 0) := by rw [hW0]; exact new_cell _ _ (by simp) _ _ _ _ rfl
  have r8 : W0.cell? ⟨w.heap.size + 1, 8, none⟩ = some (.int .i64 0) := by rw [hW0]; exact new_cell _ _ (by simp) _ _ _ _ rfl
  have r9 : W0.cell? ⟨w.heap.size + 1, 9, none⟩ = some (.int .i64 0) := by rw [hW0]; exact new_cell _ _ (by simp) _ _ _ _ rfl
  have r10 : W0.cell? ⟨w.heap.size + 1, 10, none⟩ = some (.string ⟨#[]⟩) := by rw [hW0]; exact new_cell _ _ (by simp) _ _ _ _ rfl
  have z : ∀ j, W0.frozen? ⟨w.heap.size + 1, j, none⟩ = false := by rw [hW0]; simp
  rw [← hW0]
  clear hW0
  refine (unhide H1 _).mono ?_
  rintro e w1 ⟨rfl, hb1⟩
  have k1 := hb0.trans (hb1.mono hb0.size)
  have hz1 : w.heap.size + 1 + 1 ≤ w1.heap.size := by have := hb1.size; omega
  replace c0 := cell_beh c0 hb1 (Nat.le_refl _)
  replace c1 := cell_beh c1 hb1 (Nat.le_refl _)
  replace c2 := cell_beh c2 hb1 (Nat.le_refl _)
  replace c3 := cell_beh c3 hb1 (Nat.le_refl _)
  replace c4 := cell_beh c4 hb1 (Nat.le_refl _)
  replace c5 := cell_beh c5 hb1 (Nat.le_refl _)
  replace c6 := cell_beh c6 hb1 (Nat.le_refl _)
  replace c7 := cell_beh c7 hb1 (Nat.le_refl _)
  replace r0 := cell_beh r0 hb1 (Nat.le_refl _)
  replace r1 := cell_beh r1 hb1 (Nat.le_refl _)
  replace r2 := cell_beh r2 hb1 (Nat.le_refl _)
  replace r3 := cell_beh r3 hb1 (Nat.le_refl _)
  replace r4 := cell_beh r4 hb1 (Nat.le_refl _)
  replace r5 := cell_beh r5 hb1 (Nat.le_refl _)
  replace r6 := cell_beh r6 hb1 (Nat.le_refl _)
  replace r7 := cell_beh r7 hb1 (Nat.le_refl _)
  replace r8 := cell_beh r8 hb1 (Nat.le_refl _)
  replace r9 := cell_beh r9 hb1 (Nat.le_refl _)
  replace r10 := cell_beh r10 hb1 (Nat.le_refl _)
  replace z : ∀ j, w1.frozen? ⟨w.heap.size + 1, j, none⟩ = false := fun j => (hb1.frozen (p := ⟨w.heap.size + 1, j, none⟩) (by show w.heap.size + 1 < W0.heap.size; omega)).trans (z j)
  clear hb1 hb0 hz0 H1
  by_cases hG : ¬ G = 0
  · have hE : E = G := by rw [HE.out, if_neg hG]
    subst hE
    clear HE H2
    go_wp2_with fail
    have hS : (((((((((((w1.setCell ⟨w.heap.size + 1, 0, none⟩ (.int .i64 0)).setCell ⟨w.heap.size + 1, 1, none⟩ (.int .i64 0)).setCell ⟨w.heap.size + 1, 2, none⟩ (.int .i64 0)).setCell ⟨w.heap.size + 1, 3, none⟩ (.int .i64 0)).setCell ⟨w.heap.size + 1, 4, none⟩ (.int .i64 0)).setCell ⟨w.heap.size + 1, 5, none⟩ (.int .i64 0)).setCell ⟨w.heap.size + 1, 6, none⟩ (.int .i64 0)).setCell ⟨w.heap.size + 1, 7, none⟩ (.int .i64 0)).setCell ⟨w.heap.size + 1, 8, none⟩ (.int .i64 0)).setCell ⟨w.heap.size + 1, 9, none⟩ (.int .i64 0)).setCell ⟨w.heap.size + 1, 10, none⟩ (.string ⟨#[]⟩)) = w1.setCells (w.heap.size + 1) 0 [Value.int .i64 0, .int .i64 0, .int .i64 0, .int .i64 0, .int .i64 0, .int .i64 0, .int .i64 0, .int .i64 0, .int .i64 0, .int .i64 0, .string ⟨#[]⟩] := rfl
    have HB : Hid (Below w.heap.size w (((((((((((w1.setCell ⟨w.heap.size + 1, 0, none⟩ (.int .i64 0)).setCell ⟨w.heap.size + 1, 1, none⟩ (.int .i64 0)).setCell ⟨w.heap.size + 1, 2, none⟩ (.int .i64 0)).setCell ⟨w.heap.size + 1, 3, none⟩ (.int .i64 0)).setCell ⟨w.heap.size + 1, 4, none⟩ (.int .i64 0)).setCell ⟨w.heap.size + 1, 5, none⟩ (.int .i64 0)).setCell ⟨w.heap.size + 1, 6, none⟩ (.int .i64 0)).setCell ⟨w.heap.size + 1, 7, none⟩ (.int .i64 0)).setCell ⟨w.heap.size + 1, 8, none⟩ (.int .i64 0)).setCell ⟨w.heap.size + 1, 9, none⟩ (.int .i64 0)).setCell ⟨w.heap.size + 1, 10, none⟩ (.string ⟨#[]⟩))) := by rw [hS]; exact fill_below (Nat.le_succ _) _ _ _ (k1)
    have HI : Hid (∀ j, j < 11 → (w1.cell? ⟨w.heap.size + 1, j, none⟩).isSome = true) := fun j hj => by
      have hc : j = 0 ∨ j = 1 ∨ j = 2 ∨ j = 3 ∨ j = 4 ∨ j = 5 ∨ j = 6 ∨ j = 7 ∨ j = 8 ∨ j = 9 ∨ j = 10 := by omega
      rcases hc with rfl | rfl | rfl | rfl | rfl | rfl | rfl | rfl | rfl | rfl | rfl
      · rw [r0]; rfl
      · rw [r1]; rfl
      · rw [r2]; rfl
      · rw [r3]; rfl
      · rw [r4]; rfl
      · rw [r5]; rfl
      · rw [r6]; rfl
      · rw [r7]; rfl
      · rw [r8]; rfl
      · rw [r9]; rfl
      · rw [r10]; rfl
    have u0 : (((((((((((w1.setCell ⟨w.heap.size + 1, 0, none⟩ (.int .i64 0)).setCell ⟨w.heap.size + 1, 1, none⟩ (.int .i64 0)).setCell ⟨w.heap.size + 1, 2, none⟩ (.int .i64 0)).setCell ⟨w.heap.size + 1, 3, none⟩ (.int .i64 0)).setCell ⟨w.heap.size + 1, 4, none⟩ (.int .i64 0)).setCell ⟨w.heap.size + 1, 5, none⟩ (.int .i64 0)).setCell ⟨w.heap.size + 1, 6, none⟩ (.int .i64 0)).setCell ⟨w.heap.size + 1, 7, none⟩ (.int .i64 0)).setCell ⟨w.heap.size + 1, 8, none⟩ (.int .i64 0)).setCell ⟨w.heap.size + 1, 9, none⟩ (.int .i64 0)).setCell ⟨w.heap.size + 1, 10, none⟩ (.string ⟨#[]⟩)).cell? ⟨w.heap.size + 1, 0, none⟩ = some (.int .i64 0) := by rw [hS]; exact fill_at (vs := [Value.int .i64 0, .int .i64 0, .int .i64 0, .int .i64 0, .int .i64 0, .int .i64 0, .int .i64 0, .int .i64 0, .int .i64 0, .int .i64 0, .string ⟨#[]⟩]) HI.out rfl
    have u1 : (((((((((((w1.setCell ⟨w.heap.size + 1, 0, none⟩ (.int .i64 0)).setCell ⟨w.heap.size + 1, 1, none⟩ (.int .i64 0)).setCell ⟨w.heap.size + 1, 2, none⟩ (.int .i64 0)).setCell ⟨w.heap.size + 1, 3, none⟩ (.int .i64 0)).setCell ⟨w.heap.size + 1, 4, none⟩ (.int .i64 0)).setCell ⟨w.heap.size + 1, 5, none⟩ (.int .i64 0)).setCell ⟨w.heap.size + 1, 6, none⟩ (.int .i64 0)).setCell ⟨w.heap.size + 1, 7, none⟩ (.int .i64 0)).setCell ⟨w.heap.size + 1, 8, none⟩ (.int .i64 0)).setCell ⟨w.heap.size + 1, 9, none⟩ (.int .i64 0)).setCell ⟨w.heap.size + 1, 10, none⟩ (.string ⟨#[]⟩)).cell? ⟨w.heap.size + 1, 1, none⟩ = some (.int .i64 0) := by rw [hS]; exact fill_at (vs := [Value.int .i64 0, .int .i64 0, .int .i64 0, .int .i64 0, .int .i64 0, .int .i64 0, .int .i64 0, .int .i64 0, .int .i64 0, .int .i64 0, .string ⟨#[]⟩]) HI.out rfl
    have u2 : (((((((((((w1.setCell ⟨w.heap.size + 1, 0, none⟩ (.int .i64 0)).setCell ⟨w.heap.size + 1, 1, none⟩ (.int .i64 0)).setCell ⟨w.heap.size + 1, 2, none⟩ (.int .i64 0)).setCell ⟨w.heap.size + 1, 3, none⟩ (.int .i64 0)).setCell ⟨w.heap.size + 1, 4, none⟩ (.int .i64 0)).setCell ⟨w.heap.size + 1, 5, none⟩ (.int .i64 0)).setCell ⟨w.heap.size + 1, 6, none⟩ (.int .i64 0)).setCell ⟨w.heap.size + 1, 7, none⟩ (.int .i64 0)).setCell ⟨w.heap.size + 1, 8, none⟩ (.int .i64 0)).setCell ⟨w.heap.size + 1, 9, none⟩ (.int .i64 0)).setCell ⟨w.heap.size + 1, 10, none⟩ (.string ⟨#[]⟩)).cell? ⟨w.heap.size + 1, 2, none⟩ = some (.int .i64 0) := by rw [hS]; exact fill_at (vs := [Value.int .i64 0, .int .i64 0, .int .i64 0, .int .i64 0, .int .i64 0, .int .i64 0, .int .i64 0, .int .i64 0, .int .i64 0, .int .i64 0, .string ⟨#[]⟩]) HI.out rfl
    have u3 : (((((((((((w1.setCell ⟨w.heap.size + 1, 0, none⟩ (.int .i64 0)).setCell ⟨w.heap.size + 1, 1, none⟩ (.int .i64 0)).setCell ⟨w.heap.size + 1, 2, none⟩ (.int .i64 0)).setCell ⟨w.heap.size + 1, 3, none⟩ (.int .i64 0)).setCell ⟨w.heap.size + 1, 4, none⟩ (.int .i64 0)).setCell ⟨w.heap.size + 1, 5, none⟩ (.int .i64 0)).setCell ⟨w.heap.size + 1, 6, none⟩ (.int .i64 0)).setCell ⟨w.heap.size + 1, 7, none⟩ (.int .i64 0)).setCell ⟨w.heap.size + 1, 8, none⟩ (.int .i64 0)).setCell ⟨w.heap.size + 1, 9, none⟩ (.int .i64 0)).setCell ⟨w.heap.size + 1, 10, none⟩ (.string ⟨#[]⟩)).cell? ⟨w.heap.size + 1, 3, none⟩ = some (.int .i64 0) := by rw [hS]; exact fill_at (vs := [Value.int .i64 0, .int .i64 0, .int .i64 0, .int .i64 0, .int .i64 0, .int .i64 0, .int .i64 0, .int .i64 0, .int .i64 0, .int .i64 0, .string ⟨#[]⟩]) HI.out rfl
    have u4 : (((((((((((w1.setCell ⟨w.heap.size + 1, 0, none⟩ (.int .i64 0)).setCell ⟨w.heap.size + 1, 1, none⟩ (.int .i64 0)).setCell ⟨w.heap.size + 1, 2, none⟩ (.int .i64 0)).setCell ⟨w.heap.size + 1, 3, none⟩ (.int .i64 0)).setCell ⟨w.heap.size + 1, 4, none⟩ (.int .i64 0)).setCell ⟨w.heap.size + 1, 5, none⟩ (.int .i64 0)).setCell ⟨w.heap.size + 1, 6, none⟩ (.int .i64 0)).setCell ⟨w.heap.size + 1, 7, none⟩ (.int .i64 0)).setCell ⟨w.heap.size + 1, 8, none⟩ (.int .i64 0)).setCell ⟨w.heap.size + 1, 9, none⟩ (.int .i64 0)).setCell ⟨w.heap.size + 1, 10, none⟩ (.string ⟨#[]⟩)).cell? ⟨w.heap.size + 1, 4, none⟩ = some (.int .i64 0) := by rw [hS]; exact fill_at (vs := [Value.int .i64 0, .int .i64 0, .int .i64 0, .int .i64 0, .int .i64 0, .int .i64 0, .int .i64 0, .int .i64 0, .int .i64 0, .int .i64 0, .string ⟨#[]⟩]) HI.out rfl
    have u5 : (((((((((((w1.setCell ⟨w.heap.size + 1, 0, none⟩ (.int .i64 0)).setCell ⟨w.heap.size + 1, 1, none⟩ (.int .i64 0)).setCell ⟨w.heap.size + 1, 2, none⟩ (.int .i64 0)).setCell ⟨w.heap.size + 1, 3, none⟩ (.int .i64 0)).setCell ⟨w.heap.size + 1, 4, none⟩ (.int .i64 0)).setCell ⟨w.heap.size + 1, 5, none⟩ (.int .i64 0)).setCell ⟨w.heap.size + 1, 6, none⟩ (.int .i64 0)).setCell ⟨w.heap.size + 1, 7, none⟩ (.int .i64 0)).setCell ⟨w.heap.size + 1, 8, none⟩ (.int .i64 0)).setCell ⟨w.heap.size + 1, 9, none⟩ (.int .i64 0)).setCell ⟨w.heap.size + 1, 10, none⟩ (.string ⟨#[]⟩)).cell? ⟨w.heap.size + 1, 5, none⟩ = some (.int .i64 0) := by rw [hS]; exact fill_at (vs := [Value.int .i64 0, .int .i64 0, .int .i64 0, .int .i64 0, .int .i64 0, .int .i64 0, .int .i64 0, .int .i64 0, .int .i64 0, .int .i64 0, .string ⟨#[]⟩]) HI.out rfl
    have u6 : (((((((((((w1.setCell ⟨w.heap.size + 1, 0, none⟩ (.int .i64 0)).setCell ⟨w.heap.size + 1, 1, none⟩ (.int .i64 0)).setCell ⟨w.heap.size + 1, 2, none⟩ (.int .i64 0)).setCell ⟨w.heap.size + 1, 3, none⟩ (.int .i64 0)).setCell ⟨w.heap.size + 1, 4, none⟩ (.int .i64 0)).setCell ⟨w.heap.size + 1, 5, none⟩ (.int .i64 0)).setCell ⟨w.heap.size + 1, 6, none⟩ (.int .i64 0)).setCell ⟨w.heap.size + 1, 7, none⟩ (.int .i64 0)).setCell ⟨w.heap.size + 1, 8, none⟩ (.int .i64 0)).setCell ⟨w.heap.size + 1, 9, none⟩ (.int .i64 0)).setCell ⟨w.heap.size + 1, 10, none⟩ (.string ⟨#[]⟩)).cell? ⟨w.heap.size + 1, 6, none⟩ = some (.int .i64 0) := by rw [hS]; exact fill_at (vs := [Value.int .i64 0, .int .i64 0, .int .i64 0, .int .i64 0, .int .i64 0, .int .i64 0, .int .i64 0, .int .i64 0, .int .i64 0, .int .i64 0, .string ⟨#[]⟩]) HI.out rfl
    have u7 : (((((((((((w1.setCell ⟨w.heap.size + 1, 0, none⟩ (.int .i64 0)).setCell ⟨w.heap.size + 1, 1, none⟩ (.int .i64 0)).setCell ⟨w.heap.size + 1, 2, none⟩ (.int .i64 0)).setCell ⟨w.heap.size + 1, 3, none⟩ (.int .i64 0)).setCell ⟨w.heap.size + 1, 4, none⟩ (.int .i64 0)).setCell ⟨w.heap.size + 1, 5, none⟩ (.int .i64 0)).setCell ⟨w.heap.size + 1, 6, none⟩ (.int .i64 0)).setCell ⟨w.heap.size + 1, 7, none⟩ (.int .i64 0)).setCell ⟨w.heap.size + 1, 8, none⟩ (.int .i64 0)).setCell ⟨w.heap.size + 1, 9, none⟩ (.int .i64 0)).setCell ⟨w.heap.size + 1, 10, none⟩ (.string ⟨#[]⟩)).cell? ⟨w.heap.size + 1, 7, none⟩ = some (.int .i64 0) := by rw [hS]; exact fill_at (vs := [Value.int .i64 0, .int .i64 0, .int .i64 0, .int .i64 0, .int .i64 0, .int .i64 0, .int .i64 0, .int .i64 0, .int .i64 0, .int .i64 0, .string ⟨#[]⟩]) HI.out rfl
    have u8 : (((((((((((w1.setCell ⟨w.heap.size + 1, 0, none⟩ (.int .i64 0)).setCell ⟨w.heap.size + 1, 1, none⟩ (.int .i64 0)).setCell ⟨w.heap.size + 1, 2, none⟩ (.int .i64 0)).setCell ⟨w.heap.size + 1, 3, none⟩ (.int .i64 0)).setCell ⟨w.heap.size + 1, 4, none⟩ (.int .i64 0)).setCell ⟨w.heap.size + 1, 5, none⟩ (.int .i64 0)).setCell ⟨w.heap.size + 1, 6, none⟩ (.int .i64 0)).setCell ⟨w.heap.size + 1, 7, none⟩ (.int .i64 0)).setCell ⟨w.heap.size + 1, 8, none⟩ (.int .i64 0)).setCell ⟨w.heap.size + 1, 9, none⟩ (.int .i64 0)).setCell ⟨w.heap.size + 1, 10, none⟩ (.string ⟨#[]⟩)).cell? ⟨w.heap.size + 1, 8, none⟩ = some (.int .i64 0) := by rw [hS]; exact fill_at (vs := [Value.int .i64 0, .int .i64 0, .int .i64 0, .int .i64 0, .int .i64 0, .int .i64 0, .int .i64 0, .int .i64 0, .int .i64 0, .int .i64 0, .string ⟨#[]⟩]) HI.out rfl
    have u9 : (((((((((((w1.setCell ⟨w.heap.size + 1, 0, none⟩ (.int .i64 0)).setCell ⟨w.heap.size + 1, 1, none⟩ (.int .i64 0)).setCell ⟨w.heap.size + 1, 2, none⟩ (.int .i64 0)).setCell ⟨w.heap.size + 1, 3, none⟩ (.int .i64 0)).setCell ⟨w.heap.size + 1, 4, none⟩ (.int .i64 0)).setCell ⟨w.heap.size + 1, 5, none⟩ (.int .i64 0)).setCell ⟨w.heap.size + 1, 6, none⟩ (.int .i64 0)).setCell ⟨w.heap.size + 1, 7, none⟩ (.int .i64 0)).setCell ⟨w.heap.size + 1, 8, none⟩ (.int .i64 0)).setCell ⟨w.heap.size + 1, 9, none⟩ (.int .i64 0)).setCell ⟨w.heap.size + 1, 10, none⟩ (.string ⟨#[]⟩)).cell? ⟨w.heap.size + 1, 9, none⟩ = some (.int .i64 0) := by rw [hS]; exact fill_at (vs := [Value.int .i64 0, .int .i64 0, .int .i64 0, .int .i64 0, .int .i64 0, .int .i64 0, .int .i64 0, .int .i64 0, .int .i64 0, .int .i64 0, .string ⟨#[]⟩]) HI.out rfl
    have u10 : (((((((((((w1.setCell ⟨w.heap.size + 1, 0, none⟩ (.int .i64 0)).setCell ⟨w.heap.size + 1, 1, none⟩ (.int .i64 0)).setCell ⟨w.heap.size + 1, 2, none⟩ (.int .i64 0)).setCell ⟨w.heap.size + 1, 3, none⟩ (.int .i64 0)).setCell ⟨w.heap.size + 1, 4, none⟩ (.int .i64 0)).setCell ⟨w.heap.size + 1, 5, none⟩ (.int .i64 0)).setCell ⟨w.heap.size + 1, 6, none⟩ (.int .i64 0)).setCell ⟨w.heap.size + 1, 7, none⟩ (.int .i64 0)).setCell ⟨w.heap.size + 1, 8, none⟩ (.int .i64 0)).setCell ⟨w.heap.size + 1, 9, none⟩ (.int .i64 0)).setCell ⟨w.heap.size + 1, 10, none⟩ (.string ⟨#[]⟩)).cell? ⟨w.heap.size + 1, 10, none⟩ = some (.string ⟨#[]⟩) := by rw [hS]; exact fill_at (vs := [Value.int .i64 0, .int .i64 0, .int .i64 0, .int .i64 0, .int .i64 0, .int .i64 0, .int .i64 0, .int .i64 0, .int .i64 0, .int .i64 0, .string ⟨#[]⟩]) HI.out rfl
    refine bodyPost_ret (v := .tuple #[.agg #[.int .i64 0, .int .i64 0, .int .i64 0, .int .i64 0, .int .i64 0, .int .i64 0, .int .i64 0, .int .i64 0, .int .i64 0, .int .i64 0, .string ⟨#[]⟩], .int .i64 E]) ?_ rfl ⟨by first | rfl | rw [if_neg hG], HB.out⟩
    clear HB HI hS r0 r1 r2 r3 r4 r5 r6 r7 r8 r9 r10
    generalize (((((((((((w1.setCell ⟨w.heap.size + 1, 0, none⟩ (.int .i64 0)).setCell ⟨w.heap.size + 1, 1, none⟩ (.int .i64 0)).setCell ⟨w.heap.size + 1, 2, none⟩ (.int .i64 0)).setCell ⟨w.heap.size + 1, 3, none⟩ (.int .i64 0)).setCell ⟨w.heap.size + 1, 4, none⟩ (.int .i64 0)).setCell ⟨w.heap.size + 1, 5, none⟩ (.int .i64 0)).setCell ⟨w.heap.size + 1, 6, none⟩ (.int .i64 0)).setCell ⟨w.heap.size + 1, 7, none⟩ (.int .i64 0)).setCell ⟨w.heap.size + 1, 8, none⟩ (.int .i64 0)).setCell ⟨w.heap.size + 1, 9, none⟩ (.int .i64 0)).setCell ⟨w.heap.size + 1, 10, none⟩ (.string ⟨#[]⟩)) = W at *
    simp [results, Try.results17, go_sem, u0, u1, u2, u3, u4, u5, u6, u7, u8, u9, u10]
  · have hG0 : G = 0 := by omega
    have hE : E = K := by rw [HE.out, if_pos hG0]
    subst hE
    subst hG0
    clear HE hG
    have hq1 : w.heap.size < w1.heap.size := by omega
    have hq2 : ¬ w.heap.size = w1.heap.size := by omega
    go_wp2_with fail
    obtain ⟨W2, hW2⟩ : ∃ W2, W2 = (w1.alloc (.cells #[.int .i64 i, .int .i64 dst, .int .i64 src, .int .i64 kind, .int .i64 ips, .int .i64 ipd, .int .i64 ttl, .int .i64 port, .int .i64 net, .int .i64 t] 53)).alloc (.cells #[.int .i64 i, .int .i64 dst, .int .i64 src, .int .i64 kind, .int .i64 ips, .int .i64 ipd, .int .i64 ttl, .int .i64 port, .int .i64 net, .int .i64 t, .string body] 55) := ⟨_, rfl⟩
    have k2 : Below w.heap.size w W2 := by rw [hW2]; exact (k1.alloc (by omega) _).alloc (by simp; omega) _
    have hz2 : W2.heap.size = w1.heap.size + 1 + 1 := by rw [hW2]; simp
    have p0 : W2.cell? ⟨w1.heap.size + 1, 0, none⟩ = some (.int .i64 i) := by rw [hW2]; exact new_cell _ _ (by simp) _ _ _ _ rfl
    have p1 : W2.cell? ⟨w1.heap.size + 1, 1, none⟩ = some (.int .i64 dst) := by rw [hW2]; exact new_cell _ _ (by simp) _ _ _ _ rfl
    have p2 : W2.cell? ⟨w1.heap.size + 1, 2, none⟩ = some (.int .i64 src) := by rw [hW2]; exact new_cell _ _ (by simp) _ _ _ _ rfl
    have p3 : W2.cell? ⟨w1.heap.size + 1, 3, none⟩ = some (.int .i64 kind) := by rw [hW2]; exact new_cell _ _ (by simp) _ _ _ _ rfl
    have p4 : W2.cell? ⟨w1.heap.size + 1, 4, none⟩ = some (.int .i64 ips) := by rw [hW2]; exact new_cell _ _ (by simp) _ _ _ _ rfl
    have p5 : W2.cell? ⟨w1.heap.size + 1, 5, none⟩ = some (.int .i64 ipd) := by rw [hW2]; exact new_cell _ _ (by simp) _ _ _ _ rfl
    have p6 : W2.cell? ⟨w1.heap.size + 1, 6, none⟩ = some (.int .i64 ttl) := by rw [hW2]; exact new_cell _ _ (by simp) _ _ _ _ rfl
    have p7 : W2.cell? ⟨w1.heap.size + 1, 7, none⟩ = some (.int .i64 port) := by rw [hW2]; exact new_cell _ _ (by simp) _ _ _ _ rfl
    have p8 : W2.cell? ⟨w1.heap.size + 1, 8, none⟩ = some (.int .i64 net) := by rw [hW2]; exact new_cell _ _ (by simp) _ _ _ _ rfl
    have p9 : W2.cell? ⟨w1.heap.size + 1, 9, none⟩ = some (.int .i64 t) := by rw [hW2]; exact new_cell _ _ (by simp) _ _ _ _ rfl
    have p10 : W2.cell? ⟨w1.heap.size + 1, 10, none⟩ = some (.string body) := by rw [hW2]; exact new_cell _ _ (by simp) _ _ _ _ rfl
    replace r0 : W2.cell? ⟨w.heap.size + 1, 0, none⟩ = some (.int .i64 0) := by rw [hW2]; exact old_cell (old_cell r0 _) _
    replace r1 : W2.cell? ⟨w.heap.size + 1, 1, none⟩ = some (.int .i64 0) := by rw [hW2]; exact old_cell (old_cell r1 _) _
    replace r2 : W2.cell? ⟨w.heap.size + 1, 2, none⟩ = some (.int .i64 0) := by rw [hW2]; exact old_cell (old_cell r2 _) _
    replace r3 : W2.cell? ⟨w.heap.size + 1, 3, none⟩ = some (.int .i64 0) := by rw [hW2]; exact old_cell (old_cell r3 _) _
    replace r4 : W2.cell? ⟨w.heap.size + 1, 4, none⟩ = some (.int .i64 0) := by rw [hW2]; exact old_cell (old_cell r4 _) _
    replace r5 : W2.cell? ⟨w.heap.size + 1, 5, none⟩ = some (.int .i64 0) := by rw [hW2]; exact old_cell (old_cell r5 _) _
    replace r6 : W2.cell? ⟨w.heap.size + 1, 6, none⟩ = some (.int .i64 0) := by rw [hW2]; exact old_cell (old_cell r6 _) _
    replace r7 : W2.cell? ⟨w.heap.size + 1, 7, none⟩ = some (.int .i64 0) := by rw [hW2]; exact old_cell (old_cell r7 _) _
    replace r8 : W2.cell? ⟨w.heap.size + 1, 8, none⟩ = some (.int .i64 0) := by rw [hW2]; exact old_cell (old_cell r8 _) _
    replace r9 : W2.cell? ⟨w.heap.size + 1, 9, none⟩ = some (.int .i64 0) := by rw [hW2]; exact old_cell (old_cell r9 _) _
    replace r10 : W2.cell? ⟨w.heap.size + 1, 10, none⟩ = some (.string ⟨#[]⟩) := by rw [hW2]; exact old_cell (old_cell r10 _) _
    replace z : ∀ j, W2.frozen? ⟨w.heap.size + 1, j, none⟩ = false := fun j => by rw [hW2, (((Below.refl w1.heap.size w1).alloc (Nat.le_refl _) _).alloc (by simp) _).frozen (p := ⟨w.heap.size + 1, j, none⟩) (by show w.heap.size + 1 < w1.heap.size; omega)]; exact z j
    rw [← hW2]
    clear hW2 k1 c0 c1 c2 c3 c4 c5 c6 c7
    refine (unhide H2 _).mono ?_
    rintro e w3 ⟨rfl, hb3⟩
    have k3 := k2.trans (hb3.mono k2.size)
    replace p0 := cell_beh p0 hb3 (Nat.le_refl _)
    replace r0 := cell_beh r0 hb3 (Nat.le_refl _)
    replace p1 := cell_beh p1 hb3 (Nat.le_refl _)
    replace r1 := cell_beh r1 hb3 (Nat.le_refl _)
    replace p2 := cell_beh p2 hb3 (Nat.le_refl _)
    replace r2 := cell_beh r2 hb3 (Nat.le_refl _)
    replace p3 := cell_beh p3 hb3 (Nat.le_refl _)
    replace r3 := cell_beh r3 hb3 (Nat.le_refl _)
    replace p4 := cell_beh p4 hb3 (Nat.le_refl _)
    replace r4 := cell_beh r4 hb3 (Nat.le_refl _)
    replace p5 := cell_beh p5 hb3 (Nat.le_refl _)
    replace r5 := cell_beh r5 hb3 (Nat.le_refl _)
    replace p6 := cell_beh p6 hb3 (Nat.le_refl _)
    replace r6 := cell_beh r6 hb3 (Nat.le_refl _)
    replace p7 := cell_beh p7 hb3 (Nat.le_refl _)
    replace r7 := cell_beh r7 hb3 (Nat.le_refl _)
    replace p8 := cell_beh p8 hb3 (Nat.le_refl _)
    replace r8 := cell_beh r8 hb3 (Nat.le_refl _)
    replace p9 := cell_beh p9 hb3 (Nat.le_refl _)
    replace r9 := cell_beh r9 hb3 (Nat.le_refl _)
    replace p10 := cell_beh p10 hb3 (Nat.le_refl _)
    replace r10 := cell_beh r10 hb3 (Nat.le_refl _)
    replace z : ∀ j, w3.frozen? ⟨w.heap.size + 1, j, none⟩ = false := fun j => (hb3.frozen (p := ⟨w.heap.size + 1, j, none⟩) (by show w.heap.size + 1 < W2.heap.size; omega)).trans (z j)
    have hne : ¬ w1.heap.size + 1 = w.heap.size + 1 := by omega
    clear hb3 k2 H2
    by_cases hK : ¬ E = 0
    · clear p0 p1 p2 p3 p4 p5 p6 p7 p8 p9 p10
      go_wp2_with fail
      have hS : (((((((((((w3.setCell ⟨w.heap.size + 1, 0, none⟩ (.int .i64 0)).setCell ⟨w.heap.size + 1, 1, none⟩ (.int .i64 0)).setCell ⟨w.heap.size + 1, 2, none⟩ (.int .i64 0)).setCell ⟨w.heap.size + 1, 3, none⟩ (.int .i64 0)).setCell ⟨w.heap.size + 1, 4, none⟩ (.int .i64 0)).setCell ⟨w.heap.size + 1, 5, none⟩ (.int .i64 0)).setCell ⟨w.heap.size + 1, 6, none⟩ (.int .i64 0)).setCell ⟨w.heap.size + 1, 7, none⟩ (.int .i64 0)).setCell ⟨w.heap.size + 1, 8, none⟩ (.int .i64 0)).setCell ⟨w.heap.size + 1, 9, none⟩ (.int .i64 0)).setCell ⟨w.heap.size + 1, 10, none⟩ (.string ⟨#[]⟩)) = w3.setCells (w.heap.size + 1) 0 [Value.int .i64 0, .int .i64 0, .int .i64 0, .int .i64 0, .int .i64 0, .int .i64 0, .int .i64 0, .int .i64 0, .int .i64 0, .int .i64 0, .string ⟨#[]⟩] := rfl
      have HB : Hid (Below w.heap.size w (((((((((((w3.setCell ⟨w.heap.size + 1, 0, none⟩ (.int .i64 0)).setCell ⟨w.heap.size + 1, 1, none⟩ (.int .i64 0)).setCell ⟨w.heap.size + 1, 2, none⟩ (.int .i64 0)).setCell ⟨w.heap.size + 1, 3, none⟩ (.int .i64 0)).setCell ⟨w.heap.size + 1, 4, none⟩ (.int .i64 0)).setCell ⟨w.heap.size + 1, 5, none⟩ (.int .i64 0)).setCell ⟨w.heap.size + 1, 6, none⟩ (.int .i64 0)).setCell ⟨w.heap.size + 1, 7, none⟩ (.int .i64 0)).setCell ⟨w.heap.size + 1, 8, none⟩ (.int .i64 0)).setCell ⟨w.heap.size + 1, 9, none⟩ (.int .i64 0)).setCell ⟨w.heap.size + 1, 10, none⟩ (.string ⟨#[]⟩))) := by rw [hS]; exact fill_below (Nat.le_succ _) _ _ _ (k3)
      have HI : Hid (∀ j, j < 11 → (w3.cell? ⟨w.heap.size + 1, j, none⟩).isSome = true) := fun j hj => by
        have hc : j = 0 ∨ j = 1 ∨ j = 2 ∨ j = 3 ∨ j = 4 ∨ j = 5 ∨ j = 6 ∨ j = 7 ∨ j = 8 ∨ j = 9 ∨ j = 10 := by omega
        rcases hc with rfl | rfl | rfl | rfl | rfl | rfl | rfl | rfl | rfl | rfl | rfl
        · rw [r0]; rfl
        · rw [r1]; rfl
        · rw [r2]; rfl
        · rw [r3]; rfl
        · rw [r4]; rfl
        · rw [r5]; rfl
        · rw [r6]; rfl
        · rw [r7]; rfl
        · rw [r8]; rfl
        · rw [r9]; rfl
        · rw [r10]; rfl
      have u0 : (((((((((((w3.setCell ⟨w.heap.size + 1, 0, none⟩ (.int .i64 0)).setCell ⟨w.heap.size + 1, 1, none⟩ (.int .i64 0)).setCell ⟨w.heap.size + 1, 2, none⟩ (.int .i64 0)).setCell ⟨w.heap.size + 1, 3, none⟩ (.int .i64 0)).setCell ⟨w.heap.size + 1, 4, none⟩ (.int .i64 0)).setCell ⟨w.heap.size + 1, 5, none⟩ (.int .i64 0)).setCell ⟨w.heap.size + 1, 6, none⟩ (.int .i64 0)).setCell ⟨w.heap.size + 1, 7, none⟩ (.int .i64 0)).setCell ⟨w.heap.size + 1, 8, none⟩ (.int .i64 0)).setCell ⟨w.heap.size + 1, 9, none⟩ (.int .i64 0)).setCell ⟨w.heap.size + 1, 10, none⟩ (.string ⟨#[]⟩)).cell? ⟨w.heap.size + 1, 0, none⟩ = some (.int .i64 0) := by rw [hS]; exact fill_at (vs := [Value.int .i64 0, .int .i64 0, .int .i64 0, .int .i64 0, .int .i64 0, .int .i64 0, .int .i64 0, .int .i64 0, .int .i64 0, .int .i64 0, .string ⟨#[]⟩]) HI.out rfl
      have u1 : (((((((((((w3.setCell ⟨w.heap.size + 1, 0, none⟩ (.int .i64 0)).setCell ⟨w.heap.size + 1, 1, none⟩ (.int .i64 0)).setCell ⟨w.heap.size + 1, 2, none⟩ (.int .i64 0)).setCell ⟨w.heap.size + 1, 3, none⟩ (.int .i64 0)).setCell ⟨w.heap.size + 1, 4, none⟩ (.int .i64 0)).setCell ⟨w.heap.size + 1, 5, none⟩ (.int .i64 0)).setCell ⟨w.heap.size + 1, 6, none⟩ (.int .i64 0)).setCell ⟨w.heap.size + 1, 7, none⟩ (.int .i64 0)).setCell ⟨w.heap.size + 1, 8, none⟩ (.int .i64 0)).setCell ⟨w.heap.size + 1, 9, none⟩ (.int .i64 0)).setCell ⟨w.heap.size + 1, 10, none⟩ (.string ⟨#[]⟩)).cell? ⟨w.heap.size + 1, 1, none⟩ = some (.int .i64 0) := by rw [hS]; exact fill_at (vs := [Value.int .i64 0, .int .i64 0, .int .i64 0, .int .i64 0, .int .i64 0, .int .i64 0, .int .i64 0, .int .i64 0, .int .i64 0, .int .i64 0, .string ⟨#[]⟩]) HI.out rfl
      have u2 : (((((((((((w3.setCell ⟨w.heap.size + 1, 0, none⟩ (.int .i64 0)).setCell ⟨w.heap.size + 1, 1, none⟩ (.int .i64 0)).setCell ⟨w.heap.size + 1, 2, none⟩ (.int .i64 0)).setCell ⟨w.heap.size + 1, 3, none⟩ (.int .i64 0)).setCell ⟨w.heap.size + 1, 4, none⟩ (.int .i64 0)).setCell ⟨w.heap.size + 1, 5, none⟩ (.int .i64 0)).setCell ⟨w.heap.size + 1, 6, none⟩ (.int .i64 0)).setCell ⟨w.heap.size + 1, 7, none⟩ (.int .i64 0)).setCell ⟨w.heap.size + 1, 8, none⟩ (.int .i64 0)).setCell ⟨w.heap.size + 1, 9, none⟩ (.int .i64 0)).setCell ⟨w.heap.size + 1, 10, none⟩ (.string ⟨#[]⟩)).cell? ⟨w.heap.size + 1, 2, none⟩ = some (.int .i64 0) := by rw [hS]; exact fill_at (vs := [Value.int .i64 0, .int .i64 0, .int .i64 0, .int .i64 0, .int .i64 0, .int .i64 0, .int .i64 0, .int .i64 0, .int .i64 0, .int .i64 0, .string ⟨#[]⟩]) HI.out rfl
      have u3 : (((((((((((w3.setCell ⟨w.heap.size + 1, 0, none⟩ (.int .i64 0)).setCell ⟨w.heap.size + 1, 1, none⟩ (.int .i64 0)).setCell ⟨w.heap.size + 1, 2, none⟩ (.int .i64 0)).setCell ⟨w.heap.size + 1, 3, none⟩ (.int .i64 0)).setCell ⟨w.heap.size + 1, 4, none⟩ (.int .i64 0)).setCell ⟨w.heap.size + 1, 5, none⟩ (.int .i64 0)).setCell ⟨w.heap.size + 1, 6, none⟩ (.int .i64 0)).setCell ⟨w.heap.size + 1, 7, none⟩ (.int .i64 0)).setCell ⟨w.heap.size + 1, 8, none⟩ (.int .i64 0)).setCell ⟨w.heap.size + 1, 9, none⟩ (.int .i64 0)).setCell ⟨w.heap.size + 1, 10, none⟩ (.string ⟨#[]⟩)).cell? ⟨w.heap.size + 1, 3, none⟩ = some (.int .i64 0) := by rw [hS]; exact fill_at (vs := [Value.int .i64 0, .int .i64 0, .int .i64 0, .int .i64 0, .int .i64 0, .int .i64 0, .int .i64 0, .int .i64 0, .int .i64 0, .int .i64 0, .string ⟨#[]⟩]) HI.out rfl
      have u4 : (((((((((((w3.setCell ⟨w.heap.size + 1, 0, none⟩ (.int .i64 0)).setCell ⟨w.heap.size + 1, 1, none⟩ (.int .i64 0)).setCell ⟨w.heap.size + 1, 2, none⟩ (.int .i64 0)).setCell ⟨w.heap.size + 1, 3, none⟩ (.int .i64 0)).setCell ⟨w.heap.size + 1, 4, none⟩ (.int .i64 0)).setCell ⟨w.heap.size + 1, 5, none⟩ (.int .i64 0)).setCell ⟨w.heap.size + 1, 6, none⟩ (.int .i64 0)).setCell ⟨w.heap.size + 1, 7, none⟩ (.int .i64 0)).setCell ⟨w.heap.size + 1, 8, none⟩ (.int .i64 0)).setCell ⟨w.heap.size + 1, 9, none⟩ (.int .i64 0)).setCell ⟨w.heap.size + 1, 10, none⟩ (.string ⟨#[]⟩)).cell? ⟨w.heap.size + 1, 4, none⟩ = some (.int .i64 0) := by rw [hS]; exact fill_at (vs := [Value.int .i64 0, .int .i64 0, .int .i64 0, .int .i64 0, .int .i64 0, .int .i64 0, .int .i64 0, .int .i64 0, .int .i64 0, .int .i64 0, .string ⟨#[]⟩]) HI.out rfl
      have u5 : (((((((((((w3.setCell ⟨w.heap.size + 1, 0, none⟩ (.int .i64 0)).setCell ⟨w.heap.size + 1, 1, none⟩ (.int .i64 0)).setCell ⟨w.heap.size + 1, 2, none⟩ (.int .i64 0)).setCell ⟨w.heap.size + 1, 3, none⟩ (.int .i64 0)).setCell ⟨w.heap.size + 1, 4, none⟩ (.int .i64 0)).setCell ⟨w.heap.size + 1, 5, none⟩ (.int .i64 0)).setCell ⟨w.heap.size + 1, 6, none⟩ (.int .i64 0)).setCell ⟨w.heap.size + 1, 7, none⟩ (.int .i64 0)).setCell ⟨w.heap.size + 1, 8, none⟩ (.int .i64 0)).setCell ⟨w.heap.size + 1, 9, none⟩ (.int .i64 0)).setCell ⟨w.heap.size + 1, 10, none⟩ (.string ⟨#[]⟩)).cell? ⟨w.heap.size + 1, 5, none⟩ = some (.int .i64 0) := by rw [hS]; exact fill_at (vs := [Value.int .i64 0, .int .i64 0, .int .i64 0, .int .i64 0, .int .i64 0, .int .i64 0, .int .i64 0, .int .i64 0, .int .i64 0, .int .i64 0, .string ⟨#[]⟩]) HI.out rfl
      have u6 : (((((((((((w3.setCell ⟨w.heap.size + 1, 0, none⟩ (.int .i64 0)).setCell ⟨w.heap.size + 1, 1, none⟩ (.int .i64 0)).setCell ⟨w.heap.size + 1, 2, none⟩ (.int .i64 0)).setCell ⟨w.heap.size + 1, 3, none⟩ (.int .i64 0)).setCell ⟨w.heap.size + 1, 4, none⟩ (.int .i64 0)).setCell ⟨w.heap.size + 1, 5, none⟩ (.int .i64 0)).setCell ⟨w.heap.size + 1, 6, none⟩ (.int .i64 0)).setCell ⟨w.heap.size + 1, 7, none⟩ (.int .i64 0)).setCell ⟨w.heap.size + 1, 8, none⟩ (.int .i64 0)).setCell ⟨w.heap.size + 1, 9, none⟩ (.int .i64 0)).setCell ⟨w.heap.size + 1, 10, none⟩ (.string ⟨#[]⟩)).cell? ⟨w.heap.size + 1, 6, none⟩ = some (.int .i64 0) := by rw [hS]; exact fill_at (vs := [Value.int .i64 0, .int .i64 0, .int .i64 0, .int .i64 0, .int .i64 0, .int .i64 0, .int .i64 0, .int .i64 0, .int .i64 0, .int .i64 0, .string ⟨#[]⟩]) HI.out rfl
      have u7 : (((((((((((w3.setCell ⟨w.heap.size + 1, 0, none⟩ (.int .i64 0)).setCell ⟨w.heap.size + 1, 1, none⟩ (.int .i64 0)).setCell ⟨w.heap.size + 1, 2, none⟩ (.int .i64 0)).setCell ⟨w.heap.size + 1, 3, none⟩ (.int .i64 0)).setCell ⟨w.heap.size + 1, 4, none⟩ (.int .i64 0)).setCell ⟨w.heap.size + 1, 5, none⟩ (.int .i64 0)).setCell ⟨w.heap.size + 1, 6, none⟩ (.int .i64 0)).setCell ⟨w.heap.size + 1, 7, none⟩ (.int .i64 0)).setCell ⟨w.heap.size + 1, 8, none⟩ (.int .i64 0)).setCell ⟨w.heap.size + 1, 9, none⟩ (.int .i64 0)).setCell ⟨w.heap.size + 1, 10, none⟩ (.string ⟨#[]⟩)).cell? ⟨w.heap.size + 1, 7, none⟩ = some (.int .i64 0) := by rw [hS]; exact fill_at (vs := [Value.int .i64 0, .int .i64 0, .int .i64 0, .int .i64 0, .int .i64 0, .int .i64 0, .int .i64 0, .int .i64 0, .int .i64 0, .int .i64 0, .string ⟨#[]⟩]) HI.out rfl
      have u8 : (((((((((((w3.setCell ⟨w.heap.size + 1, 0, none⟩ (.int .i64 0)).setCell ⟨w.heap.size + 1, 1, none⟩ (.int .i64 0)).setCell ⟨w.heap.size + 1, 2, none⟩ (.int .i64 0)).setCell ⟨w.heap.size + 1, 3, none⟩ (.int .i64 0)).setCell ⟨w.heap.size + 1, 4, none⟩ (.int .i64 0)).setCell ⟨w.heap.size + 1, 5, none⟩ (.int .i64 0)).setCell ⟨w.heap.size + 1, 6, none⟩ (.int .i64 0)).setCell ⟨w.heap.size + 1, 7, none⟩ (.int .i64 0)).setCell ⟨w.heap.size + 1, 8, none⟩ (.int .i64 0)).setCell ⟨w.heap.size + 1, 9, none⟩ (.int .i64 0)).setCell ⟨w.heap.size + 1, 10, none⟩ (.string ⟨#[]⟩)).cell? ⟨w.heap.size + 1, 8, none⟩ = some (.int .i64 0) := by rw [hS]; exact fill_at (vs := [Value.int .i64 0, .int .i64 0, .int .i64 0, .int .i64 0, .int .i64 0, .int .i64 0, .int .i64 0, .int .i64 0, .int .i64 0, .int .i64 0, .string ⟨#[]⟩]) HI.out rfl
      have u9 : (((((((((((w3.setCell ⟨w.heap.size + 1, 0, none⟩ (.int .i64 0)).setCell ⟨w.heap.size + 1, 1, none⟩ (.int .i64 0)).setCell ⟨w.heap.size + 1, 2, none⟩ (.int .i64 0)).setCell ⟨w.heap.size + 1, 3, none⟩ (.int .i64 0)).setCell ⟨w.heap.size + 1, 4, none⟩ (.int .i64 0)).setCell ⟨w.heap.size + 1, 5, none⟩ (.int .i64 0)).setCell ⟨w.heap.size + 1, 6, none⟩ (.int .i64 0)).setCell ⟨w.heap.size + 1, 7, none⟩ (.int .i64 0)).setCell ⟨w.heap.size + 1, 8, none⟩ (.int .i64 0)).setCell ⟨w.heap.size + 1, 9, none⟩ (.int .i64 0)).setCell ⟨w.heap.size + 1, 10, none⟩ (.string ⟨#[]⟩)).cell? ⟨w.heap.size + 1, 9, none⟩ = some (.int .i64 0) := by rw [hS]; exact fill_at (vs := [Value.int .i64 0, .int .i64 0, .int .i64 0, .int .i64 0, .int .i64 0, .int .i64 0, .int .i64 0, .int .i64 0, .int .i64 0, .int .i64 0, .string ⟨#[]⟩]) HI.out rfl
      have u10 : (((((((((((w3.setCell ⟨w.heap.size + 1, 0, none⟩ (.int .i64 0)).setCell ⟨w.heap.size + 1, 1, none⟩ (.int .i64 0)).setCell ⟨w.heap.size + 1, 2, none⟩ (.int .i64 0)).setCell ⟨w.heap.size + 1, 3, none⟩ (.int .i64 0)).setCell ⟨w.heap.size + 1, 4, none⟩ (.int .i64 0)).setCell ⟨w.heap.size + 1, 5, none⟩ (.int .i64 0)).setCell ⟨w.heap.size + 1, 6, none⟩ (.int .i64 0)).setCell ⟨w.heap.size + 1, 7, none⟩ (.int .i64 0)).setCell ⟨w.heap.size + 1, 8, none⟩ (.int .i64 0)).setCell ⟨w.heap.size + 1, 9, none⟩ (.int .i64 0)).setCell ⟨w.heap.size + 1, 10, none⟩ (.string ⟨#[]⟩)).cell? ⟨w.heap.size + 1, 10, none⟩ = some (.string ⟨#[]⟩) := by rw [hS]; exact fill_at (vs := [Value.int .i64 0, .int .i64 0, .int .i64 0, .int .i64 0, .int .i64 0, .int .i64 0, .int .i64 0, .int .i64 0, .int .i64 0, .int .i64 0, .string ⟨#[]⟩]) HI.out rfl
      refine bodyPost_ret (v := .tuple #[.agg #[.int .i64 0, .int .i64 0, .int .i64 0, .int .i64 0, .int .i64 0, .int .i64 0, .int .i64 0, .int .i64 0, .int .i64 0, .int .i64 0, .string ⟨#[]⟩], .int .i64 E]) ?_ rfl ⟨by first | rfl | rw [if_neg hK], HB.out⟩
      clear HB HI hS r0 r1 r2 r3 r4 r5 r6 r7 r8 r9 r10
      generalize (((((((((((w3.setCell ⟨w.heap.size + 1, 0, none⟩ (.int .i64 0)).setCell ⟨w.heap.size + 1, 1, none⟩ (.int .i64 0)).setCell ⟨w.heap.size + 1, 2, none⟩ (.int .i64 0)).setCell ⟨w.heap.size + 1, 3, none⟩ (.int .i64 0)).setCell ⟨w.heap.size + 1, 4, none⟩ (.int .i64 0)).setCell ⟨w.heap.size + 1, 5, none⟩ (.int .i64 0)).setCell ⟨w.heap.size + 1, 6, none⟩ (.int .i64 0)).setCell ⟨w.heap.size + 1, 7, none⟩ (.int .i64 0)).setCell ⟨w.heap.size + 1, 8, none⟩ (.int .i64 0)).setCell ⟨w.heap.size + 1, 9, none⟩ (.int .i64 0)).setCell ⟨w.heap.size + 1, 10, none⟩ (.string ⟨#[]⟩)) = W at *
      simp [results, Try.results17, go_sem, u0, u1, u2, u3, u4, u5, u6, u7, u8, u9, u10]
    · have hK0 : E = 0 := by omega
      subst hK0
      clear hK
      go_wp2_with fail
      have hS : (((((((((((w3.setCell ⟨w.heap.size + 1, 0, none⟩ (.int .i64 i)).setCell ⟨w.heap.size + 1, 1, none⟩ (.int .i64 dst)).setCell ⟨w.heap.size + 1, 2, none⟩ (.int .i64 src)).setCell ⟨w.heap.size + 1, 3, none⟩ (.int .i64 kind)).setCell ⟨w.heap.size + 1, 4, none⟩ (.int .i64 ips)).setCell ⟨w.heap.size + 1, 5, none⟩ (.int .i64 ipd)).setCell ⟨w.heap.size + 1, 6, none⟩ (.int .i64 ttl)).setCell ⟨w.heap.size + 1, 7, none⟩ (.int .i64 port)).setCell ⟨w.heap.size + 1, 8, none⟩ (.int .i64 net)).setCell ⟨w.heap.size + 1, 9, none⟩ (.int .i64 t)).setCell ⟨w.heap.size + 1, 10, none⟩ (.string body)) = w3.setCells (w.heap.size + 1) 0 [Value.int .i64 i, .int .i64 dst, .int .i64 src, .int .i64 kind, .int .i64 ips, .int .i64 ipd, .int .i64 ttl, .int .i64 port, .int .i64 net, .int .i64 t, .string body] := rfl
      have HB : Hid (Below w.heap.size w (((((((((((w3.setCell ⟨w.heap.size + 1, 0, none⟩ (.int .i64 i)).setCell ⟨w.heap.size + 1, 1, none⟩ (.int .i64 dst)).setCell ⟨w.heap.size + 1, 2, none⟩ (.int .i64 src)).setCell ⟨w.heap.size + 1, 3, none⟩ (.int .i64 kind)).setCell ⟨w.heap.size + 1, 4, none⟩ (.int .i64 ips)).setCell ⟨w.heap.size + 1, 5, none⟩ (.int .i64 ipd)).setCell ⟨w.heap.size + 1, 6, none⟩ (.int .i64 ttl)).setCell ⟨w.heap.size + 1, 7, none⟩ (.int .i64 port)).setCell ⟨w.heap.size + 1, 8, none⟩ (.int .i64 net)).setCell ⟨w.heap.size + 1, 9, none⟩ (.int .i64 t)).setCell ⟨w.heap.size + 1, 10, none⟩ (.string body))) := by rw [hS]; exact fill_below (Nat.le_succ _) _ _ _ (k3)
      have HI : Hid (∀ j, j < 11 → (w3.cell? ⟨w.heap.size + 1, j, none⟩).isSome = true) := fun j hj => by
        have hc : j = 0 ∨ j = 1 ∨ j = 2 ∨ j = 3 ∨ j = 4 ∨ j = 5 ∨ j = 6 ∨ j = 7 ∨ j = 8 ∨ j = 9 ∨ j = 10 := by omega
        rcases hc with rfl | rfl | rfl | rfl | rfl | rfl | rfl | rfl | rfl | rfl | rfl
        · rw [r0]; rfl
        · rw [r1]; rfl
        · rw [r2]; rfl
        · rw [r3]; rfl
        · rw [r4]; rfl
        · rw [r5]; rfl
        · rw [r6]; rfl
        · rw [r7]; rfl
        · rw [r8]; rfl
        · rw [r9]; rfl
        · rw [r10]; rfl
      have u0 : (((((((((((w3.setCell ⟨w.heap.size + 1, 0, none⟩ (.int .i64 i)).setCell ⟨w.heap.size + 1, 1, none⟩ (.int .i64 dst)).setCell ⟨w.heap.size + 1, 2, none⟩ (.int .i64 src)).setCell ⟨w.heap.size + 1, 3, none⟩ (.int .i64 kind)).setCell ⟨w.heap.size + 1, 4, none⟩ (.int .i64 ips)).setCell ⟨w.heap.size + 1, 5, none⟩ (.int .i64 ipd)).setCell ⟨w.heap.size + 1, 6, none⟩ (.int .i64 ttl)).setCell ⟨w.heap.size + 1, 7, none⟩ (.int .i64 port)).setCell ⟨w.heap.size + 1, 8, none⟩ (.int .i64 net)).setCell ⟨w.heap.size + 1, 9, none⟩ (.int .i64 t)).setCell ⟨w.heap.size + 1, 10, none⟩ (.string body)).cell? ⟨w.heap.size + 1, 0, none⟩ = some (.int .i64 i) := by rw [hS]; exact fill_at (vs := [Value.int .i64 i, .int .i64 dst, .int .i64 src, .int .i64 kind, .int .i64 ips, .int .i64 ipd, .int .i64 ttl, .int .i64 port, .int .i64 net, .int .i64 t, .string body]) HI.out rfl
      have u1 : (((((((((((w3.setCell ⟨w.heap.size + 1, 0, none⟩ (.int .i64 i)).setCell ⟨w.heap.size + 1, 1, none⟩ (.int .i64 dst)).setCell ⟨w.heap.size + 1, 2, none⟩ (.int .i64 src)).setCell ⟨w.heap.size + 1, 3, none⟩ (.int .i64 kind)).setCell ⟨w.heap.size + 1, 4, none⟩ (.int .i64 ips)).setCell ⟨w.heap.size + 1, 5, none⟩ (.int .i64 ipd)).setCell ⟨w.heap.size + 1, 6, none⟩ (.int .i64 ttl)).setCell ⟨w.heap.size + 1, 7, none⟩ (.int .i64 port)).setCell ⟨w.heap.size + 1, 8, none⟩ (.int .i64 net)).setCell ⟨w.heap.size + 1, 9, none⟩ (.int .i64 t)).setCell ⟨w.heap.size + 1, 10, none⟩ (.string body)).cell? ⟨w.heap.size + 1, 1, none⟩ = some (.int .i64 dst) := by rw [hS]; exact fill_at (vs := [Value.int .i64 i, .int .i64 dst, .int .i64 src, .int .i64 kind, .int .i64 ips, .int .i64 ipd, .int .i64 ttl, .int .i64 port, .int .i64 net, .int .i64 t, .string body]) HI.out rfl
      have u2 : (((((((((((w3.setCell ⟨w.heap.size + 1, 0, none⟩ (.int .i64 i)).setCell ⟨w.heap.size + 1, 1, none⟩ (.int .i64 dst)).setCell ⟨w.heap.size + 1, 2, none⟩ (.int .i64 src)).setCell ⟨w.heap.size + 1, 3, none⟩ (.int .i64 kind)).setCell ⟨w.heap.size + 1, 4, none⟩ (.int .i64 ips)).setCell ⟨w.heap.size + 1, 5, none⟩ (.int .i64 ipd)).setCell ⟨w.heap.size + 1, 6, none⟩ (.int .i64 ttl)).setCell ⟨w.heap.size + 1, 7, none⟩ (.int .i64 port)).setCell ⟨w.heap.size + 1, 8, none⟩ (.int .i64 net)).setCell ⟨w.heap.size + 1, 9, none⟩ (.int .i64 t)).setCell ⟨w.heap.size + 1, 10, none⟩ (.string body)).cell? ⟨w.heap.size + 1, 2, none⟩ = some (.int .i64 src) := by rw [hS]; exact fill_at (vs := [Value.int .i64 i, .int .i64 dst, .int .i64 src, .int .i64 kind, .int .i64 ips, .int .i64 ipd, .int .i64 ttl, .int .i64 port, .int .i64 net, .int .i64 t, .string body]) HI.out rfl
      have u3 : (((((((((((w3.setCell ⟨w.heap.size + 1, 0, none⟩ (.int .i64 i)).setCell ⟨w.heap.size + 1, 1, none⟩ (.int .i64 dst)).setCell ⟨w.heap.size + 1, 2, none⟩ (.int .i64 src)).setCell ⟨w.heap.size + 1, 3, none⟩ (.int .i64 kind)).setCell ⟨w.heap.size + 1, 4, none⟩ (.int .i64 ips)).setCell ⟨w.heap.size + 1, 5, none⟩ (.int .i64 ipd)).setCell ⟨w.heap.size + 1, 6, none⟩ (.int .i64 ttl)).setCell ⟨w.heap.size + 1, 7, none⟩ (.int .i64 port)).setCell ⟨w.heap.size + 1, 8, none⟩ (.int .i64 net)).setCell ⟨w.heap.size + 1, 9, none⟩ (.int .i64 t)).setCell ⟨w.heap.size + 1, 10, none⟩ (.string body)).cell? ⟨w.heap.size + 1, 3, none⟩ = some (.int .i64 kind) := by rw [hS]; exact fill_at (vs := [Value.int .i64 i, .int .i64 dst, .int .i64 src, .int .i64 kind, .int .i64 ips, .int .i64 ipd, .int .i64 ttl, .int .i64 port, .int .i64 net, .int .i64 t, .string body]) HI.out rfl
      have u4 : (((((((((((w3.setCell ⟨w.heap.size + 1, 0, none⟩ (.int .i64 i)).setCell ⟨w.heap.size + 1, 1, none⟩ (.int .i64 dst)).setCell ⟨w.heap.size + 1, 2, none⟩ (.int .i64 src)).setCell ⟨w.heap.size + 1, 3, none⟩ (.int .i64 kind)).setCell ⟨w.heap.size + 1, 4, none⟩ (.int .i64 ips)).setCell ⟨w.heap.size + 1, 5, none⟩ (.int .i64 ipd)).setCell ⟨w.heap.size + 1, 6, none⟩ (.int .i64 ttl)).setCell ⟨w.heap.size + 1, 7, none⟩ (.int .i64 port)).setCell ⟨w.heap.size + 1, 8, none⟩ (.int .i64 net)).setCell ⟨w.heap.size + 1, 9, none⟩ (.int .i64 t)).setCell ⟨w.heap.size + 1, 10, none⟩ (.string body)).cell? ⟨w.heap.size + 1, 4, none⟩ = some (.int .i64 ips) := by rw [hS]; exact fill_at (vs := [Value.int .i64 i, .int .i64 dst, .int .i64 src, .int .i64 kind, .int .i64 ips, .int .i64 ipd, .int .i64 ttl, .int .i64 port, .int .i64 net, .int .i64 t, .string body]) HI.out rfl
      have u5 : (((((((((((w3.setCell ⟨w.heap.size + 1, 0, none⟩ (.int .i64 i)).setCell ⟨w.heap.size + 1, 1, none⟩ (.int .i64 dst)).setCell ⟨w.heap.size + 1, 2, none⟩ (.int .i64 src)).setCell ⟨w.heap.size + 1, 3, none⟩ (.int .i64 kind)).setCell ⟨w.heap.size + 1, 4, none⟩ (.int .i64 ips)).setCell ⟨w.heap.size + 1, 5, none⟩ (.int .i64 ipd)).setCell ⟨w.heap.size + 1, 6, none⟩ (.int .i64 ttl)).setCell ⟨w.heap.size + 1, 7, none⟩ (.int .i64 port)).setCell ⟨w.heap.size + 1, 8, none⟩ (.int .i64 net)).setCell ⟨w.heap.size + 1, 9, none⟩ (.int .i64 t)).setCell ⟨w.heap.size + 1, 10, none⟩ (.string body)).cell? ⟨w.heap.size + 1, 5, none⟩ = some (.int .i64 ipd) := by rw [hS]; exact fill_at (vs := [Value.int .i64 i, .int .i64 dst, .int .i64 src, .int .i64 kind, .int .i64 ips, .int .i64 ipd, .int .i64 ttl, .int .i64 port, .int .i64 net, .int .i64 t, .string body]) HI.out rfl
      have u6 : (((((((((((w3.setCell ⟨w.heap.size + 1, 0, none⟩ (.int .i64 i)).setCell ⟨w.heap.size + 1, 1, none⟩ (.int .i64 dst)).setCell ⟨w.heap.size + 1, 2, none⟩ (.int .i64 src)).setCell ⟨w.heap.size + 1, 3, none⟩ (.int .i64 kind)).setCell ⟨w.heap.size + 1, 4, none⟩ (.int .i64 ips)).setCell ⟨w.heap.size + 1, 5, none⟩ (.int .i64 ipd)).setCell ⟨w.heap.size + 1, 6, none⟩ (.int .i64 ttl)).setCell ⟨w.heap.size + 1, 7, none⟩ (.int .i64 port)).setCell ⟨w.heap.size + 1, 8, none⟩ (.int .i64 net)).setCell ⟨w.heap.size + 1, 9, none⟩ (.int .i64 t)).setCell ⟨w.heap.size + 1, 10, none⟩ (.string body)).cell? ⟨w.heap.size + 1, 6, none⟩ = some (.int .i64 ttl) := by rw [hS]; exact fill_at (vs := [Value.int .i64 i, .int .i64 dst, .int .i64 src, .int .i64 kind, .int .i64 ips, .int .i64 ipd, .int .i64 ttl, .int .i64 port, .int .i64 net, .int .i64 t, .string body]) HI.out rfl
      have u7 : (((((((((((w3.setCell ⟨w.heap.size + 1, 0, none⟩ (.int .i64 i)).setCell ⟨w.heap.size + 1, 1, none⟩ (.int .i64 dst)).setCell ⟨w.heap.size + 1, 2, none⟩ (.int .i64 src)).setCell ⟨w.heap.size + 1, 3, none⟩ (.int .i64 kind)).setCell ⟨w.heap.size + 1, 4, none⟩ (.int .i64 ips)).setCell ⟨w.heap.size + 1, 5, none⟩ (.int .i64 ipd)).setCell ⟨w.heap.size + 1, 6, none⟩ (.int .i64 ttl)).setCell ⟨w.heap.size + 1, 7, none⟩ (.int .i64 port)).setCell ⟨w.heap.size + 1, 8, none⟩ (.int .i64 net)).setCell ⟨w.heap.size + 1, 9, none⟩ (.int .i64 t)).setCell ⟨w.heap.size + 1, 10, none⟩ (.string body)).cell? ⟨w.heap.size + 1, 7, none⟩ = some (.int .i64 port) := by rw [hS]; exact fill_at (vs := [Value.int .i64 i, .int .i64 dst, .int .i64 src, .int .i64 kind, .int .i64 ips, .int .i64 ipd, .int .i64 ttl, .int .i64 port, .int .i64 net, .int .i64 t, .string body]) HI.out rfl
      have u8 : (((((((((((w3.setCell ⟨w.heap.size + 1, 0, none⟩ (.int .i64 i)).setCell ⟨w.heap.size + 1, 1, none⟩ (.int .i64 dst)).setCell ⟨w.heap.size + 1, 2, none⟩ (.int .i64 src)).setCell ⟨w.heap.size + 1, 3, none⟩ (.int .i64 kind)).setCell ⟨w.heap.size + 1, 4, none⟩ (.int .i64 ips)).setCell ⟨w.heap.size + 1, 5, none⟩ (.int .i64 ipd)).setCell ⟨w.heap.size + 1, 6, none⟩ (.int .i64 ttl)).setCell ⟨w.heap.size + 1, 7, none⟩ (.int .i64 port)).setCell ⟨w.heap.size + 1, 8, none⟩ (.int .i64 net)).setCell ⟨w.heap.size + 1, 9, none⟩ (.int .i64 t)).setCell ⟨w.heap.size + 1, 10, none⟩ (.string body)).cell? ⟨w.heap.size + 1, 8, none⟩ = some (.int .i64 net) := by rw [hS]; exact fill_at (vs := [Value.int .i64 i, .int .i64 dst, .int .i64 src, .int .i64 kind, .int .i64 ips, .int .i64 ipd, .int .i64 ttl, .int .i64 port, .int .i64 net, .int .i64 t, .string body]) HI.out rfl
      have u9 : (((((((((((w3.setCell ⟨w.heap.size + 1, 0, none⟩ (.int .i64 i)).setCell ⟨w.heap.size + 1, 1, none⟩ (.int .i64 dst)).setCell ⟨w.heap.size + 1, 2, none⟩ (.int .i64 src)).setCell ⟨w.heap.size + 1, 3, none⟩ (.int .i64 kind)).setCell ⟨w.heap.size + 1, 4, none⟩ (.int .i64 ips)).setCell ⟨w.heap.size + 1, 5, none⟩ (.int .i64 ipd)).setCell ⟨w.heap.size + 1, 6, none⟩ (.int .i64 ttl)).setCell ⟨w.heap.size + 1, 7, none⟩ (.int .i64 port)).setCell ⟨w.heap.size + 1, 8, none⟩ (.int .i64 net)).setCell ⟨w.heap.size + 1, 9, none⟩ (.int .i64 t)).setCell ⟨w.heap.size + 1, 10, none⟩ (.string body)).cell? ⟨w.heap.size + 1, 9, none⟩ = some (.int .i64 t) := by rw [hS]; exact fill_at (vs := [Value.int .i64 i, .int .i64 dst, .int .i64 src, .int .i64 kind, .int .i64 ips, .int .i64 ipd, .int .i64 ttl, .int .i64 port, .int .i64 net, .int .i64 t, .string body]) HI.out rfl
      have u10 : (((((((((((w3.setCell ⟨w.heap.size + 1, 0, none⟩ (.int .i64 i)).setCell ⟨w.heap.size + 1, 1, none⟩ (.int .i64 dst)).setCell ⟨w.heap.size + 1, 2, none⟩ (.int .i64 src)).setCell ⟨w.heap.size + 1, 3, none⟩ (.int .i64 kind)).setCell ⟨w.heap.size + 1, 4, none⟩ (.int .i64 ips)).setCell ⟨w.heap.size + 1, 5, none⟩ (.int .i64 ipd)).setCell ⟨w.heap.size + 1, 6, none⟩ (.int .i64 ttl)).setCell ⟨w.heap.size + 1, 7, none⟩ (.int .i64 port)).setCell ⟨w.heap.size + 1, 8, none⟩ (.int .i64 net)).setCell ⟨w.heap.size + 1, 9, none⟩ (.int .i64 t)).setCell ⟨w.heap.size + 1, 10, none⟩ (.string body)).cell? ⟨w.heap.size + 1, 10, none⟩ = some (.string body) := by rw [hS]; exact fill_at (vs := [Value.int .i64 i, .int .i64 dst, .int .i64 src, .int .i64 kind, .int .i64 ips, .int .i64 ipd, .int .i64 ttl, .int .i64 port, .int .i64 net, .int .i64 t, .string body]) HI.out rfl
      refine bodyPost_ret (v := .tuple #[.agg #[.int .i64 i, .int .i64 dst, .int .i64 src, .int .i64 kind, .int .i64 ips, .int .i64 ipd, .int .i64 ttl, .int .i64 port, .int .i64 net, .int .i64 t, .string body], .int .i64 0]) ?_ rfl ⟨rfl, HB.out⟩
      clear HB HI hS r0 r1 r2 r3 r4 r5 r6 r7 r8 r9 r10
      generalize (((((((((((w3.setCell ⟨w.heap.size + 1, 0, none⟩ (.int .i64 i)).setCell ⟨w.heap.size + 1, 1, none⟩ (.int .i64 dst)).setCell ⟨w.heap.size + 1, 2, none⟩ (.int .i64 src)).setCell ⟨w.heap.size + 1, 3, none⟩ (.int .i64 kind)).setCell ⟨w.heap.size + 1, 4, none⟩ (.int .i64 ips)).setCell ⟨w.heap.size + 1, 5, none⟩ (.int .i64 ipd)).setCell ⟨w.heap.size + 1, 6, none⟩ (.int .i64 ttl)).setCell ⟨w.heap.size + 1, 7, none⟩ (.int .i64 port)).setCell ⟨w.heap.size + 1, 8, none⟩ (.int .i64 net)).setCell ⟨w.heap.size + 1, 9, none⟩ (.int .i64 t)).setCell ⟨w.heap.size + 1, 10, none⟩ (.string body)) = W at *
      simp [results, Try.results17, go_sem, u0, u1, u2, u3, u4, u5, u6, u7, u8, u9, u10]

end Go.Proofs.Ytonhfgdnkkkikad
