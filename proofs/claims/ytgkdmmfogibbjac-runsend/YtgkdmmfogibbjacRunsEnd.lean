/-
  RunsEnd: a packet that nothing fits is lost; one that may not be is refused: the law returns true at every number. No condition.
-/
import Derived.Test.YtgkdmmfogibbjacFn2
import Derived.Test.YtgkdmmfogibbjacOp
import Derived.Test.YtgkdmmfogibbjacKp
import Derived.OpenShut
namespace Go.Proofs.Ytgkdmmfogibbjac
open Go.ChangeShapes Go.WideShapes Go.ChangeAt Go.RowKit
set_option linter.unusedVariables false
set_option maxRecDepth 100000

def Z10 : List Int := [0, 0, 0, 0, 0, 0, 0, 0, 0, 0]
def flA : Fl := ⟨0, 0, [⟨1, 1, 1⟩], [⟨5, 0, 1⟩]⟩
def flB : Fl := ⟨0, 0, [], [⟨4, 0, 0⟩]⟩
def flC : Fl := ⟨8, 0, [], []⟩
theorem end1 : runE [] Z10 0 = 0 ∧ runL [] Z10 0 = [] := by decide
theorem end2 : runE [flA] Z10 0 = 0 ∧ runL [flA] Z10 0 = [] := by decide
theorem end3 (q : Nat) (hq : q < 10) : runE [] (Z10.set q 65536) 0 = 2 := by
  have hc : q = 0 ∨ q = 1 ∨ q = 2 ∨ q = 3 ∨ q = 4 ∨ q = 5 ∨ q = 6 ∨ q = 7 ∨ q = 8 ∨ q = 9 := by omega
  rcases hc with rfl | rfl | rfl | rfl | rfl | rfl | rfl | rfl | rfl | rfl
  all_goals decide
theorem end4 : runE [flB] Z10 0 = 4 := by decide
theorem end5 : runE [flC] Z10 0 = 2 := by decide

/-- Flows of one, as they lie behind a composite. -/
theorem fsAt_one {w : World} {b mo dO : Nat} {f : Fl} {mv dv : Value} (h0 : w.cell? ⟨b, 0, none⟩ = some (.int .i64 f.t)) (h1 : w.cell? ⟨b, 1, none⟩ = some (.int .i64 f.p)) (h2 : w.cell? ⟨b, 2, none⟩ = some mv) (h3 : w.cell? ⟨b, 3, none⟩ = some dv) (hm : MsAt w mv f.ms) (hd : DsAt w dv f.ds) : FsAt w (.slice (some ⟨b, 0, none⟩) 1 1) [f] :=
  ⟨_, 1, rfl, by simp, .inr ⟨b, 0, rfl, by simp, fun i hi => by
    have : i = 0 := by simp at hi; omega
    subst this
    exact ⟨h0, h1, mv, dv, h2, h3, hm, hd⟩⟩⟩
theorem fsAt_none (w : World) : FsAt w (.slice none 0 0) [] := ⟨none, 0, rfl, fun _ => rfl, .inl rfl⟩

theorem cell3 (W : World) (n : Nat) (h : W.heap.size = n) (a b c : Value) (t : TypeId) : (W.alloc (.cells #[a, b, c] t)).cell? ⟨n, 0, none⟩ = some a ∧ (W.alloc (.cells #[a, b, c] t)).cell? ⟨n, 1, none⟩ = some b ∧ (W.alloc (.cells #[a, b, c] t)).cell? ⟨n, 2, none⟩ = some c := by
  subst h; simp
theorem cell4 (W : World) (n : Nat) (h : W.heap.size = n) (a b c d : Value) (t : TypeId) : (W.alloc (.cells #[a, b, c, d] t)).cell? ⟨n, 0, none⟩ = some a ∧ (W.alloc (.cells #[a, b, c, d] t)).cell? ⟨n, 1, none⟩ = some b ∧ (W.alloc (.cells #[a, b, c, d] t)).cell? ⟨n, 2, none⟩ = some c ∧ (W.alloc (.cells #[a, b, c, d] t)).cell? ⟨n, 3, none⟩ = some d := by
  subst h; simp
theorem msAt_one {w : World} {b : Nat} {m : Mt} (h : w.cell? ⟨b, 0, none⟩ = some (.int .i64 m.f) ∧ w.cell? ⟨b, 1, none⟩ = some (.int .i64 m.m) ∧ w.cell? ⟨b, 2, none⟩ = some (.int .i64 m.v)) : MsAt w (.slice (some ⟨b, 0, none⟩) 1 1) [m] :=
  ⟨_, 1, rfl, by simp, .inr ⟨b, 0, rfl, by simp, fun i hi => by
    have : i = 0 := by simp at hi; omega
    subst this
    exact h⟩⟩
theorem dsAt_one {w : World} {b : Nat} {m : Do} (h : w.cell? ⟨b, 0, none⟩ = some (.int .i64 m.k) ∧ w.cell? ⟨b, 1, none⟩ = some (.int .i64 m.a) ∧ w.cell? ⟨b, 2, none⟩ = some (.int .i64 m.n)) : DsAt w (.slice (some ⟨b, 0, none⟩) 1 1) [m] :=
  ⟨_, 1, rfl, by simp, .inr ⟨b, 0, rfl, by simp, fun i hi => by
    have : i = 0 := by simp at hi; omega
    subst this
    exact h⟩⟩
theorem msAt_nil (w : World) : MsAt w (.slice none 0 0) [] := ⟨none, 0, rfl, fun _ => rfl, .inl rfl⟩
theorem dsAt_nil (w : World) : DsAt w (.slice none 0 0) [] := ⟨none, 0, rfl, fun _ => rfl, .inl rfl⟩
theorem litA (W : World) : FsAt (((W.alloc (.cells #[.int .i64 1, .int .i64 1, .int .i64 1] 35)).alloc (.cells #[.int .i64 5, .int .i64 0, .int .i64 1] 38)).alloc (.cells #[.int .i64 0, .int .i64 0, .slice (some ⟨W.heap.size, 0, none⟩) 1 1, .slice (some ⟨W.heap.size + 1, 0, none⟩) 1 1] 41)) (.slice (some ⟨W.heap.size + 1 + 1, 0, none⟩) 1 1) [flA] := by
  have hm := msAt_one (m := ⟨1, 1, 1⟩) (cell3 W _ rfl (.int .i64 1) (.int .i64 1) (.int .i64 1) 35)
  have hd := dsAt_one (m := ⟨5, 0, 1⟩) (cell3 (W.alloc (.cells #[.int .i64 1, .int .i64 1, .int .i64 1] 35)) (W.heap.size + 1) (by simp) (.int .i64 5) (.int .i64 0) (.int .i64 1) 38)
  obtain ⟨f0, f1, f2, f3⟩ := cell4 ((W.alloc (.cells #[.int .i64 1, .int .i64 1, .int .i64 1] 35)).alloc (.cells #[.int .i64 5, .int .i64 0, .int .i64 1] 38)) (W.heap.size + 1 + 1) (by simp) (.int .i64 0) (.int .i64 0) (.slice (some ⟨W.heap.size, 0, none⟩) 1 1) (.slice (some ⟨W.heap.size + 1, 0, none⟩) 1 1) 41
  exact fsAt_one (f := flA) (mo := 0) (dO := 0) f0 f1 f2 f3 (((hm.below ((Below.refl _ _).alloc (Nat.le_refl _) _) (Nat.le_refl _))).below ((Below.refl _ _).alloc (Nat.le_refl _) _) (Nat.le_refl _)) (hd.below ((Below.refl _ _).alloc (Nat.le_refl _) _) (Nat.le_refl _))
theorem litB (W : World) : FsAt ((W.alloc (.cells #[.int .i64 4, .int .i64 0, .int .i64 0] 38)).alloc (.cells #[.int .i64 0, .int .i64 0, .slice none 0 0, .slice (some ⟨W.heap.size, 0, none⟩) 1 1] 41)) (.slice (some ⟨W.heap.size + 1, 0, none⟩) 1 1) [flB] := by
  have hd := dsAt_one (m := ⟨4, 0, 0⟩) (cell3 W _ rfl (.int .i64 4) (.int .i64 0) (.int .i64 0) 38)
  obtain ⟨f0, f1, f2, f3⟩ := cell4 (W.alloc (.cells #[.int .i64 4, .int .i64 0, .int .i64 0] 38)) (W.heap.size + 1) (by simp) (.int .i64 0) (.int .i64 0) (.slice none 0 0) (.slice (some ⟨W.heap.size, 0, none⟩) 1 1) 41
  exact fsAt_one (f := flB) (mo := 0) (dO := 0) f0 f1 f2 f3 (msAt_nil _) (hd.below ((Below.refl _ _).alloc (Nat.le_refl _) _) (Nat.le_refl _))
theorem litC (W : World) : FsAt (W.alloc (.cells #[.int .i64 8, .int .i64 0, .slice none 0 0, .slice none 0 0] 41)) (.slice (some ⟨W.heap.size, 0, none⟩) 1 1) [flC] := by
  obtain ⟨f0, f1, f2, f3⟩ := cell4 W _ rfl (.int .i64 8) (.int .i64 0) (.slice none 0 0) (.slice none 0 0) 41
  exact fsAt_one (f := flC) (mo := 0) (dO := 0) f0 f1 f2 f3 (msAt_nil _) (dsAt_nil _)

set_option maxHeartbeats 8000000 in
theorem runsEnd_any (n : Int) (w : World) (hn0 : -9223372036854775808 ≤ n) (hn1 : n ≤ 9223372036854775807) :
    Calls Try.prog 6 #[.int .i64 n] w fun e w' => e = .returned (.bool true) ∧ Below w.heap.size w w' := by
  have K1 := hide (fun W => fRun_any 0 0 0 0 0 0 0 0 0 0 ⟨#[]⟩ (.slice none 0 0) [] W (fsAt_none W) (by decide) (by simp))
  have e1 : runE [] [0, 0, 0, 0, 0, 0, 0, 0, 0, 0] (⟨#[]⟩ : ByteArray).size = 0 := end1.1
  have e1' : runL [] [0, 0, 0, 0, 0, 0, 0, 0, 0, 0] (⟨#[]⟩ : ByteArray).size = [] := end1.2
  rw [e1, e1'] at K1
  clear e1 e1'
  have K2 := hide (fun W => fRun_any 0 0 0 0 0 0 0 0 0 0 ⟨#[]⟩ _ [flA] _ (litA W) (by decide) (by simp))
  have e2 : runE [flA] [0, 0, 0, 0, 0, 0, 0, 0, 0, 0] (⟨#[]⟩ : ByteArray).size = 0 := end2.1
  have e2' : runL [flA] [0, 0, 0, 0, 0, 0, 0, 0, 0, 0] (⟨#[]⟩ : ByteArray).size = [] := end2.2
  rw [e2, e2'] at K2
  clear e2 e2'
  have K4 := hide (fun W => fRun_any 0 0 0 0 0 0 0 0 0 0 ⟨#[]⟩ _ [flB] _ (litB W) (by decide) (by simp))
  have e4 : runE [flB] [0, 0, 0, 0, 0, 0, 0, 0, 0, 0] (⟨#[]⟩ : ByteArray).size = 4 := end4
  rw [e4] at K4
  clear e4
  have K5 := hide (fun W => fRun_any 0 0 0 0 0 0 0 0 0 0 ⟨#[]⟩ _ [flC] _ (litC W) (by decide) (by simp))
  have e5 : runE [flC] [0, 0, 0, 0, 0, 0, 0, 0, 0, 0] (⟨#[]⟩ : ByteArray).size = 2 := end5
  rw [e5] at K5
  clear e5
  go_enter Try.func6, Try.ntmps6
  go_wp2_with fail
  obtain ⟨W0, hW0⟩ : ∃ W0, W0 = w.alloc (.cells #[.int .i64 0, .int .i64 0, .int .i64 0, .int .i64 0, .int .i64 0, .int .i64 0, .int .i64 0, .int .i64 0, .int .i64 0, .int .i64 0, .string ⟨#[]⟩] 32) := ⟨_, rfl⟩
  have hb0 : Below w.heap.size w W0 := by rw [hW0]; exact (Below.refl _ _).alloc (Nat.le_refl _) _
  have hz0' : w.heap.size < W0.heap.size := by rw [hW0]; simp
  have HP0 : Hid (PkF W0 w.heap.size Z10 ⟨#[]⟩) := hide ⟨⟨rfl, fun i hi => by
      rw [hW0]
      have hc : i = 0 ∨ i = 1 ∨ i = 2 ∨ i = 3 ∨ i = 4 ∨ i = 5 ∨ i = 6 ∨ i = 7 ∨ i = 8 ∨ i = 9 := by omega
      rcases hc with rfl | rfl | rfl | rfl | rfl | rfl | rfl | rfl | rfl | rfl <;> simp [Z10], by rw [hW0]; simp⟩, fun i => by rw [hW0]; simp⟩
  rw [← hW0]
  clear hW0
  refine (unhide K1 _).mono ?_
  rintro e w1 ⟨u1, rfl, ho1, hb1⟩
  obtain ⟨a1, c1, rfl⟩ : ∃ a c, u1 = .slice a 0 c := by
    obtain ⟨_, ⟨rfl, h0⟩ | ⟨g, cap, cur, rfl, _⟩⟩ := ho1
    · exact ⟨_, _, rfl⟩
    · exact ⟨_, _, rfl⟩
  clear ho1
  have HP1 := hide (HP0.out.below hb1 hz0')
  have hb01 := hb0.trans (hb1.mono hb0.size)
  have hs1 := Nat.lt_of_lt_of_le hz0' hb1.size
  clear HP0
  obtain ⟨c0, c1', c2, c3, c4, c5, c6, c7, c8, c9, cb⟩ := PkF.cells HP1.out
  obtain ⟨B, hB⟩ : ∃ B, B = w.heap.size := ⟨_, rfl⟩
  rw [← hB] at c0 c1' c2 c3 c4 c5 c6 c7 c8 c9 cb hs1 HP1 hb01 ⊢
  have HB := hide hB
  clear hB
  have hs2 : B < w1.heap.size + 1 := by omega
  have hs3 : B < w1.heap.size + 1 + 1 := by omega
  have n1 : B ≠ w1.heap.size := by omega
  have n2 : B ≠ w1.heap.size + 1 := by omega
  have n3 : B ≠ w1.heap.size + 1 + 1 := by omega
  have hA1 : Below w1.heap.size w1 (((w1.alloc (.cells #[.int .i64 1, .int .i64 1, .int .i64 1] 35)).alloc (.cells #[.int .i64 5, .int .i64 0, .int .i64 1] 38)).alloc (.cells #[.int .i64 0, .int .i64 0, .slice (some ⟨w1.heap.size, 0, none⟩) 1 1, .slice (some ⟨w1.heap.size + 1, 0, none⟩) 1 1] 41)) := (((Below.refl _ _).alloc (Nat.le_refl _) _).alloc (by simp) _).alloc (by simp; omega) _
  go_wp2_with fail
  refine (unhide K2 _).mono ?_
  rintro e w2 ⟨u2, rfl, ho2, hb2⟩
  obtain ⟨a2, c2', rfl⟩ : ∃ a c, u2 = .slice a 0 c := by
    obtain ⟨_, ⟨rfl, h0⟩ | ⟨g, cap, cur, rfl, _⟩⟩ := ho2
    · exact ⟨_, _, rfl⟩
    · exact ⟨_, _, rfl⟩
  clear ho2
  have hb12 := hA1.trans (hb2.mono hA1.size)
  have HP2 := hide (HP1.out.below hb12 hs1)
  have hb02 := hb01.trans (hb12.mono (Nat.le_of_lt hs1))
  have hs2' := Nat.lt_of_lt_of_le hs1 hb12.size
  clear HP1 hb2 hA1 hb12 c0 c1' c2 c3 c4 c5 c6 c7 c8 c9 cb hs2 hs3 n1 n2 n3 hs1 hb1
  obtain ⟨p0, p1⟩ := pk_in n 10 (by omega)
  go_wp2_with fail
  refine (picked_any n 10 _ hn0 hn1 (by omega) (by omega)).mono ?_
  rintro e w3 ⟨rfl, rfl⟩
  obtain ⟨q, hq⟩ := Int.eq_ofNat_of_zero_le p0
  rw [hq]
  have hq10 : q < 10 := by omega
  have hqi : (q : Int) < 10 := by omega
  clear p0 p1 hq
  have cq := HP2.out.1.2.1 q hq10
  have zq := HP2.out.2 q
  have HP3 := hide (HP2.out.set1 (i := q) 65536 hq10)
  have hb03 := hb02.setCell (p := ⟨B, q, none⟩) (Nat.le_refl _) (.int .i64 65536)
  have hs3 : B < (w3.setCell ⟨B, q, none⟩ (.int .i64 65536)).heap.size := by simpa using hs2'
  generalize Z10.getD q 0 = xq at cq
  have HE3 := hide (end3 q hq10)
  clear HP2
  generalize Z10.set q 65536 = G at *
  obtain ⟨f0, f1, f2, f3, f4, f5, f6, f7, f8, f9, rfl⟩ := len10 HP3.out.1.1
  obtain ⟨c0, c1', c2, c3, c4, c5, c6, c7, c8, c9, cb⟩ := PkF.cells HP3.out
  have K3 := hide (fun W => fRun_any f0 f1 f2 f3 f4 f5 f6 f7 f8 f9 ⟨#[]⟩ (.slice none 0 0) [] W (fsAt_none W) (by decide) (by simp))
  have e3 : runE [] [f0, f1, f2, f3, f4, f5, f6, f7, f8, f9] (⟨#[]⟩ : ByteArray).size = 2 := HE3.out
  rw [e3] at K3
  clear e3 HE3
  go_wp2_with fail
  refine (unhide K3 _).mono ?_
  rintro e w5 ⟨u3, rfl, ho3, hb3⟩
  have HO3 := hide ho3
  clear ho3
  have hb05 := hb03.trans (hb3.mono (Nat.le_of_lt hs3))
  have hs5 := Nat.lt_of_lt_of_le hs3 hb3.size
  clear HP3 hb3 c0 c1' c2 c3 c4 c5 c6 c7 c8 c9 cb
  have hA5 : Below w5.heap.size w5 ((w5.alloc (.cells #[.int .i64 4, .int .i64 0, .int .i64 0] 38)).alloc (.cells #[.int .i64 0, .int .i64 0, .slice none 0 0, .slice (some ⟨w5.heap.size, 0, none⟩) 1 1] 41)) := ((Below.refl _ _).alloc (Nat.le_refl _) _).alloc (by simp) _
  go_wp2_with fail
  refine (unhide K4 _).mono ?_
  rintro e w6 ⟨u4, rfl, ho4, hb4⟩
  have HO4 := hide ho4
  clear ho4
  have hb56 := hA5.trans (hb4.mono hA5.size)
  have hb06 := hb05.trans (hb56.mono (Nat.le_of_lt hs5))
  have hs6 := Nat.lt_of_lt_of_le hs5 hb56.size
  have hA6 : Below w6.heap.size w6 (w6.alloc (.cells #[.int .i64 8, .int .i64 0, .slice none 0 0, .slice none 0 0] 41)) := (Below.refl _ _).alloc (Nat.le_refl _) _
  clear hA5 hb4 hb56
  go_wp2_with fail
  refine (unhide K5 _).mono ?_
  rintro e w7 ⟨u5, rfl, ho5, hb5⟩
  have HO5 := hide ho5
  clear ho5
  have hb67 := hA6.trans (hb5.mono hA6.size)
  have hb07 := hb06.trans (hb67.mono (Nat.le_of_lt hs6))
  clear hA6 hb5 hb67
  go_wp2_with fail
  go_ret
  exact ⟨rfl, by rw [← HB.out]; exact hb07⟩

theorem i64b {k : Int} (h : (Lit.int .i64 k).wf = true) : -9223372036854775808 ≤ k ∧ k ≤ 9223372036854775807 := by
  simpa [Lit.wf, IntKind.min, IntKind.max, IntKind.signed, IntKind.bits] using h

set_option maxRecDepth 100000 in
theorem runsEnd_lifted (os : Os) (started : os.Started) (H : Type) (enc : TypeId × Value → H) :
    ReturnsInHanded {} Try.checked os 6 .any (Rows.runsEndSpec.pre6 enc Try.prog Try.f6 Rows.runsEndRow.domain false) (Rows.runsEndSpec.post enc Try.prog Try.f6 false true false false) := by
  refine returnsInHanded_of_change (C := Try.checked) own started (by kernel_rfl) Try.func6
    (ChangeSpec.witness6 (enc := enc) (C := Try.checked) false ⟨#[], #[.int .i64 0], []⟩ 8 (by kernel_rfl) (by kernel_rfl) (by kernel_rfl) (by kernel_rfl)) ?_
  intro W base args ds gs before hval0 hW hcnd _
  have hval : ∀ (j : Nat) t v, Try.f6.params[j]? = some t → args[j]? = some v → Value.okWide Try.prog W .any base t v := hval0
  have hW' := hW
  obtain ⟨p, q, hA0, hV, rfl, hfz, hnd⟩ := hW
  have hA : DataW.TrodAll enc Try.prog W 0 (fun _ => true) true Try.f6.params.toList args.toList ds p := hA0
  rw [Try.params6] at hA hval
  obtain ⟨v0, vs0, d0, ds0, p0, q0, hargs, rfl, rfl, h0, r0⟩ := trodAll_cons hA
  obtain ⟨rfl, rfl, rfl⟩ := trodAll_nil r0
  obtain rfl : args = #[v0] := by cases args; simp_all
  obtain ⟨rfl, rfl⟩ := trodVars_none hV
  obtain ⟨n, rfl, rfl, rfl, w0⟩ := open_int Try.underlying3 (hval 0 3 v0 rfl rfl) h0
  clear hA0 hval0
  refine (runsEnd_any n W (i64b w0).1 (i64b w0).2).mono fun e W' ⟨he, bel⟩ => ?_
  subst he
  exact ⟨_, rfl, _, _, _, [], _, [], hW', trodAll_mk1 (shut_bool Try.underlying4 _), (trodAll_cons_mk (shut_int Try.underlying3 w0) trodAll_mk0), rfl, bel.frame _, fun h => by cases h⟩

theorem runsEnd : Rows.RunsEndSaid :=
  OpenClaim.holds_of_wide 6 Try.f6 rfl rfl rfl rfl rfl rfl rfl ⟨rfl, rfl, rfl, rfl, rfl⟩ rfl rfl rfl rfl rfl (by kernel_rfl) Try.func6 (by kernel_rfl)
    (of_decide_eq_true (by kernel_rfl)) (by unfold Func.isWrapper; first | (rw [if_pos (by decide +kernel)]; kernel_rfl) | (rw [if_neg (by decide +kernel)]; exact ⟨rfl, rfl⟩))
    (fun os started H enc _ => runsEnd_lifted os started H enc)

end Go.Proofs.Ytgkdmmfogibbjac
