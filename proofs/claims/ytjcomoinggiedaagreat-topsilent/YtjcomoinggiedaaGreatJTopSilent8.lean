/- Texts joined: Kg. -/
import Derived.Deep.RegionHeld3
import Derived.Deep.DeepCutAuto
import Derived.Test.YtjcomoinggiedaaGreatJTopSilent7
namespace Go.Proofs.YtjcomoinggiedaaGreat
open Go.RowKit
set_option linter.unusedVariables false
set_option maxRecDepth 100000

theorem results_cell1 {fn : Func} {p : Tmp} {ty : TypeId} (h : fn.results = #[.cell p ty]) (tmps : Array Value) (P : Program) (w : World) :
    (results fn tmps).run P w = ((asAddr (tmps.getD p undef)).run P w).andThen fun a w₁ => (loadVar ty a).run P w₁ := by
  simp only [results, h]
  simp [Sem.run_bind]
theorem new_there (W : World) (n : Nat) (h : W.heap.size = n) (cs : Array Value) (t : TypeId) (m : Nat) (hm : m ≤ cs.size) : (W.alloc (.cells cs t)).there n 0 m := fun j hj => by
  rw [Nat.zero_add]
  exact ⟨new_cell_range W n h cs t j (by omega), new_frozen W n h cs t j⟩
/-- Where Change has stored an act, it answers it. -/
theorem change_fin {W : World} {tmps : Array Value} {b : Nat} {a : Ax} {cs : List Value} (hp : tmps.getD 2 undef = .pointer (some ⟨b, 0, none⟩)) (hc : Value.agg cs.toArray = actV a) (hl : cs.length = 28) (ht : W.there b 0 28) :
    (results Tryz.f24 tmps).run Tryz.prog (W.setCells b 0 cs) = .ok (actV a) (W.setCells b 0 cs) := by
  rw [results_cell1 Tryz.results24, hp, ← hc]
  show (loadVar 54 ⟨b, 0, none⟩).run Tryz.prog (W.setCells b 0 cs) = _
  exact run_loadVar_mid _ b 0 54 cs _ (World.rangeAt_setCells_same W b 0 cs (by rw [hl]; exact ht)) Tryz.underlying54 rfl (by rw [hl]; exact actInfo)

theorem act_one (a : Ax) : (#[.int .i64 a.k, .int .i64 a.si, .int .i64 a.st, .int .i64 a.sg, .int .i64 a.pi, .int .i64 a.ps, .int .i64 a.pm, .int .i64 a.pp, .int .i64 a.pc, .int .i64 a.rs, .int .i64 a.rp, .bool a.rn, .int .i64 a.rf, .int .i64 a.rb, .int .i64 a.rt, .int .i64 a.re, .int .i64 a.ro, .bool a.rd, .int .i64 a.n, .int .i64 a.m, .int .i64 a.f0, .int .i64 a.f1, .int .i64 a.f2, .int .i64 a.f3, .int .i64 a.f4, .int .i64 a.f5, .int .i64 a.f6, .string a.body] : Array Value).all (·.oneCell') = true := by
  rw [show (#[.int .i64 a.k, .int .i64 a.si, .int .i64 a.st, .int .i64 a.sg, .int .i64 a.pi, .int .i64 a.ps, .int .i64 a.pm, .int .i64 a.pp, .int .i64 a.pc, .int .i64 a.rs, .int .i64 a.rp, .bool a.rn, .int .i64 a.rf, .int .i64 a.rb, .int .i64 a.rt, .int .i64 a.re, .int .i64 a.ro, .bool a.rd, .int .i64 a.n, .int .i64 a.m, .int .i64 a.f0, .int .i64 a.f1, .int .i64 a.f2, .int .i64 a.f3, .int .i64 a.f4, .int .i64 a.f5, .int .i64 a.f6, .string a.body] : Array Value) = [.int .i64 a.k, .int .i64 a.si, .int .i64 a.st, .int .i64 a.sg, .int .i64 a.pi, .int .i64 a.ps, .int .i64 a.pm, .int .i64 a.pp, .int .i64 a.pc, .int .i64 a.rs, .int .i64 a.rp, .bool a.rn, .int .i64 a.rf, .int .i64 a.rb, .int .i64 a.rt, .int .i64 a.re, .int .i64 a.ro, .bool a.rd, .int .i64 a.n, .int .i64 a.m, .int .i64 a.f0, .int .i64 a.f1, .int .i64 a.f2, .int .i64 a.f3, .int .i64 a.f4, .int .i64 a.f5, .int .i64 a.f6, .string a.body].toArray from rfl, List.all_toArray]
  rfl

set_option maxHeartbeats 4000000 in
theorem change_dp (k a b c : Int) (w : World) (hk : -9223372036854775808 ≤ k ∧ k ≤ 9223372036854775807) (ha : -9223372036854775808 ≤ a ∧ a ≤ 9223372036854775807) (hb : -9223372036854775808 ≤ b ∧ b ≤ 9223372036854775807) (hc : -9223372036854775808 ≤ c ∧ c ≤ 9223372036854775807) (hq : pk k 16 = 12) :
    Calls Tryz.prog 24 #[.agg #[.int .i64 k, .int .i64 a, .int .i64 b, .int .i64 c]] w fun e w' => ∃ x : Ax, e = .returned (actV x) ∧ x.si ≤ 6 ∧ Below w.heap.size w w' := by
  obtain ⟨p00, p01⟩ := pk_in (a) 20 (by omega)
  obtain ⟨hk0, hk1⟩ := hk
  obtain ⟨ha0, ha1⟩ := ha
  obtain ⟨hb0, hb1⟩ := hb
  obtain ⟨hc0, hc1⟩ := hc
  obtain ⟨pk0, pk1⟩ := pk_in k 16 (by omega)
  have u0 := wrap_i64_in (1 + pk a 20) (by omega) (by omega)
  have hn1 : ¬ pk k 16 < 3 := by omega
  have hn2 : ¬ pk k 16 < 10 := by omega
  have hn3 : ¬ pk k 16 < 12 := by omega
  have HT : ((w.alloc (.cells #[.int .i64 k, .int .i64 a, .int .i64 b, .int .i64 c] 24)).alloc (.cells #[.int .i64 0, .int .i64 0, .int .i64 0, .int .i64 0, .int .i64 0, .int .i64 0, .int .i64 0, .int .i64 0, .int .i64 0, .int .i64 0, .int .i64 0, .bool false, .int .i64 0, .int .i64 0, .int .i64 0, .int .i64 0, .int .i64 0, .bool false, .int .i64 0, .int .i64 0, .int .i64 0, .int .i64 0, .int .i64 0, .int .i64 0, .int .i64 0, .int .i64 0, .int .i64 0, .string ⟨#[]⟩] 54)).there (w.heap.size + 1) 0 28 := new_there _ _ (by simp) _ _ _ (by simp)
  have HBE : Below w.heap.size w ((w.alloc (.cells #[.int .i64 k, .int .i64 a, .int .i64 b, .int .i64 c] 24)).alloc (.cells #[.int .i64 0, .int .i64 0, .int .i64 0, .int .i64 0, .int .i64 0, .int .i64 0, .int .i64 0, .int .i64 0, .int .i64 0, .int .i64 0, .int .i64 0, .bool false, .int .i64 0, .int .i64 0, .int .i64 0, .int .i64 0, .int .i64 0, .bool false, .int .i64 0, .int .i64 0, .int .i64 0, .int .i64 0, .int .i64 0, .int .i64 0, .int .i64 0, .int .i64 0, .int .i64 0, .string ⟨#[]⟩] 54)) := ((Below.refl _ _).alloc (Nat.le_refl _) _).alloc (by simp) _
  go_enter Tryz.func24, Tryz.ntmps24
  go_wp2_with (first | (go_at_call 25; refine (picked_any _ _ _ ?_ ?_ ?_ ?_).mono ?_; (first | omega | skip); (first | omega | skip); (first | omega | skip); (first | omega | skip); rintro e w' ⟨rfl, rfl⟩) | (refine wpList_store_mid rfl 54 _ _ rfl _ 0 _ rfl rfl ?_ actInfo ?_ ?_))
  · exact HT
  · exact act_one ⟨4, 0, 0, 0, 0, 0, 0, 0, 0, 0, 0, false, 0, 0, 0, 0, 0, false, 1 + pk a 20, 0, 0, 0, 0, 0, 0, 0, 0, ⟨#[]⟩⟩
  refine bodyPost_ret (v := actV ⟨4, 0, 0, 0, 0, 0, 0, 0, 0, 0, 0, false, 0, 0, 0, 0, 0, false, 1 + pk a 20, 0, 0, 0, 0, 0, 0, 0, 0, ⟨#[]⟩⟩) (change_fin (b := w.heap.size + 1) rfl rfl rfl HT) rfl ⟨_, rfl, ?_, ?_⟩
  · first | (simp; done) | (simp; omega)
  · exact fill_below (Nat.le_succ _) _ _ _ HBE

set_option maxHeartbeats 4000000 in
theorem change_da (k a b c : Int) (w : World) (hk : -9223372036854775808 ≤ k ∧ k ≤ 9223372036854775807) (ha : -9223372036854775808 ≤ a ∧ a ≤ 9223372036854775807) (hb : -9223372036854775808 ≤ b ∧ b ≤ 9223372036854775807) (hc : -9223372036854775808 ≤ c ∧ c ≤ 9223372036854775807) (hq : pk k 16 = 13) :
    Calls Tryz.prog 24 #[.agg #[.int .i64 k, .int .i64 a, .int .i64 b, .int .i64 c]] w fun e w' => ∃ x : Ax, e = .returned (actV x) ∧ x.si ≤ 6 ∧ Below w.heap.size w w' := by
  obtain ⟨p00, p01⟩ := pk_in (a) 4 (by omega)
  obtain ⟨hk0, hk1⟩ := hk
  obtain ⟨ha0, ha1⟩ := ha
  obtain ⟨hb0, hb1⟩ := hb
  obtain ⟨hc0, hc1⟩ := hc
  obtain ⟨pk0, pk1⟩ := pk_in k 16 (by omega)
  have hn1 : ¬ pk k 16 < 3 := by omega
  have hn2 : ¬ pk k 16 < 10 := by omega
  have hn3 : ¬ pk k 16 < 12 := by omega
  have HT : ((w.alloc (.cells #[.int .i64 k, .int .i64 a, .int .i64 b, .int .i64 c] 24)).alloc (.cells #[.int .i64 0, .int .i64 0, .int .i64 0, .int .i64 0, .int .i64 0, .int .i64 0, .int .i64 0, .int .i64 0, .int .i64 0, .int .i64 0, .int .i64 0, .bool false, .int .i64 0, .int .i64 0, .int .i64 0, .int .i64 0, .int .i64 0, .bool false, .int .i64 0, .int .i64 0, .int .i64 0, .int .i64 0, .int .i64 0, .int .i64 0, .int .i64 0, .int .i64 0, .int .i64 0, .string ⟨#[]⟩] 54)).there (w.heap.size + 1) 0 28 := new_there _ _ (by simp) _ _ _ (by simp)
  have HBE : Below w.heap.size w ((w.alloc (.cells #[.int .i64 k, .int .i64 a, .int .i64 b, .int .i64 c] 24)).alloc (.cells #[.int .i64 0, .int .i64 0, .int .i64 0, .int .i64 0, .int .i64 0, .int .i64 0, .int .i64 0, .int .i64 0, .int .i64 0, .int .i64 0, .int .i64 0, .bool false, .int .i64 0, .int .i64 0, .int .i64 0, .int .i64 0, .int .i64 0, .bool false, .int .i64 0, .int .i64 0, .int .i64 0, .int .i64 0, .int .i64 0, .int .i64 0, .int .i64 0, .int .i64 0, .int .i64 0, .string ⟨#[]⟩] 54)) := ((Below.refl _ _).alloc (Nat.le_refl _) _).alloc (by simp) _
  go_enter Tryz.func24, Tryz.ntmps24
  go_wp2_with (first | (go_at_call 25; refine (picked_any _ _ _ ?_ ?_ ?_ ?_).mono ?_; (first | omega | skip); (first | omega | skip); (first | omega | skip); (first | omega | skip); rintro e w' ⟨rfl, rfl⟩) | (refine wpList_store_mid rfl 54 _ _ rfl _ 0 _ rfl rfl ?_ actInfo ?_ ?_))
  · exact HT
  · exact act_one ⟨5, 0, 0, 0, 0, 0, 0, 0, 0, 0, 0, false, 0, 0, 0, 0, 0, false, pk a 4, 0, 0, 0, 0, 0, 0, 0, 0, ⟨#[]⟩⟩
  refine bodyPost_ret (v := actV ⟨5, 0, 0, 0, 0, 0, 0, 0, 0, 0, 0, false, 0, 0, 0, 0, 0, false, pk a 4, 0, 0, 0, 0, 0, 0, 0, 0, ⟨#[]⟩⟩) (change_fin (b := w.heap.size + 1) rfl rfl rfl HT) rfl ⟨_, rfl, ?_, ?_⟩
  · first | (simp; done) | (simp; omega)
  · exact fill_below (Nat.le_succ _) _ _ _ HBE

set_option maxHeartbeats 4000000 in
theorem change_bi (k a b c : Int) (w : World) (hk : -9223372036854775808 ≤ k ∧ k ≤ 9223372036854775807) (ha : -9223372036854775808 ≤ a ∧ a ≤ 9223372036854775807) (hb : -9223372036854775808 ≤ b ∧ b ≤ 9223372036854775807) (hc : -9223372036854775808 ≤ c ∧ c ≤ 9223372036854775807) (hq : 13 < pk k 16) :
    Calls Tryz.prog 24 #[.agg #[.int .i64 k, .int .i64 a, .int .i64 b, .int .i64 c]] w fun e w' => ∃ x : Ax, e = .returned (actV x) ∧ x.si ≤ 6 ∧ Below w.heap.size w w' := by
  obtain ⟨p00, p01⟩ := pk_in (a) 20 (by omega)
  obtain ⟨p10, p11⟩ := pk_in (b) 5 (by omega)
  obtain ⟨hk0, hk1⟩ := hk
  obtain ⟨ha0, ha1⟩ := ha
  obtain ⟨hb0, hb1⟩ := hb
  obtain ⟨hc0, hc1⟩ := hc
  obtain ⟨pk0, pk1⟩ := pk_in k 16 (by omega)
  have u0 := wrap_i64_in (1 + pk a 20) (by omega) (by omega)
  have u1 := wrap_i64_in (pk b 5 - 1) (by omega) (by omega)
  have hn1 : ¬ pk k 16 < 3 := by omega
  have hn2 : ¬ pk k 16 < 10 := by omega
  have hn3 : ¬ pk k 16 < 12 := by omega
  have hn4 : ¬ pk k 16 = 12 := by omega
  have hn5 : ¬ pk k 16 = 13 := by omega
  have HT : ((w.alloc (.cells #[.int .i64 k, .int .i64 a, .int .i64 b, .int .i64 c] 24)).alloc (.cells #[.int .i64 0, .int .i64 0, .int .i64 0, .int .i64 0, .int .i64 0, .int .i64 0, .int .i64 0, .int .i64 0, .int .i64 0, .int .i64 0, .int .i64 0, .bool false, .int .i64 0, .int .i64 0, .int .i64 0, .int .i64 0, .int .i64 0, .bool false, .int .i64 0, .int .i64 0, .int .i64 0, .int .i64 0, .int .i64 0, .int .i64 0, .int .i64 0, .int .i64 0, .int .i64 0, .string ⟨#[]⟩] 54)).there (w.heap.size + 1) 0 28 := new_there _ _ (by simp) _ _ _ (by simp)
  have HBE : Below w.heap.size w ((w.alloc (.cells #[.int .i64 k, .int .i64 a, .int .i64 b, .int .i64 c] 24)).alloc (.cells #[.int .i64 0, .int .i64 0, .int .i64 0, .int .i64 0, .int .i64 0, .int .i64 0, .int .i64 0, .int .i64 0, .int .i64 0, .int .i64 0, .int .i64 0, .bool false, .int .i64 0, .int .i64 0, .int .i64 0, .int .i64 0, .int .i64 0, .bool false, .int .i64 0, .int .i64 0, .int .i64 0, .int .i64 0, .int .i64 0, .int .i64 0, .int .i64 0, .int .i64 0, .int .i64 0, .string ⟨#[]⟩] 54)) := ((Below.refl _ _).alloc (Nat.le_refl _) _).alloc (by simp) _
  go_enter Tryz.func24, Tryz.ntmps24
  go_wp2_with (first | (go_at_call 25; refine (picked_any _ _ _ ?_ ?_ ?_ ?_).mono ?_; (first | omega | skip); (first | omega | skip); (first | omega | skip); (first | omega | skip); rintro e w' ⟨rfl, rfl⟩))
  obtain ⟨W0, hW0⟩ : ∃ W0, W0 = ((w.alloc (.cells #[.int .i64 k, .int .i64 a, .int .i64 b, .int .i64 c] 24)).alloc (.cells #[.int .i64 0, .int .i64 0, .int .i64 0, .int .i64 0, .int .i64 0, .int .i64 0, .int .i64 0, .int .i64 0, .int .i64 0, .int .i64 0, .int .i64 0, .bool false, .int .i64 0, .int .i64 0, .int .i64 0, .int .i64 0, .int .i64 0, .bool false, .int .i64 0, .int .i64 0, .int .i64 0, .int .i64 0, .int .i64 0, .int .i64 0, .int .i64 0, .int .i64 0, .int .i64 0, .string ⟨#[]⟩] 54)) := ⟨_, rfl⟩
  rw [← hW0] at HT HBE ⊢
  have c0 : W0.cell? ⟨w.heap.size, 0, none⟩ = some (.int .i64 k) := by rw [hW0]; exact old_cell (new_cell w _ rfl _ _ _ _ rfl) _
  have c1 : W0.cell? ⟨w.heap.size, 1, none⟩ = some (.int .i64 a) := by rw [hW0]; exact old_cell (new_cell w _ rfl _ _ _ _ rfl) _
  have c2 : W0.cell? ⟨w.heap.size, 2, none⟩ = some (.int .i64 b) := by rw [hW0]; exact old_cell (new_cell w _ rfl _ _ _ _ rfl) _
  have c3 : W0.cell? ⟨w.heap.size, 3, none⟩ = some (.int .i64 c) := by rw [hW0]; exact old_cell (new_cell w _ rfl _ _ _ _ rfl) _
  clear hW0
  have HTD : W0.drew.there (w.heap.size + 1) 0 28 := HT
  have cd0 : W0.drew.cell? ⟨w.heap.size, 0, none⟩ = some (.int .i64 k) := c0
  have cd1 : W0.drew.cell? ⟨w.heap.size, 1, none⟩ = some (.int .i64 a) := c1
  have cd2 : W0.drew.cell? ⟨w.heap.size, 2, none⟩ = some (.int .i64 b) := c2
  have cd3 : W0.drew.cell? ⟨w.heap.size, 3, none⟩ = some (.int .i64 c) := c3
  have HBD : Below w.heap.size w W0.drew := HBE.drew
  refine wp_region_held_drew (S := (fun w' => w'.cell? ⟨w.heap.size, 0, none⟩ = some (.int .i64 k) ∧ w'.cell? ⟨w.heap.size, 1, none⟩ = some (.int .i64 a) ∧ w'.cell? ⟨w.heap.size, 2, none⟩ = some (.int .i64 b) ∧ w'.cell? ⟨w.heap.size, 3, none⟩ = some (.int .i64 c))) (by kernel_rfl) ?hS1 (fun hHeld => ?hR1)
  case hS1 => (try dsimp only); go_keep
  refine wpAnyH_take (i := 0) (oi := ⟨some 125, _, _, _, _, _⟩) (v := ?v2) rfl (by kernel_rfl) (by kernel_rfl) (by kernel_rfl) (fun _ _ _ h => h) (Or.inl ⟨by rfl, ?h2⟩) (by assumption) ?r2
  case h2 => (intro w hSw; (try dsimp only at hSw); go_simp <;> with_reducible rfl)
  (try simp only [Act.put, List.setIfInBounds_toArray, List.set_cons_zero, List.set_cons_succ])
  refine wpAnyH_take (i := 1) (oi := ⟨some 126, _, _, _, _, _⟩) (v := ?v3) rfl (by kernel_rfl) (by kernel_rfl) (by kernel_rfl) (fun _ _ _ h => h) (Or.inl ⟨by rfl, ?h3⟩) (by assumption) ?r3
  case h3 => (intro w hSw; (try dsimp only at hSw); go_simp <;> with_reducible rfl)
  (try simp only [Act.put, List.setIfInBounds_toArray, List.set_cons_zero, List.set_cons_succ])
  refine wpAnyH_take (i := 4) (oi := ⟨some 129, _, _, _, _, _⟩) (v := ?v4) rfl (by kernel_rfl) (by kernel_rfl) (by kernel_rfl) (fun _ _ _ h => h) (Or.inl ⟨by rfl, ?h4⟩) (by assumption) ?r4
  case h4 => (intro w hSw; (try dsimp only at hSw); go_simp <;> with_reducible rfl)
  (try simp only [Act.put, List.setIfInBounds_toArray, List.set_cons_zero, List.set_cons_succ])
  refine wpAnyH_take (i := 5) (oi := ⟨some 130, _, _, _, _, _⟩) (v := ?v5) rfl (by kernel_rfl) (by kernel_rfl) (by kernel_rfl) (fun _ _ _ h => h) (Or.inl ⟨by rfl, ?h5⟩) (by assumption) ?r5
  case h5 => (intro w hSw; (try dsimp only at hSw); go_simp <;> with_reducible rfl)
  (try simp only [Act.put, List.setIfInBounds_toArray, List.set_cons_zero, List.set_cons_succ])
  refine wpAnyH_ready (rs := [2]) (by kernel_rfl) (by simp) ?_
  refine AllReadyH.cons (o := ⟨some 127, _, _, _, _, _⟩) rfl (fun K hK => ?_) AllReadyH.nil
  go_simp
  (go_at_call 25; refine (picked_any _ _ _ (by omega) (by omega) (by omega) (by omega)).mono ?_; rintro e w' ⟨rfl, rfl⟩)
  skip
  refine hK.out _ _ ?hS6 (fun hHeld => ?hR6)
  case hS6 => (try dsimp only); go_keep
  clear hK K
  (try simp only [Act.put, List.setIfInBounds_toArray, List.set_cons_zero, List.set_cons_succ])
  refine wpAnyH_take (i := 3) (oi := ⟨some 128, _, _, _, _, _⟩) (v := ?v7) rfl (by kernel_rfl) (by kernel_rfl) (by kernel_rfl) (fun _ _ _ h => h) (Or.inl ⟨by rfl, ?h7⟩) (by assumption) ?r7
  case h7 => (intro w hSw; (try dsimp only at hSw); go_simp <;> with_reducible rfl)
  (try simp only [Act.put, List.setIfInBounds_toArray, List.set_cons_zero, List.set_cons_succ])
  refine wpAnyH_ready (rs := [6]) (by kernel_rfl) (by simp) ?_
  refine AllReadyH.cons (o := ⟨some 131, _, _, _, _, _⟩) rfl (fun K hK => ?_) AllReadyH.nil
  go_simp
  (go_at_call 25; refine (picked_any _ _ _ (by omega) (by omega) (by omega) (by omega)).mono ?_; rintro e w' ⟨rfl, rfl⟩)
  skip
  refine hK.out _ _ ?hS8 (fun hHeld => ?hR8)
  case hS8 => (try dsimp only); go_keep
  clear hK K
  (try simp only [Act.put, List.setIfInBounds_toArray, List.set_cons_zero, List.set_cons_succ])
  refine wpAnyH_take (i := 7) (oi := ⟨some 132, _, _, _, _, _⟩) (v := ?v9) rfl (by kernel_rfl) (by kernel_rfl) (by kernel_rfl) (fun _ _ _ h => h) (Or.inl ⟨by rfl, ?h9⟩) (by assumption) ?r9
  case h9 => (intro w hSw; (try dsimp only at hSw); go_simp <;> with_reducible rfl)
  (try simp only [Act.put, List.setIfInBounds_toArray, List.set_cons_zero, List.set_cons_succ])
  refine wpAnyH_take (i := 8) (oi := ⟨some 133, _, _, _, _, _⟩) (v := ?v10) rfl (by kernel_rfl) (by kernel_rfl) (by kernel_rfl) (fun _ _ _ h => h) (Or.inl ⟨by rfl, ?h10⟩) (by assumption) ?r10
  case h10 => (intro w hSw; (try dsimp only at hSw); go_simp <;> with_reducible rfl)
  (try simp only [Act.put, List.setIfInBounds_toArray, List.set_cons_zero, List.set_cons_succ])
  refine wpAnyH_ready (rs := [9]) (by kernel_rfl) (by simp) ?_
  refine AllReadyH.cons (o := ⟨none, _, _, _, _, _⟩) rfl (fun K hK => ?_) AllReadyH.nil
  refine wp_store_mid 54 (.tmp 2) (.tmp 133) rfl (w.heap.size + 1) 0 _ rfl rfl HTD actInfo (act_one ⟨6, 0, 0, 0, 0, 0, 0, 0, 0, 0, 0, false, 0, 0, 0, 0, 0, false, 1 + pk a 20, pk b 5 - 1, 0, 0, 0, 0, 0, 0, 0, ⟨#[]⟩⟩) ?_
  refine hK.out _ _ ?hS11 (fun hHeld => ?hR11)
  case hS11 => exact ⟨(World.cell?_setCells_out _ _ _ _ _ (fun e => absurd e (by simp))).trans cd0, (World.cell?_setCells_out _ _ _ _ _ (fun e => absurd e (by simp))).trans cd1, (World.cell?_setCells_out _ _ _ _ _ (fun e => absurd e (by simp))).trans cd2, (World.cell?_setCells_out _ _ _ _ _ (fun e => absurd e (by simp))).trans cd3⟩
  clear hK K
  refine wpAnyH_done (by kernel_rfl) ?_ _
  go_wp2_with fail
  refine bodyPost_ret (v := actV ⟨6, 0, 0, 0, 0, 0, 0, 0, 0, 0, 0, false, 0, 0, 0, 0, 0, false, 1 + pk a 20, pk b 5 - 1, 0, 0, 0, 0, 0, 0, 0, ⟨#[]⟩⟩) (change_fin (b := w.heap.size + 1) rfl rfl rfl HTD) rfl ⟨_, rfl, ?_, ?_⟩
  · first | (simp; done) | (simp; omega)
  · exact fill_below (Nat.le_succ _) _ _ _ HBD

set_option maxHeartbeats 4000000 in
theorem change_sw (k a b c : Int) (w : World) (hk : -9223372036854775808 ≤ k ∧ k ≤ 9223372036854775807) (ha : -9223372036854775808 ≤ a ∧ a ≤ 9223372036854775807) (hb : -9223372036854775808 ≤ b ∧ b ≤ 9223372036854775807) (hc : -9223372036854775808 ≤ c ∧ c ≤ 9223372036854775807) (hq : pk k 16 < 3) :
    Calls Tryz.prog 24 #[.agg #[.int .i64 k, .int .i64 a, .int .i64 b, .int .i64 c]] w fun e w' => ∃ x : Ax, e = .returned (actV x) ∧ x.si ≤ 6 ∧ Below w.heap.size w w' := by
  obtain ⟨p00, p01⟩ := pk_in (a) 6 (by omega)
  obtain ⟨p10, p11⟩ := pk_in (b) 3 (by omega)
  obtain ⟨p20, p21⟩ := pk_in (c) 3 (by omega)
  obtain ⟨hk0, hk1⟩ := hk
  obtain ⟨ha0, ha1⟩ := ha
  obtain ⟨hb0, hb1⟩ := hb
  obtain ⟨hc0, hc1⟩ := hc
  obtain ⟨pk0, pk1⟩ := pk_in k 16 (by omega)
  have hm : 0 ≤ pk c 3 * (100 + pk a 6) ∧ pk c 3 * (100 + pk a 6) ≤ 1000 := ⟨Int.mul_nonneg (by omega) (by omega), Int.le_trans (Int.mul_le_mul_of_nonneg_right (show pk c 3 ≤ 2 by omega) (by omega)) (by omega)⟩
  have u0 := wrap_i64_in (1 + pk a 6) (by omega) (by omega)
  have u1 := wrap_i64_in (1 + pk b 3) (by omega) (by omega)
  have u2 := wrap_i64_in (100 + pk a 6) (by omega) (by omega)
  have u3 := wrap_i64_in (pk c 3 * (100 + pk a 6)) (by omega) (by omega)
  have HT : ((w.alloc (.cells #[.int .i64 k, .int .i64 a, .int .i64 b, .int .i64 c] 24)).alloc (.cells #[.int .i64 0, .int .i64 0, .int .i64 0, .int .i64 0, .int .i64 0, .int .i64 0, .int .i64 0, .int .i64 0, .int .i64 0, .int .i64 0, .int .i64 0, .bool false, .int .i64 0, .int .i64 0, .int .i64 0, .int .i64 0, .int .i64 0, .bool false, .int .i64 0, .int .i64 0, .int .i64 0, .int .i64 0, .int .i64 0, .int .i64 0, .int .i64 0, .int .i64 0, .int .i64 0, .string ⟨#[]⟩] 54)).there (w.heap.size + 1) 0 28 := new_there _ _ (by simp) _ _ _ (by simp)
  have HBE : Below w.heap.size w ((w.alloc (.cells #[.int .i64 k, .int .i64 a, .int .i64 b, .int .i64 c] 24)).alloc (.cells #[.int .i64 0, .int .i64 0, .int .i64 0, .int .i64 0, .int .i64 0, .int .i64 0, .int .i64 0, .int .i64 0, .int .i64 0, .int .i64 0, .int .i64 0, .bool false, .int .i64 0, .int .i64 0, .int .i64 0, .int .i64 0, .int .i64 0, .bool false, .int .i64 0, .int .i64 0, .int .i64 0, .int .i64 0, .int .i64 0, .int .i64 0, .int .i64 0, .int .i64 0, .int .i64 0, .string ⟨#[]⟩] 54)) := ((Below.refl _ _).alloc (Nat.le_refl _) _).alloc (by simp) _
  go_enter Tryz.func24, Tryz.ntmps24
  go_wp2_with (first | (go_at_call 25; refine (picked_any _ _ _ ?_ ?_ ?_ ?_).mono ?_; (first | omega | skip); (first | omega | skip); (first | omega | skip); (first | omega | skip); rintro e w' ⟨rfl, rfl⟩))
  obtain ⟨W0, hW0⟩ : ∃ W0, W0 = ((w.alloc (.cells #[.int .i64 k, .int .i64 a, .int .i64 b, .int .i64 c] 24)).alloc (.cells #[.int .i64 0, .int .i64 0, .int .i64 0, .int .i64 0, .int .i64 0, .int .i64 0, .int .i64 0, .int .i64 0, .int .i64 0, .int .i64 0, .int .i64 0, .bool false, .int .i64 0, .int .i64 0, .int .i64 0, .int .i64 0, .int .i64 0, .bool false, .int .i64 0, .int .i64 0, .int .i64 0, .int .i64 0, .int .i64 0, .int .i64 0, .int .i64 0, .int .i64 0, .int .i64 0, .string ⟨#[]⟩] 54)) := ⟨_, rfl⟩
  rw [← hW0] at HT HBE ⊢
  have c0 : W0.cell? ⟨w.heap.size, 0, none⟩ = some (.int .i64 k) := by rw [hW0]; exact old_cell (new_cell w _ rfl _ _ _ _ rfl) _
  have c1 : W0.cell? ⟨w.heap.size, 1, none⟩ = some (.int .i64 a) := by rw [hW0]; exact old_cell (new_cell w _ rfl _ _ _ _ rfl) _
  have c2 : W0.cell? ⟨w.heap.size, 2, none⟩ = some (.int .i64 b) := by rw [hW0]; exact old_cell (new_cell w _ rfl _ _ _ _ rfl) _
  have c3 : W0.cell? ⟨w.heap.size, 3, none⟩ = some (.int .i64 c) := by rw [hW0]; exact old_cell (new_cell w _ rfl _ _ _ _ rfl) _
  clear hW0
  have HTD : W0.drew.there (w.heap.size + 1) 0 28 := HT
  have cd0 : W0.drew.cell? ⟨w.heap.size, 0, none⟩ = some (.int .i64 k) := c0
  have cd1 : W0.drew.cell? ⟨w.heap.size, 1, none⟩ = some (.int .i64 a) := c1
  have cd2 : W0.drew.cell? ⟨w.heap.size, 2, none⟩ = some (.int .i64 b) := c2
  have cd3 : W0.drew.cell? ⟨w.heap.size, 3, none⟩ = some (.int .i64 c) := c3
  have HBD : Below w.heap.size w W0.drew := HBE.drew
  refine wp_region_held_drew (S := (fun w' => w'.cell? ⟨w.heap.size, 0, none⟩ = some (.int .i64 k) ∧ w'.cell? ⟨w.heap.size, 1, none⟩ = some (.int .i64 a) ∧ w'.cell? ⟨w.heap.size, 2, none⟩ = some (.int .i64 b) ∧ w'.cell? ⟨w.heap.size, 3, none⟩ = some (.int .i64 c))) (by kernel_rfl) ?hS12 (fun hHeld => ?hR12)
  case hS12 => (try dsimp only); go_keep
  refine wpAnyH_take (i := 0) (oi := ⟨some 11, _, _, _, _, _⟩) (v := ?v13) rfl (by kernel_rfl) (by kernel_rfl) (by kernel_rfl) (fun _ _ _ h => h) (Or.inl ⟨by rfl, ?h13⟩) (by assumption) ?r13
  case h13 => (intro w hSw; (try dsimp only at hSw); go_simp <;> with_reducible rfl)
  (try simp only [Act.put, List.setIfInBounds_toArray, List.set_cons_zero, List.set_cons_succ])
  refine wpAnyH_take (i := 1) (oi := ⟨some 12, _, _, _, _, _⟩) (v := ?v14) rfl (by kernel_rfl) (by kernel_rfl) (by kernel_rfl) (fun _ _ _ h => h) (Or.inl ⟨by rfl, ?h14⟩) (by assumption) ?r14
  case h14 => (intro w hSw; (try dsimp only at hSw); go_simp <;> with_reducible rfl)
  (try simp only [Act.put, List.setIfInBounds_toArray, List.set_cons_zero, List.set_cons_succ])
  refine wpAnyH_take (i := 4) (oi := ⟨some 15, _, _, _, _, _⟩) (v := ?v15) rfl (by kernel_rfl) (by kernel_rfl) (by kernel_rfl) (fun _ _ _ h => h) (Or.inl ⟨by rfl, ?h15⟩) (by assumption) ?r15
  case h15 => (intro w hSw; (try dsimp only at hSw); go_simp <;> with_reducible rfl)
  (try simp only [Act.put, List.setIfInBounds_toArray, List.set_cons_zero, List.set_cons_succ])
  refine wpAnyH_take (i := 5) (oi := ⟨some 16, _, _, _, _, _⟩) (v := ?v16) rfl (by kernel_rfl) (by kernel_rfl) (by kernel_rfl) (fun _ _ _ h => h) (Or.inl ⟨by rfl, ?h16⟩) (by assumption) ?r16
  case h16 => (intro w hSw; (try dsimp only at hSw); go_simp <;> with_reducible rfl)
  (try simp only [Act.put, List.setIfInBounds_toArray, List.set_cons_zero, List.set_cons_succ])
  refine wpAnyH_take (i := 8) (oi := ⟨some 19, _, _, _, _, _⟩) (v := ?v17) rfl (by kernel_rfl) (by kernel_rfl) (by kernel_rfl) (fun _ _ _ h => h) (Or.inl ⟨by rfl, ?h17⟩) (by assumption) ?r17
  case h17 => (intro w hSw; (try dsimp only at hSw); go_simp <;> with_reducible rfl)
  (try simp only [Act.put, List.setIfInBounds_toArray, List.set_cons_zero, List.set_cons_succ])
  refine wpAnyH_take (i := 9) (oi := ⟨some 20, _, _, _, _, _⟩) (v := ?v18) rfl (by kernel_rfl) (by kernel_rfl) (by kernel_rfl) (fun _ _ _ h => h) (Or.inl ⟨by rfl, ?h18⟩) (by assumption) ?r18
  case h18 => (intro w hSw; (try dsimp only at hSw); go_simp <;> with_reducible rfl)
  (try simp only [Act.put, List.setIfInBounds_toArray, List.set_cons_zero, List.set_cons_succ])
  refine wpAnyH_take (i := 11) (oi := ⟨some 22, _, _, _, _, _⟩) (v := ?v19) rfl (by kernel_rfl) (by kernel_rfl) (by kernel_rfl) (fun _ _ _ h => h) (Or.inl ⟨by rfl, ?h19⟩) (by assumption) ?r19
  case h19 => (intro w hSw; (try dsimp only at hSw); go_simp <;> with_reducible rfl)
  (try simp only [Act.put, List.setIfInBounds_toArray, List.set_cons_zero, List.set_cons_succ])
  refine wpAnyH_take (i := 12) (oi := ⟨some 23, _, _, _, _, _⟩) (v := ?v20) rfl (by kernel_rfl) (by kernel_rfl) (by kernel_rfl) (fun _ _ _ h => h) (Or.inl ⟨by rfl, ?h20⟩) (by assumption) ?r20
  case h20 => (intro w hSw; (try dsimp only at hSw); go_simp <;> with_reducible rfl)
  (try simp only [Act.put, List.setIfInBounds_toArray, List.set_cons_zero, List.set_cons_succ])
  refine wpAnyH_ready (rs := [2]) (by kernel_rfl) (by simp) ?_
  refine AllReadyH.cons (o := ⟨some 13, _, _, _, _, _⟩) rfl (fun K hK => ?_) AllReadyH.nil
  go_simp
  (go_at_call 25; refine (picked_any _ _ _ (by omega) (by omega) (by omega) (by omega)).mono ?_; rintro e w' ⟨rfl, rfl⟩)
  skip
  refine hK.out _ _ ?hS21 (fun hHeld => ?hR21)
  case hS21 => (try dsimp only); go_keep
  clear hK K
  (try simp only [Act.put, List.setIfInBounds_toArray, List.set_cons_zero, List.set_cons_succ])
  refine wpAnyH_take (i := 3) (oi := ⟨some 14, _, _, _, _, _⟩) (v := ?v22) rfl (by kernel_rfl) (by kernel_rfl) (by kernel_rfl) (fun _ _ _ h => h) (Or.inl ⟨by rfl, ?h22⟩) (by assumption) ?r22
  case h22 => (intro w hSw; (try dsimp only at hSw); go_simp <;> with_reducible rfl)
  (try simp only [Act.put, List.setIfInBounds_toArray, List.set_cons_zero, List.set_cons_succ])
  refine wpAnyH_ready (rs := [6]) (by kernel_rfl) (by simp) ?_
  refine AllReadyH.cons (o := ⟨some 17, _, _, _, _, _⟩) rfl (fun K hK => ?_) AllReadyH.nil
  go_simp
  (go_at_call 25; refine (picked_any _ _ _ (by omega) (by omega) (by omega) (by omega)).mono ?_; rintro e w' ⟨rfl, rfl⟩)
  skip
  refine hK.out _ _ ?hS23 (fun hHeld => ?hR23)
  case hS23 => (try dsimp only); go_keep
  clear hK K
  (try simp only [Act.put, List.setIfInBounds_toArray, List.set_cons_zero, List.set_cons_succ])
  refine wpAnyH_take (i := 7) (oi := ⟨some 18, _, _, _, _, _⟩) (v := ?v24) rfl (by kernel_rfl) (by kernel_rfl) (by kernel_rfl) (fun _ _ _ h => h) (Or.inl ⟨by rfl, ?h24⟩) (by assumption) ?r24
  case h24 => (intro w hSw; (try dsimp only at hSw); go_simp <;> with_reducible rfl)
  (try simp only [Act.put, List.setIfInBounds_toArray, List.set_cons_zero, List.set_cons_succ])
  refine wpAnyH_ready (rs := [10]) (by kernel_rfl) (by simp) ?_
  refine AllReadyH.cons (o := ⟨some 21, _, _, _, _, _⟩) rfl (fun K hK => ?_) AllReadyH.nil
  go_simp
  (go_at_call 25; refine (picked_any _ _ _ (by omega) (by omega) (by omega) (by omega)).mono ?_; rintro e w' ⟨rfl, rfl⟩)
  skip
  refine hK.out _ _ ?hS25 (fun hHeld => ?hR25)
  case hS25 => (try dsimp only); go_keep
  clear hK K
  (try simp only [Act.put, List.setIfInBounds_toArray, List.set_cons_zero, List.set_cons_succ])
  refine wpAnyH_ready (rs := [13]) (by kernel_rfl) (by simp) ?_
  refine AllReadyH.cons (o := ⟨some 24, _, _, _, _, _⟩) rfl (fun K hK => ?_) AllReadyH.nil
  go_simp
  (go_at_call 25; refine (picked_any _ _ _ (by omega) (by omega) (by omega) (by omega)).mono ?_; rintro e w' ⟨rfl, rfl⟩)
  skip
  refine hK.out _ _ ?hS26 (fun hHeld => ?hR26)
  case hS26 => (try dsimp only); go_keep
  clear hK K
  (try simp only [Act.put, List.setIfInBounds_toArray, List.set_cons_zero, List.set_cons_succ])
  refine wpAnyH_take (i := 14) (oi := ⟨some 25, _, _, _, _, _⟩) (v := ?v27) rfl (by kernel_rfl) (by kernel_rfl) (by kernel_rfl) (fun _ _ _ h => h) (Or.inl ⟨by rfl, ?h27⟩) (by assumption) ?r27
  case h27 => (intro w hSw; (try dsimp only at hSw); go_simp <;> with_reducible rfl)
  (try simp only [Act.put, List.setIfInBounds_toArray, List.set_cons_zero, List.set_cons_succ])
  refine wpAnyH_take (i := 15) (oi := ⟨some 26, _, _, _, _, _⟩) (v := ?v28) rfl (by kernel_rfl) (by kernel_rfl) (by kernel_rfl) (fun _ _ _ h => h) (Or.inl ⟨by rfl, ?h28⟩) (by assumption) ?r28
  case h28 => (intro w hSw; (try dsimp only at hSw); go_simp <;> with_reducible rfl)
  (try simp only [Act.put, List.setIfInBounds_toArray, List.set_cons_zero, List.set_cons_succ])
  refine wpAnyH_take (i := 16) (oi := ⟨some 27, _, _, _, _, _⟩) (v := ?v29) rfl (by kernel_rfl) (by kernel_rfl) (by kernel_rfl) (fun _ _ _ h => h) (Or.inl ⟨by rfl, ?h29⟩) (by assumption) ?r29
  case h29 => (intro w hSw; (try dsimp only at hSw); go_simp <;> with_reducible rfl)
  (try simp only [Act.put, List.setIfInBounds_toArray, List.set_cons_zero, List.set_cons_succ])
  refine wpAnyH_take (i := 17) (oi := ⟨some 28, _, _, _, _, _⟩) (v := ?v30) rfl (by kernel_rfl) (by kernel_rfl) (by kernel_rfl) (fun _ _ _ h => h) (Or.inl ⟨by rfl, ?h30⟩) (by assumption) ?r30
  case h30 => (intro w hSw; (try dsimp only at hSw); go_simp <;> with_reducible rfl)
  (try simp only [Act.put, List.setIfInBounds_toArray, List.set_cons_zero, List.set_cons_succ])
  refine wpAnyH_ready (rs := [18]) (by kernel_rfl) (by simp) ?_
  refine AllReadyH.cons (o := ⟨none, _, _, _, _, _⟩) rfl (fun K hK => ?_) AllReadyH.nil
  refine wp_store_mid 54 (.tmp 2) (.tmp 28) rfl (w.heap.size + 1) 0 _ rfl rfl HTD actInfo (act_one ⟨1, 1 + pk a 6, 1 + pk b 3, pk c 3 * (100 + pk a 6), 0, 0, 0, 0, 0, 0, 0, false, 0, 0, 0, 0, 0, false, 0, 0, 0, 0, 0, 0, 0, 0, 0, ⟨#[]⟩⟩) ?_
  refine hK.out _ _ ?hS31 (fun hHeld => ?hR31)
  case hS31 => exact ⟨(World.cell?_setCells_out _ _ _ _ _ (fun e => absurd e (by simp))).trans cd0, (World.cell?_setCells_out _ _ _ _ _ (fun e => absurd e (by simp))).trans cd1, (World.cell?_setCells_out _ _ _ _ _ (fun e => absurd e (by simp))).trans cd2, (World.cell?_setCells_out _ _ _ _ _ (fun e => absurd e (by simp))).trans cd3⟩
  clear hK K
  refine wpAnyH_done (by kernel_rfl) ?_ _
  go_wp2_with fail
  refine bodyPost_ret (v := actV ⟨1, 1 + pk a 6, 1 + pk b 3, pk c 3 * (100 + pk a 6), 0, 0, 0, 0, 0, 0, 0, false, 0, 0, 0, 0, 0, false, 0, 0, 0, 0, 0, 0, 0, 0, 0, ⟨#[]⟩⟩) (change_fin (b := w.heap.size + 1) rfl rfl rfl HTD) rfl ⟨_, rfl, ?_, ?_⟩
  · first | (simp; done) | (simp; omega)
  · exact fill_below (Nat.le_succ _) _ _ _ HBD

set_option maxHeartbeats 4000000 in
theorem change_pr (k a b c : Int) (w : World) (hk : -9223372036854775808 ≤ k ∧ k ≤ 9223372036854775807) (ha : -9223372036854775808 ≤ a ∧ a ≤ 9223372036854775807) (hb : -9223372036854775808 ≤ b ∧ b ≤ 9223372036854775807) (hc : -9223372036854775808 ≤ c ∧ c ≤ 9223372036854775807) (hq : ¬ pk k 16 < 3 ∧ pk k 16 < 10) :
    Calls Tryz.prog 24 #[.agg #[.int .i64 k, .int .i64 a, .int .i64 b, .int .i64 c]] w fun e w' => ∃ x : Ax, e = .returned (actV x) ∧ x.si ≤ 6 ∧ Below w.heap.size w w' := by
  have tb6 := tdiv_in b 6 (by omega) hb.1 hb.2
  have vb6 := wrap_i64_in _ tb6.1 tb6.2
  have ta20 := tdiv_in a 20 (by omega) ha.1 ha.2
  have va20 := wrap_i64_in _ ta20.1 ta20.2
  obtain ⟨p00, p01⟩ := pk_in (a) 20 (by omega)
  obtain ⟨p10, p11⟩ := pk_in (b) 6 (by omega)
  obtain ⟨p20, p21⟩ := pk_in (c) 9 (by omega)
  obtain ⟨p30, p31⟩ := pk_in (c) 30 (by omega)
  obtain ⟨p40, p41⟩ := pk_in (b.tdiv 6) 4 (by omega)
  obtain ⟨p50, p51⟩ := pk_in (a.tdiv 20) 2 (by omega)
  obtain ⟨hk0, hk1⟩ := hk
  obtain ⟨ha0, ha1⟩ := ha
  obtain ⟨hb0, hb1⟩ := hb
  obtain ⟨hc0, hc1⟩ := hc
  obtain ⟨pk0, pk1⟩ := pk_in k 16 (by omega)
  have u0 := wrap_i64_in (1 + pk a 20) (by omega) (by omega)
  have u1 := wrap_i64_in (1 + pk b 6) (by omega) (by omega)
  have u2 := wrap_i64_in (1 + pk c 9) (by omega) (by omega)
  have u3 := wrap_i64_in (1 + pk c 30) (by omega) (by omega)
  have u4 := wrap_i64_in (pk (b.tdiv 6) 4 - 1) (by omega) (by omega)
  have u5 := wrap_i64_in (pk (b.tdiv 6) 4 - 1 + pk (a.tdiv 20) 2) (by omega) (by omega)
  obtain ⟨hq1, hq2⟩ := hq
  have HT : ((w.alloc (.cells #[.int .i64 k, .int .i64 a, .int .i64 b, .int .i64 c] 24)).alloc (.cells #[.int .i64 0, .int .i64 0, .int .i64 0, .int .i64 0, .int .i64 0, .int .i64 0, .int .i64 0, .int .i64 0, .int .i64 0, .int .i64 0, .int .i64 0, .bool false, .int .i64 0, .int .i64 0, .int .i64 0, .int .i64 0, .int .i64 0, .bool false, .int .i64 0, .int .i64 0, .int .i64 0, .int .i64 0, .int .i64 0, .int .i64 0, .int .i64 0, .int .i64 0, .int .i64 0, .string ⟨#[]⟩] 54)).there (w.heap.size + 1) 0 28 := new_there _ _ (by simp) _ _ _ (by simp)
  have HBE : Below w.heap.size w ((w.alloc (.cells #[.int .i64 k, .int .i64 a, .int .i64 b, .int .i64 c] 24)).alloc (.cells #[.int .i64 0, .int .i64 0, .int .i64 0, .int .i64 0, .int .i64 0, .int .i64 0, .int .i64 0, .int .i64 0, .int .i64 0, .int .i64 0, .int .i64 0, .bool false, .int .i64 0, .int .i64 0, .int .i64 0, .int .i64 0, .int .i64 0, .bool false, .int .i64 0, .int .i64 0, .int .i64 0, .int .i64 0, .int .i64 0, .int .i64 0, .int .i64 0, .int .i64 0, .int .i64 0, .string ⟨#[]⟩] 54)) := ((Below.refl _ _).alloc (Nat.le_refl _) _).alloc (by simp) _
  go_enter Tryz.func24, Tryz.ntmps24
  go_wp2_with (first | (go_at_call 25; refine (picked_any _ _ _ ?_ ?_ ?_ ?_).mono ?_; (first | omega | skip); (first | omega | skip); (first | omega | skip); (first | omega | skip); rintro e w' ⟨rfl, rfl⟩))
  obtain ⟨W0, hW0⟩ : ∃ W0, W0 = ((w.alloc (.cells #[.int .i64 k, .int .i64 a, .int .i64 b, .int .i64 c] 24)).alloc (.cells #[.int .i64 0, .int .i64 0, .int .i64 0, .int .i64 0, .int .i64 0, .int .i64 0, .int .i64 0, .int .i64 0, .int .i64 0, .int .i64 0, .int .i64 0, .bool false, .int .i64 0, .int .i64 0, .int .i64 0, .int .i64 0, .int .i64 0, .bool false, .int .i64 0, .int .i64 0, .int .i64 0, .int .i64 0, .int .i64 0, .int .i64 0, .int .i64 0, .int .i64 0, .int .i64 0, .string ⟨#[]⟩] 54)) := ⟨_, rfl⟩
  rw [← hW0] at HT HBE ⊢
  have c0 : W0.cell? ⟨w.heap.size, 0, none⟩ = some (.int .i64 k) := by rw [hW0]; exact old_cell (new_cell w _ rfl _ _ _ _ rfl) _
  have c1 : W0.cell? ⟨w.heap.size, 1, none⟩ = some (.int .i64 a) := by rw [hW0]; exact old_cell (new_cell w _ rfl _ _ _ _ rfl) _
  have c2 : W0.cell? ⟨w.heap.size, 2, none⟩ = some (.int .i64 b) := by rw [hW0]; exact old_cell (new_cell w _ rfl _ _ _ _ rfl) _
  have c3 : W0.cell? ⟨w.heap.size, 3, none⟩ = some (.int .i64 c) := by rw [hW0]; exact old_cell (new_cell w _ rfl _ _ _ _ rfl) _
  clear hW0
  have HTD : W0.drew.there (w.heap.size + 1) 0 28 := HT
  have cd0 : W0.drew.cell? ⟨w.heap.size, 0, none⟩ = some (.int .i64 k) := c0
  have cd1 : W0.drew.cell? ⟨w.heap.size, 1, none⟩ = some (.int .i64 a) := c1
  have cd2 : W0.drew.cell? ⟨w.heap.size, 2, none⟩ = some (.int .i64 b) := c2
  have cd3 : W0.drew.cell? ⟨w.heap.size, 3, none⟩ = some (.int .i64 c) := c3
  have HBD : Below w.heap.size w W0.drew := HBE.drew
  refine wp_region_held_drew (S := (fun w' => w'.cell? ⟨w.heap.size, 0, none⟩ = some (.int .i64 k) ∧ w'.cell? ⟨w.heap.size, 1, none⟩ = some (.int .i64 a) ∧ w'.cell? ⟨w.heap.size, 2, none⟩ = some (.int .i64 b) ∧ w'.cell? ⟨w.heap.size, 3, none⟩ = some (.int .i64 c))) (by kernel_rfl) ?hS32 (fun hHeld => ?hR32)
  case hS32 => (try dsimp only); go_keep
  refine wpAnyH_take (i := 0) (oi := ⟨some 32, _, _, _, _, _⟩) (v := ?v33) rfl (by kernel_rfl) (by kernel_rfl) (by kernel_rfl) (fun _ _ _ h => h) (Or.inl ⟨by rfl, ?h33⟩) (by assumption) ?r33
  case h33 => (intro w hSw; (try dsimp only at hSw); go_simp <;> with_reducible rfl)
  (try simp only [Act.put, List.setIfInBounds_toArray, List.set_cons_zero, List.set_cons_succ])
  refine wpAnyH_take (i := 1) (oi := ⟨some 33, _, _, _, _, _⟩) (v := ?v34) rfl (by kernel_rfl) (by kernel_rfl) (by kernel_rfl) (fun _ _ _ h => h) (Or.inl ⟨by rfl, ?h34⟩) (by assumption) ?r34
  case h34 => (intro w hSw; (try dsimp only at hSw); go_simp <;> with_reducible rfl)
  (try simp only [Act.put, List.setIfInBounds_toArray, List.set_cons_zero, List.set_cons_succ])
  refine wpAnyH_take (i := 4) (oi := ⟨some 36, _, _, _, _, _⟩) (v := ?v35) rfl (by kernel_rfl) (by kernel_rfl) (by kernel_rfl) (fun _ _ _ h => h) (Or.inl ⟨by rfl, ?h35⟩) (by assumption) ?r35
  case h35 => (intro w hSw; (try dsimp only at hSw); go_simp <;> with_reducible rfl)
  (try simp only [Act.put, List.setIfInBounds_toArray, List.set_cons_zero, List.set_cons_succ])
  refine wpAnyH_take (i := 5) (oi := ⟨some 37, _, _, _, _, _⟩) (v := ?v36) rfl (by kernel_rfl) (by kernel_rfl) (by kernel_rfl) (fun _ _ _ h => h) (Or.inl ⟨by rfl, ?h36⟩) (by assumption) ?r36
  case h36 => (intro w hSw; (try dsimp only at hSw); go_simp <;> with_reducible rfl)
  (try simp only [Act.put, List.setIfInBounds_toArray, List.set_cons_zero, List.set_cons_succ])
  refine wpAnyH_take (i := 8) (oi := ⟨some 40, _, _, _, _, _⟩) (v := ?v37) rfl (by kernel_rfl) (by kernel_rfl) (by kernel_rfl) (fun _ _ _ h => h) (Or.inl ⟨by rfl, ?h37⟩) (by assumption) ?r37
  case h37 => (intro w hSw; (try dsimp only at hSw); go_simp <;> with_reducible rfl)
  (try simp only [Act.put, List.setIfInBounds_toArray, List.set_cons_zero, List.set_cons_succ])
  refine wpAnyH_take (i := 9) (oi := ⟨some 41, _, _, _, _, _⟩) (v := ?v38) rfl (by kernel_rfl) (by kernel_rfl) (by kernel_rfl) (fun _ _ _ h => h) (Or.inl ⟨by rfl, ?h38⟩) (by assumption) ?r38
  case h38 => (intro w hSw; (try dsimp only at hSw); go_simp <;> with_reducible rfl)
  (try simp only [Act.put, List.setIfInBounds_toArray, List.set_cons_zero, List.set_cons_succ])
  refine wpAnyH_take (i := 12) (oi := ⟨some 44, _, _, _, _, _⟩) (v := ?v39) rfl (by kernel_rfl) (by kernel_rfl) (by kernel_rfl) (fun _ _ _ h => h) (Or.inl ⟨by rfl, ?h39⟩) (by assumption) ?r39
  case h39 => (intro w hSw; (try dsimp only at hSw); go_simp <;> with_reducible rfl)
  (try simp only [Act.put, List.setIfInBounds_toArray, List.set_cons_zero, List.set_cons_succ])
  refine wpAnyH_take (i := 13) (oi := ⟨some 45, _, _, _, _, _⟩) (v := ?v40) rfl (by kernel_rfl) (by kernel_rfl) (by kernel_rfl) (fun _ _ _ h => h) (Or.inl ⟨by rfl, ?h40⟩) (by assumption) ?r40
  case h40 => (intro w hSw; (try dsimp only at hSw); go_simp <;> with_reducible rfl)
  (try simp only [Act.put, List.setIfInBounds_toArray, List.set_cons_zero, List.set_cons_succ])
  refine wpAnyH_take (i := 16) (oi := ⟨some 48, _, _, _, _, _⟩) (v := ?v41) rfl (by kernel_rfl) (by kernel_rfl) (by kernel_rfl) (fun _ _ _ h => h) (Or.inl ⟨by rfl, ?h41⟩) (by assumption) ?r41
  case h41 => (intro w hSw; (try dsimp only at hSw); go_simp <;> with_reducible rfl)
  (try simp only [Act.put, List.setIfInBounds_toArray, List.set_cons_zero, List.set_cons_succ])
  refine wpAnyH_take (i := 17) (oi := ⟨some 49, _, _, _, _, _⟩) (v := ?v42) rfl (by kernel_rfl) (by kernel_rfl) (by kernel_rfl) (fun _ _ _ h => h) (Or.inl ⟨by rfl, ?h42⟩) (by assumption) ?r42
  case h42 => (intro w hSw; (try dsimp only at hSw); go_simp <;> with_reducible rfl)
  (try simp only [Act.put, List.setIfInBounds_toArray, List.set_cons_zero, List.set_cons_succ])
  refine wpAnyH_take (i := 18) (oi := ⟨some 50, _, _, _, _, _⟩) (v := ?v43) rfl (by kernel_rfl) (by kernel_rfl) (by kernel_rfl) (fun _ _ _ h => h) (Or.inl ⟨by rfl, ?h43⟩) (by assumption) ?r43
  case h43 => (intro w hSw; (try dsimp only at hSw); go_simp <;> with_reducible rfl)
  (try simp only [Act.put, List.setIfInBounds_toArray, List.set_cons_zero, List.set_cons_succ])
  refine wpAnyH_take (i := 21) (oi := ⟨some 53, _, _, _, _, _⟩) (v := ?v44) rfl (by kernel_rfl) (by kernel_rfl) (by kernel_rfl) (fun _ _ _ h => h) (Or.inl ⟨by rfl, ?h44⟩) (by assumption) ?r44
  case h44 => (intro w hSw; (try dsimp only at hSw); go_simp <;> with_reducible rfl)
  (try simp only [Act.put, List.setIfInBounds_toArray, List.set_cons_zero, List.set_cons_succ])
  refine wpAnyH_take (i := 22) (oi := ⟨some 54, _, _, _, _, _⟩) (v := ?v45) rfl (by kernel_rfl) (by kernel_rfl) (by kernel_rfl) (fun _ _ _ h => h) (Or.inl ⟨by rfl, ?h45⟩) (by assumption) ?r45
  case h45 => (intro w hSw; (try dsimp only at hSw); go_simp <;> with_reducible rfl)
  (try simp only [Act.put, List.setIfInBounds_toArray, List.set_cons_zero, List.set_cons_succ])
  refine wpAnyH_take (i := 23) (oi := ⟨some 55, _, _, _, _, _⟩) (v := ?v46) rfl (by kernel_rfl) (by kernel_rfl) (by kernel_rfl) (fun _ _ _ h => h) (Or.inl ⟨by rfl, ?h46⟩) (by assumption) ?r46
  case h46 => (intro w hSw; (try dsimp only at hSw); go_simp <;> with_reducible rfl)
  (try simp only [Act.put, List.setIfInBounds_toArray, List.set_cons_zero, List.set_cons_succ])
  refine wpAnyH_ready (rs := [2]) (by kernel_rfl) (by simp) ?_
  refine AllReadyH.cons (o := ⟨some 34, _, _, _, _, _⟩) rfl (fun K hK => ?_) AllReadyH.nil
  go_simp
  (go_at_call 25; refine (picked_any _ _ _ (by omega) (by omega) (by omega) (by omega)).mono ?_; rintro e w' ⟨rfl, rfl⟩)
  skip
  refine hK.out _ _ ?hS47 (fun hHeld => ?hR47)
  case hS47 => (try dsimp only); go_keep
  clear hK K
  (try simp only [Act.put, List.setIfInBounds_toArray, List.set_cons_zero, List.set_cons_succ])
  refine wpAnyH_take (i := 3) (oi := ⟨some 35, _, _, _, _, _⟩) (v := ?v48) rfl (by kernel_rfl) (by kernel_rfl) (by kernel_rfl) (fun _ _ _ h => h) (Or.inl ⟨by rfl, ?h48⟩) (by assumption) ?r48
  case h48 => (intro w hSw; (try dsimp only at hSw); go_simp <;> with_reducible rfl)
  (try simp only [Act.put, List.setIfInBounds_toArray, List.set_cons_zero, List.set_cons_succ])
  refine wpAnyH_ready (rs := [6]) (by kernel_rfl) (by simp) ?_
  refine AllReadyH.cons (o := ⟨some 38, _, _, _, _, _⟩) rfl (fun K hK => ?_) AllReadyH.nil
  go_simp
  (go_at_call 25; refine (picked_any _ _ _ (by omega) (by omega) (by omega) (by omega)).mono ?_; rintro e w' ⟨rfl, rfl⟩)
  skip
  refine hK.out _ _ ?hS49 (fun hHeld => ?hR49)
  case hS49 => (try dsimp only); go_keep
  clear hK K
  (try simp only [Act.put, List.setIfInBounds_toArray, List.set_cons_zero, List.set_cons_succ])
  refine wpAnyH_take (i := 7) (oi := ⟨some 39, _, _, _, _, _⟩) (v := ?v50) rfl (by kernel_rfl) (by kernel_rfl) (by kernel_rfl) (fun _ _ _ h => h) (Or.inl ⟨by rfl, ?h50⟩) (by assumption) ?r50
  case h50 => (intro w hSw; (try dsimp only at hSw); go_simp <;> with_reducible rfl)
  (try simp only [Act.put, List.setIfInBounds_toArray, List.set_cons_zero, List.set_cons_succ])
  refine wpAnyH_ready (rs := [10]) (by kernel_rfl) (by simp) ?_
  refine AllReadyH.cons (o := ⟨some 42, _, _, _, _, _⟩) rfl (fun K hK => ?_) AllReadyH.nil
  go_simp
  (go_at_call 25; refine (picked_any _ _ _ (by omega) (by omega) (by omega) (by omega)).mono ?_; rintro e w' ⟨rfl, rfl⟩)
  skip
  refine hK.out _ _ ?hS51 (fun hHeld => ?hR51)
  case hS51 => (try dsimp only); go_keep
  clear hK K
  (try simp only [Act.put, List.setIfInBounds_toArray, List.set_cons_zero, List.set_cons_succ])
  refine wpAnyH_take (i := 11) (oi := ⟨some 43, _, _, _, _, _⟩) (v := ?v52) rfl (by kernel_rfl) (by kernel_rfl) (by kernel_rfl) (fun _ _ _ h => h) (Or.inl ⟨by rfl, ?h52⟩) (by assumption) ?r52
  case h52 => (intro w hSw; (try dsimp only at hSw); go_simp <;> with_reducible rfl)
  (try simp only [Act.put, List.setIfInBounds_toArray, List.set_cons_zero, List.set_cons_succ])
  refine wpAnyH_ready (rs := [14]) (by kernel_rfl) (by simp) ?_
  refine AllReadyH.cons (o := ⟨some 46, _, _, _, _, _⟩) rfl (fun K hK => ?_) AllReadyH.nil
  go_simp
  (go_at_call 25; refine (picked_any _ _ _ (by omega) (by omega) (by omega) (by omega)).mono ?_; rintro e w' ⟨rfl, rfl⟩)
  skip
  refine hK.out _ _ ?hS53 (fun hHeld => ?hR53)
  case hS53 => (try dsimp only); go_keep
  clear hK K
  (try simp only [Act.put, List.setIfInBounds_toArray, List.set_cons_zero, List.set_cons_succ])
  refine wpAnyH_take (i := 15) (oi := ⟨some 47, _, _, _, _, _⟩) (v := ?v54) rfl (by kernel_rfl) (by kernel_rfl) (by kernel_rfl) (fun _ _ _ h => h) (Or.inl ⟨by rfl, ?h54⟩) (by assumption) ?r54
  case h54 => (intro w hSw; (try dsimp only at hSw); go_simp <;> with_reducible rfl)
  (try simp only [Act.put, List.setIfInBounds_toArray, List.set_cons_zero, List.set_cons_succ])
  refine wpAnyH_ready (rs := [19]) (by kernel_rfl) (by simp) ?_
  refine AllReadyH.cons (o := ⟨some 51, _, _, _, _, _⟩) rfl (fun K hK => ?_) AllReadyH.nil
  go_simp
  (go_at_call 25; refine (picked_any _ _ _ (by omega) (by omega) (by omega) (by omega)).mono ?_; rintro e w' ⟨rfl, rfl⟩)
  skip
  refine hK.out _ _ ?hS55 (fun hHeld => ?hR55)
  case hS55 => (try dsimp only); go_keep
  clear hK K
  (try simp only [Act.put, List.setIfInBounds_toArray, List.set_cons_zero, List.set_cons_succ])
  refine wpAnyH_take (i := 20) (oi := ⟨some 52, _, _, _, _, _⟩) (v := ?v56) rfl (by kernel_rfl) (by kernel_rfl) (by kernel_rfl) (fun _ _ _ h => h) (Or.inl ⟨by rfl, ?h56⟩) (by assumption) ?r56
  case h56 => (intro w hSw; (try dsimp only at hSw); go_simp <;> with_reducible rfl)
  (try simp only [Act.put, List.setIfInBounds_toArray, List.set_cons_zero, List.set_cons_succ])
  refine wpAnyH_ready (rs := [24]) (by kernel_rfl) (by simp) ?_
  refine AllReadyH.cons (o := ⟨some 56, _, _, _, _, _⟩) rfl (fun K hK => ?_) AllReadyH.nil
  go_simp
  (go_at_call 25; refine (picked_any _ _ _ (by omega) (by omega) (by omega) (by omega)).mono ?_; rintro e w' ⟨rfl, rfl⟩)
  skip
  refine hK.out _ _ ?hS57 (fun hHeld => ?hR57)
  case hS57 => (try dsimp only); go_keep
  clear hK K
  (try simp only [Act.put, List.setIfInBounds_toArray, List.set_cons_zero, List.set_cons_succ])
  refine wpAnyH_take (i := 25) (oi := ⟨some 57, _, _, _, _, _⟩) (v := ?v58) rfl (by kernel_rfl) (by kernel_rfl) (by kernel_rfl) (fun _ _ _ h => h) (Or.inl ⟨by rfl, ?h58⟩) (by assumption) ?r58
  case h58 => (intro w hSw; (try dsimp only at hSw); go_simp <;> with_reducible rfl)
  (try simp only [Act.put, List.setIfInBounds_toArray, List.set_cons_zero, List.set_cons_succ])
  refine wpAnyH_take (i := 26) (oi := ⟨some 58, _, _, _, _, _⟩) (v := ?v59) rfl (by kernel_rfl) (by kernel_rfl) (by kernel_rfl) (fun _ _ _ h => h) (Or.inl ⟨by rfl, ?h59⟩) (by assumption) ?r59
  case h59 => (intro w hSw; (try dsimp only at hSw); go_simp <;> with_reducible rfl)
  (try simp only [Act.put, List.setIfInBounds_toArray, List.set_cons_zero, List.set_cons_succ])
  refine wpAnyH_take (i := 27) (oi := ⟨some 59, _, _, _, _, _⟩) (v := ?v60) rfl (by kernel_rfl) (by kernel_rfl) (by kernel_rfl) (fun _ _ _ h => h) (Or.inl ⟨by rfl, ?h60⟩) (by assumption) ?r60
  case h60 => (intro w hSw; (try dsimp only at hSw); go_simp <;> with_reducible rfl)
  (try simp only [Act.put, List.setIfInBounds_toArray, List.set_cons_zero, List.set_cons_succ])
  refine wpAnyH_ready (rs := [28]) (by kernel_rfl) (by simp) ?_
  refine AllReadyH.cons (o := ⟨none, _, _, _, _, _⟩) rfl (fun K hK => ?_) AllReadyH.nil
  refine wp_store_mid 54 (.tmp 2) (.tmp 59) rfl (w.heap.size + 1) 0 _ rfl rfl HTD actInfo (act_one ⟨2, 0, 0, 0, 1 + pk a 20, 1 + pk b 6, 1 + pk c 9, 1 + pk c 30, pk (b.tdiv 6) 4 - 1 + pk (a.tdiv 20) 2, 0, 0, false, 0, 0, 0, 0, 0, false, 0, 0, 0, 0, 0, 0, 0, 0, 0, ⟨#[]⟩⟩) ?_
  refine hK.out _ _ ?hS61 (fun hHeld => ?hR61)
  case hS61 => exact ⟨(World.cell?_setCells_out _ _ _ _ _ (fun e => absurd e (by simp))).trans cd0, (World.cell?_setCells_out _ _ _ _ _ (fun e => absurd e (by simp))).trans cd1, (World.cell?_setCells_out _ _ _ _ _ (fun e => absurd e (by simp))).trans cd2, (World.cell?_setCells_out _ _ _ _ _ (fun e => absurd e (by simp))).trans cd3⟩
  clear hK K
  refine wpAnyH_done (by kernel_rfl) ?_ _
  go_wp2_with fail
  refine bodyPost_ret (v := actV ⟨2, 0, 0, 0, 1 + pk a 20, 1 + pk b 6, 1 + pk c 9, 1 + pk c 30, pk (b.tdiv 6) 4 - 1 + pk (a.tdiv 20) 2, 0, 0, false, 0, 0, 0, 0, 0, false, 0, 0, 0, 0, 0, 0, 0, 0, 0, ⟨#[]⟩⟩) (change_fin (b := w.heap.size + 1) rfl rfl rfl HTD) rfl ⟨_, rfl, ?_, ?_⟩
  · first | (simp; done) | (simp; omega)
  · exact fill_below (Nat.le_succ _) _ _ _ HBD

set_option maxHeartbeats 4000000 in
theorem change_ac (k a b c : Int) (w : World) (hk : -9223372036854775808 ≤ k ∧ k ≤ 9223372036854775807) (ha : -9223372036854775808 ≤ a ∧ a ≤ 9223372036854775807) (hb : -9223372036854775808 ≤ b ∧ b ≤ 9223372036854775807) (hc : -9223372036854775808 ≤ c ∧ c ≤ 9223372036854775807) (hq : ¬ pk k 16 < 10 ∧ pk k 16 < 12) :
    Calls Tryz.prog 24 #[.agg #[.int .i64 k, .int .i64 a, .int .i64 b, .int .i64 c]] w fun e w' => ∃ x : Ax, e = .returned (actV x) ∧ x.si ≤ 6 ∧ Below w.heap.size w w' := by
  have tb5 := tdiv_in b 5 (by omega) hb.1 hb.2
  have vb5 := wrap_i64_in _ tb5.1 tb5.2
  have tc2 := tdiv_in c 2 (by omega) hc.1 hc.2
  have vc2 := wrap_i64_in _ tc2.1 tc2.2
  have tc6 := tdiv_in c 6 (by omega) hc.1 hc.2
  have vc6 := wrap_i64_in _ tc6.1 tc6.2
  have ta6 := tdiv_in a 6 (by omega) ha.1 ha.2
  have va6 := wrap_i64_in _ ta6.1 ta6.2
  have tc12 := tdiv_in c 12 (by omega) hc.1 hc.2
  have vc12 := wrap_i64_in _ tc12.1 tc12.2
  have tb20 := tdiv_in b 20 (by omega) hb.1 hb.2
  have vb20 := wrap_i64_in _ tb20.1 tb20.2
  obtain ⟨p00, p01⟩ := pk_in (a) 6 (by omega)
  obtain ⟨p10, p11⟩ := pk_in (b) 5 (by omega)
  obtain ⟨p20, p21⟩ := pk_in (c) 2 (by omega)
  obtain ⟨p30, p31⟩ := pk_in (b.tdiv 5) 4 (by omega)
  obtain ⟨p40, p41⟩ := pk_in (c.tdiv 2) 3 (by omega)
  obtain ⟨p50, p51⟩ := pk_in (c.tdiv 6) 2 (by omega)
  obtain ⟨p60, p61⟩ := pk_in (a.tdiv 6) 30 (by omega)
  obtain ⟨p70, p71⟩ := pk_in (c.tdiv 12) 3 (by omega)
  obtain ⟨p80, p81⟩ := pk_in (b.tdiv 20) 8 (by omega)
  obtain ⟨hk0, hk1⟩ := hk
  obtain ⟨ha0, ha1⟩ := ha
  obtain ⟨hb0, hb1⟩ := hb
  obtain ⟨hc0, hc1⟩ := hc
  obtain ⟨pk0, pk1⟩ := pk_in k 16 (by omega)
  have u0 := wrap_i64_in (1 + pk a 6) (by omega) (by omega)
  have u1 := wrap_i64_in (pk (b.tdiv 5) 4 - 1) (by omega) (by omega)
  have u2 := wrap_i64_in (pk (b.tdiv 20) 8 * 4) (by omega) (by omega)
  obtain ⟨hq1, hq2⟩ := hq
  have hn1 : ¬ pk k 16 < 3 := by omega
  have HT : ((w.alloc (.cells #[.int .i64 k, .int .i64 a, .int .i64 b, .int .i64 c] 24)).alloc (.cells #[.int .i64 0, .int .i64 0, .int .i64 0, .int .i64 0, .int .i64 0, .int .i64 0, .int .i64 0, .int .i64 0, .int .i64 0, .int .i64 0, .int .i64 0, .bool false, .int .i64 0, .int .i64 0, .int .i64 0, .int .i64 0, .int .i64 0, .bool false, .int .i64 0, .int .i64 0, .int .i64 0, .int .i64 0, .int .i64 0, .int .i64 0, .int .i64 0, .int .i64 0, .int .i64 0, .string ⟨#[]⟩] 54)).there (w.heap.size + 1) 0 28 := new_there _ _ (by simp) _ _ _ (by simp)
  have HBE : Below w.heap.size w ((w.alloc (.cells #[.int .i64 k, .int .i64 a, .int .i64 b, .int .i64 c] 24)).alloc (.cells #[.int .i64 0, .int .i64 0, .int .i64 0, .int .i64 0, .int .i64 0, .int .i64 0, .int .i64 0, .int .i64 0, .int .i64 0, .int .i64 0, .int .i64 0, .bool false, .int .i64 0, .int .i64 0, .int .i64 0, .int .i64 0, .int .i64 0, .bool false, .int .i64 0, .int .i64 0, .int .i64 0, .int .i64 0, .int .i64 0, .int .i64 0, .int .i64 0, .int .i64 0, .int .i64 0, .string ⟨#[]⟩] 54)) := ((Below.refl _ _).alloc (Nat.le_refl _) _).alloc (by simp) _
  go_enter Tryz.func24, Tryz.ntmps24
  go_wp2_with (first | (go_at_call 25; refine (picked_any _ _ _ ?_ ?_ ?_ ?_).mono ?_; (first | omega | skip); (first | omega | skip); (first | omega | skip); (first | omega | skip); rintro e w' ⟨rfl, rfl⟩))
  obtain ⟨W0, hW0⟩ : ∃ W0, W0 = ((w.alloc (.cells #[.int .i64 k, .int .i64 a, .int .i64 b, .int .i64 c] 24)).alloc (.cells #[.int .i64 0, .int .i64 0, .int .i64 0, .int .i64 0, .int .i64 0, .int .i64 0, .int .i64 0, .int .i64 0, .int .i64 0, .int .i64 0, .int .i64 0, .bool false, .int .i64 0, .int .i64 0, .int .i64 0, .int .i64 0, .int .i64 0, .bool false, .int .i64 0, .int .i64 0, .int .i64 0, .int .i64 0, .int .i64 0, .int .i64 0, .int .i64 0, .int .i64 0, .int .i64 0, .string ⟨#[]⟩] 54)) := ⟨_, rfl⟩
  rw [← hW0] at HT HBE ⊢
  have c0 : W0.cell? ⟨w.heap.size, 0, none⟩ = some (.int .i64 k) := by rw [hW0]; exact old_cell (new_cell w _ rfl _ _ _ _ rfl) _
  have c1 : W0.cell? ⟨w.heap.size, 1, none⟩ = some (.int .i64 a) := by rw [hW0]; exact old_cell (new_cell w _ rfl _ _ _ _ rfl) _
  have c2 : W0.cell? ⟨w.heap.size, 2, none⟩ = some (.int .i64 b) := by rw [hW0]; exact old_cell (new_cell w _ rfl _ _ _ _ rfl) _
  have c3 : W0.cell? ⟨w.heap.size, 3, none⟩ = some (.int .i64 c) := by rw [hW0]; exact old_cell (new_cell w _ rfl _ _ _ _ rfl) _
  clear hW0
  have hlt : w.heap.size + 1 < W0.heap.size := cell_in (Option.isSome_iff_exists.1 (HT 0 (by omega)).1).choose_spec
  go_region_held3 (fun w' => w'.cell? ⟨w.heap.size, 0, none⟩ = some (.int .i64 k) ∧ w'.cell? ⟨w.heap.size, 1, none⟩ = some (.int .i64 a) ∧ w'.cell? ⟨w.heap.size, 2, none⟩ = some (.int .i64 b) ∧ w'.cell? ⟨w.heap.size, 3, none⟩ = some (.int .i64 c)) (go_keep) (first | (go_at_call 25; refine (picked_any _ _ _ ?_ ?_ ?_ ?_).mono ?_; (first | omega | skip); (first | omega | skip); (first | omega | skip); (first | omega | skip); rintro e w' ⟨rfl, rfl⟩))
  all_goals
    obtain ⟨W1, hW1⟩ : ∃ W1, W1 = (W0.alloc (.cells #[.int .i64 (1 + pk a 6), .int .i64 (pk b 5), .bool (pk c 2 == 0), .int .i64 0, .int .i64 0, .int .i64 0, .int .i64 0, .int .i64 (pk (b.tdiv 5) 4 - 1), .bool (decide (0 < pk (c.tdiv 2) 3))] 52)).drew := ⟨_, rfl⟩
    obtain ⟨ab, hab⟩ : ∃ ab, ab = W0.heap.size := ⟨_, rfl⟩
    rw [← hW1, ← hab]
    have d0 : W1.cell? ⟨ab, 0, none⟩ = some (.int .i64 (1 + pk a 6)) := by rw [hW1, hab]; exact new_cell W0 _ rfl _ _ _ _ rfl
    have d1 : W1.cell? ⟨ab, 1, none⟩ = some (.int .i64 (pk b 5)) := by rw [hW1, hab]; exact new_cell W0 _ rfl _ _ _ _ rfl
    have d2 : W1.cell? ⟨ab, 2, none⟩ = some (.bool (pk c 2 == 0)) := by rw [hW1, hab]; exact new_cell W0 _ rfl _ _ _ _ rfl
    have d3 : W1.cell? ⟨ab, 3, none⟩ = some (.int .i64 0) := by rw [hW1, hab]; exact new_cell W0 _ rfl _ _ _ _ rfl
    have d4 : W1.cell? ⟨ab, 4, none⟩ = some (.int .i64 0) := by rw [hW1, hab]; exact new_cell W0 _ rfl _ _ _ _ rfl
    have d5 : W1.cell? ⟨ab, 5, none⟩ = some (.int .i64 0) := by rw [hW1, hab]; exact new_cell W0 _ rfl _ _ _ _ rfl
    have d6 : W1.cell? ⟨ab, 6, none⟩ = some (.int .i64 0) := by rw [hW1, hab]; exact new_cell W0 _ rfl _ _ _ _ rfl
    have d7 : W1.cell? ⟨ab, 7, none⟩ = some (.int .i64 (pk (b.tdiv 5) 4 - 1)) := by rw [hW1, hab]; exact new_cell W0 _ rfl _ _ _ _ rfl
    have d8 : W1.cell? ⟨ab, 8, none⟩ = some (.bool (decide (0 < pk (c.tdiv 2) 3))) := by rw [hW1, hab]; exact new_cell W0 _ rfl _ _ _ _ rfl
    have z3 : W1.frozen? ⟨ab, 3, none⟩ = false := by rw [hW1, hab]; exact new_frozen W0 _ rfl _ _ _
    have z4 : W1.frozen? ⟨ab, 4, none⟩ = false := by rw [hW1, hab]; exact new_frozen W0 _ rfl _ _ _
    have z5 : W1.frozen? ⟨ab, 5, none⟩ = false := by rw [hW1, hab]; exact new_frozen W0 _ rfl _ _ _
    have z6 : W1.frozen? ⟨ab, 6, none⟩ = false := by rw [hW1, hab]; exact new_frozen W0 _ rfl _ _ _
    have B1 : Below W0.heap.size W0 W1 := by rw [hW1]; exact ((Below.refl _ _).alloc (Nat.le_refl _) _).drew
    have e0 := cell_beh c0 B1 (Nat.le_refl _)
    have e1 := cell_beh c1 B1 (Nat.le_refl _)
    have e2 := cell_beh c2 B1 (Nat.le_refl _)
    have e3 := cell_beh c3 B1 (Nat.le_refl _)
    have HT1 : W1.there (w.heap.size + 1) 0 28 := fun j hj => ⟨by rw [show W1.cell? ⟨w.heap.size + 1, 0 + j, none⟩ = W0.cell? ⟨w.heap.size + 1, 0 + j, none⟩ from B1.cell (p := ⟨w.heap.size + 1, 0 + j, none⟩) hlt]; exact (HT j hj).1, (B1.frozen (p := ⟨w.heap.size + 1, 0 + j, none⟩) hlt).trans (HT j hj).2⟩
    have HBE1 : Below w.heap.size w W1 := HBE.trans (B1.mono HBE.size)
    have hn2 : w.heap.size + 1 < ab := by omega
    have hn3 : ¬ ab = w.heap.size := by omega
    have hn4 : ¬ w.heap.size = ab := by omega
    have hn5 : w.heap.size ≤ ab := by omega
    clear hW1 hab c0 c1 c2 c3 HT HBE B1 hlt
    by_cases g1 : pk (c.tdiv 6) 2 = 0
    · by_cases g2 : pk (c.tdiv 12) 3 = 0
      · go_wp2_with (first | (go_at_call 25; refine (picked_any _ _ _ ?_ ?_ ?_ ?_).mono ?_; (first | omega | skip); (first | omega | skip); (first | omega | skip); (first | omega | skip); rintro e w' ⟨rfl, rfl⟩) | (refine wpList_store_mid rfl 54 _ _ rfl _ 0 _ rfl rfl ?_ actInfo ?_ ?_))
        · exact (World.there_setCells (World.there_setCells (World.there_setCells (World.there_setCells HT1 ab 3 [.int .i64 (pk (a.tdiv 6) 30)]) ab 4 [.int .i64 16]) ab 5 [.int .i64 (pk (b.tdiv 20) 8 * 4)]) ab 6 [.int .i64 14])
        · exact act_one ⟨3, 0, 0, 0, 0, 0, 0, 0, 0, 1 + pk a 6, pk b 5, pk c 2 == 0, pk (a.tdiv 6) 30, 16, pk (b.tdiv 20) 8 * 4, 14, pk (b.tdiv 5) 4 - 1, decide (0 < pk (c.tdiv 2) 3), 0, 0, 0, 0, 0, 0, 0, 0, 0, ⟨#[]⟩⟩
        refine bodyPost_ret (v := actV ⟨3, 0, 0, 0, 0, 0, 0, 0, 0, 1 + pk a 6, pk b 5, pk c 2 == 0, pk (a.tdiv 6) 30, 16, pk (b.tdiv 20) 8 * 4, 14, pk (b.tdiv 5) 4 - 1, decide (0 < pk (c.tdiv 2) 3), 0, 0, 0, 0, 0, 0, 0, 0, 0, ⟨#[]⟩⟩) (change_fin (b := w.heap.size + 1) rfl rfl rfl (World.there_setCells (World.there_setCells (World.there_setCells (World.there_setCells HT1 ab 3 [.int .i64 (pk (a.tdiv 6) 30)]) ab 4 [.int .i64 16]) ab 5 [.int .i64 (pk (b.tdiv 20) 8 * 4)]) ab 6 [.int .i64 14])) rfl ⟨_, rfl, ?_, ?_⟩
        · simp
        · exact fill_below (Nat.le_succ _) _ _ _ ((((HBE1.setCell (p := ⟨ab, 3, none⟩) hn5 (.int .i64 (pk (a.tdiv 6) 30))).setCell (p := ⟨ab, 4, none⟩) hn5 (.int .i64 16)).setCell (p := ⟨ab, 5, none⟩) hn5 (.int .i64 (pk (b.tdiv 20) 8 * 4))).setCell (p := ⟨ab, 6, none⟩) hn5 (.int .i64 14))
      · go_wp2_with (first | (go_at_call 25; refine (picked_any _ _ _ ?_ ?_ ?_ ?_).mono ?_; (first | omega | skip); (first | omega | skip); (first | omega | skip); (first | omega | skip); rintro e w' ⟨rfl, rfl⟩) | (refine wpList_store_mid rfl 54 _ _ rfl _ 0 _ rfl rfl ?_ actInfo ?_ ?_))
        · exact (World.there_setCells (World.there_setCells HT1 ab 3 [.int .i64 (pk (a.tdiv 6) 30)]) ab 4 [.int .i64 16])
        · exact act_one ⟨3, 0, 0, 0, 0, 0, 0, 0, 0, 1 + pk a 6, pk b 5, pk c 2 == 0, pk (a.tdiv 6) 30, 16, 0, 0, pk (b.tdiv 5) 4 - 1, decide (0 < pk (c.tdiv 2) 3), 0, 0, 0, 0, 0, 0, 0, 0, 0, ⟨#[]⟩⟩
        refine bodyPost_ret (v := actV ⟨3, 0, 0, 0, 0, 0, 0, 0, 0, 1 + pk a 6, pk b 5, pk c 2 == 0, pk (a.tdiv 6) 30, 16, 0, 0, pk (b.tdiv 5) 4 - 1, decide (0 < pk (c.tdiv 2) 3), 0, 0, 0, 0, 0, 0, 0, 0, 0, ⟨#[]⟩⟩) (change_fin (b := w.heap.size + 1) rfl rfl rfl (World.there_setCells (World.there_setCells HT1 ab 3 [.int .i64 (pk (a.tdiv 6) 30)]) ab 4 [.int .i64 16])) rfl ⟨_, rfl, ?_, ?_⟩
        · simp
        · exact fill_below (Nat.le_succ _) _ _ _ ((HBE1.setCell (p := ⟨ab, 3, none⟩) hn5 (.int .i64 (pk (a.tdiv 6) 30))).setCell (p := ⟨ab, 4, none⟩) hn5 (.int .i64 16))
    · by_cases g2 : pk (c.tdiv 12) 3 = 0
      · go_wp2_with (first | (go_at_call 25; refine (picked_any _ _ _ ?_ ?_ ?_ ?_).mono ?_; (first | omega | skip); (first | omega | skip); (first | omega | skip); (first | omega | skip); rintro e w' ⟨rfl, rfl⟩) | (refine wpList_store_mid rfl 54 _ _ rfl _ 0 _ rfl rfl ?_ actInfo ?_ ?_))
        · exact (World.there_setCells (World.there_setCells HT1 ab 5 [.int .i64 (pk (b.tdiv 20) 8 * 4)]) ab 6 [.int .i64 14])
        · exact act_one ⟨3, 0, 0, 0, 0, 0, 0, 0, 0, 1 + pk a 6, pk b 5, pk c 2 == 0, 0, 0, pk (b.tdiv 20) 8 * 4, 14, pk (b.tdiv 5) 4 - 1, decide (0 < pk (c.tdiv 2) 3), 0, 0, 0, 0, 0, 0, 0, 0, 0, ⟨#[]⟩⟩
        refine bodyPost_ret (v := actV ⟨3, 0, 0, 0, 0, 0, 0, 0, 0, 1 + pk a 6, pk b 5, pk c 2 == 0, 0, 0, pk (b.tdiv 20) 8 * 4, 14, pk (b.tdiv 5) 4 - 1, decide (0 < pk (c.tdiv 2) 3), 0, 0, 0, 0, 0, 0, 0, 0, 0, ⟨#[]⟩⟩) (change_fin (b := w.heap.size + 1) rfl rfl rfl (World.there_setCells (World.there_setCells HT1 ab 5 [.int .i64 (pk (b.tdiv 20) 8 * 4)]) ab 6 [.int .i64 14])) rfl ⟨_, rfl, ?_, ?_⟩
        · simp
        · exact fill_below (Nat.le_succ _) _ _ _ ((HBE1.setCell (p := ⟨ab, 5, none⟩) hn5 (.int .i64 (pk (b.tdiv 20) 8 * 4))).setCell (p := ⟨ab, 6, none⟩) hn5 (.int .i64 14))
      · go_wp2_with (first | (go_at_call 25; refine (picked_any _ _ _ ?_ ?_ ?_ ?_).mono ?_; (first | omega | skip); (first | omega | skip); (first | omega | skip); (first | omega | skip); rintro e w' ⟨rfl, rfl⟩) | (refine wpList_store_mid rfl 54 _ _ rfl _ 0 _ rfl rfl ?_ actInfo ?_ ?_))
        · exact HT1
        · exact act_one ⟨3, 0, 0, 0, 0, 0, 0, 0, 0, 1 + pk a 6, pk b 5, pk c 2 == 0, 0, 0, 0, 0, pk (b.tdiv 5) 4 - 1, decide (0 < pk (c.tdiv 2) 3), 0, 0, 0, 0, 0, 0, 0, 0, 0, ⟨#[]⟩⟩
        refine bodyPost_ret (v := actV ⟨3, 0, 0, 0, 0, 0, 0, 0, 0, 1 + pk a 6, pk b 5, pk c 2 == 0, 0, 0, 0, 0, pk (b.tdiv 5) 4 - 1, decide (0 < pk (c.tdiv 2) 3), 0, 0, 0, 0, 0, 0, 0, 0, 0, ⟨#[]⟩⟩) (change_fin (b := w.heap.size + 1) rfl rfl rfl HT1) rfl ⟨_, rfl, ?_, ?_⟩
        · simp
        · exact fill_below (Nat.le_succ _) _ _ _ HBE1

theorem change_any (x : Int × Int × Int × Int) (w : World) (hk : -9223372036854775808 ≤ x.1 ∧ x.1 ≤ 9223372036854775807) (ha : -9223372036854775808 ≤ x.2.1 ∧ x.2.1 ≤ 9223372036854775807) (hb : -9223372036854775808 ≤ x.2.2.1 ∧ x.2.2.1 ≤ 9223372036854775807) (hc : -9223372036854775808 ≤ x.2.2.2 ∧ x.2.2.2 ≤ 9223372036854775807) :
    Calls Tryz.prog 24 #[.agg #[.int .i64 x.1, .int .i64 x.2.1, .int .i64 x.2.2.1, .int .i64 x.2.2.2]] w fun e w' => ∃ x : Ax, e = .returned (actV x) ∧ x.si ≤ 6 ∧ Below w.heap.size w w' := by
  obtain ⟨p0, p1⟩ := pk_in x.1 16 (by omega)
  rcases (show pk x.1 16 < 3 ∨ (¬ pk x.1 16 < 3 ∧ pk x.1 16 < 10) ∨ (¬ pk x.1 16 < 10 ∧ pk x.1 16 < 12) ∨ pk x.1 16 = 12 ∨ pk x.1 16 = 13 ∨ 13 < pk x.1 16 by omega) with h | h | h | h | h | h
  · exact change_sw _ _ _ _ w hk ha hb hc h
  · exact change_pr _ _ _ _ w hk ha hb hc h
  · exact change_ac _ _ _ _ w hk ha hb hc h
  · exact change_dp _ _ _ _ w hk ha hb hc h
  · exact change_da _ _ _ _ w hk ha hb hc h
  · exact change_bi _ _ _ _ w hk ha hb hc h

end Go.Proofs.YtjcomoinggiedaaGreat
