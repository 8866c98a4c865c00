/-
  What flow's order of two flows answers: cmp.Compare, cmp.Or, slices.CompareFunc, the six orders, in turn.
-/
import Derived.Test.YtonhfgdnkkkikacTwo
import Derived.Shelf.SlSortCmp.NoneTotal
import Derived.Laws.EntriesVeiled
import Derived.Deep.QuietTactic
import Derived.BigQuiet
import Derived.Deep.RegionHeld3
namespace Go.Proofs.Ytonhfgdnkkkikac
open Go.RowKit
open Go.Sort (grow grow_grow alloc_eq_grow heap_grow_old)
set_option linter.unusedVariables false
set_option maxRecDepth 100000

/-- A world some draws and some blocks on. -/
def Grw (W w' : World) : Prop := ∃ q os, w' = grow (W.drewN q) os
theorem Grw.refl (W : World) : Grw W W := ⟨0, #[], by rw [Go.Sort.grow_empty]; rfl⟩
theorem Grw.trans {a b c : World} (h : Grw a b) (k : Grw b c) : Grw a c := by
  obtain ⟨q, os, rfl⟩ := h
  obtain ⟨q', os', rfl⟩ := k
  refine ⟨q + q', os ++ os', ?_⟩
  show grow (grow ((a.drewN q).drewN q') os) os' = _
  rw [grow_grow]
  congr 1
  simp [World.drewN, Nat.add_assoc]
theorem Grw.alloc {a b : World} (h : Grw a b) (o : Obj) : Grw a (b.alloc o) := h.trans ⟨0, #[o], by rw [alloc_eq_grow]; rfl⟩
theorem Grw.drewN {a b : World} (h : Grw a b) (n : Nat) : Grw a (b.drewN n) := h.trans ⟨n, #[], by rw [Go.Sort.grow_empty]⟩
theorem Grw.drew {a b : World} (h : Grw a b) : Grw a b.drew := h.drewN 1
theorem Grw.below {a b : World} (h : Grw a b) : Below a.heap.size a b := by
  obtain ⟨q, os, rfl⟩ := h
  refine ⟨rfl, rfl, rfl, by simp, fun k hk => ?_⟩
  rw [heap_grow_old _ _ (by simpa using hk)]
  rfl

def cmpI (x y : Int) : Int := if x < y then -1 else if y < x then 1 else 0

set_option maxHeartbeats 1000000 in
theorem compare_any (x y : Int) (w : World) : Calls Try.prog 63 #[.int .i64 x, .int .i64 y] w fun e w' => e = .returned (.int .i64 (cmpI x y)) ∧ w' = w := by
  have hN : Hid (∀ (z : Int) (W : World), Calls Try.prog 90 #[.int .i64 z] W fun e w' => e = .returned (.bool false) ∧ w' = W) := by
    intro z W
    go_enter Try.func90, Try.ntmps90
    go_wp2
    all_goals go_ret
    all_goals exact ⟨by simp, rfl⟩
  have HC : Hid (cmpI x y = if x < y then -1 else if y < x then 1 else 0) := rfl
  generalize cmpI x y = R at HC ⊢
  go_enter Try.func63, Try.ntmps63
  go_wp2_with (go_at_call 90; refine (unhide hN _ _).mono ?_; rintro e w' ⟨rfl, rfl⟩)
  all_goals go_ret
  all_goals refine ⟨int_ret ?_, rfl⟩
  all_goals (rw [HC.out]; first | (rw [if_pos (by omega)]) | (rw [if_neg (by omega), if_pos (by omega)]) | (rw [if_neg (by omega), if_neg (by omega)]))

theorem new3 (W : World) (n : Nat) (hn : W.heap.size = n) (a b c : Value) (t : TypeId) : (W.alloc (.cells #[a, b, c] t)).cell? ⟨n, 0, none⟩ = some a ∧ (W.alloc (.cells #[a, b, c] t)).cell? ⟨n, 1, none⟩ = some b ∧ (W.alloc (.cells #[a, b, c] t)).cell? ⟨n, 2, none⟩ = some c := by
  subst hn
  simp
def or3 (a b c : Int) : Int := if a ≠ 0 then a else if b ≠ 0 then b else c

set_option maxHeartbeats 1000000 in
theorem or3_any (g : Nat) (a b c : Int) (w : World) (h0 : w.cell? ⟨g, 0, none⟩ = some (.int .i64 a)) (h1 : w.cell? ⟨g, 1, none⟩ = some (.int .i64 b)) (h2 : w.cell? ⟨g, 2, none⟩ = some (.int .i64 c)) :
    Calls Try.prog 91 #[.slice (some ⟨g, 0, none⟩) 3 3] w fun e w' => e = .returned (.int .i64 (or3 a b c)) ∧ w' = w := by
  have HR : Hid (or3 a b c = if a ≠ 0 then a else if b ≠ 0 then b else c) := rfl
  generalize or3 a b c = R at HR ⊢
  go_enter Try.func91, Try.ntmps91
  go_wp2_with fail
  refine wp_loop_rounds 4 ?_
  rw [rounds_succ]
  by_cases ha : a = 0
  · subst ha
    go_wp2_with fail
    rw [rounds_succ]
    by_cases hb : b = 0
    · subst hb
      go_wp2_with fail
      rw [rounds_succ]
      by_cases hc : c = 0
      · subst hc
        go_wp2_with fail
        rw [rounds_succ]
        go_wp2_with fail
        go_ret
        exact ⟨int_ret (by rw [HR.out]; simp), rfl⟩
      · go_wp2_with fail
        go_ret
        exact ⟨int_ret (by rw [HR.out]; simp), rfl⟩
    · go_wp2_with fail
      go_ret
      exact ⟨int_ret (by rw [HR.out]; simp [hb]), rfl⟩
  · go_wp2_with fail
    go_ret
    exact ⟨int_ret (by rw [HR.out]; simp [ha]), rfl⟩

set_option maxHeartbeats 2000000 in
theorem compareMs_any (x0 x1 x2 y0 y1 y2 : Int) (w : World) :
    Calls Try.prog 69 #[.agg #[.int .i64 x0, .int .i64 x1, .int .i64 x2], .agg #[.int .i64 y0, .int .i64 y1, .int .i64 y2]] w fun e w' => e = .returned (.int .i64 (or3 (cmpI x0 y0) (cmpI x1 y1) (cmpI x2 y2))) ∧ Grw w w' := by
  go_enter Try.func69, Try.ntmps69
  go_wp2_with fail
  go_region_held3 (fun w' => w'.cell? ⟨w.heap.size, 0, none⟩ = some (.int .i64 x0) ∧ w'.cell? ⟨w.heap.size, 1, none⟩ = some (.int .i64 x1) ∧ w'.cell? ⟨w.heap.size, 2, none⟩ = some (.int .i64 x2) ∧ w'.cell? ⟨w.heap.size + 1, 0, none⟩ = some (.int .i64 y0) ∧ w'.cell? ⟨w.heap.size + 1, 1, none⟩ = some (.int .i64 y1) ∧ w'.cell? ⟨w.heap.size + 1, 2, none⟩ = some (.int .i64 y2)) (go_keep)
    (first | (go_at_call 63; refine (compare_any _ _ _).mono ?_; rintro e w' ⟨rfl, rfl⟩) | (go_at_call 91; refine (or3_any _ (cmpI x0 y0) (cmpI x1 y1) (cmpI x2 y2) _ ?_ ?_ ?_).mono ?_; exact (new3 _ _ (by simp) _ _ _ _).1; exact (new3 _ _ (by simp) _ _ _ _).2.1; exact (new3 _ _ (by simp) _ _ _ _).2.2; rintro e w' ⟨rfl, rfl⟩))
  all_goals go_wp2
  all_goals go_ret
  all_goals exact ⟨rfl, ((((Grw.refl w).alloc _).alloc _).alloc _).drew⟩

set_option maxHeartbeats 2000000 in
theorem compareDs_any (x0 x1 x2 y0 y1 y2 : Int) (w : World) :
    Calls Try.prog 72 #[.agg #[.int .i64 x0, .int .i64 x1, .int .i64 x2], .agg #[.int .i64 y0, .int .i64 y1, .int .i64 y2]] w fun e w' => e = .returned (.int .i64 (or3 (cmpI x0 y0) (cmpI x1 y1) (cmpI x2 y2))) ∧ Grw w w' := by
  go_enter Try.func72, Try.ntmps72
  go_wp2_with fail
  go_region_held3 (fun w' => w'.cell? ⟨w.heap.size, 0, none⟩ = some (.int .i64 x0) ∧ w'.cell? ⟨w.heap.size, 1, none⟩ = some (.int .i64 x1) ∧ w'.cell? ⟨w.heap.size, 2, none⟩ = some (.int .i64 x2) ∧ w'.cell? ⟨w.heap.size + 1, 0, none⟩ = some (.int .i64 y0) ∧ w'.cell? ⟨w.heap.size + 1, 1, none⟩ = some (.int .i64 y1) ∧ w'.cell? ⟨w.heap.size + 1, 2, none⟩ = some (.int .i64 y2)) (go_keep)
    (first | (go_at_call 63; refine (compare_any _ _ _).mono ?_; rintro e w' ⟨rfl, rfl⟩) | (go_at_call 91; refine (or3_any _ (cmpI x0 y0) (cmpI x1 y1) (cmpI x2 y2) _ ?_ ?_ ?_).mono ?_; exact (new3 _ _ (by simp) _ _ _ _).1; exact (new3 _ _ (by simp) _ _ _ _).2.1; exact (new3 _ _ (by simp) _ _ _ _).2.2; rintro e w' ⟨rfl, rfl⟩))
  all_goals go_wp2
  all_goals go_ret
  all_goals exact ⟨rfl, ((((Grw.refl w).alloc _).alloc _).alloc _).drew⟩

/-- Lists of triples in their order, as slices.CompareFunc holds them against each other. -/
def lexM : List Mt → List Mt → Int
  | [], [] => 0
  | [], _ :: _ => -1
  | _ :: _, [] => 1
  | x :: xs, y :: ys => if or3 (cmpI x.f y.f) (cmpI x.m y.m) (cmpI x.v y.v) ≠ 0 then or3 (cmpI x.f y.f) (cmpI x.m y.m) (cmpI x.v y.v) else lexM xs ys
def cM (x y : Mt) : Int := or3 (cmpI x.f y.f) (cmpI x.m y.m) (cmpI x.v y.v)
theorem lexM_step : ∀ (xs ys : List Mt) (k : Nat), k < xs.length → k < ys.length → (∀ j, j < k → cM (xs.getD j mt0) (ys.getD j mt0) = 0) → cM (xs.getD k mt0) (ys.getD k mt0) ≠ 0 → lexM xs ys = cM (xs.getD k mt0) (ys.getD k mt0)
  | [], _, _, h, _, _, _ => by simp at h
  | _ :: _, [], _, _, h, _, _ => by simp at h
  | x :: xs, y :: ys, 0, _, _, _, hn => by
    simp only [List.getD_cons_zero] at hn ⊢
    show (if cM x y ≠ 0 then cM x y else lexM xs ys) = _
    rw [if_pos hn]
  | x :: xs, y :: ys, k + 1, h1, h2, ha, hn => by
    simp only [List.getD_cons_succ] at hn ⊢
    show (if cM x y ≠ 0 then cM x y else lexM xs ys) = _
    have h0 := ha 0 (by omega)
    simp only [List.getD_cons_zero] at h0
    rw [if_neg (fun h => h h0)]
    exact lexM_step xs ys k (by simpa using h1) (by simpa using h2) (fun j hj => by simpa using ha (j + 1) (by omega)) hn
theorem lexM_more : ∀ (xs ys : List Mt), ys.length < xs.length → (∀ j, j < ys.length → cM (xs.getD j mt0) (ys.getD j mt0) = 0) → lexM xs ys = 1
  | [], ys, h, _ => by simp at h
  | x :: xs, [], _, _ => rfl
  | x :: xs, y :: ys, h, ha => by
    show (if cM x y ≠ 0 then cM x y else lexM xs ys) = _
    have h0 := ha 0 (by simp)
    simp only [List.getD_cons_zero] at h0
    rw [if_neg (fun h => h h0)]
    exact lexM_more xs ys (by simpa using h) (fun j hj => by simpa using ha (j + 1) (by simpa using hj))
theorem lexM_end : ∀ (xs ys : List Mt), xs.length ≤ ys.length → (∀ j, j < xs.length → cM (xs.getD j mt0) (ys.getD j mt0) = 0) → lexM xs ys = if xs.length < ys.length then -1 else 0
  | [], [], _, _ => rfl
  | [], y :: ys, _, _ => by simp [lexM]
  | x :: xs, [], h, _ => by simp at h
  | x :: xs, y :: ys, h, ha => by
    show (if cM x y ≠ 0 then cM x y else lexM xs ys) = _
    have h0 := ha 0 (by simp)
    simp only [List.getD_cons_zero] at h0
    rw [if_neg (fun h => h h0), lexM_end xs ys (by simpa using h) (fun j hj => by simpa using ha (j + 1) (by simpa using hj))]
    simp
/-- Lists of triples in their order, as slices.CompareFunc holds them against each other. -/
def lexD : List Do → List Do → Int
  | [], [] => 0
  | [], _ :: _ => -1
  | _ :: _, [] => 1
  | x :: xs, y :: ys => if or3 (cmpI x.k y.k) (cmpI x.a y.a) (cmpI x.n y.n) ≠ 0 then or3 (cmpI x.k y.k) (cmpI x.a y.a) (cmpI x.n y.n) else lexD xs ys
def cD (x y : Do) : Int := or3 (cmpI x.k y.k) (cmpI x.a y.a) (cmpI x.n y.n)
theorem lexD_step : ∀ (xs ys : List Do) (k : Nat), k < xs.length → k < ys.length → (∀ j, j < k → cD (xs.getD j do0) (ys.getD j do0) = 0) → cD (xs.getD k do0) (ys.getD k do0) ≠ 0 → lexD xs ys = cD (xs.getD k do0) (ys.getD k do0)
  | [], _, _, h, _, _, _ => by simp at h
  | _ :: _, [], _, _, h, _, _ => by simp at h
  | x :: xs, y :: ys, 0, _, _, _, hn => by
    simp only [List.getD_cons_zero] at hn ⊢
    show (if cD x y ≠ 0 then cD x y else lexD xs ys) = _
    rw [if_pos hn]
  | x :: xs, y :: ys, k + 1, h1, h2, ha, hn => by
    simp only [List.getD_cons_succ] at hn ⊢
    show (if cD x y ≠ 0 then cD x y else lexD xs ys) = _
    have h0 := ha 0 (by omega)
    simp only [List.getD_cons_zero] at h0
    rw [if_neg (fun h => h h0)]
    exact lexD_step xs ys k (by simpa using h1) (by simpa using h2) (fun j hj => by simpa using ha (j + 1) (by omega)) hn
theorem lexD_more : ∀ (xs ys : List Do), ys.length < xs.length → (∀ j, j < ys.length → cD (xs.getD j do0) (ys.getD j do0) = 0) → lexD xs ys = 1
  | [], ys, h, _ => by simp at h
  | x :: xs, [], _, _ => rfl
  | x :: xs, y :: ys, h, ha => by
    show (if cD x y ≠ 0 then cD x y else lexD xs ys) = _
    have h0 := ha 0 (by simp)
    simp only [List.getD_cons_zero] at h0
    rw [if_neg (fun h => h h0)]
    exact lexD_more xs ys (by simpa using h) (fun j hj => by simpa using ha (j + 1) (by simpa using hj))
theorem lexD_end : ∀ (xs ys : List Do), xs.length ≤ ys.length → (∀ j, j < xs.length → cD (xs.getD j do0) (ys.getD j do0) = 0) → lexD xs ys = if xs.length < ys.length then -1 else 0
  | [], [], _, _ => rfl
  | [], y :: ys, _, _ => by simp [lexD]
  | x :: xs, [], h, _ => by simp at h
  | x :: xs, y :: ys, h, ha => by
    show (if cD x y ≠ 0 then cD x y else lexD xs ys) = _
    have h0 := ha 0 (by simp)
    simp only [List.getD_cons_zero] at h0
    rw [if_neg (fun h => h h0), lexD_end xs ys (by simpa using h) (fun j hj => by simpa using ha (j + 1) (by simpa using hj))]
    simp
set_option maxHeartbeats 4000000 in
theorem compareFuncMs_any (u v : Value) (xs ys : List Mt) (w : World) (hu : MsAt w u xs) (hv : MsAt w v ys) (hl : xs.length ≤ 2000000) (hl2 : ys.length ≤ 2000000) :
    Calls Try.prog 68 #[u, v, .func (.func 69) #[] #[]] w fun e w' => e = .returned (.int .i64 (lexM xs ys)) ∧ Grw w w' := by
  obtain ⟨ua, uc, rfl, hun, huL⟩ := hu
  obtain ⟨va, vc, rfl, hvn, hvL⟩ := hv
  go_enter Try.func68, Try.ntmps68
  go_wp2_with fail
  go_loopw [13] (fun i wr => ∃ k : Nat, k ≤ xs.length ∧ k ≤ ys.length ∧ i = .int .i64 k ∧ (∀ j, j < k → cM (xs.getD j mt0) (ys.getD j mt0) = 0) ∧ Grw w wr) (fun i _ => xs.length - (intOf i).toNat)
  case atStart => exact ⟨0, by omega, by omega, rfl, fun j h => absurd h (by omega), Grw.refl _⟩
  case round =>
    obtain ⟨k, hk, hk2, rfl, hall, hgr⟩ := hrel
    have HALL := hide hall
    clear hall
    have hbel := hgr.below
    have hsz := hbel.size
    by_cases hlt : k < xs.length
    · obtain ⟨b, off, rfl, hcap, hcell⟩ : ∃ b off, ua = some ⟨b, off, none⟩ ∧ xs.length ≤ uc ∧ ∀ i, i < xs.length → w.cell? ⟨b, off + i * 3, none⟩ = some (.int .i64 (xs.getD i mt0).f) ∧ w.cell? ⟨b, off + i * 3 + 1, none⟩ = some (.int .i64 (xs.getD i mt0).m) ∧ w.cell? ⟨b, off + i * 3 + 2, none⟩ = some (.int .i64 (xs.getD i mt0).v) := by
        rcases huL with h0 | h
        · omega
        · exact h
      obtain ⟨g0, g1, g2⟩ := hcell k hlt
      have m0 := cell_below g0 hbel (Nat.le_refl _)
      have m1 := cell_below g1 hbel (Nat.le_refl _)
      have m2 := cell_below g2 hbel (Nat.le_refl _)
      clear g0 g1 g2 hcell huL
      by_cases hlt2 : k < ys.length
      · obtain ⟨b2, off2, rfl, hcap2, hcell⟩ : ∃ b off, va = some ⟨b, off, none⟩ ∧ ys.length ≤ vc ∧ ∀ i, i < ys.length → w.cell? ⟨b, off + i * 3, none⟩ = some (.int .i64 (ys.getD i mt0).f) ∧ w.cell? ⟨b, off + i * 3 + 1, none⟩ = some (.int .i64 (ys.getD i mt0).m) ∧ w.cell? ⟨b, off + i * 3 + 2, none⟩ = some (.int .i64 (ys.getD i mt0).v) := by
          rcases hvL with h0 | h
          · omega
          · exact h
        obtain ⟨g0, g1, g2⟩ := hcell k hlt2
        have n0 := cell_below g0 hbel (Nat.le_refl _)
        have n1 := cell_below g1 hbel (Nat.le_refl _)
        have n2 := cell_below g2 hbel (Nat.le_refl _)
        clear g0 g1 g2 hcell hvL
        have hnb2 := cell_lt n0
        have HX : Hid (cM (xs.getD k mt0) (ys.getD k mt0) = 0 → ∀ j, j < k + 1 → cM (xs.getD j mt0) (ys.getD j mt0) = 0) := fun h j hj => by
          by_cases e : j = k
          · subst e; exact h
          · exact HALL.out j (by omega)
        have HV : Hid (cM (xs.getD k mt0) (ys.getD k mt0) ≠ 0 → lexM xs ys = cM (xs.getD k mt0) (ys.getD k mt0)) := fun h => lexM_step xs ys k hlt hlt2 HALL.out h
        have HC : Hid (∀ W : World, Calls Try.prog 69 #[.agg #[.int .i64 (xs.getD k mt0).f, .int .i64 (xs.getD k mt0).m, .int .i64 (xs.getD k mt0).v], .agg #[.int .i64 (ys.getD k mt0).f, .int .i64 (ys.getD k mt0).m, .int .i64 (ys.getD k mt0).v]] W fun e w' => e = .returned (.int .i64 (cM (xs.getD k mt0) (ys.getD k mt0))) ∧ Grw W w') := fun W => compareMs_any _ _ _ _ _ _ W
        generalize cM (xs.getD k mt0) (ys.getD k mt0) = R at *
        generalize xs.getD k mt0 = X at *
        generalize ys.getD k mt0 = Y at *
        have hgA := (hgr.alloc (.cells #[.int .i64 X.f, .int .i64 X.m, .int .i64 X.v] 35)).alloc (.cells #[.int .i64 Y.f, .int .i64 Y.m, .int .i64 Y.v] 35)
        go_wp2_with fail
        refine (unhide HC _).mono ?_
        rintro e w1 ⟨rfl, hg1⟩
        have hg2 := hgA.trans hg1
        clear m0 m1 m2 n0 n1 n2 hg1 HC
        by_cases hR : R = 0
        · have HR := hide (HX.out hR)
          subst hR
          clear HX HV
          go_wp2_with fail
          go_roundw
          case rel => exact ⟨k + 1, by omega, by omega, by go_num, HR.out, hg2⟩
          case measure => simp [intOf]; omega
        · have HR := hide (HV.out hR)
          clear HX HV
          go_wp2_with fail
          go_ret
          exact ⟨int_ret HR.out.symm, hg2⟩
      · have hge : (ys.length : Int) ≤ (k : Int) := by omega
        have HR := hide (lexM_more xs ys (by omega) (fun j hj => HALL.out j (by omega)))
        clear HALL hvL
        generalize xs.getD k mt0 = X at *
        go_wp2_with fail
        go_ret
        exact ⟨int_ret HR.out.symm, hgr.alloc _⟩
    · have hke : k = xs.length := by omega
      have HR := hide (lexM_end xs ys (by omega) (fun j hj => HALL.out j (by omega)))
      clear HALL huL hvL
      by_cases hlt2 : xs.length < ys.length
      · rw [if_pos hlt2] at HR
        go_wp2_with fail
        go_ret
        exact ⟨int_ret HR.out.symm, hgr⟩
      · rw [if_neg hlt2] at HR
        go_wp2_with fail
        go_ret
        exact ⟨int_ret HR.out.symm, hgr⟩

set_option maxHeartbeats 4000000 in
theorem compareFuncDs_any (u v : Value) (xs ys : List Do) (w : World) (hu : DsAt w u xs) (hv : DsAt w v ys) (hl : xs.length ≤ 2000000) (hl2 : ys.length ≤ 2000000) :
    Calls Try.prog 71 #[u, v, .func (.func 72) #[] #[]] w fun e w' => e = .returned (.int .i64 (lexD xs ys)) ∧ Grw w w' := by
  obtain ⟨ua, uc, rfl, hun, huL⟩ := hu
  obtain ⟨va, vc, rfl, hvn, hvL⟩ := hv
  go_enter Try.func71, Try.ntmps71
  go_wp2_with fail
  go_loopw [13] (fun i wr => ∃ k : Nat, k ≤ xs.length ∧ k ≤ ys.length ∧ i = .int .i64 k ∧ (∀ j, j < k → cD (xs.getD j do0) (ys.getD j do0) = 0) ∧ Grw w wr) (fun i _ => xs.length - (intOf i).toNat)
  case atStart => exact ⟨0, by omega, by omega, rfl, fun j h => absurd h (by omega), Grw.refl _⟩
  case round =>
    obtain ⟨k, hk, hk2, rfl, hall, hgr⟩ := hrel
    have HALL := hide hall
    clear hall
    have hbel := hgr.below
    have hsz := hbel.size
    by_cases hlt : k < xs.length
    · obtain ⟨b, off, rfl, hcap, hcell⟩ : ∃ b off, ua = some ⟨b, off, none⟩ ∧ xs.length ≤ uc ∧ ∀ i, i < xs.length → w.cell? ⟨b, off + i * 3, none⟩ = some (.int .i64 (xs.getD i do0).k) ∧ w.cell? ⟨b, off + i * 3 + 1, none⟩ = some (.int .i64 (xs.getD i do0).a) ∧ w.cell? ⟨b, off + i * 3 + 2, none⟩ = some (.int .i64 (xs.getD i do0).n) := by
        rcases huL with h0 | h
        · omega
        · exact h
      obtain ⟨g0, g1, g2⟩ := hcell k hlt
      have m0 := cell_below g0 hbel (Nat.le_refl _)
      have m1 := cell_below g1 hbel (Nat.le_refl _)
      have m2 := cell_below g2 hbel (Nat.le_refl _)
      clear g0 g1 g2 hcell huL
      by_cases hlt2 : k < ys.length
      · obtain ⟨b2, off2, rfl, hcap2, hcell⟩ : ∃ b off, va = some ⟨b, off, none⟩ ∧ ys.length ≤ vc ∧ ∀ i, i < ys.length → w.cell? ⟨b, off + i * 3, none⟩ = some (.int .i64 (ys.getD i do0).k) ∧ w.cell? ⟨b, off + i * 3 + 1, none⟩ = some (.int .i64 (ys.getD i do0).a) ∧ w.cell? ⟨b, off + i * 3 + 2, none⟩ = some (.int .i64 (ys.getD i do0).n) := by
          rcases hvL with h0 | h
          · omega
          · exact h
        obtain ⟨g0, g1, g2⟩ := hcell k hlt2
        have n0 := cell_below g0 hbel (Nat.le_refl _)
        have n1 := cell_below g1 hbel (Nat.le_refl _)
        have n2 := cell_below g2 hbel (Nat.le_refl _)
        clear g0 g1 g2 hcell hvL
        have hnb2 := cell_lt n0
        have HX : Hid (cD (xs.getD k do0) (ys.getD k do0) = 0 → ∀ j, j < k + 1 → cD (xs.getD j do0) (ys.getD j do0) = 0) := fun h j hj => by
          by_cases e : j = k
          · subst e; exact h
          · exact HALL.out j (by omega)
        have HV : Hid (cD (xs.getD k do0) (ys.getD k do0) ≠ 0 → lexD xs ys = cD (xs.getD k do0) (ys.getD k do0)) := fun h => lexD_step xs ys k hlt hlt2 HALL.out h
        have HC : Hid (∀ W : World, Calls Try.prog 72 #[.agg #[.int .i64 (xs.getD k do0).k, .int .i64 (xs.getD k do0).a, .int .i64 (xs.getD k do0).n], .agg #[.int .i64 (ys.getD k do0).k, .int .i64 (ys.getD k do0).a, .int .i64 (ys.getD k do0).n]] W fun e w' => e = .returned (.int .i64 (cD (xs.getD k do0) (ys.getD k do0))) ∧ Grw W w') := fun W => compareDs_any _ _ _ _ _ _ W
        generalize cD (xs.getD k do0) (ys.getD k do0) = R at *
        generalize xs.getD k do0 = X at *
        generalize ys.getD k do0 = Y at *
        have hgA := (hgr.alloc (.cells #[.int .i64 X.k, .int .i64 X.a, .int .i64 X.n] 38)).alloc (.cells #[.int .i64 Y.k, .int .i64 Y.a, .int .i64 Y.n] 38)
        go_wp2_with fail
        refine (unhide HC _).mono ?_
        rintro e w1 ⟨rfl, hg1⟩
        have hg2 := hgA.trans hg1
        clear m0 m1 m2 n0 n1 n2 hg1 HC
        by_cases hR : R = 0
        · have HR := hide (HX.out hR)
          subst hR
          clear HX HV
          go_wp2_with fail
          go_roundw
          case rel => exact ⟨k + 1, by omega, by omega, by go_num, HR.out, hg2⟩
          case measure => simp [intOf]; omega
        · have HR := hide (HV.out hR)
          clear HX HV
          go_wp2_with fail
          go_ret
          exact ⟨int_ret HR.out.symm, hg2⟩
      · have hge : (ys.length : Int) ≤ (k : Int) := by omega
        have HR := hide (lexD_more xs ys (by omega) (fun j hj => HALL.out j (by omega)))
        clear HALL hvL
        generalize xs.getD k do0 = X at *
        go_wp2_with fail
        go_ret
        exact ⟨int_ret HR.out.symm, hgr.alloc _⟩
    · have hke : k = xs.length := by omega
      have HR := hide (lexD_end xs ys (by omega) (fun j hj => HALL.out j (by omega)))
      clear HALL huL hvL
      by_cases hlt2 : xs.length < ys.length
      · rw [if_pos hlt2] at HR
        go_wp2_with fail
        go_ret
        exact ⟨int_ret HR.out.symm, hgr⟩
      · rw [if_neg hlt2] at HR
        go_wp2_with fail
        go_ret
        exact ⟨int_ret HR.out.symm, hgr⟩

end Go.Proofs.Ytonhfgdnkkkikac
