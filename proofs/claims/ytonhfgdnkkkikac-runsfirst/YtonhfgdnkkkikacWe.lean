/-
  What wire.Encode answers: a frame that may be: its bytes; another: what is wrong with it.
-/
import Derived.Test.YtonhfgdnkkkikacWb
import Derived.Lib.AppendStr
namespace Go.Proofs.Ytonhfgdnkkkikac
open Go.RowKit
set_option linter.unusedVariables false
set_option maxRecDepth 100000

theorem fault_zero {dst src kind ips ipd ttl port : Int} {n : Nat} (h : fault dst src kind ips ipd ttl port n = 0) :
    (1 ≤ kind ∧ kind ≤ 3) ∧ (0 ≤ dst ∧ dst ≤ 65535) ∧ (0 ≤ src ∧ src ≤ 65535) ∧ (0 ≤ ips ∧ ips ≤ 65535) ∧ (0 ≤ ipd ∧ ipd ≤ 65535) ∧ (0 ≤ port ∧ port ≤ 65535) ∧ (0 ≤ ttl ∧ ttl ≤ 255) ∧ n ≤ 40 := by
  unfold fault at h
  by_cases hk : kindB kind = true
  · rw [if_pos hk] at h
    by_cases hb : boundsB dst src ips ipd ttl port = true
    · rw [if_pos hb] at h
      by_cases hn : 40 < n
      · rw [if_pos hn] at h; omega
      · unfold boundsB wordB lifeB at hb
        unfold kindB at hk
        simp at hb hk
        omega
    · rw [if_neg hb] at h; omega
  · rw [if_neg hk] at h; omega

theorem enc0_bs {dst src kind ips ipd ttl port : Int} {body : ByteArray} (hf : fault dst src kind ips ipd ttl port body.size = 0) : Bs (enc0 dst src kind ips ipd ttl port body) := by
  obtain ⟨⟨hk0, hk1⟩, ⟨hd0, hd1⟩, ⟨hs0, hs1⟩, ⟨hi0, hi1⟩, ⟨hj0, hj1⟩, ⟨hp0, hp1⟩, ⟨ht0, ht1⟩, hn⟩ := fault_zero hf
  unfold enc0
  exact (((((((word_bs _ hd0 hd1).append (word_bs _ hs0 hs1)).append (fun n h => by simp at h; rcases h with rfl | rfl <;> omega)).append (word_bs _ hi0 hi1)).append (word_bs _ hj0 hj1)).append (word_bs _ hp0 hp1)).append (word_bs _ (by omega) (by omega))).append (nums_bs body)

theorem strCells_U (s : ByteArray) : Lib.strCells s = U (nums s) := by simp [Lib.strCells, U, nums]

theorem own_app {w : World} {B m : Nat} {v : Value} {xs ys : List Int} (h : w.ownsRow B 5 1 v (xs.length + m) (U xs ++ U ys)) (hm : ys.length = m) : w.ownsRow B 5 1 v (xs ++ ys).length (U (xs ++ ys)) := by
  rw [U_append, List.length_append, hm]; exact h

/-- A slice that owns bytes: where they lie. -/
theorem own_cells {w : World} {B : Nat} {v : Value} {xs : List Int} (h : w.ownsRow B 5 1 v xs.length (U xs)) (hne : 0 < xs.length) :
    ∃ g cap, v = .slice (some ⟨g, 0, none⟩) xs.length cap ∧ (B ≤ g ∧ g < w.heap.size) ∧ xs.length ≤ cap ∧ ∀ i, i < xs.length → w.cell? ⟨g, 0 + i, none⟩ = some (.int .u8 (xs.getD i 0)) := by
  have hc := h
  obtain ⟨_, ⟨_, h0⟩ | ⟨g, cap, cur, rfl, hg, hgc, hcap, _⟩⟩ := h
  · omega
  · refine ⟨g, cap, rfl, ⟨hg, lt_of_block hgc⟩, hcap, fun i hi => ?_⟩
    have := hc.cells (g := g) rfl i (.int .u8 (xs.getD i 0)) (by simp [U, List.getD, hi])
    have hp : (⟨g, 0, none⟩ : Addr).add i = ⟨g, 0 + i, none⟩ := by unfold Addr.add; split <;> simp_all
    rw [← hp]; exact this

set_option maxHeartbeats 1000000 in
theorem encode_no (dst src kind ips ipd ttl port : Int) (body : ByteArray) (w : World) (hb : body.size ≤ maxLen) (hf : fault dst src kind ips ipd ttl port body.size ≠ 0) :
    Calls Try.prog 32 #[fr dst src kind ips ipd ttl port body] w fun e w' => e = .returned (.tuple #[.slice none 0 0, .int .i64 (fault dst src kind ips ipd ttl port body.size)]) ∧ Below w.heap.size w w' := by
  have hf' : (fault dst src kind ips ipd ttl port body.size != 0) = true := by simpa using hf
  go_enter Try.func32, Try.ntmps32
  go_wp2_with fail
  refine (check_any _ _ _ _ _ _ _ _ _ hb).mono ?_
  rintro e w1 ⟨rfl, hb1⟩
  go_wp2_with fail
  go_ret2
  exact ⟨rfl, ((Below.refl _ _).alloc (Nat.le_refl _) _).trans (hb1.mono (by simp))⟩

set_option maxHeartbeats 2000000 in
theorem encode_yes (dst src kind ips ipd ttl port : Int) (body : ByteArray) (w : World) (hf : fault dst src kind ips ipd ttl port body.size = 0) :
    Calls Try.prog 32 #[fr dst src kind ips ipd ttl port body] w fun e w' => ∃ v, e = .returned (.tuple #[v, .int .i64 0]) ∧
      w'.ownsRow w.heap.size 5 1 v (enc dst src kind ips ipd ttl port body).length (U (enc dst src kind ips ipd ttl port body)) ∧ Below w.heap.size w w' := by
  obtain ⟨⟨hk0, hk1⟩, ⟨hd0, hd1⟩, ⟨hs0, hs1⟩, ⟨hi0, hi1⟩, ⟨hj0, hj1⟩, ⟨hp0, hp1⟩, ⟨ht0, ht1⟩, hn⟩ := fault_zero hf
  have hbm : body.size ≤ maxLen := by unfold maxLen; omega
  obtain ⟨i0, hi, hz0, hz1, hz2⟩ := info_parts infoByte
  go_enter Try.func32, Try.ntmps32
  go_wp2_with fail
  refine (check_any _ _ _ _ _ _ _ _ _ hbm).mono ?_
  rintro e w1 ⟨rfl, hb1⟩
  have hB1 : w.heap.size + 1 ≤ w1.heap.size := by have := hb1.size; simpa using this
  have hb1' := hb1.mono (B' := w.heap.size + 1) (by simp)
  clear hb1
  obtain ⟨hc1, _⟩ := bcell2 hb1'
  go_wp2_with fail
  refine (appendWord_any (w.heap.size + 1) (.slice none 0 0) [] dst _ (World.ownsRow_nil _ _ _ _) hd0 hd1 (by simp) hB1).mono ?_
  rintro e w2 ⟨v2, rfl, ho2, hb2⟩
  have hb2' := hb1'.trans hb2
  have hB2 := Nat.le_trans hB1 hb2.size
  clear hb2 hc1
  obtain ⟨hc2, _⟩ := bcell2 hb2'
  go_wp2_with fail
  refine (appendWord_any (w.heap.size + 1) v2 _ src _ ho2 hs0 hs1 (by simp [word]) hB2).mono ?_
  rintro e w3 ⟨v3, rfl, ho3, hb3⟩
  have hb3' := hb2'.trans hb3
  have hB3 := Nat.le_trans hB2 hb3.size
  clear hb3 hc2 ho2 hb1' hb2'
  obtain ⟨hc3, _⟩ := bcell2 hb3'
  go_wp2_with (at_builtin; refine wpList_append_own _ rfl _ _ 72 rfl (w.heap.size + 1) 5 i0 (.int .u8 0) 1 1 Try.underlying72 hi hz0 hz1 hz2 rfl (by decide) _ _ _ rfl (ho3.alloc _) ⟨w3.heap.size, 0, none⟩ 2 2 (U [kind, ttl]) rfl rfl ?c1 ?c2 ?c3 ?c4 ?c5 ?_)
  case c1 =>
    intro j u hj
    match j, hj with
    | 0, hj => simp [U] at hj; subst hj; simp [Addr.add]
    | 1, hj => simp [U] at hj; subst hj; simp [Addr.add]
  case c2 => exact U_one _
  case c3 => simp [word, maxLen]
  case c4 => simp [word]
  case c5 => simp; omega
  intro v4 w4 ho4 hg4 _
  have hb4 : Below (w.heap.size + 1) w3 w4 := ((Below.refl _ w3).alloc hB3 _).grown hg4 (by simp; omega) (own_ge ho3)
  have hb4' := hb3'.trans hb4
  have hB4 := Nat.le_trans hB3 hb4.size
  have ho4' := own_app ho4 rfl
  clear hb4 hc3 ho3 hb3' ho4 hg4
  obtain ⟨hc4, _⟩ := bcell2 hb4'
  go_wp2_with fail
  refine (appendWord_any (w.heap.size + 1) v4 _ ips _ ho4' hi0 hi1 (by simp [word]) hB4).mono ?_
  rintro e w5 ⟨v5, rfl, ho5, hb5⟩
  have hb5' := hb4'.trans hb5
  have hB5 := Nat.le_trans hB4 hb5.size
  clear hb5 hc4 ho4' hb4'
  obtain ⟨hc5, _⟩ := bcell2 hb5'
  go_wp2_with fail
  refine (appendWord_any (w.heap.size + 1) v5 _ ipd _ ho5 hj0 hj1 (by simp [word]) hB5).mono ?_
  rintro e w6 ⟨v6, rfl, ho6, hb6⟩
  have hb6' := hb5'.trans hb6
  have hB6 := Nat.le_trans hB5 hb6.size
  clear hb6 hc5 ho5 hb5'
  obtain ⟨hc6, _⟩ := bcell2 hb6'
  go_wp2_with fail
  refine (appendWord_any (w.heap.size + 1) v6 _ port _ ho6 hp0 hp1 (by simp [word]) hB6).mono ?_
  rintro e w7 ⟨v7, rfl, ho7, hb7⟩
  have hb7' := hb6'.trans hb7
  have hB7 := Nat.le_trans hB6 hb7.size
  clear hb7 hc6 ho6 hb6'
  obtain ⟨hc7, _⟩ := bcell2 hb7'
  go_wp2_with fail
  refine (appendWord_any (w.heap.size + 1) v7 _ (body.size : Int) _ ho7 (by omega) (by omega) (by simp [word]) hB7).mono ?_
  rintro e w8 ⟨v8, rfl, ho8, hb8⟩
  have hb8' := hb7'.trans hb8
  have hB8 := Nat.le_trans hB7 hb8.size
  clear hb8 hc7 ho7 hb7'
  obtain ⟨hc8, _⟩ := bcell2 hb8'
  go_wp2_with (at_builtin; refine Lib.wpList_append_own_string _ rfl _ _ 72 9 rfl (w.heap.size + 1) 5 i0 Try.underlying72 Try.underlying9 hi hz0 hz1 hz2 _ _ _ rfl ho8 body rfl ?d1 ?d2 ?d3 ?_)
  case d1 => simp [word, maxLen]; omega
  case d2 => simp [word]; omega
  case d3 => exact hB8
  intro v9 w9 ho9 hg9 _
  have hb9 : Below (w.heap.size + 1) w8 w9 := (Below.refl _ w8).grown hg9 hB8 (own_ge ho8)
  have hb9' := hb8'.trans hb9
  have hB9 := Nat.le_trans hB8 hb9.size
  rw [strCells_U] at ho9
  have ho9' := own_app ho9 (nums_length body)
  clear hb9 hc8 ho8 hb8' ho9 hg9
  obtain ⟨xs, hxs⟩ : ∃ xs, xs = enc0 dst src kind ips ipd ttl port body := ⟨_, rfl⟩
  have ho : w9.ownsRow (w.heap.size + 1) 5 1 v9 xs.length (U xs) := by rw [hxs]; exact ho9'
  have hxl : xs.length = 14 + body.size := by rw [hxs]; exact enc0_length _ _ _ _ _ _ _ _
  have hbs : Bs xs := by rw [hxs]; exact enc0_bs hf
  have HE : Hid (enc dst src kind ips ipd ttl port body = xs ++ word (sm xs)) := by show _ = _; rw [hxs]; rfl
  clear ho9' hxs
  have hxl1 : 14 ≤ xs.length := by omega
  have hxl2 : xs.length ≤ 54 := by omega
  clear hxl
  obtain ⟨hsm0, hsm1⟩ := sm_bd hbs
  obtain ⟨g, cap, rfl, hg, hcap, hcell⟩ := own_cells ho (by omega)
  go_wp2_with fail
  refine (sum_any g 0 xs.length cap xs _ rfl hbs (by omega) hcap hcell).mono ?_
  rintro e w' ⟨rfl, rfl⟩
  clear hcell
  go_wp2_with fail
  refine (appendWord_any (w.heap.size + 1) _ xs (sm xs) _ ho hsm0 hsm1 (by omega) hB9).mono ?_
  rintro e w10 ⟨v10, rfl, ho10, hb10⟩
  have hb10' := hb9'.trans hb10
  clear ho hb9' hb10
  go_wp2_with fail
  go_ret2
  refine ⟨v10, rfl, ?_, ((Below.refl _ _).alloc (Nat.le_refl _) _).trans (hb10'.mono (by omega))⟩
  rw [HE.out]
  exact own_less ho10 (by omega)

end Go.Proofs.Ytonhfgdnkkkikac
