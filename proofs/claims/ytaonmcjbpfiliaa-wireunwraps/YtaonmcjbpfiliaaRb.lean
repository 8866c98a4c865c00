/-
  What the document's pair, sumOf and FrameBytes answer.
-/
import Derived.Test.YtaonmcjbpfiliaaWe
import Derived.Test.YtaonmcjbpfiliaaRa
import Derived.Deep.RegionHeld3
import Derived.Deep.AppendLies
import Derived.Deep.DeepCutAuto
namespace Go.Proofs.Ytaonmcjbpfiliaa
open Go.RowKit
set_option linter.unusedVariables false

set_option maxHeartbeats 1000000 in
theorem sumOf_any (b off len cap : Nat) (xs : List Int) (w : World) (hl : xs.length = len) (hx : Bs xs) (hs : len ≤ 100) (hlc : len ≤ cap)
    (hcell : ∀ i, i < len → w.cell? ⟨b, off + i, none⟩ = some (.int .u8 (xs.getD i 0))) :
    Calls Try.prog 25 #[.slice (some ⟨b, off, none⟩) len cap] w fun e w' => e = .returned (.int .i64 (sm xs)) ∧ w' = w := by
  go_enter Try.func25, Try.ntmps25
  go_wp2
  go_loop [3, 4] (fun t i => ∃ k : Nat, k ≤ len ∧ i = .int .i64 k ∧ t = .int .i64 (norm (tot xs k))) (fun _ i => len - (intOf i).toNat)
  case atStart => exact ⟨0, Nat.zero_le _, rfl, rfl⟩
  case round =>
    obtain ⟨k, hk, rfl, rfl⟩ := hrel
    have ht := tot_bd hx k
    have hn := norm_bd _ ht.1
    by_cases hlt : k < len
    · have hc := hcell k hlt
      have hb := hx.at k
      have hw := wt_bd k _ hb.1 hb.2
      have HT : Hid (norm (tot xs (k + 1)) = if norm (tot xs k) + wt k (xs.getD k 0) > 65535 then norm (tot xs k) + wt k (xs.getD k 0) - 65535 else norm (tot xs k) + wt k (xs.getD k 0)) := norm_add _ _ ht.1 hw.1 hw.2
      clear hcell hw ht
      generalize xs.getD k 0 = c at hc hb HT
      generalize norm (tot xs k) = n at hn HT
      obtain ⟨hb0, hb1⟩ := hb
      obtain ⟨hn0, hn1⟩ := hn
      rcases Nat.mod_two_eq_zero_or_one k with hm | hm
      · have hm' : ((k : Int) % 2 == 0) = true := by simp; omega
        have hwt : wt k c = 256 * c := by unfold wt; rw [if_pos hm]
        rw [hwt] at HT
        clear hwt
        by_cases hgt : 65535 < n + 256 * c
        · go_wp2
          go_round
          case rel => exact ⟨k + 1, by omega, by go_num, by rw [HT.out, if_pos hgt]⟩
          case measure => simp [intOf]; omega
        · go_wp2
          go_round
          case rel => exact ⟨k + 1, by omega, by go_num, by rw [HT.out, if_neg hgt]⟩
          case measure => simp [intOf]; omega
      · have hm' : ((k : Int) % 2 == 0) = false := by simp; omega
        have hwt : wt k c = c := by unfold wt; rw [if_neg (by omega)]
        rw [hwt] at HT
        clear hwt
        by_cases hgt : 65535 < n + c
        · go_wp2
          go_round
          case rel => exact ⟨k + 1, by omega, by go_num, by rw [HT.out, if_pos hgt]⟩
          case measure => simp [intOf]; omega
        · go_wp2
          go_round
          case rel => exact ⟨k + 1, by omega, by go_num, by rw [HT.out, if_neg hgt]⟩
          case measure => simp [intOf]; omega
    · have hkl : k = xs.length := by omega
      have HS : Hid (sm xs = 65535 - norm (tot xs k)) := by show _ = _; unfold sm; rw [hkl]
      clear hcell hkl hx ht
      generalize norm (tot xs k) = T at *
      obtain ⟨hn0, hn1⟩ := hn
      go_wp2
      go_ret
      exact ⟨int_ret HS.out.symm, rfl⟩

set_option maxHeartbeats 1000000 in
theorem pair_any (n : Int) (w : World) (h0 : 0 ≤ n) (h1 : n ≤ 65535) :
    Calls Try.prog 24 #[.int .i64 n] w fun e w' => e = .returned (.slice (some ⟨w.heap.size, 0, none⟩) 2 2) ∧ w' = w.alloc (.cells #[.int .u8 (n / 256), .int .u8 (n % 256)] 5) := by
  go_enter Try.func24, Try.ntmps24
  go_wp2
  go_ret
  exact ⟨rfl, rfl⟩

theorem pair_own (n : Int) (w : World) (B : Nat) (hB : B ≤ w.heap.size) : (w.alloc (.cells #[.int .u8 (n / 256), .int .u8 (n % 256)] 5)).ownsRow B 5 1 (.slice (some ⟨w.heap.size, 0, none⟩) 2 2) (word n).length (U (word n)) := by
  refine ⟨rfl, .inr ⟨w.heap.size, 2, _, rfl, hB, (MapKept.heap_alloc w _).1, Nat.le_refl _, by decide, rfl, rfl⟩⟩

theorem pair_news (n : Int) (w : World) : ∀ j u, (U (word n))[j]? = some u → (w.alloc (.cells #[.int .u8 (n / 256), .int .u8 (n % 256)] 5)).cell? ((⟨w.heap.size, 0, none⟩ : Addr).add j) = some u := by
  intro j u hj
  match j, hj with
  | 0, hj => simp [U, word] at hj; subst hj; simp [Addr.add]
  | 1, hj => simp [U, word] at hj; subst hj; simp [Addr.add]

set_option maxHeartbeats 1000000 in
theorem frameBytes_no (dst src kind ips ipd ttl port : Int) (body : ByteArray) (w : World) (hb : body.size ≤ maxLen) (hf : fault dst src kind ips ipd ttl port body.size ≠ 0) :
    Calls Try.prog 11 #[fr dst src kind ips ipd ttl port body] w fun e w' => e = .returned (.tuple #[.slice none 0 0, .int .i64 (fault dst src kind ips ipd ttl port body.size)]) ∧ Below w.heap.size w w' := by
  have hf' : (fault dst src kind ips ipd ttl port body.size != 0) = true := by simpa using hf
  go_enter Try.func11, Try.ntmps11
  go_wp2_with fail
  refine (frameFault_any _ _ _ _ _ _ _ _ _ hb).mono ?_
  rintro e w1 ⟨rfl, hb1⟩
  go_wp2_with fail
  go_ret2
  exact ⟨rfl, ((Below.refl _ _).alloc (Nat.le_refl _) _).trans (hb1.mono (by simp))⟩

set_option maxHeartbeats 2000000 in
theorem frameBytes_yes (dst src kind ips ipd ttl port : Int) (body : ByteArray) (w : World) (hf : fault dst src kind ips ipd ttl port body.size = 0) :
    Calls Try.prog 11 #[fr dst src kind ips ipd ttl port body] w fun e w' => ∃ v, e = .returned (.tuple #[v, .int .i64 0]) ∧
      w'.ownsRow w.heap.size 5 1 v (enc dst src kind ips ipd ttl port body).length (U (enc dst src kind ips ipd ttl port body)) ∧ Below w.heap.size w w' := by
  obtain ⟨⟨hk0, hk1⟩, ⟨hd0, hd1⟩, ⟨hs0, hs1⟩, ⟨hi0, hi1⟩, ⟨hj0, hj1⟩, ⟨hp0, hp1⟩, ⟨ht0, ht1⟩, hn⟩ := fault_zero hf
  have hbm : body.size ≤ maxLen := by unfold maxLen; omega
  obtain ⟨i0, hi, hz0, hz1, hz2⟩ := info_parts infoByte
  go_enter Try.func11, Try.ntmps11
  go_wp2_with fail
  refine (frameFault_any _ _ _ _ _ _ _ _ _ hbm).mono ?_
  rintro e w1 ⟨rfl, hb1⟩
  have hB1 : w.heap.size + 1 ≤ w1.heap.size := by have := hb1.size; simpa using this
  have hb1' := hb1.mono (B' := w.heap.size + 1) (by simp)
  clear hb1
  obtain ⟨hc1, _⟩ := bcell2 hb1'
  have hcd : w1.cell? ⟨w.heap.size, 0, none⟩ = some (.int .i64 dst) := by rw [hc1 _ _ (by omega)]; simp
  have hcs : w1.cell? ⟨w.heap.size, 1, none⟩ = some (.int .i64 src) := by rw [hc1 _ _ (by omega)]; simp
  clear hc1
  go_wp2_with fail
  have own1 : ((w1.alloc (.cells #[.int .u8 (dst / 256), .int .u8 (dst % 256)] 5)).alloc (.cells #[.int .u8 (src / 256), .int .u8 (src % 256)] 5)).drew.ownsRow (w.heap.size + 1) 5 1 (.slice (some ⟨w1.heap.size, 0, none⟩) 2 2) 2 (U (word dst)) := (((pair_own dst w1 (w.heap.size + 1) hB1).alloc (.cells #[.int .u8 (src / 256), .int .u8 (src % 256)] 5)).drew)
  have news1 : ∀ j u, (U (word src))[j]? = some u → ((w1.alloc (.cells #[.int .u8 (dst / 256), .int .u8 (dst % 256)] 5)).alloc (.cells #[.int .u8 (src / 256), .int .u8 (src % 256)] 5)).drew.cell? ((⟨w1.heap.size + 1, 0, none⟩ : Addr).add j) = some u := by
    intro j u hj
    match j, hj with
    | 0, hj => simp [U, word] at hj; subst hj; simp [Addr.add]
    | 1, hj => simp [U, word] at hj; subst hj; simp [Addr.add]
  have base1 : w.heap.size + 1 ≤ ((w1.alloc (.cells #[.int .u8 (dst / 256), .int .u8 (dst % 256)] 5)).alloc (.cells #[.int .u8 (src / 256), .int .u8 (src % 256)] 5)).drew.heap.size := by simp; omega
  have bel1 : Below (w.heap.size + 1) w1 ((w1.alloc (.cells #[.int .u8 (dst / 256), .int .u8 (dst % 256)] 5)).alloc (.cells #[.int .u8 (src / 256), .int .u8 (src % 256)] 5)).drew := (((Below.refl _ w1).alloc hB1 _).alloc (by simp; omega) _).drew
  have OWN1 := hide own1
  have NEWS1 := hide news1
  clear own1 news1
  go_region_held3 (fun w' => w'.cell? ⟨w.heap.size, 0, none⟩ = some (.int .i64 dst) ∧ w'.cell? ⟨w.heap.size, 1, none⟩ = some (.int .i64 src)) (go_keep)
    (first | (refine step_append_lies _ rfl (.tmp 13) (.tmp 16) 27 rfl (w.heap.size + 1) 5 i0 (.int .u8 0) 1 1 Try.underlying27 hi hz0 hz1 hz2 rfl (by decide) _ _ _ rfl (unhide OWN1) ⟨w1.heap.size + 1, 0, none⟩ 2 2 (U (word src)) rfl rfl (unhide NEWS1) (U_one _) (by decide) (by decide) (by decide) base1 _ rfl ?_; intro g cap w4 ho4 hg4 _ _; have hb4 := bel1.grown hg4 base1 (own_ge (unhide OWN1)); have q0 := (hb4.cell (p := ⟨w.heap.size, 0, none⟩) (Nat.lt_succ_self _)).trans hcd; have q1 := (hb4.cell (p := ⟨w.heap.size, 1, none⟩) (Nat.lt_succ_self _)).trans hcs) | (go_at_call 24; refine (pair_any _ _ (by assumption) (by assumption)).mono ?_; rintro e w' ⟨rfl, rfl⟩))
  have hb4' := hb1'.trans hb4
  have hB4 := Nat.le_trans hB1 hb4.size
  have ho4' : w4.ownsRow (w.heap.size + 1) 5 1 (.slice (some ⟨g, 0, none⟩) 4 cap) (word dst ++ word src).length (U (word dst ++ word src)) := by rw [U_append]; exact ho4
  clear hb4 ho4 hg4 q0 q1 hcd hcs OWN1 NEWS1 base1 bel1 hb1'
  generalize (Value.slice (some ⟨g, 0, none⟩) 4 cap) = v4 at *
  obtain ⟨hc4, _⟩ := bcell2 hb4'
  go_wp2_with (at_builtin; refine wpList_append_own _ rfl _ _ 27 rfl (w.heap.size + 1) 5 i0 (.int .u8 0) 1 1 Try.underlying27 hi hz0 hz1 hz2 rfl (by decide) _ _ _ rfl (ho4'.alloc _) ⟨w4.heap.size, 0, none⟩ 2 2 (U [kind, ttl]) rfl rfl ?a4 ?b4 ?c4 ?d4 ?e4 ?_)
  case a4 =>
    intro j u hj
    match j, hj with
    | 0, hj => simp [U] at hj; subst hj; simp [Addr.add]
    | 1, hj => simp [U] at hj; subst hj; simp [Addr.add]
  case b4 => exact U_one _
  case c4 => simp [word, maxLen]
  case d4 => simp [word]
  case e4 => simp; omega
  intro v5 w5 ho5 hg5 _
  have hb5 : Below (w.heap.size + 1) w4 w5 := ((Below.refl _ w4).alloc hB4 _).grown hg5 (by simp; omega) (own_ge ho4')
  have hb5' := hb4'.trans hb5
  have hB5 := Nat.le_trans hB4 hb5.size
  have ho5' := own_app ho5 rfl
  clear hb5 hc4 ho4' hb4' ho5 hg5
  obtain ⟨hc5, _⟩ := bcell2 hb5'
  go_wp2_with fail
  refine (pair_any ips _ hi0 hi1).mono ?_
  rintro e w' ⟨rfl, rfl⟩
  go_wp2_with (at_builtin; refine wpList_append_own _ rfl _ _ 27 rfl (w.heap.size + 1) 5 i0 (.int .u8 0) 1 1 Try.underlying27 hi hz0 hz1 hz2 rfl (by decide) _ _ _ rfl (ho5'.alloc _) ⟨w5.heap.size, 0, none⟩ 2 2 (U (word (ips))) rfl rfl ?a5 ?b5 ?c5 ?d5 ?e5 ?_)
  case a5 => exact pair_news _ _
  case b5 => exact U_one _
  case c5 => simp [word, maxLen]
  case d5 => simp [word]
  case e5 => simp; omega
  intro v6 w6 ho6 hg6 _
  have hb6 : Below (w.heap.size + 1) w5 w6 := ((Below.refl _ w5).alloc hB5 _).grown hg6 (by simp; omega) (own_ge ho5')
  have hb6' := hb5'.trans hb6
  have hB6 := Nat.le_trans hB5 hb6.size
  have ho6' := own_app ho6 rfl
  clear hb6 hc5 ho5' hb5' ho6 hg6
  obtain ⟨hc6, _⟩ := bcell2 hb6'
  go_wp2_with fail
  refine (pair_any ipd _ hj0 hj1).mono ?_
  rintro e w' ⟨rfl, rfl⟩
  go_wp2_with (at_builtin; refine wpList_append_own _ rfl _ _ 27 rfl (w.heap.size + 1) 5 i0 (.int .u8 0) 1 1 Try.underlying27 hi hz0 hz1 hz2 rfl (by decide) _ _ _ rfl (ho6'.alloc _) ⟨w6.heap.size, 0, none⟩ 2 2 (U (word (ipd))) rfl rfl ?a6 ?b6 ?c6 ?d6 ?e6 ?_)
  case a6 => exact pair_news _ _
  case b6 => exact U_one _
  case c6 => simp [word, maxLen]
  case d6 => simp [word]
  case e6 => simp; omega
  intro v7 w7 ho7 hg7 _
  have hb7 : Below (w.heap.size + 1) w6 w7 := ((Below.refl _ w6).alloc hB6 _).grown hg7 (by simp; omega) (own_ge ho6')
  have hb7' := hb6'.trans hb7
  have hB7 := Nat.le_trans hB6 hb7.size
  have ho7' := own_app ho7 rfl
  clear hb7 hc6 ho6' hb6' ho7 hg7
  obtain ⟨hc7, _⟩ := bcell2 hb7'
  go_wp2_with fail
  refine (pair_any port _ hp0 hp1).mono ?_
  rintro e w' ⟨rfl, rfl⟩
  go_wp2_with (at_builtin; refine wpList_append_own _ rfl _ _ 27 rfl (w.heap.size + 1) 5 i0 (.int .u8 0) 1 1 Try.underlying27 hi hz0 hz1 hz2 rfl (by decide) _ _ _ rfl (ho7'.alloc _) ⟨w7.heap.size, 0, none⟩ 2 2 (U (word (port))) rfl rfl ?a7 ?b7 ?c7 ?d7 ?e7 ?_)
  case a7 => exact pair_news _ _
  case b7 => exact U_one _
  case c7 => simp [word, maxLen]
  case d7 => simp [word]
  case e7 => simp; omega
  intro v8 w8 ho8 hg8 _
  have hb8 : Below (w.heap.size + 1) w7 w8 := ((Below.refl _ w7).alloc hB7 _).grown hg8 (by simp; omega) (own_ge ho7')
  have hb8' := hb7'.trans hb8
  have hB8 := Nat.le_trans hB7 hb8.size
  have ho8' := own_app ho8 rfl
  clear hb8 hc7 ho7' hb7' ho8 hg8
  obtain ⟨hc8, _⟩ := bcell2 hb8'
  go_wp2_with fail
  refine (pair_any (body.size : Int) _ (by omega) (by omega)).mono ?_
  rintro e w' ⟨rfl, rfl⟩
  go_wp2_with (at_builtin; refine wpList_append_own _ rfl _ _ 27 rfl (w.heap.size + 1) 5 i0 (.int .u8 0) 1 1 Try.underlying27 hi hz0 hz1 hz2 rfl (by decide) _ _ _ rfl (ho8'.alloc _) ⟨w8.heap.size, 0, none⟩ 2 2 (U (word ((body.size : Int)))) rfl rfl ?a8 ?b8 ?c8 ?d8 ?e8 ?_)
  case a8 => exact pair_news _ _
  case b8 => exact U_one _
  case c8 => simp [word, maxLen]
  case d8 => simp [word]
  case e8 => simp; omega
  intro v9 w9 ho9 hg9 _
  have hb9 : Below (w.heap.size + 1) w8 w9 := ((Below.refl _ w8).alloc hB8 _).grown hg9 (by simp; omega) (own_ge ho8')
  have hb9' := hb8'.trans hb9
  have hB9 := Nat.le_trans hB8 hb9.size
  have ho9' := own_app ho9 rfl
  clear hb9 hc8 ho8' hb8' ho9 hg9
  obtain ⟨hc9, _⟩ := bcell2 hb9'
  go_wp2_with (at_builtin; refine Lib.wpList_append_own_string _ rfl _ _ 27 9 rfl (w.heap.size + 1) 5 i0 Try.underlying27 Try.underlying9 hi hz0 hz1 hz2 _ _ _ rfl ho9' body rfl ?d1 ?d2 ?d3 ?_)
  case d1 => simp [word, maxLen]; omega
  case d2 => simp [word]; omega
  case d3 => exact hB9
  intro v10 w10 ho10 hg10 _
  have hb10 : Below (w.heap.size + 1) w9 w10 := (Below.refl _ w9).grown hg10 hB9 (own_ge ho9')
  have hb10' := hb9'.trans hb10
  have hB10 := Nat.le_trans hB9 hb10.size
  rw [strCells_U] at ho10
  have ho10' := own_app ho10 (nums_length body)
  clear hb10 hc9 ho9' hb9' ho10 hg10
  obtain ⟨xs, hxs⟩ : ∃ xs, xs = enc0 dst src kind ips ipd ttl port body := ⟨_, rfl⟩
  have ho : w10.ownsRow (w.heap.size + 1) 5 1 v10 xs.length (U xs) := by rw [hxs]; exact ho10'
  have hxl : xs.length = 14 + body.size := by rw [hxs]; exact enc0_length _ _ _ _ _ _ _ _
  have hbs : Bs xs := by rw [hxs]; exact enc0_bs hf
  have HE : Hid (enc dst src kind ips ipd ttl port body = xs ++ word (sm xs)) := by show _ = _; rw [hxs]; rfl
  clear ho10' hxs
  have hxl1 : 14 ≤ xs.length := by omega
  have hxl2 : xs.length ≤ 54 := by omega
  clear hxl
  obtain ⟨hsm0, hsm1⟩ := sm_bd hbs
  obtain ⟨g1, cap1, rfl, hg, hcap, hcell⟩ := own_cells ho (by omega)
  go_wp2_with fail
  refine (sumOf_any g1 0 xs.length cap1 xs _ rfl hbs (by omega) hcap hcell).mono ?_
  rintro e w' ⟨rfl, rfl⟩
  clear hcell
  go_wp2_with fail
  refine (pair_any (sm xs) _ hsm0 hsm1).mono ?_
  rintro e w'' ⟨rfl, rfl⟩
  go_wp2_with (at_builtin; refine wpList_append_own _ rfl _ _ 27 rfl (w.heap.size + 1) 5 i0 (.int .u8 0) 1 1 Try.underlying27 hi hz0 hz1 hz2 rfl (by decide) _ _ _ rfl (ho.alloc _) ⟨w'.heap.size, 0, none⟩ 2 2 (U (word (sm xs))) rfl rfl ?a9 ?b9 ?c9 ?d9 ?e9 ?_)
  case a9 => exact pair_news _ _
  case b9 => exact U_one _
  case c9 => unfold maxLen; omega
  case d9 => omega
  case e9 => simp; omega
  intro v11 w11 ho11 hg11 _
  have hb11 : Below (w.heap.size + 1) w' w11 := ((Below.refl _ w').alloc hB10 _).grown hg11 (by simp; omega) (own_ge ho)
  have hb11' := hb10'.trans hb11
  have ho11' := own_app ho11 rfl
  clear hb11 ho hb10' ho11 hg11
  go_wp2_with fail
  go_ret2
  refine ⟨v11, rfl, ?_, ((Below.refl _ _).alloc (Nat.le_refl _) _).trans (hb11'.mono (by omega))⟩
  rw [HE.out]
  exact own_less ho11' (by omega)

end Go.Proofs.Ytaonmcjbpfiliaa
