/- The law FramesSpoilt returns true at all numbers and texts, and the arguments read behind the call as they read before; no condition. -/
import Derived.Test.YtgkdmmfogibbjabKb
import Derived.Test.YtgkdmmfogibbjabFs
namespace Go.Proofs.Ytgkdmmfogibbjab
open Go.RowKit
set_option linter.unusedVariables false
set_option maxRecDepth 100000

set_option maxHeartbeats 1500000 in
theorem framesSpoilt_any (hP : PatchOne) (k a b c at' by' : Int) (s : ByteArray) (w : World) (hk : -9223372036854775808 ≤ k ∧ k ≤ 9223372036854775807) (ha : -9223372036854775808 ≤ a ∧ a ≤ 9223372036854775807) (hb : -9223372036854775808 ≤ b ∧ b ≤ 9223372036854775807)
    (hc : -9223372036854775808 ≤ c ∧ c ≤ 9223372036854775807) (hs : s.size ≤ maxLen) (hat : -9223372036854775808 ≤ at' ∧ at' ≤ 9223372036854775807) (hby : 0 ≤ by' ∧ by' ≤ 255) :
    Calls Try.prog 4 #[.agg #[.int .i64 k, .int .i64 a, .int .i64 b, .int .i64 c], .string s, .int .i64 at', .int .u8 by'] w fun e w' => e = .returned (.bool true) ∧ Below w.heap.size w w' := by
  have HP := hide hP
  clear hP
  obtain ⟨hy0, hy1⟩ := hby
  go_enter Try.func4, Try.ntmps4
  go_wp2_with fail
  refine (frameTells_any (unhide HP) _).mono ?_
  rintro e w1 ⟨rfl, hb1⟩
  have hb1' := hb1.mono (B' := w.heap.size + 1) (by simp)
  have hs1 : w.heap.size + 1 ≤ w1.heap.size := by have := hb1.size; simpa using this
  obtain ⟨hc1, _⟩ := bcell2 hb1'
  go_wp2_with fail
  refine (frame_any k a b c s _ hk ha hb hc hs).mono ?_
  rintro e w2 ⟨dst, src, kind, ips, ipd, ttl, port, body, rfl, hf, hb2⟩
  have hbel2 : Below w.heap.size w w2 := (((Below.refl _ w).alloc (Nat.le_refl _) _).trans (hb1'.mono (by omega))).trans (hb2.mono (by omega))
  have hs2 : w.heap.size ≤ w2.heap.size := hbel2.size
  clear hc1 hb1 hb1' hb2 hs1 hk ha hb hc
  have hl := enc_length dst src kind ips ipd ttl port body
  have hbx := enc_bs hf
  have HE := hide (fun w' => encode_yes dst src kind ips ipd ttl port body w' hf)
  have HSp := hide (fun k y h h0 h1 hne => dec_spoilt hf k y h h0 h1 hne)
  have hn40 := (fault_zero hf).2.2.2.2.2.2.2
  clear hf
  go_wp2_with fail
  refine (unhide HE _).mono ?_
  rintro e w3 ⟨v3, rfl, ho3, hb3⟩
  generalize enc dst src kind ips ipd ttl port body = xs at *
  have hx1 : 16 ≤ xs.length := by omega
  have hx2 : xs.length ≤ 56 := by omega
  clear hl hn40 HE
  have hbel3 : Below w.heap.size w w3 := hbel2.trans (hb3.mono hs2)
  have hs3 : w.heap.size ≤ w3.heap.size := hbel3.size
  obtain ⟨g3, c3, rfl, hg3, hc3, hcell3⟩ := own_cells ho3 (by omega)
  obtain ⟨q0, q1⟩ := pk_in at' (xs.length : Int) (by omega)
  obtain ⟨kk, hkk⟩ := Int.eq_ofNat_of_zero_le q0
  have HPk := hide (fun w' => picked_any at' (xs.length : Int) w' hat.1 hat.2 (by omega) (by omega))
  rw [hkk] at HPk q1
  have hk1 : kk < xs.length := by omega
  have hk2 : (kk : Int) < (xs.length : Int) := by omega
  clear hkk q0 hat q1 hb3 hbel2
  have hcl := hcell3 kk hk1
  rw [Nat.zero_add] at hcl
  have hfr := ho3.frozenAt kk
  have hp := hbx.at kk
  have HSk := hide (fun y => HSp.out kk y hk1)
  generalize hpd : xs.getD kk 0 = p at *
  obtain ⟨hp0, hp1⟩ := hp
  have HO := hide ho3
  clear HSp hpd hcell3 ho3
  go_wp2_with fail
  refine (unhide HPk _).mono ?_
  rintro e w5 ⟨rfl, rfl⟩
  go_wp2_with fail
  have hyr : 0 ≤ (p + by') % 256 ∧ (p + by') % 256 ≤ 255 := by omega
  have hst := HO.out.stored kk (.int .u8 ((p + by') % 256))
  have hset : (U xs).set kk (.int .u8 ((p + by') % 256)) = U (xs.set kk ((p + by') % 256)) := by unfold U; rw [List.map_set]
  rw [hset] at hst
  have hyl : (xs.set kk ((p + by') % 256)).length = xs.length := List.length_set
  have ho6 : (w5.setCell ⟨g3, kk, none⟩ (.int .u8 ((p + by') % 256))).ownsRow w2.heap.size 5 1 (.slice (some ⟨g3, 0, none⟩) xs.length c3) (xs.set kk ((p + by') % 256)).length (U (xs.set kk ((p + by') % 256))) := by rw [hyl]; exact hst.1
  have hbs := hbx.set kk _ hyr.1 hyr.2
  have hLies : Lies (w5.setCell ⟨g3, kk, none⟩ (.int .u8 ((p + by') % 256))) g3 0 (xs.set kk ((p + by') % 256)) := by
    obtain ⟨g, cap, hv, _, _, hcell⟩ := own_cells ho6 (by omega)
    simp only [Value.slice.injEq, Option.some.injEq, Addr.mk.injEq, and_true] at hv
    obtain ⟨rfl, _⟩ := hv
    exact hcell
  have hcy := hLies kk (by omega)
  rw [getD_set xs kk kk _ hk1, if_pos rfl, Nat.zero_add] at hcy
  have hbel5 : Below w.heap.size w (w5.setCell ⟨g3, kk, none⟩ (.int .u8 ((p + by') % 256))) := hbel3.setCell (show w.heap.size ≤ g3 by omega) _
  have hz5 : (w5.setCell ⟨g3, kk, none⟩ (.int .u8 ((p + by') % 256))).heap.size = w5.heap.size := by simp
  have HD := hide (decode_any (some ⟨g3, 0, none⟩) xs.length c3 (xs.set kk ((p + by') % 256)) _ ⟨hyl, hbs, by omega, .inr ⟨g3, 0, rfl, hc3, hLies⟩⟩)
  have hyne : by' ≠ 0 → (decE (xs.set kk ((p + by') % 256)) != 0) = true := fun h => by simpa using HSk.out _ hyr.1 hyr.2 (by omega)
  have HN := hide hyne
  obtain ⟨e0, e1, e2, e3, e4, e5, e6, s', hVs⟩ := decV_form (xs.set kk ((p + by') % 256))
  rw [hVs] at HD
  have HCY := hide hcy
  have HB5 := hide hbel5
  have HZ5 := hide hz5
  clear hst hset hyl ho6 hbs hLies hcy hyne hVs HO HSk HPk hbel5 hz5 hfr hcl hbx
  generalize hyd : (p + by') % 256 = y at *
  clear hyd
  refine (unhide HD).mono ?_
  rintro e w6 ⟨rfl, hb6⟩
  have hbel6 : Below w.heap.size w w6 := HB5.out.trans (hb6.mono (by rw [HZ5.out]; exact hs3))
  have hs6 : w.heap.size ≤ w6.heap.size := hbel6.size
  have hcy6 : w6.cell? ⟨g3, kk, none⟩ = some (.int .u8 y) := (hb6.cell (p := ⟨g3, kk, none⟩) (by rw [HZ5.out]; exact hg3.2)).trans HCY.out
  have hg6 : g3 < w6.heap.size := by have := hb6.size; rw [HZ5.out] at this; omega
  have hg6' : ¬ g3 = w6.heap.size := by omega
  clear HD HB5 HZ5 HCY hb6
  generalize decE (xs.set kk y) = E at *
  by_cases hb0 : by' = 0
  · have hbb : (by' == 0) = true := by simp [hb0]
    clear HN hb0
    go_wp2_with fail
    all_goals go_ret
    all_goals exact ⟨bool_ret (by simp), hbel6.alloc hs6 _⟩
  · have hbb : (by' == 0) = false := by simp [hb0]
    have hne := HN.out hb0
    clear HN hb0
    go_wp2_with fail
    all_goals go_ret
    all_goals exact ⟨bool_ret (by simp), hbel6.alloc hs6 _⟩

end Go.Proofs.Ytgkdmmfogibbjab
