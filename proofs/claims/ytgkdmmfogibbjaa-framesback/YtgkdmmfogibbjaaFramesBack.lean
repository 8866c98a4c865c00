/- The law FramesBack returns true at all numbers and texts, and the arguments read behind the call as they read before; no condition. -/
import Derived.Test.YtgkdmmfogibbjaaKb
import Derived.Test.YtgkdmmfogibbjaaKc
import Derived.Test.YtgkdmmfogibbjaaWw
import Derived.Test.YtgkdmmfogibbjaaWu
namespace Go.Proofs.Ytgkdmmfogibbjaa
open Go.RowKit
set_option linter.unusedVariables false
set_option maxRecDepth 100000

/-- A frame lies at a block. -/
def FrAt (w : World) (b : Nat) (dst src kind ips ipd ttl port : Int) (body : ByteArray) : Prop :=
  w.cell? ⟨b, 0, none⟩ = some (.int .i64 dst) ∧ w.cell? ⟨b, 1, none⟩ = some (.int .i64 src) ∧ w.cell? ⟨b, 2, none⟩ = some (.int .i64 kind) ∧ w.cell? ⟨b, 3, none⟩ = some (.int .i64 ips) ∧ w.cell? ⟨b, 4, none⟩ = some (.int .i64 ipd) ∧
  w.cell? ⟨b, 5, none⟩ = some (.int .i64 ttl) ∧ w.cell? ⟨b, 6, none⟩ = some (.int .i64 port) ∧ w.cell? ⟨b, 7, none⟩ = some (.string body)
theorem frAt_new (w : World) (t : TypeId) (dst src kind ips ipd ttl port : Int) (body : ByteArray) :
    FrAt (w.alloc (.cells #[.int .i64 dst, .int .i64 src, .int .i64 kind, .int .i64 ips, .int .i64 ipd, .int .i64 ttl, .int .i64 port, .string body] t)) w.heap.size dst src kind ips ipd ttl port body := by
  unfold FrAt; simp
theorem FrAt.below {w w' : World} {b B : Nat} {dst src kind ips ipd ttl port : Int} {body : ByteArray} (h : FrAt w b dst src kind ips ipd ttl port body) (hb : Below B w w') (hB : b < B) : FrAt w' b dst src kind ips ipd ttl port body := by
  obtain ⟨h0, h1, h2, h3, h4, h5, h6, h7⟩ := h
  exact ⟨(hb.cell hB).trans h0, (hb.cell hB).trans h1, (hb.cell hB).trans h2, (hb.cell hB).trans h3, (hb.cell hB).trans h4, (hb.cell hB).trans h5, (hb.cell hB).trans h6, (hb.cell hB).trans h7⟩

theorem wrapped_bs {net tow dst src kind ips ipd ttl port : Int} {body : ByteArray} (hf : fault dst src kind ips ipd ttl port body.size = 0) (h0 : 0 ≤ net) (h1 : net ≤ 65535) (h2 : 0 ≤ tow) (h3 : tow ≤ 65535) : Bs (wrapped net tow dst src kind ips ipd ttl port body) := by
  unfold wrapped
  refine (((?_ : Bs [100, 121]).append (word_bs _ h0 h1)).append (word_bs _ h2 h3)).append (enc_bs hf)
  intro n h; simp at h; omega
theorem wrapped_length (net tow dst src kind ips ipd ttl port : Int) (body : ByteArray) : (wrapped net tow dst src kind ips ipd ttl port body).length = 22 + body.size := by
  unfold wrapped; simp [word, enc_length]; omega

theorem f_lt {w : World} {b : Nat} {dst src kind ips ipd ttl port : Int} {body : ByteArray} (h : FrAt w b dst src kind ips ipd ttl port body) : b < w.heap.size := by
  have h0 := h.1
  rcases Nat.lt_or_ge b w.heap.size with h' | h'
  · exact h'
  · simp [World.cell?, Array.getElem?_eq_none h'] at h0

theorem IsB.take {w : World} {a : Option Addr} {len cap : Nat} {xs : List Int} (h : IsB w a len cap xs) (k : Nat) (hk : k ≤ len) : IsB w a k cap (xs.take k) := by
  obtain ⟨h1, h2, h3, h4⟩ := h
  refine ⟨by rw [List.length_take]; omega, h2.take k, by omega, ?_⟩
  rcases h4 with h0 | ⟨b, off, ha, hc, hL⟩
  · exact .inl (by omega)
  · exact .inr ⟨b, off, ha, by omega, hL.take k⟩

set_option maxHeartbeats 1500000 in
theorem framesBack_any (hP : PatchOne) (k a b c net tow cut : Int) (s : ByteArray) (w : World) (hk : -9223372036854775808 ≤ k ∧ k ≤ 9223372036854775807) (ha : -9223372036854775808 ≤ a ∧ a ≤ 9223372036854775807) (hb : -9223372036854775808 ≤ b ∧ b ≤ 9223372036854775807)
    (hc : -9223372036854775808 ≤ c ∧ c ≤ 9223372036854775807) (hs : s.size ≤ maxLen) (hnet : -9223372036854775808 ≤ net ∧ net ≤ 9223372036854775807) (htow : -9223372036854775808 ≤ tow ∧ tow ≤ 9223372036854775807) (hcut : -9223372036854775808 ≤ cut ∧ cut ≤ 9223372036854775807) :
    Calls Try.prog 8 #[.agg #[.int .i64 k, .int .i64 a, .int .i64 b, .int .i64 c], .string s, .int .i64 net, .int .i64 tow, .int .i64 cut] w fun e w' => e = .returned (.bool true) ∧ Below w.heap.size w w' := by
  obtain ⟨i0, hi, hz0, hz1, hz2⟩ := info_parts infoByte
  have HP := hide hP
  clear hP
  go_enter Try.func8, Try.ntmps8
  go_wp2_with fail
  refine (frameTells_any (unhide HP) _).mono ?_
  rintro e w1 ⟨rfl, hb1⟩
  have hb1' := hb1.mono (B' := w.heap.size + 1) (by simp)
  have hs1 : w.heap.size + 1 ≤ w1.heap.size := by have := hb1.size; simpa using this
  obtain ⟨hc1, _⟩ := bcell2 hb1'
  go_wp2_with fail
  refine (frame_any k a b c s _ hk ha hb hc hs).mono ?_
  rintro e w2 ⟨dst, src, kind, ips, ipd, ttl, port, body, rfl, hf, hb2⟩
  have hbel2 : Below w.heap.size w w2 := (((Below.refl _ w).alloc (Nat.le_refl _) _).trans (hb1'.mono (by omega))).trans (hb2.mono (by omega))
  have hs2 : w.heap.size ≤ w2.heap.size := hbel2.size
  have F0 := hide (frAt_new w2 23 dst src kind ips ipd ttl port body)
  clear hc1 hb1 hb1' hb2 hs1 hk ha hb hc
  have hV := dec_enc hf
  have hl := enc_length dst src kind ips ipd ttl port body
  have hbx := enc_bs hf
  have HE := hide (fun w' => encode_yes dst src kind ips ipd ttl port body w' hf)
  have HSh := hide (fun k h => dec_short hf k h)
  have HLo := hide (fun x => dec_long hf x)
  have HWr := hide (fun n t w' h1 h2 => wrap_yes n t dst src kind ips ipd ttl port body w' h1 h2 hf)
  have HUn := hide (fun n t => unw_wrapped (net := n) (tow := t) hf)
  have HBw := hide (fun n t (h0 : 0 ≤ n) (h1 : n ≤ 65535) (h2 : 0 ≤ t) (h3 : t ≤ 65535) => wrapped_bs (net := n) (tow := t) hf h0 h1 h2 h3)
  have HLw := hide (fun n t => wrapped_length n t dst src kind ips ipd ttl port body)
  have hn40 := (fault_zero hf).2.2.2.2.2.2.2
  have heq := eqFrame dst src kind ips ipd ttl port body
  have hg := guardFrame
  clear hf
  go_wp2_with fail
  refine (unhide HE _).mono ?_
  rintro e w3 ⟨v3, rfl, ho3, hb3⟩
  generalize enc dst src kind ips ipd ttl port body = xs at *
  have hx1 : 16 ≤ xs.length := by omega
  have hx2 : xs.length ≤ 56 := by omega
  have hbz : body.size ≤ 40 := hn40
  clear hl hn40 HE
  have hbel3 : Below w.heap.size w w3 := (hbel2.alloc hs2 _).trans (hb3.mono (by simp; omega))
  have hb3' : Below (w2.heap.size + 1) _ w3 := hb3.mono (by simp)
  have F3 := hide (F0.out.below hb3' (by omega))
  obtain ⟨g3, c3, rfl, hg3, hc3, hcell3⟩ := own_cells ho3 (by omega)
  have I3 : Hid (IsB w3 (some ⟨g3, 0, none⟩) xs.length c3 xs) := ⟨rfl, hbx, by omega, .inr ⟨g3, 0, rfl, hc3, hcell3⟩⟩
  clear ho3 hcell3 F0 hb3 hb3' hbel2 hs2
  go_wp2_with fail
  refine (decode_any _ _ _ xs _ I3.out).mono ?_
  rintro e w4 ⟨rfl, hb4⟩
  rw [hV.1, hV.2]
  have hbel4 := hbel3.trans (hb4.mono hbel3.size)
  have F4 := hide ((F3.out.below hb4 (f_lt F3.out)))
  have I4 := hide (I3.out.below hb4 (Nat.le_refl _))
  clear F3 I3
  have G4 := hide (frAt_new w4 23 dst src kind ips ipd ttl port body)
  have hs4 : w.heap.size ≤ w4.heap.size := hbel4.size
  obtain ⟨q0, q1⟩ := pk_in cut (xs.length : Int) (by omega)
  obtain ⟨kk, hkk⟩ := Int.eq_ofNat_of_zero_le q0
  have HPk := hide (fun w' => picked_any cut (xs.length : Int) w' hcut.1 hcut.2 (by omega) (by omega))
  rw [hkk] at HPk q1
  have hk1 : kk < xs.length := by omega
  have hk2 : (kk : Int) ≤ (c3 : Int) := by omega
  clear hkk q0 hcut q1
  have hE4 := HSh.out kk hk1
  obtain ⟨e0, e1, e2, e3, e4, e5, e6, s', hVs⟩ := decV_form (xs.take kk)
  have HD5 := hide (fun w' (h : IsB w' (some ⟨g3, 0, none⟩) kk c3 (xs.take kk)) => decode_any (some ⟨g3, 0, none⟩) kk c3 (xs.take kk) w' h)
  rw [hE4, hVs] at HD5
  clear hE4 hVs HSh
  go_wp2_with fail
  refine (unhide HPk _).mono ?_
  rintro e w5 ⟨rfl, rfl⟩
  go_wp2_with fail
  refine (unhide HD5 _ ((I4.out.below ((Below.refl _ w4).alloc (Nat.le_refl _) _) (Nat.le_refl _)).take kk (by omega))).mono ?_
  rintro e w6 ⟨rfl, hb6⟩
  have hb6' : Below (w4.heap.size + 1) _ w6 := hb6.mono (by simp)
  have G6 := hide (G4.out.below hb6' (by omega))
  have hb46 : Below w4.heap.size w4 w6 := ((Below.refl _ w4).alloc (Nat.le_refl _) _).trans (hb6'.mono (by omega))
  have F6 := hide (F4.out.below hb46 (f_lt F4.out))
  have I6 := hide (I4.out.below hb46 (Nat.le_refl _))
  have hbel6 := hbel4.trans (hb46.mono hs4)
  have hs6 : w.heap.size ≤ w6.heap.size := hbel6.size
  clear G4 F4 I4 hb6 hb6' hb46 HD5 HPk hb4 hbel4 hbel3
  go_wp2_with fail
  have hE7 := HLo.out 0
  obtain ⟨z0, z1, z2, z3, z4, z5, z6, s2, hVl⟩ := decV_form (xs ++ [0])
  have HD8 := hide (fun a' c' w' (h : IsB w' a' (xs ++ [0]).length c' (xs ++ [0])) => decode_any a' (xs ++ [0]).length c' (xs ++ [0]) w' h)
  have hlen0 : (xs ++ [0]).length = xs.length + 1 := by simp
  rw [hE7, hVl, hlen0] at HD8
  have hb0 : Bs (xs ++ [0]) := hbx.append (fun n h => by simp at h; omega)
  clear hE7 hVl HLo
  refine (clone_any g3 c3 xs _ (I6.out.below ((Below.refl _ w6).alloc (Nat.le_refl _) _) (Nat.le_refl _))).mono ?_
  rintro e w7 ⟨v7, rfl, ho7, hb7⟩
  have hs7 : w6.heap.size + 1 ≤ w7.heap.size := by have := hb7.size; simpa using this
  have hb67 : Below w6.heap.size w6 w7 := ((Below.refl _ w6).alloc (Nat.le_refl _) _).trans (hb7.mono (by simp))
  have ho7' := own_less ho7 (B' := w6.heap.size + 1) (by simp)
  clear ho7 hb7
  go_wp2_with (at_builtin; refine wpList_append_own _ rfl _ _ 27 rfl (w6.heap.size + 1) 5 i0 (.int .u8 0) 1 1 Try.underlying27 hi hz0 hz1 hz2 rfl (by decide) _ _ _ rfl (ho7'.alloc _) ⟨w7.heap.size, 0, none⟩ 1 1 (U [0]) rfl rfl ?a1 ?a2 ?a3 ?a4 ?a5 ?_)
  case a1 =>
    intro j u hj
    match j, hj with
    | 0, hj => simp [U] at hj; subst hj; simp [Addr.add]
  case a2 => exact U_one _
  case a3 => unfold maxLen; omega
  case a4 => omega
  case a5 => simp; omega
  intro v8 w8 ho8 hg8 _
  have hb78 : Below (w6.heap.size + 1) w7 w8 := ((Below.refl _ w7).alloc hs7 _).grown hg8 (by simp; omega) (own_ge ho7')
  have hb68 : Below w6.heap.size w6 w8 := hb67.trans (hb78.mono (by omega))
  have ho8' := own_app ho8 rfl
  obtain ⟨a8, c8, rfl, hI8⟩ := own_isB ho8' hb0 (by simp; omega)
  rw [hlen0] at hI8 ⊢
  have I8 := hide hI8
  clear ho8 hg8 ho8' hI8 ho7' hb67 hb78 hlen0
  go_wp2_with fail
  refine (unhide HD8 _ _ _ I8.out).mono ?_
  rintro e w9 ⟨rfl, hb9⟩
  have hb69 : Below w6.heap.size w6 w9 := hb68.trans (hb9.mono hb68.size)
  have F9 := hide (F6.out.below hb69 (f_lt F6.out))
  have G9 := hide (G6.out.below hb69 (f_lt G6.out))
  have hbel9 := hbel6.trans (hb69.mono hs6)
  have hs9 : w.heap.size ≤ w9.heap.size := hbel9.size
  clear F6 G6 I6 I8 HD8 hb68 hb69 hb9
  have F10 := hide (F9.out.below ((Below.refl _ w9).alloc (Nat.le_refl _) (.cells #[.int .i64 z0, .int .i64 z1, .int .i64 z2, .int .i64 z3, .int .i64 z4, .int .i64 z5, .int .i64 z6, .string s2] 23)) (f_lt F9.out))
  obtain ⟨n0, n1⟩ := pk_in net 65536 (by omega)
  obtain ⟨t0, t1⟩ := pk_in tow 65536 (by omega)
  have HPn := hide (fun w' => picked_any net 65536 w' hnet.1 hnet.2 (by omega) (by omega))
  have HPt := hide (fun w' => picked_any tow 65536 w' htow.1 htow.2 (by omega) (by omega))
  generalize pk net 65536 = N at *
  generalize pk tow 65536 = T at *
  have hN : wordB N = true := by unfold wordB; simp; omega
  have hT : wordB T = true := by unfold wordB; simp; omega
  have HW2 := hide (fun w' => HWr.out N T w' hN hT)
  have hU := HUn.out N T
  have hBw := HBw.out N T n0 (by omega) t0 (by omega)
  have hLw := HLw.out N T
  clear hnet htow HWr HUn hN hT HBw HLw
  generalize wrapped N T dst src kind ips ipd ttl port body = ys at *
  have hy : ys.length ≤ 62 := by omega
  have HUw := hide (fun a' c' w' (h : IsB w' a' ys.length c' ys) => unwrap_any a' ys.length c' ys w' h)
  rw [hU] at HUw
  clear hU hLw
  go_wp2_with fail
  refine (unhide HPn _).mono ?_
  rintro e w10 ⟨rfl, rfl⟩
  go_wp2_with fail
  refine (unhide HPt _).mono ?_
  rintro e w11 ⟨rfl, rfl⟩
  obtain ⟨f0, f1, f2, f3, f4, f5, f6, f7⟩ := F10.out
  go_wp2_with fail
  refine (unhide HW2 _).mono ?_
  rintro e w12 ⟨v12, rfl, ho12, hb12⟩
  have hb912 : Below w9.heap.size w9 w12 := ((Below.refl _ w9).alloc (Nat.le_refl _) _).trans (hb12.mono (by simp))
  obtain ⟨a12, c12, rfl, hI12⟩ := own_isB ho12 hBw (by omega)
  have I12 := hide hI12
  clear ho12 hI12 f0 f1 f2 f3 f4 f5 f6 f7 F10 hb12 HW2 HPn HPt
  go_wp2_with fail
  refine (unhide HUw _ _ _ I12.out).mono ?_
  rintro e w13 ⟨rfl, hb13⟩
  have hb913 : Below w9.heap.size w9 w13 := hb912.trans (hb13.mono hb912.size)
  have F13 := F9.out.below hb913 (f_lt F9.out)
  have G13 := G9.out.below hb913 (f_lt G9.out)
  have hbel13 := hbel9.trans (hb913.mono hs9)
  have hs13 : w.heap.size ≤ w13.heap.size := hbel13.size
  have F14 := F13.below ((Below.refl _ w13).alloc (Nat.le_refl _) (.cells #[.int .i64 dst, .int .i64 src, .int .i64 kind, .int .i64 ips, .int .i64 ipd, .int .i64 ttl, .int .i64 port, .string body] 23)) (f_lt F13)
  have G14 := G13.below ((Below.refl _ w13).alloc (Nat.le_refl _) (.cells #[.int .i64 dst, .int .i64 src, .int .i64 kind, .int .i64 ips, .int .i64 ipd, .int .i64 ttl, .int .i64 port, .string body] 23)) (f_lt G13)
  obtain ⟨f0, f1, f2, f3, f4, f5, f6, f7⟩ := F14
  obtain ⟨g0, g1, g2, g3', g4, g5, g6, g7⟩ := G14
  clear F9 G9 I12 hb912 hb13 hb913 HUw F13 G13
  go_wp2_with fail
  go_ret
  exact ⟨bool_ret (by simp), hbel13.alloc hs13 _⟩

end Go.Proofs.Ytgkdmmfogibbjaa
