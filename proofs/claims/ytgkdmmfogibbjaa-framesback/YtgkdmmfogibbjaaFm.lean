/-
  Plain mathematics: a frame's bytes are read as they were written; cut short, or longer, they are not.
-/
import Derived.Test.YtgkdmmfogibbjaaUn
import Derived.Test.YtgkdmmfogibbjaaWf
namespace Go.Proofs.Ytgkdmmfogibbjaa
open Go.RowKit
set_option linter.unusedVariables false
set_option maxRecDepth 100000

theorem enc_form (dst src kind ips ipd ttl port : Int) (body : ByteArray) : ∃ q0 q1 : Int, word (sm (enc0 dst src kind ips ipd ttl port body)) = [q0, q1] ∧
    enc dst src kind ips ipd ttl port body = dst / 256 :: dst % 256 :: src / 256 :: src % 256 :: kind :: ttl :: ips / 256 :: ips % 256 :: ipd / 256 :: ipd % 256 :: port / 256 :: port % 256 :: (body.size : Int) / 256 :: (body.size : Int) % 256 :: (nums body ++ [q0, q1]) := by
  refine ⟨_, _, rfl, ?_⟩
  unfold enc
  have h : word (sm (enc0 dst src kind ips ipd ttl port body)) = [sm (enc0 dst src kind ips ipd ttl port body) / 256, sm (enc0 dst src kind ips ipd ttl port body) % 256] := rfl
  rw [h]
  generalize sm (enc0 dst src kind ips ipd ttl port body) / 256 = q0
  generalize sm (enc0 dst src kind ips ipd ttl port body) % 256 = q1
  simp [enc0, word]

theorem str_nums (s : ByteArray) : strOfNums (nums s) = s := by
  apply ByteArray.ext
  apply Array.toList_inj.1
  rw [strOfNums_data, nums, List.map_map]
  conv => rhs; rw [← List.map_id s.data.toList]
  apply List.map_congr_left
  intro x _
  simp

theorem enc_bs {dst src kind ips ipd ttl port : Int} {body : ByteArray} (hf : fault dst src kind ips ipd ttl port body.size = 0) : Bs (enc dst src kind ips ipd ttl port body) := by
  have h := sm_bd (enc0_bs hf)
  exact (enc0_bs hf).append (word_bs _ h.1 h.2)

/-- The words of a frame's bytes, with whatever behind them. -/
theorem enc_words {dst src kind ips ipd ttl port : Int} {body : ByteArray} (z : List Int) :
    wd (enc dst src kind ips ipd ttl port body ++ z) 0 = dst ∧ wd (enc dst src kind ips ipd ttl port body ++ z) 2 = src ∧ bt (enc dst src kind ips ipd ttl port body ++ z) 4 = kind ∧ bt (enc dst src kind ips ipd ttl port body ++ z) 5 = ttl ∧
    wd (enc dst src kind ips ipd ttl port body ++ z) 6 = ips ∧ wd (enc dst src kind ips ipd ttl port body ++ z) 8 = ipd ∧ wd (enc dst src kind ips ipd ttl port body ++ z) 10 = port ∧ wd (enc dst src kind ips ipd ttl port body ++ z) 12 = body.size := by
  obtain ⟨q0, q1, _, h⟩ := enc_form dst src kind ips ipd ttl port body
  rw [h]
  simp only [wd, bt, List.cons_append]
  refine ⟨?_, ?_, rfl, rfl, ?_, ?_, ?_, ?_⟩
  · show dst / 256 * 256 + dst % 256 = dst; omega
  · show src / 256 * 256 + src % 256 = src; omega
  · show ips / 256 * 256 + ips % 256 = ips; omega
  · show ipd / 256 * 256 + ipd % 256 = ipd; omega
  · show port / 256 * 256 + port % 256 = port; omega
  · show (body.size : Int) / 256 * 256 + (body.size : Int) % 256 = (body.size : Int); omega

theorem take_enc0 (dst src kind ips ipd ttl port : Int) (body : ByteArray) : (enc dst src kind ips ipd ttl port body).take (14 + body.size) = enc0 dst src kind ips ipd ttl port body := by
  unfold enc
  rw [List.take_append_of_le_length (by rw [enc0_length]; omega), List.take_of_length_le (by rw [enc0_length]; omega)]

theorem getD_app_right (a z : List Int) (i : Nat) : (a ++ z).getD (a.length + i) 0 = z.getD i 0 := by
  simp [List.getD, List.getElem?_append_right]

/-- What is written is read: no error. -/
theorem chk_enc {dst src kind ips ipd ttl port : Int} {body : ByteArray} (hf : fault dst src kind ips ipd ttl port body.size = 0) : chk (enc dst src kind ips ipd ttl port body) = 0 := by
  have h40 := (fault_zero hf).2.2.2.2.2.2.2
  have hw : wd (enc dst src kind ips ipd ttl port body) 12 = body.size := by have := (enc_words (dst := dst) (src := src) (kind := kind) (ips := ips) (ipd := ipd) (ttl := ttl) (port := port) (body := body) []).2.2.2.2.2.2.2; simpa using this
  have hl := enc_length dst src kind ips ipd ttl port body
  have hs := sm_bd (enc0_bs hf)
  have hq : wd (enc dst src kind ips ipd ttl port body) (14 + body.size) = sm (enc0 dst src kind ips ipd ttl port body) := by
    have h0 := enc0_length dst src kind ips ipd ttl port body
    unfold wd enc
    have e0 := getD_app_right (enc0 dst src kind ips ipd ttl port body) (word (sm (enc0 dst src kind ips ipd ttl port body))) 0
    have e1 := getD_app_right (enc0 dst src kind ips ipd ttl port body) (word (sm (enc0 dst src kind ips ipd ttl port body))) 1
    rw [h0] at e0 e1
    rw [Nat.add_zero] at e0
    rw [e0, e1]
    show sm _ / 256 * 256 + sm _ % 256 = sm _
    omega
  unfold chk
  rw [hw, hl, Int.toNat_natCast, take_enc0, hq, if_neg (by omega), if_neg (by omega), if_neg (by omega), if_neg (by omega)]
  simp

theorem body_enc (dst src kind ips ipd ttl port : Int) (body : ByteArray) : bodyOf (enc dst src kind ips ipd ttl port body) body.size = body := by
  obtain ⟨q0, q1, _, h⟩ := enc_form dst src kind ips ipd ttl port body
  rw [h]
  unfold bodyOf
  simp only [List.drop_succ_cons, List.drop_zero]
  rw [List.take_append_of_le_length (by rw [nums_length]; omega), List.take_of_length_le (by rw [nums_length]; omega), str_nums]

theorem dec_enc {dst src kind ips ipd ttl port : Int} {body : ByteArray} (hf : fault dst src kind ips ipd ttl port body.size = 0) :
    decE (enc dst src kind ips ipd ttl port body) = 0 ∧ decV (enc dst src kind ips ipd ttl port body) = fr dst src kind ips ipd ttl port body := by
  have hc := chk_enc hf
  have hw := enc_words (dst := dst) (src := src) (kind := kind) (ips := ips) (ipd := ipd) (ttl := ttl) (port := port) (body := body) []
  rw [List.append_nil] at hw
  obtain ⟨w0, w2, w4, w5, w6, w8, w10, w12⟩ := hw
  have hE : decE (enc dst src kind ips ipd ttl port body) = 0 := by
    unfold decE toldFault
    rw [if_pos hc, w0, w2, w4, w5, w6, w8, w10, w12, Int.toNat_natCast]
    exact hf
  refine ⟨hE, ?_⟩
  unfold decV
  rw [if_pos hE, w12, Int.toNat_natCast]
  unfold told
  rw [w0, w2, w4, w5, w6, w8, w10, body_enc]

/-- Cut short it is not read. -/
theorem dec_short {dst src kind ips ipd ttl port : Int} {body : ByteArray} (hf : fault dst src kind ips ipd ttl port body.size = 0) (k : Nat) (hk : k < (enc dst src kind ips ipd ttl port body).length) :
    decE ((enc dst src kind ips ipd ttl port body).take k) = 5 := by
  have h40 := (fault_zero hf).2.2.2.2.2.2.2
  have hl := enc_length dst src kind ips ipd ttl port body
  have hc : chk ((enc dst src kind ips ipd ttl port body).take k) = 5 := by
    have htl : ((enc dst src kind ips ipd ttl port body).take k).length = k := by rw [List.length_take]; omega
    unfold chk
    rw [htl]
    by_cases h16 : k < 16
    · rw [if_pos h16]
    · have hw : wd ((enc dst src kind ips ipd ttl port body).take k) 12 = body.size := by
        have := (enc_words (dst := dst) (src := src) (kind := kind) (ips := ips) (ipd := ipd) (ttl := ttl) (port := port) (body := body) []).2.2.2.2.2.2.2
        rw [List.append_nil] at this
        rw [← this]
        simp [wd, show 12 < k by omega, show 13 < k by omega]
      rw [hw, if_neg h16, if_neg (by omega), if_pos (by omega)]
  unfold decE
  rw [hc]
  rfl

/-- Longer it is not read. -/
theorem dec_long {dst src kind ips ipd ttl port : Int} {body : ByteArray} (hf : fault dst src kind ips ipd ttl port body.size = 0) (x : Int) : decE (enc dst src kind ips ipd ttl port body ++ [x]) = 4 := by
  have h40 := (fault_zero hf).2.2.2.2.2.2.2
  have hl := enc_length dst src kind ips ipd ttl port body
  have hw := (enc_words (dst := dst) (src := src) (kind := kind) (ips := ips) (ipd := ipd) (ttl := ttl) (port := port) (body := body) [x]).2.2.2.2.2.2.2
  have hc : chk (enc dst src kind ips ipd ttl port body ++ [x]) = 4 := by
    unfold chk
    rw [hw, List.length_append, hl, List.length_singleton, if_neg (by omega), if_neg (by omega), if_neg (by omega), if_pos (by omega)]
  unfold decE
  rw [hc]
  rfl

/-- In a tunnel, too. -/
theorem unw_wrapped {net tow dst src kind ips ipd ttl port : Int} {body : ByteArray} (hf : fault dst src kind ips ipd ttl port body.size = 0) :
    unw (wrapped net tow dst src kind ips ipd ttl port body) = .tuple #[.int .i64 net, .int .i64 tow, fr dst src kind ips ipd ttl port body, .int .i64 0] := by
  obtain ⟨hE, hV⟩ := dec_enc hf
  have hx : wrapped net tow dst src kind ips ipd ttl port body = 100 :: 121 :: net / 256 :: net % 256 :: tow / 256 :: tow % 256 :: enc dst src kind ips ipd ttl port body := by simp [wrapped, word]
  generalize enc dst src kind ips ipd ttl port body = xs at *
  have hd : dyB (wrapped net tow dst src kind ips ipd ttl port body) = true := by rw [hx]; unfold dyB; simp only [List.take_succ_cons, List.take_zero]; rw [ByteArray.toList_eq, strOfNums_data]; decide
  have h6 : (wrapped net tow dst src kind ips ipd ttl port body).drop 6 = xs := by rw [hx]; rfl
  have hU : unwE (wrapped net tow dst src kind ips ipd ttl port body) = 0 := by
    unfold unwE
    rw [if_neg (by rw [hx]; simp), if_pos hd, h6, hE]
  unfold unw
  rw [if_pos hU, h6, hV, hx]
  have e1 : wd (100 :: 121 :: net / 256 :: net % 256 :: tow / 256 :: tow % 256 :: xs) 2 = net := by show net / 256 * 256 + net % 256 = net; omega
  have e2 : wd (100 :: 121 :: net / 256 :: net % 256 :: tow / 256 :: tow % 256 :: xs) 4 = tow := by show tow / 256 * 256 + tow % 256 = tow; omega
  rw [e1, e2]

end Go.Proofs.Ytgkdmmfogibbjaa
