/- Texts joined: Ef, Eq, Un, Wf, Fm, Ww, Wu, Xc, Fn2, Rk, Xd, Xk2, Two, Rf0, So, Sv, Rs0, Pa, Pb, Pc, Px, Pg. -/
import Derived.Laws.StructEq
import Derived.Laws.AppendOwnNone
import Derived.SizedLaws
import Derived.Lib.SlBytesConst
import Derived.ArgAppend
import Derived.Deep.AppendLies
import Derived.Deep.RegionHeld3
import Derived.Deep.QuietTactic
import Derived.BigQuiet
import Derived.Deep.RegionLaw
import Derived.Laws.OwnMore
import Derived.Lib.AppendZeros
import Derived.Test.YtncdininppehkaaGreatJAsksAnswered3
namespace Go.Proofs.YtncdininppehkaaGreat
open Go.RowKit
set_option linter.unusedVariables false
set_option maxRecDepth 100000
theorem eqFrame (a b c d e f g : Int) (s : ByteArray) (w : World) : (Op.equalIn 10000 37 (.agg #[.int .i64 a, .int .i64 b, .int .i64 c, .int .i64 d, .int .i64 e, .int .i64 f, .int .i64 g, .string s]) (.agg #[.int .i64 a, .int .i64 b, .int .i64 c, .int .i64 d, .int .i64 e, .int .i64 f, .int .i64 g, .string s])).run Tryz.prog w = .ok true w := by
 have hS : Tryz.prog.underlying 37 = some (.struct (Tryz.prog.fieldsOf 37)) := by kernel_rfl
 have hp : Tryz.prog.stoodInHeld 37 = false := by kernel_rfl
 rw [show (10000 : Nat) = 9999 + 1 from rfl, run_equalIn_agg w 9999 37 _ _ hS hp]
 simp only [Program.fieldsOf, Tryz.underlying37]
 go_simp
theorem guardFrame : Tryz.prog.eqGuardType Tryz.prog.depth 37 = false := by kernel_rfl
end Go.Proofs.YtncdininppehkaaGreat

namespace Go.Proofs.YtncdininppehkaaGreat
open Go.ChangeShapes Go.WideShapes Go.ChangeAt Go.RowKit
set_option linter.unusedVariables false
set_option maxRecDepth 100000
theorem own_isB {w : World} {B : Nat} {v : Value} {xs : List Int} (h : w.ownsRow B 5 1 v xs.length (U xs)) (hx : Bs xs) (hm : xs.length ≤ 140737488355328) : ∃ a cap, v = .slice a xs.length cap ∧ IsB w a xs.length cap xs := by
 by_cases h0 : xs.length = 0
 ·obtain ⟨_, ⟨rfl, _⟩ | ⟨g, cap, cur, rfl, _⟩⟩ := h
  ·exact ⟨none, 0, by rw [h0], rfl, hx, hm, .inl h0⟩
  ·exact ⟨_, cap, rfl, rfl, hx, hm, .inl h0⟩
 ·obtain ⟨g, cap, rfl, _, hc, hcell⟩ := own_cells h (by omega)
  exact ⟨_, cap, rfl, rfl, hx, hm, .inr ⟨g, 0, rfl, hc, hcell⟩⟩
theorem IsB.news {w : World} {ad : Addr} {len cap : Nat} {xs : List Int} (h : IsB w (some ad) len cap xs) : ∀ j u, (U xs)[j]? = some u → w.cell? (ad.add j) = some u := by
 obtain ⟨h1, h2, h3, h0 | ⟨b, off, ha, hc, hL⟩⟩ := h
 ·intro j u hj
  have : xs = [] := List.eq_nil_of_length_eq_zero (by omega)
  subst this
  simp [U] at hj
 ·cases ha
  intro j u hj
  have hjl : j < xs.length := by
   rcases Nat.lt_or_ge j xs.length with h | h
   ·exact h
   ·simp [U, List.getElem?_eq_none h] at hj
  have hp : (⟨b, off, none⟩ : Addr).add j = ⟨b, off + j, none⟩ := by unfold Addr.add; split <;> simp_all
  rw [hp, hL j hjl]
  simp [U, List.getElem?_eq_getElem hjl] at hj
  subst hj
  simp [List.getD, List.getElem?_eq_getElem hjl]
theorem open_bytes {H : Type} {enc : TypeId × Value → H} {w : World} {base b0 : Nat} {spare : Nat → Bool} {held : Bool} {r : Reach} {v : Value} {d : DataW H} {p : List MemPlace}
  (hv : Value.okWide Tryz.prog w r b0 214 v) (h : DataW.Trod enc Tryz.prog w base spare held 214 v d p) :
  ∃ a len cap xs, v = .slice a len cap ∧ xs.length = len ∧ Bs xs ∧ (len = 0 ∨ ∃ b off, a = some ⟨b, off, none⟩ ∧ len ≤ cap ∧ Lies w b off xs) ∧ (a = none → cap = 0) ∧
   (len = 0 ∨ ∃ elems sp, d = .slice elems sp ∧ elems.length = len) := by
 obtain ⟨a, len, cap, rfl⟩ := okWide_slice Tryz.underlying214 hv
 obtain ⟨fuel, hf⟩ := h
 rcases open_ints Tryz.underlying214 Tryz.underlying5 (by kernel_rfl) hf with ⟨hcs, _⟩ | ⟨x, l, c, zs, hcs, _, hl, hm, hz, hd, hcell, hwz⟩
 ·simp [Value.cells] at hcs
  obtain ⟨rfl, rfl, rfl⟩ := hcs
  exact ⟨none, 0, 0, [], rfl, rfl, Bs.nil, .inl rfl, fun _ => rfl, .inl rfl⟩
 ·simp [Value.cells] at hcs
  obtain ⟨rfl, rfl, rfl⟩ := hcs
  have hzl : len ≤ zs.length := by rw [hz]; split <;> omega
  have hbz : Bs zs := fun n hn => by
   have := hwz n hn
   simpa [Lit.wf, IntKind.min, IntKind.max, IntKind.signed, IntKind.bits] using this
  have htl : (zs.take len).length = len := by simp; omega
  simp only [Prod.mk.injEq] at hd
  refine ⟨some x, len, cap, zs.take len, rfl, htl, hbz.take len, ?_, fun h => by simp at h, .inr ⟨_, _, hd.1, by simp [lits]; omega⟩⟩
  by_cases h0 : len = 0
  ·exact .inl h0
  ·right
   obtain ⟨b, off, spot⟩ := x
   have hc0 := hcell 0 (by omega)
   have hspot : spot = none := by simpa [Addr.add] using World.cell?_spot hc0
   subst hspot
   refine ⟨b, off, rfl, hl, fun i hi => ?_⟩
   have hi' : i < len := by omega
   have hp : (⟨b, off, none⟩ : Addr).add i = ⟨b, off + i, none⟩ := by unfold Addr.add; split <;> simp_all
   rw [← hp, hcell i (by omega)]
   simp [hi']
theorem bytesU8 : Tryz.prog.bytesOf 5 = 1 := by kernel_rfl
end Go.Proofs.YtncdininppehkaaGreat

namespace Go.Proofs.YtncdininppehkaaGreat
open Go.RowKit
set_option linter.unusedVariables false
set_option maxRecDepth 100000
def dyB (xs : List Int) : Bool := (strOfNums (xs.take 2)).toList == [100, 121]
def unwE (xs : List Int) : Int := if xs.length < 6 then 5 else if dyB xs = true then decE (xs.drop 6) else 4
def unw (xs : List Int) : Value := if unwE xs = 0 then .tuple #[.int .i64 (wd xs 2), .int .i64 (wd xs 4), decV (xs.drop 6), .int .i64 0] else .tuple #[.int .i64 0, .int .i64 0, zeroF, .int .i64 (unwE xs)]
theorem conv_two (b off cap : Nat) (xs : List Int) (hn : 2 ≤ xs.length) (w : World) (hL : Lies w b off xs) :
  (convert 214 9 (.slice (some ⟨b, off, none⟩) 2 cap)).run Tryz.prog w = .ok (.string (strOfNums (xs.take 2))) w :=
 run_convert_bytes_arg w 214 5 Tryz.underlying214 Tryz.underlying5 b off 2 cap (xs.take 2) (by simp; omega) (fun i hi => by
  rw [hL i (by omega)]
  simp [hi]) 9 Tryz.underlying9
theorem decV_form (xs : List Int) : ∃ a b c d e f g : Int, ∃ s : ByteArray, decV xs = fr a b c d e f g s := by
 unfold decV
 split
 ·exact ⟨_, _, _, _, _, _, _, _, rfl⟩
 ·exact ⟨_, _, _, _, _, _, _, _, rfl⟩
theorem unw_form (xs : List Int) : ∃ n t a b c d e f g : Int, ∃ s : ByteArray, ∃ x : Int, unw xs = .tuple #[.int .i64 n, .int .i64 t, fr a b c d e f g s, .int .i64 x] := by
 unfold unw
 split
 ·obtain ⟨a, b, c, d, e, f, g, s, h⟩ := decV_form (xs.drop 6)
  rw [h]
  exact ⟨_, _, _, _, _, _, _, _, _, _, _, rfl⟩
 ·exact ⟨_, _, _, _, _, _, _, _, _, _, _, rfl⟩
end Go.Proofs.YtncdininppehkaaGreat

namespace Go.Proofs.YtncdininppehkaaGreat
open Go.RowKit
set_option linter.unusedVariables false
set_option maxRecDepth 100000
def wrapped (net tow dst src kind ips ipd ttl port : Int) (body : ByteArray) : List Int := [100, 121] ++ word net ++ word tow ++ enc dst src kind ips ipd ttl port body
theorem enc_length (dst src kind ips ipd ttl port : Int) (body : ByteArray) : (enc dst src kind ips ipd ttl port body).length = 16 + body.size := by
 unfold enc; rw [List.length_append, enc0_length]; simp [word]; omega
end Go.Proofs.YtncdininppehkaaGreat

namespace Go.Proofs.YtncdininppehkaaGreat
open Go.RowKit
set_option linter.unusedVariables false
set_option maxRecDepth 100000
theorem enc_form (dst src kind ips ipd ttl port : Int) (body : ByteArray) : ∃ q0 q1 : Int, word (sm (enc0 dst src kind ips ipd ttl port body)) = [q0, q1] ∧
  enc dst src kind ips ipd ttl port body = dst / 256 :: dst % 256 :: src / 256 :: src % 256 :: kind :: ttl :: ips / 256 :: ips % 256 :: ipd / 256 :: ipd % 256 :: port / 256 :: port % 256 :: (body.size : Int) / 256 :: (body.size : Int) % 256 :: (nums body ++ [q0, q1]) := by
 refine ⟨_, _, rfl, ?_⟩
 unfold enc
 have h : word (sm (enc0 dst src kind ips ipd ttl port body)) = [sm (enc0 dst src kind ips ipd ttl port body) / 256, sm (enc0 dst src kind ips ipd ttl port body) % 256] := rfl
 rw [h]
 generalize sm (enc0 dst src kind ips ipd ttl port body) / 256 = q0
 generalize sm (enc0 dst src kind ips ipd ttl port body) % 256 = q1
 simp [enc0, word]
theorem str_nums (s : ByteArray) : strOfNums (nums s) = s := by
 apply ByteArray.ext
 apply Array.toList_inj.1
 rw [strOfNums_data, nums, List.map_map]
 conv => rhs; rw [← List.map_id s.data.toList]
 apply List.map_congr_left
 intro x _
 simp
theorem enc_bs {dst src kind ips ipd ttl port : Int} {body : ByteArray} (hf : fault dst src kind ips ipd ttl port body.size = 0) : Bs (enc dst src kind ips ipd ttl port body) := by
 have h := sm_bd (enc0_bs hf)
 exact (enc0_bs hf).append (word_bs _ h.1 h.2)
theorem enc_words {dst src kind ips ipd ttl port : Int} {body : ByteArray} (z : List Int) :
  wd (enc dst src kind ips ipd ttl port body ++ z) 0 = dst ∧ wd (enc dst src kind ips ipd ttl port body ++ z) 2 = src ∧ bt (enc dst src kind ips ipd ttl port body ++ z) 4 = kind ∧ bt (enc dst src kind ips ipd ttl port body ++ z) 5 = ttl ∧
  wd (enc dst src kind ips ipd ttl port body ++ z) 6 = ips ∧ wd (enc dst src kind ips ipd ttl port body ++ z) 8 = ipd ∧ wd (enc dst src kind ips ipd ttl port body ++ z) 10 = port ∧ wd (enc dst src kind ips ipd ttl port body ++ z) 12 = body.size := by
 obtain ⟨q0, q1, _, h⟩ := enc_form dst src kind ips ipd ttl port body
 rw [h]
 simp only [wd, bt, List.cons_append]
 refine ⟨?_, ?_, rfl, rfl, ?_, ?_, ?_, ?_⟩
 ·show dst / 256 * 256 + dst % 256 = dst; omega
 ·show src / 256 * 256 + src % 256 = src; omega
 ·show ips / 256 * 256 + ips % 256 = ips; omega
 ·show ipd / 256 * 256 + ipd % 256 = ipd; omega
 ·show port / 256 * 256 + port % 256 = port; omega
 ·show (body.size : Int) / 256 * 256 + (body.size : Int) % 256 = (body.size : Int); omega
theorem take_enc0 (dst src kind ips ipd ttl port : Int) (body : ByteArray) : (enc dst src kind ips ipd ttl port body).take (14 + body.size) = enc0 dst src kind ips ipd ttl port body := by
 unfold enc
 rw [List.take_append_of_le_length (by rw [enc0_length]; omega), List.take_of_length_le (by rw [enc0_length]; omega)]
theorem getD_app_right (a z : List Int) (i : Nat) : (a ++ z).getD (a.length + i) 0 = z.getD i 0 := by
 simp [List.getD, List.getElem?_append_right]
theorem chk_enc {dst src kind ips ipd ttl port : Int} {body : ByteArray} (hf : fault dst src kind ips ipd ttl port body.size = 0) : chk (enc dst src kind ips ipd ttl port body) = 0 := by
 have h40 := (fault_zero hf).2.2.2.2.2.2.2
 have hw : wd (enc dst src kind ips ipd ttl port body) 12 = body.size := by have := (enc_words (dst := dst) (src := src) (kind := kind) (ips := ips) (ipd := ipd) (ttl := ttl) (port := port) (body := body) []).2.2.2.2.2.2.2; simpa using this
 have hl := enc_length dst src kind ips ipd ttl port body
 have hs := sm_bd (enc0_bs hf)
 have hq : wd (enc dst src kind ips ipd ttl port body) (14 + body.size) = sm (enc0 dst src kind ips ipd ttl port body) := by
  have h0 := enc0_length dst src kind ips ipd ttl port body
  unfold wd enc
  have e0 := getD_app_right (enc0 dst src kind ips ipd ttl port body) (word (sm (enc0 dst src kind ips ipd ttl port body))) 0
  have e1 := getD_app_right (enc0 dst src kind ips ipd ttl port body) (word (sm (enc0 dst src kind ips ipd ttl port body))) 1
  rw [h0] at e0 e1
  rw [Nat.add_zero] at e0
  rw [e0, e1]
  show sm _ / 256 * 256 + sm _ % 256 = sm _
  omega
 unfold chk
 rw [hw, hl, Int.toNat_natCast, take_enc0, hq, if_neg (by omega), if_neg (by omega), if_neg (by omega), if_neg (by omega)]
 simp
theorem body_enc (dst src kind ips ipd ttl port : Int) (body : ByteArray) : bodyOf (enc dst src kind ips ipd ttl port body) body.size = body := by
 obtain ⟨q0, q1, _, h⟩ := enc_form dst src kind ips ipd ttl port body
 rw [h]
 unfold bodyOf
 simp only [List.drop_succ_cons, List.drop_zero]
 rw [List.take_append_of_le_length (by rw [nums_length]; omega), List.take_of_length_le (by rw [nums_length]; omega), str_nums]
theorem dec_enc {dst src kind ips ipd ttl port : Int} {body : ByteArray} (hf : fault dst src kind ips ipd ttl port body.size = 0) :
  decE (enc dst src kind ips ipd ttl port body) = 0 ∧ decV (enc dst src kind ips ipd ttl port body) = fr dst src kind ips ipd ttl port body := by
 have hc := chk_enc hf
 have hw := enc_words (dst := dst) (src := src) (kind := kind) (ips := ips) (ipd := ipd) (ttl := ttl) (port := port) (body := body) []
 rw [List.append_nil] at hw
 obtain ⟨w0, w2, w4, w5, w6, w8, w10, w12⟩ := hw
 have hE : decE (enc dst src kind ips ipd ttl port body) = 0 := by
  unfold decE toldFault
  rw [if_pos hc, w0, w2, w4, w5, w6, w8, w10, w12, Int.toNat_natCast]
  exact hf
 refine ⟨hE, ?_⟩
 unfold decV
 rw [if_pos hE, w12, Int.toNat_natCast]
 unfold told
 rw [w0, w2, w4, w5, w6, w8, w10, body_enc]
theorem dec_short {dst src kind ips ipd ttl port : Int} {body : ByteArray} (hf : fault dst src kind ips ipd ttl port body.size = 0) (k : Nat) (hk : k < (enc dst src kind ips ipd ttl port body).length) :
  decE ((enc dst src kind ips ipd ttl port body).take k) = 5 := by
 have h40 := (fault_zero hf).2.2.2.2.2.2.2
 have hl := enc_length dst src kind ips ipd ttl port body
 have hc : chk ((enc dst src kind ips ipd ttl port body).take k) = 5 := by
  have htl : ((enc dst src kind ips ipd ttl port body).take k).length = k := by rw [List.length_take]; omega
  unfold chk
  rw [htl]
  by_cases h16 : k < 16
  ·rw [if_pos h16]
  ·have hw : wd ((enc dst src kind ips ipd ttl port body).take k) 12 = body.size := by
    have := (enc_words (dst := dst) (src := src) (kind := kind) (ips := ips) (ipd := ipd) (ttl := ttl) (port := port) (body := body) []).2.2.2.2.2.2.2
    rw [List.append_nil] at this
    rw [← this]
    simp [wd, show 12 < k by omega, show 13 < k by omega]
   rw [hw, if_neg h16, if_neg (by omega), if_pos (by omega)]
 unfold decE
 rw [hc]
 rfl
theorem dec_long {dst src kind ips ipd ttl port : Int} {body : ByteArray} (hf : fault dst src kind ips ipd ttl port body.size = 0) (x : Int) : decE (enc dst src kind ips ipd ttl port body ++ [x]) = 4 := by
 have h40 := (fault_zero hf).2.2.2.2.2.2.2
 have hl := enc_length dst src kind ips ipd ttl port body
 have hw := (enc_words (dst := dst) (src := src) (kind := kind) (ips := ips) (ipd := ipd) (ttl := ttl) (port := port) (body := body) [x]).2.2.2.2.2.2.2
 have hc : chk (enc dst src kind ips ipd ttl port body ++ [x]) = 4 := by
  unfold chk
  rw [hw, List.length_append, hl, List.length_singleton, if_neg (by omega), if_neg (by omega), if_neg (by omega), if_pos (by omega)]
 unfold decE
 rw [hc]
 rfl
theorem unw_wrapped {net tow dst src kind ips ipd ttl port : Int} {body : ByteArray} (hf : fault dst src kind ips ipd ttl port body.size = 0) :
  unw (wrapped net tow dst src kind ips ipd ttl port body) = .tuple #[.int .i64 net, .int .i64 tow, fr dst src kind ips ipd ttl port body, .int .i64 0] := by
 obtain ⟨hE, hV⟩ := dec_enc hf
 have hx : wrapped net tow dst src kind ips ipd ttl port body = 100 :: 121 :: net / 256 :: net % 256 :: tow / 256 :: tow % 256 :: enc dst src kind ips ipd ttl port body := by simp [wrapped, word]
 generalize enc dst src kind ips ipd ttl port body = xs at *
 have hd : dyB (wrapped net tow dst src kind ips ipd ttl port body) = true := by rw [hx]; unfold dyB; simp only [List.take_succ_cons, List.take_zero]; rw [ByteArray.toList_eq, strOfNums_data]; decide
 have h6 : (wrapped net tow dst src kind ips ipd ttl port body).drop 6 = xs := by rw [hx]; rfl
 have hU : unwE (wrapped net tow dst src kind ips ipd ttl port body) = 0 := by
  unfold unwE
  rw [if_neg (by rw [hx]; simp), if_pos hd, h6, hE]
 unfold unw
 rw [if_pos hU, h6, hV, hx]
 have e1 : wd (100 :: 121 :: net / 256 :: net % 256 :: tow / 256 :: tow % 256 :: xs) 2 = net := by show net / 256 * 256 + net % 256 = net; omega
 have e2 : wd (100 :: 121 :: net / 256 :: net % 256 :: tow / 256 :: tow % 256 :: xs) 4 = tow := by show tow / 256 * 256 + tow % 256 = tow; omega
 rw [e1, e2]
end Go.Proofs.YtncdininppehkaaGreat

namespace Go.Proofs.YtncdininppehkaaGreat
open Go.RowKit
set_option linter.unusedVariables false
set_option maxRecDepth 100000
set_option maxHeartbeats 1000000 in
theorem appendWord_full (g : Nat) (p q x : Int) (w : World) (h0 : w.cell? ⟨g, 0, none⟩ = some (.int .u8 p)) (h1 : w.cell? ⟨g, 1, none⟩ = some (.int .u8 q)) (hx0 : 0 ≤ x) (hx1 : x ≤ 65535) :
  Calls Tryz.prog 200 #[.slice (some ⟨g, 0, none⟩) 2 2, .int .i64 x] w fun e w' => ∃ v', e = .returned v' ∧ w'.ownsRow w.heap.size 5 1 v' ([p, q] ++ word x).length (U ([p, q] ++ word x)) ∧ Below w.heap.size w w' := by
 obtain ⟨i0, hi, hz0, hz1, hz2⟩ := info_parts infoByte
 have hlt : g < w.heap.size := by
  rcases Nat.lt_or_ge g w.heap.size with h | h
  ·exact h
  ·simp [World.cell?, Array.getElem?_eq_none h] at h0
 have holds : ∀ o : Obj, ∀ j u, (U [p, q])[j]? = some u → (w.alloc o).cell? ((⟨g, 0, none⟩ : Addr).add j) = some u := by
  intro o j u hj
  match j, hj with
  | 0, hj => simp [U] at hj; subst hj; exact Lib.cell?_alloc_marked o (by simpa [Addr.add] using h0)
  | 1, hj => simp [U] at hj; subst hj; exact Lib.cell?_alloc_marked o (by simpa [Addr.add] using h1)
 have HO := hide holds
 clear holds h0 h1
 go_enter Tryz.func200, Tryz.ntmps200
 go_wp2_with (at_builtin; refine wpList_append_grows _ rfl _ _ 214 rfl 5 i0 (.int .u8 0) 1 1 Tryz.underlying214 hi hz0 hz1 hz2 rfl (by decide) (some ⟨g, 0, none⟩) 2 2 (U [p, q]) rfl ?n1 rfl ?n2 ⟨w.heap.size, 0, none⟩ 2 2 (U (word x)) rfl rfl ?n3 ?n4 ?n5 ?n6 ?n7 ?_)
 case n1 => simp
 case n2 => intro b hb; cases hb; exact unhide HO _
 case n3 =>
  intro j u hj
  match j, hj with
  | 0, hj => simp [U, word] at hj; subst hj; simp [Addr.add]
  | 1, hj => simp [U, word] at hj; subst hj; simp [Addr.add]
 case n4 => exact U_one _
 case n5 => decide
 case n6 => decide
 case n7 => decide
 intro v' w1 hown' hgrow
 have hbel : Below w.heap.size w w1 := ((Below.refl _ w).alloc (Nat.le_refl _) _).grown hgrow (by simp) (by simp)
 have hown2 : w1.ownsRow w.heap.size 5 1 v' ([p, q] ++ word x).length (U ([p, q] ++ word x)) := own_less (own_app (xs := [p, q]) hown' rfl) (by simp)
 clear hown' hgrow HO
 go_wp2
 go_ret
 exact ⟨v', rfl, hown2, hbel⟩
theorem news_of {w : World} {g : Nat} {xs : List Int} (h : ∀ i, i < xs.length → w.cell? ⟨g, 0 + i, none⟩ = some (.int .u8 (xs.getD i 0))) : ∀ j u, (U xs)[j]? = some u → w.cell? ((⟨g, 0, none⟩ : Addr).add j) = some u := by
 intro j u hj
 have hjl : j < xs.length := by
  rcases Nat.lt_or_ge j xs.length with h | h
  ·exact h
  ·simp [U, List.getElem?_eq_none h] at hj
 have hp : (⟨g, 0, none⟩ : Addr).add j = ⟨g, 0 + j, none⟩ := by unfold Addr.add; split <;> simp_all
 rw [hp, h j hjl]
 simp [U, List.getElem?_eq_getElem hjl] at hj
 subst hj
 simp [List.getD, List.getElem?_eq_getElem hjl]
set_option maxHeartbeats 1000000 in
theorem wrap_far (net tow dst src kind ips ipd ttl port : Int) (body : ByteArray) (w : World) (hw : (wordB net && wordB tow) = false) :
  Calls Tryz.prog 177 #[.int .i64 net, .int .i64 tow, fr dst src kind ips ipd ttl port body] w fun e w' => e = .returned (.tuple #[.slice none 0 0, .int .i64 2]) ∧ Below w.heap.size w w' := by
 by_cases h1 : wordB net = true
 ·have h2 : wordB tow = false := by simpa [h1] using hw
  clear hw
  go_enter Tryz.func177, Tryz.ntmps177
  go_wp2_with (go_at_call 128; refine (isWord_any _ _).mono ?_; rintro e w' ⟨rfl, rfl⟩)
  go_ret2
  exact ⟨rfl, (Below.refl _ _).alloc (Nat.le_refl _) _⟩
 ·have h1' : wordB net = false := by simpa using h1
  clear hw h1
  go_enter Tryz.func177, Tryz.ntmps177
  go_wp2_with (go_at_call 128; refine (isWord_any _ _).mono ?_; rintro e w' ⟨rfl, rfl⟩)
  go_ret2
  exact ⟨rfl, (Below.refl _ _).alloc (Nat.le_refl _) _⟩
set_option maxHeartbeats 1000000 in
theorem wrap_no (net tow dst src kind ips ipd ttl port : Int) (body : ByteArray) (w : World) (h1 : wordB net = true) (h2 : wordB tow = true) (hb : body.size ≤ maxLen) (hf : fault dst src kind ips ipd ttl port body.size ≠ 0) :
  Calls Tryz.prog 177 #[.int .i64 net, .int .i64 tow, fr dst src kind ips ipd ttl port body] w fun e w' => e = .returned (.tuple #[.slice none 0 0, .int .i64 (fault dst src kind ips ipd ttl port body.size)]) ∧ Below w.heap.size w w' := by
 have hf' : (fault dst src kind ips ipd ttl port body.size != 0) = true := by simpa using hf
 go_enter Tryz.func177, Tryz.ntmps177
 go_wp2_with (go_at_call 128; refine (isWord_any _ _).mono ?_; rintro e w' ⟨rfl, rfl⟩)
 refine (encode_no _ _ _ _ _ _ _ _ _ hb hf).mono ?_
 rintro e w1 ⟨rfl, hb1⟩
 go_wp2_with fail
 go_ret2
 exact ⟨rfl, ((Below.refl _ _).alloc (Nat.le_refl _) _).trans (hb1.mono (by simp))⟩
set_option maxHeartbeats 1000000 in
theorem wrap_yes (net tow dst src kind ips ipd ttl port : Int) (body : ByteArray) (w : World) (h1 : wordB net = true) (h2 : wordB tow = true) (hf : fault dst src kind ips ipd ttl port body.size = 0) :
  Calls Tryz.prog 177 #[.int .i64 net, .int .i64 tow, fr dst src kind ips ipd ttl port body] w fun e w' => ∃ v, e = .returned (.tuple #[v, .int .i64 0]) ∧
   w'.ownsRow w.heap.size 5 1 v (wrapped net tow dst src kind ips ipd ttl port body).length (U (wrapped net tow dst src kind ips ipd ttl port body)) ∧ Below w.heap.size w w' := by
 have hn : 0 ≤ net ∧ net ≤ 65535 := by simpa [wordB] using h1
 have ht : 0 ≤ tow ∧ tow ≤ 65535 := by simpa [wordB] using h2
 obtain ⟨hn0, hn1⟩ := hn
 obtain ⟨ht0, ht1⟩ := ht
 have hn40 := (fault_zero hf).2.2.2.2.2.2.2
 obtain ⟨i0, hi, hz0, hz1, hz2⟩ := info_parts infoByte
 have kc := fun (w : World) (C : Array Value) (n c : Nat) => Lib.run_convert_bytes_const (P := Tryz.prog) w 214 5 C n c Tryz.underlying214 Tryz.underlying5
 have hlen := enc_length dst src kind ips ipd ttl port body
 go_enter Tryz.func177, Tryz.ntmps177
 go_wp2_with (go_at_call 128; refine (isWord_any _ _).mono ?_; rintro e w' ⟨rfl, rfl⟩)
 refine (encode_yes _ _ _ _ _ _ _ _ _ hf).mono ?_
 rintro e w1 ⟨v1, rfl, ho1, hb1⟩
 have HW : Hid (wrapped net tow dst src kind ips ipd ttl port body = [100, 121] ++ word net ++ word tow ++ enc dst src kind ips ipd ttl port body) := rfl
 generalize enc dst src kind ips ipd ttl port body = xs at *
 have hl1 : 16 ≤ xs.length := by omega
 have hl2 : xs.length ≤ 56 := by omega
 clear hlen hn40
 obtain ⟨g, cap, rfl, hg, _, hcell⟩ := own_cells ho1 (by omega)
 have hB1 : w.heap.size + 1 ≤ w1.heap.size := by have := hb1.size; simpa using this
 have HC := hide hcell
 clear hcell ho1
 go_wp2_with fail
 refine (appendWord_full w1.heap.size 100 121 net _ ?_ ?_ hn0 hn1).mono ?_
 ·rw [World.cell?_alloc_mark]; rfl
 ·rw [World.cell?_alloc_mark]; rfl
 rintro e w2 ⟨v2, rfl, ho2, hb2⟩
 have hs2 : w1.heap.size + 1 ≤ w2.heap.size := by have := hb2.size; simpa using this
 have hb2' : Below (w1.heap.size + 1) (w1.alloc (.cells #[.int .u8 100, .int .u8 121] 5 (2, 3))) w2 := hb2.mono (by simp)
 have ho2' := own_less ho2 (B' := w1.heap.size + 1) (by simp)
 clear ho2 hb2
 go_wp2_with fail
 refine (appendWord_any (w1.heap.size + 1) v2 _ tow _ ho2' ht0 ht1 (by simp [word]) hs2).mono ?_
 rintro e w3 ⟨v3, rfl, ho3, hb3⟩
 have hb3' := hb2'.trans hb3
 have hs3 := Nat.le_trans hs2 hb3.size
 have hb30 : Below w1.heap.size w1 w3 := ((Below.refl _ w1).alloc (Nat.le_refl _) _).trans (hb3'.mono (by omega))
 have hc3 : ∀ i, i < xs.length → w3.cell? ⟨g, 0 + i, none⟩ = some (.int .u8 (xs.getD i 0)) := fun i hi => (hb30.cell (p := ⟨g, 0 + i, none⟩) hg.2).trans (unhide HC i hi)
 have HC3 := hide hc3
 clear hb2' ho2' hb3 hc3 HC
 go_wp2_with (at_builtin; refine wpList_append_own _ rfl _ _ 214 rfl (w1.heap.size + 1) 5 i0 (.int .u8 0) 1 1 Tryz.underlying214 hi hz0 hz1 hz2 rfl (by decide) _ _ _ rfl ho3 ⟨g, 0, none⟩ xs.length cap (U xs) rfl ?m1 ?m2 ?m3 ?m4 ?m5 ?m6 ?_)
 case m1 => simp [U_length]
 case m2 => exact news_of (unhide HC3)
 case m3 => exact U_one _
 case m4 => simp [word, maxLen]; omega
 case m5 => simp [word]; omega
 case m6 => exact hs3
 intro v4 w4 ho4 hg4 _
 have hb4 : Below (w1.heap.size + 1) w3 w4 := (Below.refl _ w3).grown hg4 hs3 (own_ge ho3)
 have ho4' := own_app ho4 rfl
 have hbel : Below w.heap.size w w4 := (((Below.refl w.heap.size w).alloc (Nat.le_refl _) _).trans (hb1.mono (by simp))).trans ((hb30.mono (by omega)).trans (hb4.mono (by omega)))
 clear ho3 ho4 hg4 hb30 hb3' HC3 hb4
 go_wp2
 go_ret2
 refine ⟨v4, rfl, ?_, hbel⟩
 rw [HW.out]
 exact own_less ho4' (by omega)
end Go.Proofs.YtncdininppehkaaGreat

namespace Go.Proofs.YtncdininppehkaaGreat
open Go.RowKit
set_option linter.unusedVariables false
set_option maxRecDepth 100000
set_option maxHeartbeats 2000000 in
theorem unwrap_any (a : Option Addr) (len cap : Nat) (xs : List Int) (w : World) (hI : IsB w a len cap xs) :
  Calls Tryz.prog 178 #[.slice a len cap] w fun e w' => e = .returned (unw xs) ∧ Below w.heap.size w w' := by
 obtain ⟨hl, hx, hm, hI⟩ := hI
 by_cases h6 : len < 6
 ·have HR : Hid (Ending.returned (unw xs) = .returned (.tuple #[.int .i64 0, .int .i64 0, zeroF, .int .i64 5])) := by
   show _ = _
   have hE : unwE xs = 5 := by unfold unwE; rw [if_pos (by omega)]
   unfold unw; rw [hE]; rfl
  clear hI
  go_enter Tryz.func178, Tryz.ntmps178
  go_wp2_with fail
  refine bodyPost_ret (v := .tuple #[.int .i64 0, .int .i64 0, zeroF, .int .i64 5]) ?_ rfl ⟨HR.out.symm, ?_⟩
  ·simp [results, Tryz.results178, go_sem]
  ·exact (Below.refl _ _).alloc (Nat.le_refl _) _
 ·obtain ⟨b, off, rfl, hlc, hL⟩ : ∃ b off, a = some ⟨b, off, none⟩ ∧ len ≤ cap ∧ Lies w b off xs := by
   rcases hI with h0 | h
   ·omega
   ·exact h
  clear hI
  have hbw := hL.lt (by omega)
  have hL0 : ∀ o : Obj, Lies (w.alloc o) b off xs := fun o => hL.below ((Below.refl _ w).alloc (Nat.le_refl _) o) hbw
  have hT : (xs.take 2).length = 2 := by simp; omega
  have hcv := fun (o : Obj) (c : Nat) => conv_two b off c xs (by omega) (w.alloc o) (hL0 o)
  have k6 : ((6 : Int)) ≤ (len : Int) := by omega
  have k2 : ((2 : Int)) ≤ (cap : Int) := by omega
  by_cases hdy : dyB xs = true
  ·have hE : unwE xs = decE (xs.drop 6) := by unfold unwE; rw [if_neg (by omega), if_pos hdy]
   have hU : unw xs = if decE (xs.drop 6) = 0 then .tuple #[.int .i64 (wd xs 2), .int .i64 (wd xs 4), decV (xs.drop 6), .int .i64 0] else .tuple #[.int .i64 0, .int .i64 0, zeroF, .int .i64 (decE (xs.drop 6))] := by unfold unw; rw [hE]
   have HU := hide hU
   clear hU hE
   have hdl : (xs.drop 6).length = len - 6 := by simp; omega
   have HD := hide (fun a' c' w' (h : IsB w' a' (len - 6) c' (xs.drop 6)) => decode_any a' (len - 6) c' (xs.drop 6) w' h)
   have HW := hide (fun (w' : World) (h : Lies w' b off xs) (i : Int) (h0 : 0 ≤ i) (h1 : i + 1 < len) => wordAt_any b off len cap xs i w' hl hx hm hlc h h0 h1)
   have HI6 : Hid (∀ o : Obj, IsB (w.alloc o) (some ⟨b, off + 6, none⟩) (len - 6) (cap - 6) (xs.drop 6)) := fun o =>
    ⟨hdl, hx.drop 6, by omega, .inr ⟨b, off + 6, rfl, by omega, fun i hi => by
     rw [show off + 6 + i = off + (6 + i) by omega, hL0 o (6 + i) (by omega)]
     simp⟩⟩
   have HI0 : Hid (cap = 6 → ∀ (o : Obj) (a' : Option Addr) (c' : Nat), IsB (w.alloc o) a' (len - 6) c' (xs.drop 6)) := fun hc o a' c' =>
    ⟨hdl, hx.drop 6, by omega, .inl (by omega)⟩
   unfold dyB at hdy
   have HX := hide hx
   clear hx hdl hT
   have hy0 : cap = 6 → decE (xs.drop 6) = 5 := fun hc => by
    have : xs.drop 6 = [] := List.drop_eq_nil_of_le (by omega)
    rw [this]; decide
   generalize xs.drop 6 = ys at *
   obtain ⟨d0, d1, d2, d3, d4, d5, d6, s, hV⟩ := decV_form ys
   rw [hV] at HD HU
   clear hV
   by_cases n6 : cap = 6
   ·have hz : decE ys ≠ 0 := by rw [hy0 n6]; decide
    obtain rfl : len = 6 := by omega
    subst n6
    have HI1 : Hid (∀ (o : Obj) (a' : Option Addr) (c' : Nat), IsB (w.alloc o) a' 0 c' ys) := HI0.out rfl
    have HD1 : Hid (∀ a' c' w', IsB w' a' 0 c' ys → Calls Tryz.prog 201 #[.slice a' 0 c'] w' fun e w'' => e = .returned (.tuple #[fr d0 d1 d2 d3 d4 d5 d6 s, .int .i64 (decE ys)]) ∧ Below w'.heap.size w' w'') := HD
    clear hy0 HI0 HI6 HD
    go_enter Tryz.func178, Tryz.ntmps178
    go_wp2_with fail
    refine (unhide HD1 _ _ _ (HI1.out _ _ _)).mono ?_
    rintro e w2 ⟨rfl, hb2⟩
    have hz2 : w.heap.size < w2.heap.size := by have := hb2.size; simp at this; omega
    have hz2' : ¬ w.heap.size = w2.heap.size := by omega
    have hb2' := hb2.mono (B' := w.heap.size + 1) (by simp)
    obtain ⟨hc2, hf2⟩ := bcell2 hb2'
    have hbel : Below w.heap.size w w2 := ((Below.refl _ w).alloc (Nat.le_refl _) _).trans (hb2'.mono (by omega))
    have hs2 : w.heap.size ≤ w2.heap.size := by omega
    have HR : Hid (Ending.returned (unw xs) = .returned (.tuple #[.int .i64 0, .int .i64 0, zeroF, .int .i64 (decE ys)])) := by show _ = _; rw [HU.out, if_neg hz]
    have hne : (decE ys != 0) = true := by simpa using hz
    clear HU hz hb2 hb2' HD1 HW HI1
    go_wp2_with fail
    refine bodyPost_ret (v := .tuple #[.int .i64 0, .int .i64 0, zeroF, .int .i64 (decE ys)]) ?_ rfl ⟨HR.out.symm, ?_⟩
    ·simp [results, Tryz.results178, go_sem, hc2, hz2]
    ·exact (below_set8 hbel _ (Nat.le_refl _) _ _ _ _ _ _ _ _).alloc (by simp; omega) _
   ·clear hy0
    go_enter Tryz.func178, Tryz.ntmps178
    go_wp2_with fail
    refine (unhide HD _ _ _ (HI6.out _)).mono ?_
    rintro e w2 ⟨rfl, hb2⟩
    have hz2 : w.heap.size < w2.heap.size := by have := hb2.size; simp at this; omega
    have hz2' : ¬ w.heap.size = w2.heap.size := by omega
    have hb2' := hb2.mono (B' := w.heap.size + 1) (by simp)
    obtain ⟨hc2, hf2⟩ := bcell2 hb2'
    have hbel : Below w.heap.size w w2 := ((Below.refl _ w).alloc (Nat.le_refl _) _).trans (hb2'.mono (by omega))
    have hs2 : w.heap.size ≤ w2.heap.size := by omega
    by_cases hz : decE ys = 0
    ·have HR : Hid (Ending.returned (unw xs) = .returned (.tuple #[.int .i64 (wd xs 2), .int .i64 (wd xs 4), fr d0 d1 d2 d3 d4 d5 d6 s, .int .i64 0])) := by show _ = _; rw [HU.out, if_pos hz]
     have hL2 : Lies w2 b off xs := hL.below hbel hbw
     clear HU hb2 hb2' HD HI6 HI0
     have hbn : ¬ b = w.heap.size := by omega
     have hbn2 : ¬ b = w2.heap.size := by omega
     have hbw2 : b < w2.heap.size := by omega
     have hz2'' : ¬ w2.heap.size = w.heap.size := by omega
     have k4 : (4 : Int) + 1 < (len : Int) := by omega
     have k3 : (2 : Int) + 1 < (len : Int) := by omega
     clear hcv hdy
     go_wp2_with fail
     go_region_held3 (fun w' => Lies w' b off xs ∧ w'.cell? ⟨w2.heap.size, 0, none⟩ = some (Value.int .i64 d0) ∧ w'.cell? ⟨w2.heap.size, 1, none⟩ = some (Value.int .i64 d1) ∧ w'.cell? ⟨w2.heap.size, 2, none⟩ = some (Value.int .i64 d2) ∧ w'.cell? ⟨w2.heap.size, 3, none⟩ = some (Value.int .i64 d3) ∧ w'.cell? ⟨w2.heap.size, 4, none⟩ = some (Value.int .i64 d4) ∧ w'.cell? ⟨w2.heap.size, 5, none⟩ = some (Value.int .i64 d5) ∧ w'.cell? ⟨w2.heap.size, 6, none⟩ = some (Value.int .i64 d6) ∧ w'.cell? ⟨w2.heap.size, 7, none⟩ = some (Value.string s)) (first | (simp [*, lies_alloc, lies_drew]; done) | (simp [*, lies_alloc, lies_drewN]; done) | (simp [*, lies_set_ne, cell_set_ne]; done))
      (first | (go_at_call 202; refine (unhide HW _ (by first | assumption | (simp [*]; done)) _ (by omega) (by omega)).mono ?_; rintro e w' ⟨rfl, m, rfl⟩))
     go_wp2
     refine bodyPost_ret (v := .tuple #[.int .i64 (wd xs 2), .int .i64 (wd xs 4), fr d0 d1 d2 d3 d4 d5 d6 s, .int .i64 0]) ?_ rfl ⟨HR.out.symm, ?_⟩
     ·simp [results, Tryz.results178, go_sem, hc2, hz2]
     ·exact below_set8 (below_drewN (hbel.alloc hs2 _) _) _ (Nat.le_refl _) _ _ _ _ _ _ _ _
    ·have HR : Hid (Ending.returned (unw xs) = .returned (.tuple #[.int .i64 0, .int .i64 0, zeroF, .int .i64 (decE ys)])) := by show _ = _; rw [HU.out, if_neg hz]
     have hne : (decE ys != 0) = true := by simpa using hz
     clear HU hz hb2 hb2' HD HW HI6 HI0
     go_wp2_with fail
     refine bodyPost_ret (v := .tuple #[.int .i64 0, .int .i64 0, zeroF, .int .i64 (decE ys)]) ?_ rfl ⟨HR.out.symm, ?_⟩
     ·simp [results, Tryz.results178, go_sem, hc2, hz2]
     ·exact (below_set8 hbel _ (Nat.le_refl _) _ _ _ _ _ _ _ _).alloc (by simp; omega) _
  ·have hdy' : dyB xs = false := by simpa using hdy
   have HR : Hid (Ending.returned (unw xs) = .returned (.tuple #[.int .i64 0, .int .i64 0, zeroF, .int .i64 4])) := by
    show _ = _
    have hE : unwE xs = 4 := by unfold unwE; rw [if_neg (by omega), if_neg hdy]
    unfold unw; rw [hE]; rfl
   unfold dyB at hdy'
   clear hdy
   go_enter Tryz.func178, Tryz.ntmps178
   go_wp2_with fail
   refine bodyPost_ret (v := .tuple #[.int .i64 0, .int .i64 0, zeroF, .int .i64 4]) ?_ rfl ⟨HR.out.symm, ?_⟩
   ·simp [results, Tryz.results178, go_sem]
   ·exact (Below.refl _ _).alloc (Nat.le_refl _) _
end Go.Proofs.YtncdininppehkaaGreat

namespace Go.Proofs.YtncdininppehkaaGreat
open Go.RowKit
set_option linter.unusedVariables false
set_option maxRecDepth 100000
theorem wrap_bs {net tow dst src kind ips ipd ttl port : Int} {body : ByteArray} (hf : fault dst src kind ips ipd ttl port body.size = 0) (h0 : wordB net = true) (h2 : wordB tow = true) : Bs (wrapped net tow dst src kind ips ipd ttl port body) := by
 unfold wrapped
 simp only [wordB, decide_eq_true_eq] at h0 h2
 refine (((?_ : Bs [100, 121]).append (word_bs _ h0.1 h0.2)).append (word_bs _ h2.1 h2.2)).append (enc_bs hf)
 intro n h; simp at h; omega
theorem wrap_length (net tow dst src kind ips ipd ttl port : Int) (body : ByteArray) : (wrapped net tow dst src kind ips ipd ttl port body).length = 22 + body.size := by
 unfold wrapped; simp [word, enc_length]; omega
theorem fault_parts {dst src kind ips ipd ttl port : Int} {n : Nat} (h : fault dst src kind ips ipd ttl port n = 0) : n ≤ 40 ∧ (kind = 1 ∨ kind = 2 ∨ kind = 3) ∧ (0 ≤ ttl ∧ ttl ≤ 255) ∧ (kind ≠ 3 → ttl = 0 ∧ port = 0 ∧ n = 0) ∧ (wordB dst = true ∧ wordB src = true ∧ wordB ips = true ∧ wordB ipd = true ∧ wordB port = true) := by
 unfold fault at h
 split at h
 ·rename_i hk
  split at h
  ·rename_i hb
   split at h
   ·omega
   ·split at h
    ·omega
    ·rename_i h1 h2
     simp only [kindB, decide_eq_true_eq] at hk
     simp only [boundsB, lifeB, Bool.and_eq_true, decide_eq_true_eq] at hb
     refine ⟨by omega, by omega, by omega, fun h3 => ?_, hb.1.1.1.1.1, hb.1.1.1.1.2, hb.1.1.1.2, hb.1.1.2, hb.1.2⟩
     have : loadB ttl port n ≠ true := fun h => h2 ⟨h3, h⟩
     simp [loadB] at this
     omega
  ·omega
 ·omega
theorem sizeFr : (Tryz.prog.info? 37).map (·.size) = some 8 := by kernel_rfl
theorem sizePkt : (Tryz.prog.info? 41).map (·.size) = some 11 := by kernel_rfl
set_option maxHeartbeats 4000000 in
theorem through_no (g0 g1 g2 g3 g4 g5 g6 g7 g8 g9 : Int) (body : ByteArray) (w : World) (hb : body.size ≤ maxLen) (hE : fault g1 g2 g3 g4 g5 g6 g7 body.size ≠ 0) :
  Calls Tryz.prog 141 #[pkt g0 g1 g2 g3 g4 g5 g6 g7 g8 g9 body] w fun e w' => e = .returned (.tuple #[pkZ, .int .i64 (fault g1 g2 g3 g4 g5 g6 g7 body.size)]) ∧ Below w.heap.size w w' := by
 have H1 := hide (fun W => pFrame_any g0 g1 g2 g3 g4 g5 g6 g7 g8 g9 body W hb)
 generalize fault g1 g2 g3 g4 g5 g6 g7 body.size = E at *
 have hEb : (E != 0) = true := by simpa using hE
 obtain ⟨W0, hW0⟩ : ∃ W0, W0 = (w.alloc (.cells #[.int .i64 g0, .int .i64 g1, .int .i64 g2, .int .i64 g3, .int .i64 g4, .int .i64 g5, .int .i64 g6, .int .i64 g7, .int .i64 g8, .int .i64 g9, .string body] 41)).alloc (.cells #[.int .i64 0, .int .i64 0, .int .i64 0, .int .i64 0, .int .i64 0, .int .i64 0, .int .i64 0, .int .i64 0, .int .i64 0, .int .i64 0, .string ⟨#[]⟩] 41) := ⟨_, rfl⟩
 have k0 : Below w.heap.size w W0 := by rw [hW0]; exact ((Below.refl _ w).alloc (Nat.le_refl _) _).alloc (by simp) _
 have R0 : Box W0 (w.heap.size + 1) [.int .i64 0, .int .i64 0, .int .i64 0, .int .i64 0, .int .i64 0, .int .i64 0, .int .i64 0, .int .i64 0, .int .i64 0, .int .i64 0, .string ⟨#[]⟩] := by rw [hW0]; simpa using Box.new (w.alloc (.cells #[.int .i64 g0, .int .i64 g1, .int .i64 g2, .int .i64 g3, .int .i64 g4, .int .i64 g5, .int .i64 g6, .int .i64 g7, .int .i64 g8, .int .i64 g9, .string body] 41)) [.int .i64 0, .int .i64 0, .int .i64 0, .int .i64 0, .int .i64 0, .int .i64 0, .int .i64 0, .int .i64 0, .int .i64 0, .int .i64 0, .string ⟨#[]⟩] 41
 have P0 : Box W0 w.heap.size [.int .i64 g0, .int .i64 g1, .int .i64 g2, .int .i64 g3, .int .i64 g4, .int .i64 g5, .int .i64 g6, .int .i64 g7, .int .i64 g8, .int .i64 g9, .string body] := by rw [hW0]; exact (Box.new w [.int .i64 g0, .int .i64 g1, .int .i64 g2, .int .i64 g3, .int .i64 g4, .int .i64 g5, .int .i64 g6, .int .i64 g7, .int .i64 g8, .int .i64 g9, .string body] 41).alloc _
 have HR := hide R0
 have HP := hide P0
 clear R0 P0
 go_enter Tryz.func141, Tryz.ntmps141
 go_wp2_with fail
 rw [← hW0]
 clear hW0
 refine (unhide H1 _).mono ?_
 rintro e w1 ⟨rfl, hb1⟩
 replace HR := hide (HR.out.below hb1)
 replace HP := hide (HP.out.below hb1)
 replace k0 := k0.trans (hb1.mono k0.size)
 have l1 := HR.out.lt
 clear hb1
 rw [if_neg hE]
 have HR1 := hide (HR.out.alloc (.cells #[.int .i64 0, .int .i64 0, .int .i64 0, .int .i64 0, .int .i64 0, .int .i64 0, .int .i64 0, .string ⟨#[]⟩] 37))
 go_wp2_with (first | (refine wpList_store_mid rfl 41 (.tmp 2) (.tmp 16) rfl (w.heap.size + 1) 0 _ rfl rfl (HR1.out.fit 11 rfl) sizePkt (ones rfl) ?_))
 refine bodyPost_ret (v := .tuple #[pkZ, .int .i64 E]) ?_ rfl ⟨rfl, setCells_below _ (by omega) _ _ (k0.alloc k0.size _)⟩
 exact results_ct (cs := [.int .i64 0, .int .i64 0, .int .i64 0, .int .i64 0, .int .i64 0, .int .i64 0, .int .i64 0, .int .i64 0, .int .i64 0, .int .i64 0, .string ⟨#[]⟩]) Tryz.results141 rfl (HR1.out.set ([.int .i64 0, .int .i64 0, .int .i64 0, .int .i64 0, .int .i64 0, .int .i64 0, .int .i64 0, .int .i64 0, .int .i64 0, .int .i64 0, .string ⟨#[]⟩] : List Value) rfl).range Tryz.underlying41 rfl sizePkt
theorem pkt_zero {g1 g2 g3 g4 g5 g6 g7 g8 g9 : Int} {n : Nat} (hf : fault g1 g2 g3 g4 g5 g6 g7 n = 0) (h8 : wordB g8 = true) (h9 : wordB g9 = true) : pkE g1 g2 g3 g4 g5 g6 g7 n 0 g8 g9 = 0 := by
 unfold pkE
 rw [if_pos hf]
 obtain ⟨a, b, c, d, e1, e2, e3, e4, e5⟩ := fault_parts hf
 unfold pktFault
 rw [if_pos, if_neg (by omega)]
 have hk : wordB g3 = true := by simp [wordB]; omega
 have ht : wordB g6 = true := by simp [wordB]; omega
 simp [e1, e2, e3, e4, e5, h8, h9, hk, ht]
 decide
set_option maxHeartbeats 4000000 in
theorem through_yes (g0 g1 g2 g3 g4 g5 g6 g7 g8 g9 : Int) (body : ByteArray) (w : World) (hf : fault g1 g2 g3 g4 g5 g6 g7 body.size = 0) (h8 : wordB g8 = true) (h9 : wordB g9 = true) :
  Calls Tryz.prog 141 #[pkt g0 g1 g2 g3 g4 g5 g6 g7 g8 g9 body] w fun e w' => e = .returned (.tuple #[pkt 0 g1 g2 g3 g4 g5 g6 g7 g8 g9 body, .int .i64 0]) ∧ Below w.heap.size w w' := by
 have hb40 := (fault_parts hf).1
 have hb : body.size ≤ maxLen := by unfold maxLen; omega
 have H1 : Hid (∀ W, Calls Tryz.prog 13 #[pkt g0 g1 g2 g3 g4 g5 g6 g7 g8 g9 body] W fun e w' => e = .returned (.tuple #[fr g1 g2 g3 g4 g5 g6 g7 body, .int .i64 0]) ∧ Below W.heap.size W w') := fun W => by
  have := pFrame_any g0 g1 g2 g3 g4 g5 g6 g7 g8 g9 body W hb
  rwa [if_pos hf, hf] at this
 have H2 := hide (fun W => wrap_yes g8 g9 g1 g2 g3 g4 g5 g6 g7 body W h8 h9 hf)
 have H3 : Hid (∀ a' c' W, IsB W a' (wrapped g8 g9 g1 g2 g3 g4 g5 g6 g7 body).length c' (wrapped g8 g9 g1 g2 g3 g4 g5 g6 g7 body) → Calls Tryz.prog 178 #[.slice a' (wrapped g8 g9 g1 g2 g3 g4 g5 g6 g7 body).length c'] W fun e w' => e = .returned (.tuple #[.int .i64 g8, .int .i64 g9, fr g1 g2 g3 g4 g5 g6 g7 body, .int .i64 0]) ∧ Below W.heap.size W w') := fun a' c' W h => by
  have := unwrap_any a' _ c' _ W h
  rwa [unw_wrapped hf] at this
 have H4 : Hid (∀ W, Calls Tryz.prog 12 #[fr g1 g2 g3 g4 g5 g6 g7 body, .int .i64 0, .int .i64 g8, .int .i64 g9] W fun e w' => e = .returned (.tuple #[pkt 0 g1 g2 g3 g4 g5 g6 g7 g8 g9 body, .int .i64 0]) ∧ Below W.heap.size W w') := fun W => by
  have := pPacket_any g1 g2 g3 g4 g5 g6 g7 body 0 g8 g9 W hb
  rwa [if_pos (pkt_zero hf h8 h9), pkt_zero hf h8 h9] at this
 have HBS := hide (wrap_bs hf h8 h9)
 have hlen : (wrapped g8 g9 g1 g2 g3 g4 g5 g6 g7 body).length ≤ 62 := by rw [wrap_length]; omega
 clear hf h8 h9 hb
 generalize wrapped g8 g9 g1 g2 g3 g4 g5 g6 g7 body = ys at *
 obtain ⟨W0, hW0⟩ : ∃ W0, W0 = (w.alloc (.cells #[.int .i64 g0, .int .i64 g1, .int .i64 g2, .int .i64 g3, .int .i64 g4, .int .i64 g5, .int .i64 g6, .int .i64 g7, .int .i64 g8, .int .i64 g9, .string body] 41)).alloc (.cells #[.int .i64 0, .int .i64 0, .int .i64 0, .int .i64 0, .int .i64 0, .int .i64 0, .int .i64 0, .int .i64 0, .int .i64 0, .int .i64 0, .string ⟨#[]⟩] 41) := ⟨_, rfl⟩
 have k0 : Below w.heap.size w W0 := by rw [hW0]; exact ((Below.refl _ w).alloc (Nat.le_refl _) _).alloc (by simp) _
 have R0 : Box W0 (w.heap.size + 1) [.int .i64 0, .int .i64 0, .int .i64 0, .int .i64 0, .int .i64 0, .int .i64 0, .int .i64 0, .int .i64 0, .int .i64 0, .int .i64 0, .string ⟨#[]⟩] := by rw [hW0]; simpa using Box.new (w.alloc (.cells #[.int .i64 g0, .int .i64 g1, .int .i64 g2, .int .i64 g3, .int .i64 g4, .int .i64 g5, .int .i64 g6, .int .i64 g7, .int .i64 g8, .int .i64 g9, .string body] 41)) [.int .i64 0, .int .i64 0, .int .i64 0, .int .i64 0, .int .i64 0, .int .i64 0, .int .i64 0, .int .i64 0, .int .i64 0, .int .i64 0, .string ⟨#[]⟩] 41
 have P0 : Box W0 w.heap.size [.int .i64 g0, .int .i64 g1, .int .i64 g2, .int .i64 g3, .int .i64 g4, .int .i64 g5, .int .i64 g6, .int .i64 g7, .int .i64 g8, .int .i64 g9, .string body] := by rw [hW0]; exact (Box.new w [.int .i64 g0, .int .i64 g1, .int .i64 g2, .int .i64 g3, .int .i64 g4, .int .i64 g5, .int .i64 g6, .int .i64 g7, .int .i64 g8, .int .i64 g9, .string body] 41).alloc _
 have HR := hide R0
 have HP := hide P0
 clear R0 P0
 go_enter Tryz.func141, Tryz.ntmps141
 go_wp2_with fail
 rw [← hW0]
 clear hW0
 refine (unhide H1 _).mono ?_
 rintro e w1 ⟨rfl, hb1⟩
 replace HR := hide (HR.out.below hb1)
 replace HP := hide (HP.out.below hb1)
 replace k0 := k0.trans (hb1.mono k0.size)
 have l1 := HR.out.lt
 clear hb1
 obtain ⟨W2, hW2⟩ : ∃ W2, W2 = w1.alloc (.cells #[.int .i64 g1, .int .i64 g2, .int .i64 g3, .int .i64 g4, .int .i64 g5, .int .i64 g6, .int .i64 g7, .string body] 37) := ⟨_, rfl⟩
 have hbN : Below w1.heap.size w1 W2 := by rw [hW2]; exact (Below.refl _ _).alloc (Nat.le_refl _) _
 have F2 : Box W2 w1.heap.size [.int .i64 g1, .int .i64 g2, .int .i64 g3, .int .i64 g4, .int .i64 g5, .int .i64 g6, .int .i64 g7, .string body] := by rw [hW2]; exact Box.new w1 [.int .i64 g1, .int .i64 g2, .int .i64 g3, .int .i64 g4, .int .i64 g5, .int .i64 g6, .int .i64 g7, .string body] 37
 have HF := hide F2
 replace HR := hide (HR.out.below hbN)
 replace HP := hide (HP.out.below hbN)
 replace k0 := k0.trans (hbN.mono k0.size)
 have p8 := HP.out.cell 8 _ rfl
 have p9 := HP.out.cell 9 _ rfl
 have HW2 := hide hW2
 clear F2 hbN hW2
 have l2 := HF.out.lt
 go_wp2_with (first | rw [← HW2.out] | (refine wpList_load_mid rfl 37 (.tmp 4) rfl w1.heap.size 0 rfl _ _ HF.out.range Tryz.underlying37 rfl sizeFr ?_))
 refine (unhide H2 _).mono ?_
 rintro e w3 ⟨v3, rfl, ho3, hb3⟩
 obtain ⟨a3, c3, rfl, hI3⟩ := own_isB ho3 HBS.out (by omega)
 have HI := hide hI3
 replace HR := hide (HR.out.below hb3)
 replace HF := hide (HF.out.below hb3)
 replace k0 := k0.trans (hb3.mono k0.size)
 clear p8 p9 HP ho3 hI3 hb3 H2 HBS HW2
 go_wp2_with fail
 refine (unhide H3 _ _ _ HI.out).mono ?_
 rintro e w4 ⟨rfl, hb4⟩
 replace HR := hide (HR.out.below hb4)
 replace HF := hide (HF.out.below hb4)
 replace k0 := k0.trans (hb4.mono k0.size)
 obtain ⟨W5, hW5⟩ : ∃ W5, W5 = w4.setCells w1.heap.size 0 [.int .i64 g1, .int .i64 g2, .int .i64 g3, .int .i64 g4, .int .i64 g5, .int .i64 g6, .int .i64 g7, .string body] := ⟨_, rfl⟩
 have HR1 : Hid (Box W5 (w.heap.size + 1) [.int .i64 0, .int .i64 0, .int .i64 0, .int .i64 0, .int .i64 0, .int .i64 0, .int .i64 0, .int .i64 0, .int .i64 0, .int .i64 0, .string ⟨#[]⟩]) := by rw [hW5]; exact hide (HR.out.set_far (by omega) 0 _)
 have HF1 : Hid (Box W5 w1.heap.size [.int .i64 g1, .int .i64 g2, .int .i64 g3, .int .i64 g4, .int .i64 g5, .int .i64 g6, .int .i64 g7, .string body]) := by rw [hW5]; exact hide (HF.out.set _ rfl)
 replace k0 : Below w.heap.size w W5 := by rw [hW5]; exact setCells_below w1.heap.size (by omega) _ 0 k0
 have HW5 : Hid (w4.setCells w1.heap.size 0 [.int .i64 g1, .int .i64 g2, .int .i64 g3, .int .i64 g4, .int .i64 g5, .int .i64 g6, .int .i64 g7, .string body] = W5) := hW5.symm
 clear hb4 H3 HI HR hW5
 go_wp2_with (first | (refine wpList_store_mid rfl 37 (.tmp 4) (.tmp 38) rfl w1.heap.size 0 _ rfl rfl (HF.out.fit 8 rfl) sizeFr (ones rfl) ?_; rw [show (#[.int .i64 g1, .int .i64 g2, .int .i64 g3, .int .i64 g4, .int .i64 g5, .int .i64 g6, .int .i64 g7, .string body] : Array Value).toList = [.int .i64 g1, .int .i64 g2, .int .i64 g3, .int .i64 g4, .int .i64 g5, .int .i64 g6, .int .i64 g7, .string body] from rfl, HW5.out]) | (refine wpList_load_mid rfl 37 (.tmp 4) rfl w1.heap.size 0 rfl _ _ HF1.out.range Tryz.underlying37 rfl sizeFr ?_))
 refine (unhide H4 _).mono ?_
 rintro e w5 ⟨rfl, hb5⟩
 replace HR1 := hide (HR1.out.below hb5)
 replace k0 := k0.trans (hb5.mono k0.size)
 clear hb5 H4 HF HF1
 go_wp2_with (refine wpList_store_mid rfl 41 (.tmp 2) (.tmp 48) rfl (w.heap.size + 1) 0 _ rfl rfl (HR1.out.fit 11 rfl) sizePkt (ones rfl) ?_)
 refine bodyPost_ret (v := .tuple #[pkt 0 g1 g2 g3 g4 g5 g6 g7 g8 g9 body, .int .i64 0]) ?_ rfl ⟨rfl, setCells_below _ (by omega) _ _ k0⟩
 exact results_ct (cs := [.int .i64 0, .int .i64 g1, .int .i64 g2, .int .i64 g3, .int .i64 g4, .int .i64 g5, .int .i64 g6, .int .i64 g7, .int .i64 g8, .int .i64 g9, .string body]) Tryz.results141 rfl (HR1.out.set ([.int .i64 0, .int .i64 g1, .int .i64 g2, .int .i64 g3, .int .i64 g4, .int .i64 g5, .int .i64 g6, .int .i64 g7, .int .i64 g8, .int .i64 g9, .string body] : List Value) rfl).range Tryz.underlying41 rfl sizePkt
end Go.Proofs.YtncdininppehkaaGreat

namespace Go.Proofs.YtncdininppehkaaGreat
open Go.RowKit
set_option linter.unusedVariables false
set_option maxRecDepth 100000
def runE (fs : List Fl) (F : List Int) (n : Nat) : Int := if fsFault fs = 0 then pktFault F n else fsFault fs
def runL (fs : List Fl) (F : List Int) (n : Nat) : List Sn := if runE fs F n = 0 then ran fs F else []
theorem fs_small {fs : List Fl} (h : fsFault fs = 0) : fs.length ≤ 5000 := by
 rcases Nat.lt_or_ge 5000 fs.length with h' | h'
 ·unfold fsFault at h; rw [if_pos h'] at h; omega
 ·exact h'
set_option maxHeartbeats 4000000 in
theorem fRun_any (f0 f1 f2 f3 f4 f5 f6 f7 f8 f9 : Int) (body : ByteArray) (v : Value) (fs : List Fl) (w : World) (hL : FsAt w v fs) (hb : body.size ≤ maxLen) (hm : fs.length ≤ 140737488355328) :
  Calls Tryz.prog 96 #[v, pkt f0 f1 f2 f3 f4 f5 f6 f7 f8 f9 body] w fun e w' => ∃ u, e = .returned (.tuple #[u, .int .i64 (runE fs [f0, f1, f2, f3, f4, f5, f6, f7, f8, f9] body.size)]) ∧ w'.ownsRow w.heap.size 145 13 u (runL fs [f0, f1, f2, f3, f4, f5, f6, f7, f8, f9] body.size).length (S body (runL fs [f0, f1, f2, f3, f4, f5, f6, f7, f8, f9] body.size)) ∧ Below w.heap.size w w' := by
 by_cases hz : fsFault fs = 0
 ·by_cases hp : pktFault [f0, f1, f2, f3, f4, f5, f6, f7, f8, f9] body.size = 0
  ·have h1 : runE fs [f0, f1, f2, f3, f4, f5, f6, f7, f8, f9] body.size = 0 := by unfold runE; rw [if_pos hz]; exact hp
   have h2 : runL fs [f0, f1, f2, f3, f4, f5, f6, f7, f8, f9] body.size = ran fs [f0, f1, f2, f3, f4, f5, f6, f7, f8, f9] := by unfold runL; rw [if_pos h1]
   rw [h1, h2]
   exact fRun_ok f0 f1 f2 f3 f4 f5 f6 f7 f8 f9 body v fs w hL hz hp (fs_small hz)
  ·have h1 : runE fs [f0, f1, f2, f3, f4, f5, f6, f7, f8, f9] body.size = pktFault [f0, f1, f2, f3, f4, f5, f6, f7, f8, f9] body.size := by unfold runE; rw [if_pos hz]
   have h2 : runL fs [f0, f1, f2, f3, f4, f5, f6, f7, f8, f9] body.size = [] := by unfold runL; rw [if_neg (by rw [h1]; exact hp)]
   rw [h1, h2]
   have HL := hide hL
   have HZ := hide hz
   obtain ⟨a, cap, rfl, hn, _⟩ := hL
   have HC := hide (fun W => checkPacket_any f0 f1 f2 f3 f4 f5 f6 f7 f8 f9 body W hb)
   generalize pktFault [f0, f1, f2, f3, f4, f5, f6, f7, f8, f9] body.size = R at *
   clear h1 h2 hz
   go_enter Tryz.func96, Tryz.ntmps96
   go_wp2_with fail
   obtain ⟨W0, hW0⟩ : ∃ W0, W0 = w.alloc (.cells #[.int .i64 f0, .int .i64 f1, .int .i64 f2, .int .i64 f3, .int .i64 f4, .int .i64 f5, .int .i64 f6, .int .i64 f7, .int .i64 f8, .int .i64 f9, .string body] 41) := ⟨_, rfl⟩
   have c0 : W0.cell? ⟨w.heap.size, 0, none⟩ = some (.int .i64 f0) := by rw [hW0]; simp
   have c1 : W0.cell? ⟨w.heap.size, 1, none⟩ = some (.int .i64 f1) := by rw [hW0]; simp
   have c2 : W0.cell? ⟨w.heap.size, 2, none⟩ = some (.int .i64 f2) := by rw [hW0]; simp
   have c3 : W0.cell? ⟨w.heap.size, 3, none⟩ = some (.int .i64 f3) := by rw [hW0]; simp
   have c4 : W0.cell? ⟨w.heap.size, 4, none⟩ = some (.int .i64 f4) := by rw [hW0]; simp
   have c5 : W0.cell? ⟨w.heap.size, 5, none⟩ = some (.int .i64 f5) := by rw [hW0]; simp
   have c6 : W0.cell? ⟨w.heap.size, 6, none⟩ = some (.int .i64 f6) := by rw [hW0]; simp
   have c7 : W0.cell? ⟨w.heap.size, 7, none⟩ = some (.int .i64 f7) := by rw [hW0]; simp
   have c8 : W0.cell? ⟨w.heap.size, 8, none⟩ = some (.int .i64 f8) := by rw [hW0]; simp
   have c9 : W0.cell? ⟨w.heap.size, 9, none⟩ = some (.int .i64 f9) := by rw [hW0]; simp
   have cb : W0.cell? ⟨w.heap.size, 10, none⟩ = some (.string body) := by rw [hW0]; simp
   have hb0 : Below w.heap.size w W0 := by rw [hW0]; exact (Below.refl _ _).alloc (Nat.le_refl _) _
   rw [← hW0]
   clear hW0
   refine (fCheck_any _ fs _ (HL.out.below hb0 (Nat.le_refl _)) hm).mono ?_
   rintro e w1 ⟨rfl, hb1⟩
   rw [HZ.out]
   replace c0 := cell_below c0 hb1 (Nat.le_refl _)
   replace c1 := cell_below c1 hb1 (Nat.le_refl _)
   replace c2 := cell_below c2 hb1 (Nat.le_refl _)
   replace c3 := cell_below c3 hb1 (Nat.le_refl _)
   replace c4 := cell_below c4 hb1 (Nat.le_refl _)
   replace c5 := cell_below c5 hb1 (Nat.le_refl _)
   replace c6 := cell_below c6 hb1 (Nat.le_refl _)
   replace c7 := cell_below c7 hb1 (Nat.le_refl _)
   replace c8 := cell_below c8 hb1 (Nat.le_refl _)
   replace c9 := cell_below c9 hb1 (Nat.le_refl _)
   replace cb := cell_below cb hb1 (Nat.le_refl _)
   go_wp2_with fail
   refine (unhide HC _).mono ?_
   rintro e w2 ⟨rfl, hb2⟩
   have hb02 := (hb0.trans (hb1.mono hb0.size)).trans (hb2.mono (Nat.le_trans hb0.size hb1.size))
   clear c0 c1 c2 c3 c4 c5 c6 c7 c8 c9 cb
   have hne : (R != 0) = true := by simpa using hp
   go_wp2_with fail
   go_ret2
   exact ⟨_, rfl, World.ownsRow_nil _ _ _ _, hb02⟩
 ·have h1 : runE fs [f0, f1, f2, f3, f4, f5, f6, f7, f8, f9] body.size = fsFault fs := by unfold runE; rw [if_neg hz]
  have h2 : runL fs [f0, f1, f2, f3, f4, f5, f6, f7, f8, f9] body.size = [] := by unfold runL; rw [if_neg (by rw [h1]; exact hz)]
  rw [h1, h2]
  have HL := hide hL
  obtain ⟨a, cap, rfl, hn, _⟩ := hL
  clear h1 h2
  have HC := hide (fun W h => fCheck_any (.slice a fs.length cap) fs W h hm)
  generalize fsFault fs = R at *
  have hA : Below w.heap.size w (w.alloc (.cells #[.int .i64 f0, .int .i64 f1, .int .i64 f2, .int .i64 f3, .int .i64 f4, .int .i64 f5, .int .i64 f6, .int .i64 f7, .int .i64 f8, .int .i64 f9, .string body] 41)) := (Below.refl _ _).alloc (Nat.le_refl _) _
  go_enter Tryz.func96, Tryz.ntmps96
  go_wp2_with fail
  refine (unhide HC _ (HL.out.below hA (Nat.le_refl _))).mono ?_
  rintro e w1 ⟨rfl, hb1⟩
  have hne : (R != 0) = true := by simpa using hz
  have hb01 := hA.trans (hb1.mono hA.size)
  go_wp2_with fail
  go_ret2
  exact ⟨_, rfl, World.ownsRow_nil _ _ _ _, hb01⟩
end Go.Proofs.YtncdininppehkaaGreat

namespace Go.Proofs.YtncdininppehkaaGreat
open Go.RowKit
set_option linter.unusedVariables false
set_option maxRecDepth 100000
theorem table_ok {fs : List Fl} (hz : fsFault fs = 0) (s : St) (hF : WF s.F) (ht : s.t ≤ 7) : Ok s.t (s.out.length + 100) (table fs s) := by
 have key : ∀ ds : List Do, ds.length ≤ 100 → (∀ k, k < ds.length → doB s.t ds k = true) → Ok s.t (s.out.length + 100) (stepTo ⟨s.F, 8, s.out⟩ ds ds.length) := fun ds h1 h2 => by
  have h := Ok.stepTo (t := s.t) (c := s.out.length) (s := ⟨s.F, 8, s.out⟩) (ds := ds) ⟨hF, by simp; omega, by simp, by simp⟩ h2 ds.length (Nat.le_refl _)
  exact ⟨h.1, h.2.1, h.2.2.1, by have := h.2.2.2; omega⟩
 unfold table
 have hbi := bestTo_best fs s.F s.t fs.length
 rcases hbi with ⟨hb, _⟩ | ⟨i, hb, _, hi, hf, _⟩
 ·rw [hb]
  exact key [] (by simp) (fun k hk => by simp at hk)
 ·have hd : dsOf fs (bestTo fs s.F s.t fs.length) = (fs.getD i fl0).ds := by rw [hb]; unfold dsOf; rw [if_neg (by omega), Int.toNat_natCast]
  have hk := ok_flow hz hi
  have hft : (fs.getD i fl0).t = s.t := by
   unfold fitB at hf
   simp only [Bool.and_eq_true, beq_iff_eq] at hf
   exact hf.1
  rw [hd]
  exact key _ hk.2.2.1 (by rw [← hft]; exact hk.2.2.2.2.2.2.2.2)
theorem runN_len {fs : List Fl} (hz : fsFault fs = 0) : ∀ (n : Nat) (s : St), WF s.F → (runN fs n s).out.length ≤ s.out.length + 100 * n
 | 0, s, _ => by simp [runN]
 | n + 1, s, hF => by
  unfold runN
  split
  ·omega
  ·have h := table_ok hz s hF (by omega)
   have ih := runN_len hz n (table fs s) h.1
   have := h.2.2.2
   omega
theorem runL_len (fs : List Fl) (F : List Int) (n : Nat) (h10 : F.length = 10) : (runL fs F n).length ≤ 1000000 := by
 unfold runL
 split
 ·rename_i h
  unfold runE at h
  split at h
  ·rename_i hz
   have := runN_len hz 8 ⟨F, 0, []⟩ (wf_of_all h10 (pkt_parts h).1)
   unfold ran
   simp at this
   omega
  ·rename_i hz; exact absurd h hz
 ·simp
def SnOk (s : Sn) : Prop := WF s.F ∧ (s.k = 5 ∧ wordB s.n = true ∨ s.k = 6 ∧ 0 ≤ s.n ∧ s.n ≤ 5)
def OutOk (l : List Sn) : Prop := ∀ s ∈ l, SnOk s
theorem OutOk.step {t : Int} {s : St} {ds : List Do} {k : Nat} (hF : WF s.F) (h : OutOk s.out) (hd : doB t ds k = true) : OutOk (step s (ds.getD k do0)).out := by
 have hp := doB_parts hd
 generalize ds.getD k do0 = d at hp
 simp only at hp
 have hx : ∀ x, SnOk x → OutOk (s.out ++ [x]) := fun x hx y hy => by
  rcases List.mem_append.1 hy with hy | hy
  ·exact h y hy
  ·obtain rfl : y = x := by simpa using hy
   exact hx
 rcases hp with ⟨e, _⟩ | ⟨e, _⟩ | ⟨e, _⟩ | ⟨e, _⟩ | ⟨e, hn⟩ | ⟨e, n0, n1⟩
 ·unfold Go.Proofs.YtncdininppehkaaGreat.step; simp [e]; exact h
 ·unfold Go.Proofs.YtncdininppehkaaGreat.step; simp [e]; exact h
 ·unfold Go.Proofs.YtncdininppehkaaGreat.step; simp [e]; exact h
 ·unfold Go.Proofs.YtncdininppehkaaGreat.step; simp [e]; exact h
 ·unfold Go.Proofs.YtncdininppehkaaGreat.step; simp only [e, true_or, if_true]; exact hx _ ⟨hF, .inl ⟨rfl, hn⟩⟩
 ·unfold Go.Proofs.YtncdininppehkaaGreat.step; simp only [e, or_true, if_true]; exact hx _ ⟨hF, .inr ⟨rfl, n0, n1⟩⟩
theorem OutOk.stepTo {t : Int} {c : Nat} {s : St} {ds : List Do} (hk : Ok t c s) (h : OutOk s.out) (hd : ∀ k, k < ds.length → doB t ds k = true) : ∀ k, k ≤ ds.length → OutOk (stepTo s ds k).out
 | 0, _ => h
 | k + 1, hkl => OutOk.step (Ok.stepTo hk hd k (by omega)).1 (OutOk.stepTo hk h hd k (by omega)) (hd k (by omega))
theorem table_out {fs : List Fl} (hz : fsFault fs = 0) (s : St) (hF : WF s.F) (ht : s.t ≤ 7) (h : OutOk s.out) : OutOk (table fs s).out := by
 have key : ∀ ds : List Do, (∀ k, k < ds.length → doB s.t ds k = true) → OutOk (Go.Proofs.YtncdininppehkaaGreat.stepTo ⟨s.F, 8, s.out⟩ ds ds.length).out := fun ds h2 =>
  OutOk.stepTo (t := s.t) (c := s.out.length) (s := ⟨s.F, 8, s.out⟩) (ds := ds) ⟨hF, by simp; omega, by simp, by simp⟩ h h2 ds.length (Nat.le_refl _)
 unfold table
 rcases bestTo_best fs s.F s.t fs.length with ⟨hb, _⟩ | ⟨i, hb, _, hi, hf, _⟩
 ·rw [hb]
  exact key [] (fun k hk => by simp at hk)
 ·have hd : dsOf fs (bestTo fs s.F s.t fs.length) = (fs.getD i fl0).ds := by rw [hb]; unfold dsOf; rw [if_neg (by omega), Int.toNat_natCast]
  have hk := ok_flow hz hi
  have hft : (fs.getD i fl0).t = s.t := by
   unfold fitB at hf
   simp only [Bool.and_eq_true, beq_iff_eq] at hf
   exact hf.1
  rw [hd]
  exact key _ (by rw [← hft]; exact hk.2.2.2.2.2.2.2.2)
theorem runN_out {fs : List Fl} (hz : fsFault fs = 0) : ∀ (n : Nat) (s : St), WF s.F → OutOk s.out → OutOk (runN fs n s).out
 | 0, s, _, h => h
 | n + 1, s, hF, h => by
  unfold runN
  split
  ·exact h
  ·exact runN_out hz n (table fs s) (table_ok hz s hF (by omega)).1 (table_out hz s hF (by omega) h)
theorem ran_out {fs : List Fl} {F : List Int} {n : Nat} (h10 : F.length = 10) (h : runE fs F n = 0) : OutOk (ran fs F) ∧ (ran fs F).length ≤ 1000000 := by
 have hl := runL_len fs F n h10
 unfold runL at hl
 rw [if_pos h] at hl
 refine ⟨?_, hl⟩
 unfold runE at h
 split at h
 ·rename_i hz
  exact runN_out hz 8 ⟨F, 0, []⟩ (wf_of_all h10 (pkt_parts h).1) (fun s hs => by cases hs)
 ·rename_i hz; exact absurd h hz
end Go.Proofs.YtncdininppehkaaGreat

namespace Go.Proofs.YtncdininppehkaaGreat
open Go.RowKit
set_option linter.unusedVariables false
set_option maxRecDepth 100000
def KAt (w : World) (ks : List Value) (K : Nat → List Fl) : Prop := ks.length = 6 ∧ ∀ i, i < 6 → ∀ v, ks[i]? = some v → FsAt w v (K i) ∧ (K i).length ≤ 140737488355328
theorem KAt.below {w w' : World} {ks : List Value} {K : Nat → List Fl} (h : KAt w ks K) (hb : Below w.heap.size w w') : KAt w' ks K := ⟨h.1, fun i hi v hv => ⟨(h.2 i hi v hv).1.below hb (Nat.le_refl _), (h.2 i hi v hv).2⟩⟩
def thrF (F : List Int) : List Int := [0, F.getD 1 0, F.getD 2 0, F.getD 3 0, F.getD 4 0, F.getD 5 0, F.getD 6 0, F.getD 7 0, F.getD 8 0, F.getD 9 0]
def carE (K : Nat → List Fl) (n : Nat) (s : Sn) : Int :=
 if s.k = 6 then (if ff s.F n = 0 then (if runE (K s.n.toNat) (thrF s.F) n = 0 then atE n (ran (K s.n.toNat) (thrF s.F)) else runE (K s.n.toNat) (thrF s.F) n) else ff s.F n) else atE n [s]
def carL (K : Nat → List Fl) (n : Nat) (s : Sn) : List Ar :=
 if s.k = 6 then (if ff s.F n = 0 then (if runE (K s.n.toNat) (thrF s.F) n = 0 then atL n (ran (K s.n.toNat) (thrF s.F)) else []) else []) else atL n [s]
theorem six {l : List Value} (h : l.length = 6) : ∃ k0 k1 k2 k3 k4 k5, l = [k0, k1, k2, k3, k4, k5] := by
 match l, h with
 | [a, b, c, d, e, f], _ => exact ⟨a, b, c, d, e, f, rfl⟩
theorem six_at {l : List Value} {m : Nat} (h : l.length = 6) (hm : m < 6) : ∃ v, l[m]? = some v := ⟨l[m], List.getElem?_eq_getElem (by omega)⟩
theorem sizeKn : (Tryz.prog.info? 106).map (·.size) = some 6 := by kernel_rfl
set_option maxHeartbeats 4000000 in
theorem carried_any (ks : List Value) (K : Nat → List Fl) (x : Sn) (body : ByteArray) (w : World) (hK : KAt w ks K) (hx : SnOk x) (hb : body.size ≤ maxLen) :
  Calls Tryz.prog 97 #[.agg ks.toArray, .agg (snC body x).toArray] w fun e w' => ∃ u, e = .returned (.tuple #[u, .int .i64 (carE K body.size x)]) ∧ w'.ownsRow w.heap.size 56 9 u (carL K body.size x).length (AR body (carL K body.size x)) ∧ Below w.heap.size w w' := by
 have HK := hide hK
 obtain ⟨k0, k1, k2, k3, k4, k5, rfl⟩ := six hK.1
 clear hK
 have HXC : Hid (snC body x = [.int .i64 x.k, .int .i64 x.n, .int .i64 (x.F.getD 0 0), .int .i64 (x.F.getD 1 0), .int .i64 (x.F.getD 2 0), .int .i64 (x.F.getD 3 0), .int .i64 (x.F.getD 4 0), .int .i64 (x.F.getD 5 0), .int .i64 (x.F.getD 6 0), .int .i64 (x.F.getD 7 0), .int .i64 (x.F.getD 8 0), .int .i64 (x.F.getD 9 0), .string body]) := rfl
 rw [HXC.out]
 have HAT := hide (fun W B v (h : W.ownsRow B 145 13 v 1 (S body [x])) => atPorts_any v [x] body B W h hb (by simp))
 have HS1 : Hid (S body [x] = [.int .i64 x.k, .int .i64 x.n, .int .i64 (x.F.getD 0 0), .int .i64 (x.F.getD 1 0), .int .i64 (x.F.getD 2 0), .int .i64 (x.F.getD 3 0), .int .i64 (x.F.getD 4 0), .int .i64 (x.F.getD 5 0), .int .i64 (x.F.getD 6 0), .int .i64 (x.F.getD 7 0), .int .i64 (x.F.getD 8 0), .int .i64 (x.F.getD 9 0), .string body]) := by rw [← HXC.out]; simp [S, snC, Hid]
 rw [HS1.out] at HAT
 have h8 : wordB (x.F.getD 8 0) = true := hx.1.2 8
 have h9 : wordB (x.F.getD 9 0) = true := hx.1.2 9
 have HT0 := hide (fun W => through_no (x.F.getD 0 0) (x.F.getD 1 0) (x.F.getD 2 0) (x.F.getD 3 0) (x.F.getD 4 0) (x.F.getD 5 0) (x.F.getD 6 0) (x.F.getD 7 0) (x.F.getD 8 0) (x.F.getD 9 0) body W hb)
 have HT1 := hide (fun W hf => through_yes (x.F.getD 0 0) (x.F.getD 1 0) (x.F.getD 2 0) (x.F.getD 3 0) (x.F.getD 4 0) (x.F.getD 5 0) (x.F.getD 6 0) (x.F.getD 7 0) (x.F.getD 8 0) (x.F.getD 9 0) body W hf h8 h9)
 have HFF : Hid (ff x.F body.size = fault (x.F.getD 1 0) (x.F.getD 2 0) (x.F.getD 3 0) (x.F.getD 4 0) (x.F.getD 5 0) (x.F.getD 6 0) (x.F.getD 7 0) body.size) := rfl
 have HTH : Hid (thrF x.F = [0, x.F.getD 1 0, x.F.getD 2 0, x.F.getD 3 0, x.F.getD 4 0, x.F.getD 5 0, x.F.getD 6 0, x.F.getD 7 0, x.F.getD 8 0, x.F.getD 9 0]) := rfl
 have HRN := hide (fun W v (h : FsAt W v (K x.n.toNat)) (hl : (K x.n.toNat).length ≤ 140737488355328) => fRun_any 0 (x.F.getD 1 0) (x.F.getD 2 0) (x.F.getD 3 0) (x.F.getD 4 0) (x.F.getD 5 0) (x.F.getD 6 0) (x.F.getD 7 0) (x.F.getD 8 0) (x.F.getD 9 0) body v (K x.n.toNat) W h hb hl)
 rw [← HTH.out] at HRN
 have HRL : Hid (runE (K x.n.toNat) (thrF x.F) body.size = 0 → runL (K x.n.toNat) (thrF x.F) body.size = ran (K x.n.toNat) (thrF x.F)) := fun h => by unfold runL; rw [if_pos h]
 have HRO : Hid (runE (K x.n.toNat) (thrF x.F) body.size = 0 → (ran (K x.n.toNat) (thrF x.F)).length ≤ 1000000) := fun h => (ran_out (by simp [thrF]) h).2
 have HCE : Hid (carE K body.size x = if x.k = 6 then (if ff x.F body.size = 0 then (if runE (K x.n.toNat) (thrF x.F) body.size = 0 then atE body.size (ran (K x.n.toNat) (thrF x.F)) else runE (K x.n.toNat) (thrF x.F) body.size) else ff x.F body.size) else atE body.size [x]) := rfl
 have HCL : Hid (carL K body.size x = if x.k = 6 then (if ff x.F body.size = 0 then (if runE (K x.n.toNat) (thrF x.F) body.size = 0 then atL body.size (ran (K x.n.toNat) (thrF x.F)) else []) else []) else atL body.size [x]) := rfl
 rw [HFF.out] at HCE HCL
 have h6 : x.k = 6 → 0 ≤ x.n ∧ x.n ≤ 5 := fun h => by rcases hx.2 with ⟨e, _⟩ | ⟨_, h⟩; omega; exact h
 clear HXC HS1 HFF HTH h8 h9 hx
 generalize x.F.getD 0 0 = y0 at *
 generalize x.F.getD 1 0 = y1 at *
 generalize x.F.getD 2 0 = y2 at *
 generalize x.F.getD 3 0 = y3 at *
 generalize x.F.getD 4 0 = y4 at *
 generalize x.F.getD 5 0 = y5 at *
 generalize x.F.getD 6 0 = y6 at *
 generalize x.F.getD 7 0 = y7 at *
 generalize x.F.getD 8 0 = y8 at *
 generalize x.F.getD 9 0 = y9 at *
 generalize hE : fault y1 y2 y3 y4 y5 y6 y7 body.size = E at *
 generalize x.k = xk at *
 generalize x.n = xn at *
 obtain ⟨W0, hW0⟩ : ∃ W0, W0 = (w.alloc (.cells #[k0, k1, k2, k3, k4, k5] 106)).alloc (.cells #[.int .i64 xk, .int .i64 xn, .int .i64 y0, .int .i64 y1, .int .i64 y2, .int .i64 y3, .int .i64 y4, .int .i64 y5, .int .i64 y6, .int .i64 y7, .int .i64 y8, .int .i64 y9, .string body] 145) := ⟨_, rfl⟩
 have kb : Below w.heap.size w W0 := by rw [hW0]; exact ((Below.refl _ w).alloc (Nat.le_refl _) _).alloc (by simp) _
 have B0 : Box W0 w.heap.size [k0, k1, k2, k3, k4, k5] := by rw [hW0]; exact (Box.new w [k0, k1, k2, k3, k4, k5] 106).alloc _
 have S0 : Box W0 (w.heap.size + 1) [.int .i64 xk, .int .i64 xn, .int .i64 y0, .int .i64 y1, .int .i64 y2, .int .i64 y3, .int .i64 y4, .int .i64 y5, .int .i64 y6, .int .i64 y7, .int .i64 y8, .int .i64 y9, .string body] := by rw [hW0]; simpa using Box.new (w.alloc (.cells #[k0, k1, k2, k3, k4, k5] 106)) [.int .i64 xk, .int .i64 xn, .int .i64 y0, .int .i64 y1, .int .i64 y2, .int .i64 y3, .int .i64 y4, .int .i64 y5, .int .i64 y6, .int .i64 y7, .int .i64 y8, .int .i64 y9, .string body] 145
 have HKB := hide B0
 have HSB := hide S0
 clear B0 S0
 replace HK := hide (HK.out.below kb)
 have HW0 : Hid ((w.alloc (.cells #[k0, k1, k2, k3, k4, k5] 106)).alloc (.cells #[.int .i64 xk, .int .i64 xn, .int .i64 y0, .int .i64 y1, .int .i64 y2, .int .i64 y3, .int .i64 y4, .int .i64 y5, .int .i64 y6, .int .i64 y7, .int .i64 y8, .int .i64 y9, .string body] 145) = W0) := hW0.symm
 clear hW0
 have c0 := HSB.out.cell 0 _ rfl
 have c1 := HSB.out.cell 1 _ rfl
 go_enter Tryz.func97, Tryz.ntmps97
 by_cases hk6 : xk = 6
 ·subst hk6
  obtain ⟨n0, n1⟩ := h6 rfl
  rw [if_pos rfl] at HCE HCL
  clear HAT
  skip
  have PKR : Hid (W0.rangeAt (w.heap.size + 1) 2 [.int .i64 y0, .int .i64 y1, .int .i64 y2, .int .i64 y3, .int .i64 y4, .int .i64 y5, .int .i64 y6, .int .i64 y7, .int .i64 y8, .int .i64 y9, .string body]) := hide (fun j v hj => by have := HSB.out.range (2 + j) v (by rw [Nat.add_comm]; simpa using hj); simpa using this)
  go_wp2_with (first | rw [HW0.out] | (refine wpList_load_mid rfl 41 (.tmp 18) rfl (w.heap.size + 1) 2 rfl _ _ PKR.out Tryz.underlying41 rfl sizePkt ?_))
  by_cases hE0 : E = 0
  ·subst hE0
   rw [if_pos rfl] at HCE HCL
   refine (unhide HT1 _ rfl).mono ?_
   rintro e w1 ⟨rfl, hb1⟩
   replace HKB := hide (HKB.out.below hb1)
   replace HSB := hide (HSB.out.below hb1)
   replace HK := hide (HK.out.below hb1)
   replace kb := kb.trans (hb1.mono kb.size)
   clear hb1 HT0 HT1 PKR HW0 hE c0 c1
   obtain ⟨W2, hW2⟩ : ∃ W2, W2 = w1.alloc (.cells #[.int .i64 0, .int .i64 y1, .int .i64 y2, .int .i64 y3, .int .i64 y4, .int .i64 y5, .int .i64 y6, .int .i64 y7, .int .i64 y8, .int .i64 y9, .string body] 41) := ⟨_, rfl⟩
   have hbN : Below w1.heap.size w1 W2 := by rw [hW2]; exact (Below.refl _ _).alloc (Nat.le_refl _) _
   have HPB : Hid (Box W2 w1.heap.size [.int .i64 0, .int .i64 y1, .int .i64 y2, .int .i64 y3, .int .i64 y4, .int .i64 y5, .int .i64 y6, .int .i64 y7, .int .i64 y8, .int .i64 y9, .string body]) := by rw [hW2]; exact hide (Box.new w1 [.int .i64 0, .int .i64 y1, .int .i64 y2, .int .i64 y3, .int .i64 y4, .int .i64 y5, .int .i64 y6, .int .i64 y7, .int .i64 y8, .int .i64 y9, .string body] 41)
   replace HKB := hide (HKB.out.below hbN)
   replace HSB := hide (HSB.out.below hbN)
   replace HK := hide (HK.out.below hbN)
   replace kb := kb.trans (hbN.mono kb.size)
   have HW2 := hide hW2.symm
   clear hbN hW2
   obtain ⟨m, rfl⟩ := Int.eq_ofNat_of_zero_le n0
   have hm6 : m < 6 := by omega
   simp only [Int.toNat_natCast] at HRN HRL HRO HCE HCL
   obtain ⟨kv, hkv⟩ := six_at HK.out.1 hm6
   have HF := hide (HK.out.2 m hm6 kv hkv).1
   have HLN := hide (HK.out.2 m hm6 kv hkv).2
   have ck := HKB.out.cell m kv hkv
   have c1 := HSB.out.cell 1 _ rfl
   obtain ⟨fa, fc, rfl, _⟩ := id HF.out
   have HKV := hide hkv
   clear hkv
   go_wp2_with (rw [HW2.out])
   clear HW2
   have q0 : (0 : Int) ≤ (m : Int) := by omega
   have q6 : (m : Int) < 6 := by omega
   refine wp_region_held_drew (S := (fun w' => w'.cell? ⟨w.heap.size + 1, 1, none⟩ = some (.int .i64 (m : Int)) ∧ w'.cell? ⟨w.heap.size, m, none⟩ = some (.slice fa (K m).length fc) ∧ w'.rangeAt w1.heap.size 0 [.int .i64 0, .int .i64 y1, .int .i64 y2, .int .i64 y3, .int .i64 y4, .int .i64 y5, .int .i64 y6, .int .i64 y7, .int .i64 y8, .int .i64 y9, .string body])) (by kernel_rfl) ⟨c1, ck, HPB.out.range⟩ (fun hHeld => ?_)
   refine tk (i := 0) (d := 27) rfl (by kernel_rfl) (fun _ _ _ h => h) rfl ‹_› (by intro w h; (try dsimp only at h); go_simp <;> with_reducible rfl) ?_
   simp only [nz]
   refine tk (i := 1) (d := 28) rfl (by kernel_rfl) (fun _ _ _ h => h) rfl ‹_› (by intro w h; (try dsimp only at h); go_simp <;> with_reducible rfl) ?_
   simp only [nz]
   refine tk (i := 2) (d := 29) rfl (by kernel_rfl) (fun _ _ _ h => h) rfl ‹_› (by intro w h; (try dsimp only at h); go_simp <;> with_reducible rfl) ?_
   simp only [nz]
   refine tk (i := 3) (d := 30) rfl (by kernel_rfl) (fun _ _ _ h => h) rfl ‹_› (by intro w h; (try dsimp only at h); go_simp <;> with_reducible rfl) ?_
   simp only [nz]
   refine wpAnyH_take (i := 4) (oi := ⟨some 31, _, _, _, _, _⟩) (v := .agg #[.int .i64 0, .int .i64 y1, .int .i64 y2, .int .i64 y3, .int .i64 y4, .int .i64 y5, .int .i64 y6, .int .i64 y7, .int .i64 y8, .int .i64 y9, .string body]) rfl (by kernel_rfl) (by kernel_rfl) (by kernel_rfl) (fun _ _ _ h => h) (yieldsIf_load_mid (by rfl) 41 (.tmp 6) rfl w1.heap.size 0 rfl [.int .i64 0, .int .i64 y1, .int .i64 y2, .int .i64 y3, .int .i64 y4, .int .i64 y5, .int .i64 y6, .int .i64 y7, .int .i64 y8, .int .i64 y9, .string body] _ (fun w h => h.2.2) Tryz.underlying41 rfl sizePkt) (by assumption) ?_
   (try simp only [nz])
   refine rd (i := 5) (o := ⟨some 32, _, _, _, _, _⟩) (by kernel_rfl) rfl (fun Kk hKk => ?_)
   go_simp
   have hbD : Below W2.heap.size W2 W2.drew := (Below.refl _ _).drew
   refine (unhide HRN W2.drew _ (HF.out.below hbD (Nat.le_refl _)) HLN.out).mono ?_
   rintro e w3 ⟨v3, rfl, ho3, hb3⟩
   have hb23 : Below W2.heap.size W2 w3 := hbD.trans hb3
   replace kb := kb.trans (hb23.mono kb.size)
   have HO := hide ho3
   go_wp2_with fail
   refine hKk.out _ _ ⟨cell_beh c1 hb23 (Nat.le_refl _), cell_beh ck hb23 (Nat.le_refl _), range_below HPB.out.range hb23 HPB.out.lt⟩ (fun hHeld => ?_)
   clear hKk Kk ho3 hb3 hbD hb23 ck c1
   (try simp only [nz])
   refine tk (i := 6) (d := 26) rfl (by kernel_rfl) (fun _ _ _ h => h) rfl ‹_› (by intro w h; (try dsimp only at h); go_simp <;> with_reducible rfl) ?_
   simp only [nz]
   refine tk (i := 7) (d := 33) rfl (by kernel_rfl) (fun _ _ _ h => h) rfl ‹_› (by intro w h; (try dsimp only at h); go_simp <;> with_reducible rfl) ?_
   simp only [nz]
   refine tk (i := 8) (d := 34) rfl (by kernel_rfl) (fun _ _ _ h => h) rfl ‹_› (by intro w h; (try dsimp only at h); go_simp <;> with_reducible rfl) ?_
   simp only [nz]
   refine tk (i := 9) (d := 8) rfl (by kernel_rfl) (fun _ _ _ h => h) rfl ‹_› (by intro w h; (try dsimp only at h); go_simp <;> with_reducible rfl) ?_
   simp only [nz]
   refine tk (i := 10) (d := 7) rfl (by kernel_rfl) (fun _ _ _ h => h) rfl ‹_› (by intro w h; (try dsimp only at h); go_simp <;> with_reducible rfl) ?_
   simp only [nz]
   refine wpAnyH_done (by kernel_rfl) ?_ _
   clear hHeld HRN
   generalize hR : runE (K m) (thrF x.F) body.size = R at *
   by_cases hR0 : R = 0
   ·subst hR0
    rw [HRL.out rfl] at HO
    rw [if_pos rfl] at HCE HCL
    have HLE := hide (HRO.out rfl)
    obtain ⟨oo, oc, rfl, _⟩ := own_formA HO.out
    clear hR HRL HRO
    go_wp2_with fail
    refine (atPorts_any _ _ body _ _ HO.out hb HLE.out).mono ?_
    rintro e w4 ⟨u4, rfl, ho4, hb4⟩
    have hlt := kb.size
    replace kb := kb.trans (hb4.mono kb.size)
    go_wp2_with fail
    rw [HCE.out, HCL.out]
    go_ret2
    exact ⟨u4, rfl, own_less ho4 hlt, kb⟩
   ·have hRb : (R != 0) = true := by simpa using hR0
    rw [if_neg hR0] at HCE HCL
    obtain ⟨oo, oc, rfl, _⟩ := own_formA HO.out
    go_wp2_with fail
    rw [HCE.out, HCL.out]
    go_ret2
    exact ⟨_, rfl, World.ownsRow_nil _ _ _ _, kb⟩
  ·rw [if_neg hE0] at HCE HCL
   have hEb : (E != 0) = true := by simpa using hE0
   refine (unhide HT0 _ hE0).mono ?_
   rintro e w1 ⟨rfl, hb1⟩
   replace kb := kb.trans (hb1.mono kb.size)
   clear hb1 HT0 HT1 PKR HW0 hE c0 c1
   go_wp2_with fail
   rw [HCE.out, HCL.out]
   go_ret2
   exact ⟨_, rfl, World.ownsRow_nil _ _ _ _, kb.alloc kb.size _⟩
 ·have hkb : (xk != 6) = true := by simpa using hk6
  rw [if_neg hk6] at HCE HCL
  clear HT0 HT1 HRN HRL HRO
  have HSR : Hid ((W0.alloc (.cells #[.int .i64 xk, .int .i64 xn, .int .i64 y0, .int .i64 y1, .int .i64 y2, .int .i64 y3, .int .i64 y4, .int .i64 y5, .int .i64 y6, .int .i64 y7, .int .i64 y8, .int .i64 y9, .string body] 145)).ownsRow w.heap.size 145 13 (.slice (some ⟨W0.heap.size, 0, none⟩) 1 1) 1 [.int .i64 xk, .int .i64 xn, .int .i64 y0, .int .i64 y1, .int .i64 y2, .int .i64 y3, .int .i64 y4, .int .i64 y5, .int .i64 y6, .int .i64 y7, .int .i64 y8, .int .i64 y9, .string body]) := hide (World.ownsRow_lit W0 _ 1 kb.size (by decide) rfl)
  go_wp2_with (first | rw [HW0.out] | (refine wpList_load_mid rfl 145 (.tmp 3) rfl (w.heap.size + 1) 0 rfl _ _ HSB.out.range Tryz.underlying145 rfl sizeSent ?_))
  refine (unhide HAT _ _ _ HSR.out).mono ?_
  rintro e w1 ⟨u1, rfl, ho1, hb1⟩
  have kb1 := (kb.alloc kb.size _).trans (hb1.mono (kb.alloc kb.size _).size)
  have hlt := (kb.alloc kb.size (.cells #[.int .i64 xk, .int .i64 xn, .int .i64 y0, .int .i64 y1, .int .i64 y2, .int .i64 y3, .int .i64 y4, .int .i64 y5, .int .i64 y6, .int .i64 y7, .int .i64 y8, .int .i64 y9, .string body] 145)).size
  go_wp2_with fail
  rw [HCE.out, HCL.out]
  go_ret2
  exact ⟨u1, rfl, own_less ho1 hlt, kb1⟩
end Go.Proofs.YtncdininppehkaaGreat

namespace Go.Proofs.YtncdininppehkaaGreat
open Go.RowKit
set_option linter.unusedVariables false
set_option maxRecDepth 100000
theorem Box.set1 {w : World} {b : Nat} {cs : List Value} (h : Box w b cs) (j : Nat) (v : Value) (hj : j < cs.length) : Box (w.setCell ⟨b, j, none⟩ v) b (cs.set j v) := by
 have e : w.setCell ⟨b, j, none⟩ v = w.setCells b j [v] := rfl
 rw [e]
 refine ⟨⟨by rw [setCells_size]; exact h.1.1, fun i u hi => ?_⟩, fun i hi => by rw [setCells_frozen]; exact h.2 i (by simpa using hi)⟩
 rw [Nat.zero_add]
 by_cases hij : i = j
 ·subst hij
  have := World.rangeAt_setCells_same w b i [v] (fun k hk => by
   obtain rfl : k = 0 := by simp at hk; exact hk
   exact ⟨by rw [Nat.add_zero, h.cell i _ (List.getElem?_eq_getElem hj)]; rfl, by rw [Nat.add_zero]; exact h.2 i hj⟩) 0 v rfl
  rw [List.getElem?_set_self hj] at hi
  cases hi
  simpa using this
 ·rw [World.cell?_setCells_out b [v] j w ⟨b, i, none⟩ (fun _ _ => by simp only [List.length_singleton]; omega)]
  rw [List.getElem?_set_ne (Ne.symm hij)] at hi
  exact h.cell i u hi
theorem Box.set1_far {w : World} {b b' : Nat} {cs : List Value} (h : Box w b cs) (hne : b ≠ b') (j : Nat) (v : Value) : Box (w.setCell ⟨b', j, none⟩ v) b cs := h.set_far hne j [v]
theorem ones6 {w : World} {ks : List Value} {K : Nat → List Fl} (h : KAt w ks K) : ks.toArray.all (·.oneCell') = true := ones (by
 rw [List.all_eq_true]
 intro v hv
 obtain ⟨i, hi, e⟩ := List.getElem_of_mem hv
 obtain ⟨a, c, rfl, _⟩ := (h.2 i (by have := h.1; omega) v (by rw [List.getElem?_eq_getElem hi, e])).1
 rfl)
end Go.Proofs.YtncdininppehkaaGreat

namespace Go.Proofs.YtncdininppehkaaGreat
open Go.RowKit
set_option linter.unusedVariables false
set_option maxRecDepth 100000
def I (l : List Int) : List Value := l.map (Value.int .i64)
theorem I_length (l : List Int) : (I l).length = l.length := by simp [I]
theorem I_append (a b : List Int) : I (a ++ b) = I a ++ I b := by simp [I]
theorem I_one (l : List Int) : ∀ u ∈ I l, u.oneCell' = true := fun u hu => by
 simp only [I, List.mem_map] at hu
 obtain ⟨n, _, rfl⟩ := hu
 rfl
theorem infoInt : (Tryz.prog.info? 3).map (fun i => (i.zero, i.size, i.bytes)) = some (some (.int .i64 0), 1, 8) := by kernel_rfl
def Two (w : World) (B gx cx : Nat) (lx : List Int) (gy cy : Nat) (ly : List Int) : Prop :=
 w.ownsRow B 3 1 (.slice (some ⟨gx, 0, none⟩) lx.length cx) lx.length (I lx) ∧ w.ownsRow B 3 1 (.slice (some ⟨gy, 0, none⟩) ly.length cy) ly.length (I ly) ∧ gx ≠ gy
theorem own_at {w : World} {B e size n cap g : Nat} {xs : List Value} (h : w.ownsRow B e size (.slice (some ⟨g, 0, none⟩) n cap) n xs) : B ≤ g ∧ g < w.heap.size := by
 obtain ⟨_, ⟨h, _⟩ | ⟨g', cap', cur, h, hB, hg, _⟩⟩ := h
 ·simp at h
 ·simp only [Value.slice.injEq, Option.some.injEq, Addr.mk.injEq, and_true] at h
  obtain ⟨rfl, _⟩ := h
  exact ⟨hB, lt_of_block hg⟩
theorem Two.swap {w : World} {B gx cx gy cy : Nat} {lx ly : List Int} (h : Two w B gx cx lx gy cy ly) : Two w B gy cy ly gx cx lx := ⟨h.2.1, h.1, h.2.2.symm⟩
theorem Two.alloc {w : World} {B gx cx gy cy : Nat} {lx ly : List Int} (h : Two w B gx cx lx gy cy ly) (o : Obj) : Two (w.alloc o) B gx cx lx gy cy ly := ⟨h.1.alloc o, h.2.1.alloc o, h.2.2⟩
theorem Two.drew {w : World} {B gx cx gy cy : Nat} {lx ly : List Int} (h : Two w B gx cx lx gy cy ly) : Two w.drew B gx cx lx gy cy ly := ⟨h.1.drew, h.2.1.drew, h.2.2⟩
theorem Two.app {w w' : World} {B gx cx gy cy g cap m : Nat} {lx ly news : List Int} (h : Two w B gx cx lx gy cy ly) (ho : w'.ownsRow B 3 1 (.slice (some ⟨g, 0, none⟩) (lx.length + m) cap) (lx.length + m) (I lx ++ I news)) (hm : news.length = m)
  (hg : w.grownBy w' (Value.slice (some ⟨gx, 0, none⟩) lx.length cx).ownBlock) (hl : (Value.slice (some ⟨gx, 0, none⟩) lx.length cx).ownBlock = some g ∨ g = w.heap.size) : Two w' B g cap (lx ++ news) gy cy ly := by
 obtain ⟨h1, h2, h3⟩ := h
 have hy := own_at h2
 refine ⟨?_, h2.kept hg ?_, ?_⟩
 ·rw [I_append, List.length_append, hm]; exact ho
 ·right
  simp [Value.ownBlock]
  exact fun e => h3 e.symm
 ·rcases hl with hl | hl
  ·simp [Value.ownBlock] at hl
   rw [← hl]; exact h3
  ·omega
theorem Two.cellx {w : World} {B gx cx gy cy : Nat} {lx ly : List Int} (h : Two w B gx cx lx gy cy ly) (k : Nat) (hk : k < lx.length) : w.cell? ⟨gx, k, none⟩ = some (.int .i64 (lx.getD k 0)) := by
 rw [h.1.cellAt k (by omega)]
 simp [I, List.getD, List.getElem?_eq_getElem hk]
theorem Two.capx {w : World} {B gx cx gy cy : Nat} {lx ly : List Int} (h : Two w B gx cx lx gy cy ly) : lx.length ≤ cx := by
 obtain ⟨_, ⟨h, _⟩ | ⟨g', cap', cur, h, _, _, hc, _⟩⟩ := h.1
 ·simp at h
 ·simp only [Value.slice.injEq] at h
  omega
def fm (ms : List Mt) : List Int := ms.flatMap fun x => [x.f, x.m, x.v]
def fd (ds : List Do) : List Int := ds.flatMap fun x => [x.k, x.a, x.n]
theorem fm_take (ms : List Mt) (k : Nat) (h : k < ms.length) : fm (ms.take (k + 1)) = fm (ms.take k) ++ [(ms.getD k mt0).f, (ms.getD k mt0).m, (ms.getD k mt0).v] := by
 unfold fm
 rw [List.take_succ_eq_append_getElem h, List.flatMap_append]
 simp only [List.flatMap_cons, List.flatMap_nil, List.append_nil, List.getD, List.getElem?_eq_getElem h, Option.getD_some]
theorem fd_take (ds : List Do) (k : Nat) (h : k < ds.length) : fd (ds.take (k + 1)) = fd (ds.take k) ++ [(ds.getD k do0).k, (ds.getD k do0).a, (ds.getD k do0).n] := by
 unfold fd
 rw [List.take_succ_eq_append_getElem h, List.flatMap_append]
 simp only [List.flatMap_cons, List.flatMap_nil, List.append_nil, List.getD, List.getElem?_eq_getElem h, Option.getD_some]
theorem fm_length (ms : List Mt) : (fm ms).length = 3 * ms.length := by
 induction ms with
 | nil => rfl
 | cons x r ih => simp [fm] at ih ⊢; omega
theorem fd_length (ds : List Do) : (fd ds).length = 3 * ds.length := by
 induction ds with
 | nil => rfl
 | cons x r ih => simp [fd] at ih ⊢; omega
def cmpL : List Int → List Int → Int
 | a :: x, b :: y => if a < b then -1 else if b < a then 1 else cmpL x y
 | x, y => (x.length : Int) - (y.length : Int)
theorem cmpL_step : ∀ (k : Nat) (x y : List Int), k < x.length → k < y.length → (∀ j, j < k → x.getD j 0 = y.getD j 0) → x.getD k 0 ≠ y.getD k 0 → cmpL x y = if x.getD k 0 < y.getD k 0 then -1 else 1
 | 0, a :: x, b :: y, _, _, _, hn => by
  simp at hn
  simp only [cmpL, List.getD_cons_zero]
  by_cases h : a < b
  ·rw [if_pos h, if_pos h]
  ·rw [if_neg h, if_neg h, if_pos (by omega)]
 | k + 1, a :: x, b :: y, h1, h2, ha, hn => by
  have h0 := ha 0 (by omega)
  simp at h0
  subst h0
  simp only [cmpL, List.getD_cons_succ]
  rw [if_neg (by omega), if_neg (by omega)]
  exact cmpL_step k x y (by simpa using h1) (by simpa using h2) (fun j hj => by simpa using ha (j + 1) (by omega)) (by simpa using hn)
 | _, [], _, h1, _, _, _ => by simp at h1
 | _, _ :: _, [], _, h2, _, _ => by simp at h2
theorem cmpL_end : ∀ (k : Nat) (x y : List Int), k ≤ x.length → k ≤ y.length → (k = x.length ∨ k = y.length) → (∀ j, j < k → x.getD j 0 = y.getD j 0) → cmpL x y = (x.length : Int) - (y.length : Int)
 | 0, [], y, _, _, _, _ => by cases y <;> rfl
 | 0, a :: x, [], _, _, _, _ => rfl
 | 0, a :: x, b :: y, _, _, h, _ => by simp at h
 | k + 1, a :: x, b :: y, h1, h2, h, ha => by
  have h0 := ha 0 (by omega)
  simp at h0
  subst h0
  simp only [cmpL]
  rw [if_neg (by omega), if_neg (by omega), cmpL_end k x y (by simpa using h1) (by simpa using h2) (by simpa using h) (fun j hj => by simpa using ha (j + 1) (by omega))]
  simp; omega
 | k + 1, [], _, h1, _, _, _ => by simp at h1
 | k + 1, _ :: _, [], _, h2, _, _ => by simp at h2
def keyX (a b : Fl) : List Int := [a.t, b.p, (a.ms.length : Int), (a.ds.length : Int)] ++ fm a.ms ++ fd a.ds
def plc (a b : Fl) : Int := cmpL (keyX a b) ([b.t, a.p, (b.ms.length : Int), (b.ds.length : Int)] ++ fm b.ms ++ fd b.ds)
end Go.Proofs.YtncdininppehkaaGreat

namespace Go.Proofs.YtncdininppehkaaGreat
open Go.RowKit
set_option linter.unusedVariables false
set_option maxRecDepth 100000
def M (l : List Mt) : List Value := l.flatMap fun x => [.int .i64 x.f, .int .i64 x.m, .int .i64 x.v]
def D (l : List Do) : List Value := l.flatMap fun x => [.int .i64 x.k, .int .i64 x.a, .int .i64 x.n]
theorem infoMatch : (Tryz.prog.info? 95).map (fun i => (i.zero, i.size, i.bytes)) = some (some (.agg #[.int .i64 0, .int .i64 0, .int .i64 0]), 3, 24) := by kernel_rfl
theorem infoDoes : (Tryz.prog.info? 98).map (fun i => (i.zero, i.size, i.bytes)) = some (some (.agg #[.int .i64 0, .int .i64 0, .int .i64 0]), 3, 24) := by kernel_rfl
theorem M_take (ms : List Mt) (k : Nat) (h : k < ms.length) : M (ms.take (k + 1)) = M (ms.take k) ++ [.int .i64 (ms.getD k mt0).f, .int .i64 (ms.getD k mt0).m, .int .i64 (ms.getD k mt0).v] := by
 unfold M
 rw [List.take_succ_eq_append_getElem h, List.flatMap_append]
 simp only [List.flatMap_cons, List.flatMap_nil, List.append_nil, List.getD, List.getElem?_eq_getElem h, Option.getD_some]
theorem D_take (ds : List Do) (k : Nat) (h : k < ds.length) : D (ds.take (k + 1)) = D (ds.take k) ++ [.int .i64 (ds.getD k do0).k, .int .i64 (ds.getD k do0).a, .int .i64 (ds.getD k do0).n] := by
 unfold D
 rw [List.take_succ_eq_append_getElem h, List.flatMap_append]
 simp only [List.flatMap_cons, List.flatMap_nil, List.append_nil, List.getD, List.getElem?_eq_getElem h, Option.getD_some]
theorem cell_set_blk {w : World} {b o b' o' : Nat} {v : Value} (h : b' ≠ b) : (w.setCell ⟨b', o', none⟩ v).cell? ⟨b, o, none⟩ = w.cell? ⟨b, o, none⟩ := World.cell?_setCell_other _ _ _ _ (fun e => h (by simpa using congrArg Addr.block e))
theorem own_lt {w : World} {B e size n : Nat} {v : Value} {xs : List Value} (h : w.ownsRow B e size v n xs) {g : Nat} (hg : v.ownBlock = some g) : g < w.heap.size := by
 obtain ⟨_, ⟨rfl, _⟩ | ⟨g', cap', cur, rfl, hB, hb, _⟩⟩ := h
 ·simp [Value.ownBlock] at hg
 ·simp [Value.ownBlock] at hg
  subst hg
  exact lt_of_block hb
theorem own_slice {w : World} {B e size n : Nat} {v : Value} {xs : List Value} (h : w.ownsRow B e size v n xs) : ∃ o m c, v = .slice o m c := by
 obtain ⟨_, ⟨rfl, _⟩ | ⟨g', cap', cur, rfl, _⟩⟩ := h
 ·exact ⟨_, _, _, rfl⟩
 ·exact ⟨_, _, _, rfl⟩
theorem sep_app {w : World} {B e size n H g : Nat} {u v : Value} {xs : List Value} (h : w.ownsRow B e size u n xs) (hs : u.ownBlock = none ∨ u.ownBlock ≠ v.ownBlock) (ha : v.ownBlock = some g ∨ g = H) (hH : w.heap.size ≤ H) : u.ownBlock = none ∨ u.ownBlock ≠ some g := by
 rcases hs with hs | hs
 ·exact .inl hs
 ·refine .inr fun e => ?_
  rcases ha with ha | ha
  ·exact hs (e.trans ha.symm)
  ·have := own_lt h e
   omega
theorem one3 (x y z : Int) : ∀ u ∈ [Value.int .i64 x, .int .i64 y, .int .i64 z], u.oneCell' = true := by
 intro u hu
 simp at hu
 rcases hu with rfl | rfl | rfl <;> rfl
end Go.Proofs.YtncdininppehkaaGreat

namespace Go.Proofs.YtncdininppehkaaGreat
open Go.RowKit
set_option linter.unusedVariables false
set_option maxRecDepth 100000
theorem MsAt.kept {w w' : World} {v : Value} {ms : List Mt} {row : Option Nat} (h : MsAt w v ms) (hg : w.grownBy w' row) (hne : v.ownBlock = none ∨ v.ownBlock ≠ row) : MsAt w' v ms := by
 obtain ⟨a, cap, rfl, hn, h0 | ⟨b, off, rfl, hc, hL⟩⟩ := h
 ·exact ⟨a, cap, rfl, hn, .inl h0⟩
 ·have hne' : some b ≠ row := by
   rcases hne with h | h
   ·simp [Value.ownBlock] at h
   ·simpa [Value.ownBlock] using h
  refine ⟨_, cap, rfl, hn, .inr ⟨b, off, rfl, hc, fun i hi => ?_⟩⟩
  obtain ⟨e0, e1, e2⟩ := hL i hi
  exact ⟨(hg.cell_far _ (cell_lt e0) hne').trans e0, (hg.cell_far _ (cell_lt e1) hne').trans e1, (hg.cell_far _ (cell_lt e2) hne').trans e2⟩
theorem DsAt.kept {w w' : World} {v : Value} {ds : List Do} {row : Option Nat} (h : DsAt w v ds) (hg : w.grownBy w' row) (hne : v.ownBlock = none ∨ v.ownBlock ≠ row) : DsAt w' v ds := by
 obtain ⟨a, cap, rfl, hn, h0 | ⟨b, off, rfl, hc, hL⟩⟩ := h
 ·exact ⟨a, cap, rfl, hn, .inl h0⟩
 ·have hne' : some b ≠ row := by
   rcases hne with h | h
   ·simp [Value.ownBlock] at h
   ·simpa [Value.ownBlock] using h
  refine ⟨_, cap, rfl, hn, .inr ⟨b, off, rfl, hc, fun i hi => ?_⟩⟩
  obtain ⟨e0, e1, e2⟩ := hL i hi
  exact ⟨(hg.cell_far _ (cell_lt e0) hne').trans e0, (hg.cell_far _ (cell_lt e1) hne').trans e1, (hg.cell_far _ (cell_lt e2) hne').trans e2⟩
theorem M_length (l : List Mt) : (M l).length = 3 * l.length := by
 induction l with
 | nil => rfl
 | cons x r ih => simp [M] at ih ⊢; omega
theorem M_at : ∀ (l : List Mt) (i : Nat), i < l.length → (M l)[i * 3]? = some (.int .i64 (l.getD i mt0).f) ∧ (M l)[i * 3 + 1]? = some (.int .i64 (l.getD i mt0).m) ∧ (M l)[i * 3 + 2]? = some (.int .i64 (l.getD i mt0).v)
 | [], i, h => by simp at h
 | x :: r, 0, _ => ⟨rfl, rfl, rfl⟩
 | x :: r, i + 1, h => by
  have ih := M_at r i (by simpa using h)
  have e : ∀ j, (M (x :: r))[(i + 1) * 3 + j]? = (M r)[i * 3 + j]? := fun j => by
   have : (i + 1) * 3 + j = i * 3 + j + 3 := by omega
   rw [this]; rfl
  refine ⟨?_, ?_, ?_⟩
  ·have := e 0; simp only [Nat.add_zero] at this; rw [this]; simpa using ih.1
  ·rw [e 1]; simpa using ih.2.1
  ·rw [e 2]; simpa using ih.2.2
theorem D_at : ∀ (l : List Do) (i : Nat), i < l.length → (D l)[i * 3]? = some (.int .i64 (l.getD i do0).k) ∧ (D l)[i * 3 + 1]? = some (.int .i64 (l.getD i do0).a) ∧ (D l)[i * 3 + 2]? = some (.int .i64 (l.getD i do0).n)
 | [], i, h => by simp at h
 | x :: r, 0, _ => ⟨rfl, rfl, rfl⟩
 | x :: r, i + 1, h => by
  have ih := D_at r i (by simpa using h)
  have e : ∀ j, (D (x :: r))[(i + 1) * 3 + j]? = (D r)[i * 3 + j]? := fun j => by
   have : (i + 1) * 3 + j = i * 3 + j + 3 := by omega
   rw [this]; rfl
  refine ⟨?_, ?_, ?_⟩
  ·have := e 0; simp only [Nat.add_zero] at this; rw [this]; simpa using ih.1
  ·rw [e 1]; simpa using ih.2.1
  ·rw [e 2]; simpa using ih.2.2
theorem MsAt.of_own {w : World} {B : Nat} {v : Value} {ms : List Mt} (h : w.ownsRow B 95 3 v ms.length (M ms)) : MsAt w v ms := by
 by_cases h0 : ms.length = 0
 ·obtain ⟨_, ⟨rfl, hn⟩ | ⟨g, cap, cur, rfl, _⟩⟩ := h
  ·exact ⟨none, 0, by rw [h0], fun _ => rfl, .inl h0⟩
  ·exact ⟨_, cap, rfl, by simp, .inl h0⟩
 ·obtain ⟨g, cap, rfl, _, _⟩ := h.form (by omega)
  have hc : ms.length ≤ cap := by
   obtain ⟨_, ⟨h, _⟩ | ⟨g', cap', cur, h, _, _, hc, _⟩⟩ := h
   ·simp at h
   ·simp only [Value.slice.injEq] at h
    omega
  refine ⟨_, cap, rfl, by simp, .inr ⟨g, 0, rfl, hc, fun i hi => ?_⟩⟩
  obtain ⟨e0, e1, e2⟩ := M_at ms i hi
  simp only [Nat.zero_add]
  exact ⟨(h.cellAt _ (by omega)).trans e0, (h.cellAt _ (by omega)).trans e1, (h.cellAt _ (by omega)).trans e2⟩
theorem DsAt.of_own {w : World} {B : Nat} {v : Value} {ds : List Do} (h : w.ownsRow B 98 3 v ds.length (D ds)) : DsAt w v ds := by
 by_cases h0 : ds.length = 0
 ·obtain ⟨_, ⟨rfl, hn⟩ | ⟨g, cap, cur, rfl, _⟩⟩ := h
  ·exact ⟨none, 0, by rw [h0], fun _ => rfl, .inl h0⟩
  ·exact ⟨_, cap, rfl, by simp, .inl h0⟩
 ·obtain ⟨g, cap, rfl, _, _⟩ := h.form (by omega)
  have hc : ds.length ≤ cap := by
   obtain ⟨_, ⟨h, _⟩ | ⟨g', cap', cur, h, _, _, hc, _⟩⟩ := h
   ·simp at h
   ·simp only [Value.slice.injEq] at h
    omega
  refine ⟨_, cap, rfl, by simp, .inr ⟨g, 0, rfl, hc, fun i hi => ?_⟩⟩
  obtain ⟨e0, e1, e2⟩ := D_at ds i hi
  simp only [Nat.zero_add]
  exact ⟨(h.cellAt _ (by omega)).trans e0, (h.cellAt _ (by omega)).trans e1, (h.cellAt _ (by omega)).trans e2⟩
def nx (f : Fl) (out : List Fl) : Nat → List Fl × Bool
 | 0 => ([], false)
 | k + 1 =>
  let d1 := (nx f out k).2 || (plc f (out.getD k fl0) == 0)
  if plc f (out.getD k fl0) < 0 ∧ d1 = false then ((nx f out k).1 ++ [f, out.getD k fl0], true) else ((nx f out k).1 ++ [out.getD k fl0], d1)
def put1 (f : Fl) (out : List Fl) : List Fl := if (nx f out out.length).2 then (nx f out out.length).1 else (nx f out out.length).1 ++ [f]
def srt (l : List Fl) : Nat → List Fl
 | 0 => []
 | k + 1 => put1 (l.getD k fl0) (srt l k)
theorem nx_length (f : Fl) (out : List Fl) : ∀ k, (nx f out k).1.length ≤ k + 1 ∧ ((nx f out k).2 = false → (nx f out k).1.length = k)
 | 0 => ⟨by simp [nx], fun _ => by simp [nx]⟩
 | k + 1 => by
  obtain ⟨h1, h2⟩ := nx_length f out k
  unfold nx
  simp only
  split
  ·rename_i h
   have h3 : (nx f out k).2 = false := by
    have := h.2
    simp at this
    exact this.1
   exact ⟨by simp [h2 h3], fun h => by simp at h⟩
  ·refine ⟨by simp; omega, fun h => ?_⟩
   simp at h
   simp [h2 h.1]
theorem put1_length (f : Fl) (out : List Fl) : (put1 f out).length ≤ out.length + 1 := by
 obtain ⟨h1, h2⟩ := nx_length f out out.length
 unfold put1
 split
 ·exact h1
 ·rename_i h
  simp [h2 (by simpa using h)]
theorem srt_length (l : List Fl) : ∀ k, (srt l k).length ≤ k
 | 0 => by simp [srt]
 | k + 1 => by
  have := srt_length l k
  have := put1_length (l.getD k fl0) (srt l k)
  unfold srt
  omega
end Go.Proofs.YtncdininppehkaaGreat

namespace Go.Proofs.YtncdininppehkaaGreat
open Go.RowKit
set_option linter.unusedVariables false
set_option maxRecDepth 100000
structure Fv where
 f : Fl
 mv : Value
 dv : Value
def C (l : List Fv) : List Value := l.flatMap fun x => [.int .i64 x.f.t, .int .i64 x.f.p, x.mv, x.dv]
def fv0 : Fv := ⟨fl0, .slice none 0 0, .slice none 0 0⟩
theorem C_append (a b : List Fv) : C (a ++ b) = C a ++ C b := by simp [C]
theorem C_at : ∀ (l : List Fv) (i : Nat), i < l.length → (C l)[i * 4]? = some (.int .i64 (l.getD i fv0).f.t) ∧ (C l)[i * 4 + 1]? = some (.int .i64 (l.getD i fv0).f.p) ∧ (C l)[i * 4 + 2]? = some (l.getD i fv0).mv ∧ (C l)[i * 4 + 3]? = some (l.getD i fv0).dv
 | [], i, h => by simp at h
 | x :: r, 0, _ => ⟨rfl, rfl, rfl, rfl⟩
 | x :: r, i + 1, h => by
  have ih := C_at r i (by simpa using h)
  have e : ∀ j, (C (x :: r))[(i + 1) * 4 + j]? = (C r)[i * 4 + j]? := fun j => by
   have : (i + 1) * 4 + j = i * 4 + j + 4 := by omega
   rw [this]; rfl
  refine ⟨?_, ?_, ?_, ?_⟩
  ·have := e 0; simp only [Nat.add_zero] at this; rw [this]; simpa using ih.1
  ·rw [e 1]; simpa using ih.2.1
  ·rw [e 2]; simpa using ih.2.2.1
  ·rw [e 3]; simpa using ih.2.2.2
def Apart (u v : Value) : Prop := u.ownBlock = none ∨ u.ownBlock ≠ v.ownBlock
def FvOk (w : World) (x : Fv) : Prop := MsAt w x.mv x.f.ms ∧ DsAt w x.dv x.f.ds ∧ (∀ g, x.mv.ownBlock = some g → g < w.heap.size) ∧ (∀ g, x.dv.ownBlock = some g → g < w.heap.size)
theorem FvOk.below {w w' : World} {x : Fv} (h : FvOk w x) (hb : Below w.heap.size w w') : FvOk w' x :=
 ⟨h.1.below hb (Nat.le_refl _), h.2.1.below hb (Nat.le_refl _), fun g e => Nat.lt_of_lt_of_le (h.2.2.1 g e) hb.size, fun g e => Nat.lt_of_lt_of_le (h.2.2.2 g e) hb.size⟩
theorem FvOk.kept {w w' : World} {x : Fv} {v : Value} (h : FvOk w x) (hg : w.grownBy w' v.ownBlock) (h1 : Apart x.mv v) (h2 : Apart x.dv v) : FvOk w' x :=
 ⟨h.1.kept hg h1, h.2.1.kept hg h2, fun g e => Nat.lt_of_lt_of_le (h.2.2.1 g e) hg.size, fun g e => Nat.lt_of_lt_of_le (h.2.2.2 g e) hg.size⟩
theorem FvOk.slices {w : World} {x : Fv} (h : FvOk w x) : (∃ o c, x.mv = .slice o x.f.ms.length c) ∧ (∃ o c, x.dv = .slice o x.f.ds.length c) := by
 obtain ⟨⟨a, c, h1, _⟩, ⟨a', c', h2, _⟩, _⟩ := h
 exact ⟨⟨a, c, h1⟩, ⟨a', c', h2⟩⟩
theorem FvOk.one {w : World} {x : Fv} (h : FvOk w x) : ∀ u ∈ C [x], u.oneCell' = true := by
 obtain ⟨⟨o, c, h1⟩, ⟨o', c', h2⟩⟩ := h.slices
 intro u hu
 simp [C] at hu
 rcases hu with rfl | rfl | rfl | rfl
 ·rfl
 ·rfl
 ·rw [h1]; rfl
 ·rw [h2]; rfl
structure Rows2 (w : World) (B : Nat) (vo : Value) (lo : List Fv) (vn : Value) (ln : List Fv) : Prop where
 out : w.ownsRow B 90 4 vo lo.length (C lo)
 next : w.ownsRow B 90 4 vn ln.length (C ln)
 two : Apart vo vn
 oks : ∀ x ∈ lo ++ ln, FvOk w x ∧ Apart x.mv vo ∧ Apart x.dv vo ∧ Apart x.mv vn ∧ Apart x.dv vn
theorem Rows2.below {w w' : World} {B : Nat} {vo vn : Value} {lo ln : List Fv} (h : Rows2 w B vo lo vn ln) (hb : Below w.heap.size w w') : Rows2 w' B vo lo vn ln :=
 ⟨own_below h.out hb, own_below h.next hb, h.two, fun x hx => ⟨(h.oks x hx).1.below hb, (h.oks x hx).2⟩⟩
theorem Apart.app {w : World} {u v : Value} {g H n c : Nat} (h : Apart u v) (hu : ∀ g, u.ownBlock = some g → g < H) (ha : v.ownBlock = some g ∨ g = H) : Apart u (.slice (some ⟨g, 0, none⟩) n c) := by
 rcases h with h | h
 ·exact .inl h
 ·cases e : u.ownBlock with
  | none => exact .inl e
  | some b =>
   refine .inr ?_
   rw [e]
   simp only [Value.ownBlock]
   rcases ha with ha | ha
   ·rw [ha, e] at h; exact h
   ·have := hu b e
    simp; omega
theorem Rows2.app {w w' : World} {B g cap H : Nat} {vo vn : Value} {lo ln : List Fv} {x : Fv} (h : Rows2 w B vo lo vn ln) (hx : FvOk w x) (x1 : Apart x.mv vo) (x2 : Apart x.dv vo) (x3 : Apart x.mv vn) (x4 : Apart x.dv vn)
  (ho : w'.ownsRow B 90 4 (.slice (some ⟨g, 0, none⟩) (ln.length + 1) cap) (ln.length + 1) (C ln ++ C [x])) (hg : w.grownBy w' vn.ownBlock) (ha : vn.ownBlock = some g ∨ g = H) (hH : w.heap.size = H) :
  Rows2 w' B vo lo (.slice (some ⟨g, 0, none⟩) (ln.length + 1) cap) (ln ++ [x]) := by
 refine ⟨h.out.kept hg h.two, ?_, ?_, ?_⟩
 ·rw [C_append, List.length_append]; exact ho
 ·exact Apart.app (w := w) h.two (fun g e => hH ▸ own_lt h.out e) ha
 ·intro y hy
  have hy' : (FvOk w y ∧ Apart y.mv vo ∧ Apart y.dv vo ∧ Apart y.mv vn ∧ Apart y.dv vn) := by
   simp only [List.mem_append, List.mem_singleton] at hy
   rcases hy with hy | hy | rfl
   ·exact h.oks y (by simp [hy])
   ·exact h.oks y (by simp [hy])
   ·exact ⟨hx, x1, x2, x3, x4⟩
  obtain ⟨k0, k1, k2, k3, k4⟩ := hy'
  exact ⟨k0.kept hg k3 k4, k1, k2, Apart.app (w := w) k3 (fun g e => hH ▸ k0.2.2.1 g e) ha, Apart.app (w := w) k4 (fun g e => hH ▸ k0.2.2.2 g e) ha⟩
end Go.Proofs.YtncdininppehkaaGreat

namespace Go.Proofs.YtncdininppehkaaGreat
open Go.RowKit
set_option linter.unusedVariables false
set_option maxRecDepth 100000
theorem infoFlow : (Tryz.prog.info? 90).map (fun i => (i.zero, i.size, i.bytes)) = some (some (.agg #[.int .i64 0, .int .i64 0, .slice none 0 0, .slice none 0 0]), 4, 64) := by kernel_rfl
theorem own_form {w : World} {B e size n : Nat} {v : Value} {xs : List Value} (h : w.ownsRow B e size v n xs) : ∃ o c, v = .slice o n c ∧ n ≤ c ∧ (0 < n → ∃ g, o = some ⟨g, 0, none⟩) := by
 obtain ⟨_, ⟨rfl, rfl⟩ | ⟨g, cap, cur, rfl, _, _, hc, _⟩⟩ := h
 ·exact ⟨none, 0, rfl, Nat.le_refl _, fun h => absurd h (by omega)⟩
 ·exact ⟨_, cap, rfl, hc, fun _ => ⟨g, rfl⟩⟩
theorem apart_nil (u : Value) : Apart u (.slice none 0 0) := by
 unfold Apart
 cases u.ownBlock with
 | none => exact .inl rfl
 | some g => exact .inr (by simp [Value.ownBlock])
theorem rows2_nil (w : World) (B : Nat) : Rows2 w B (.slice none 0 0) [] (.slice none 0 0) [] :=
 ⟨⟨rfl, .inl ⟨rfl, rfl⟩⟩, ⟨rfl, .inl ⟨rfl, rfl⟩⟩, apart_nil _, fun x hx => by simp at hx⟩
theorem Rows2.shift {w : World} {B : Nat} {vo vn : Value} {lo ln : List Fv} (h : Rows2 w B vo lo vn ln) : Rows2 w B vn ln (.slice none 0 0) [] :=
 ⟨h.next, ⟨rfl, .inl ⟨rfl, rfl⟩⟩, apart_nil _, fun x hx => by
  have := h.oks x (by simp at hx; simp [hx])
  exact ⟨this.1, this.2.2.2.1, this.2.2.2.2, apart_nil _, apart_nil _⟩⟩
theorem apart_new {w : World} {B e size n : Nat} {u v : Value} {xs : List Value} (h : w.ownsRow B e size u n xs) (hv : ∀ g, v.ownBlock = some g → g < B) : Apart u v := by
 obtain ⟨_, ⟨rfl, _⟩ | ⟨g, cap, cur, rfl, hB, _⟩⟩ := h
 ·exact .inl rfl
 ·refine .inr fun e => ?_
  have := hv g (by rw [← e]; rfl)
  omega
theorem fv_copy {w : World} {B : Nat} {f : Fl} {mv dv : Value} (h1 : w.ownsRow B 95 3 mv f.ms.length (M f.ms)) (h2 : w.ownsRow B 98 3 dv f.ds.length (D f.ds)) : FvOk w ⟨f, mv, dv⟩ :=
 ⟨.of_own h1, .of_own h2, fun g e => own_lt h1 e, fun g e => own_lt h2 e⟩
theorem news4 (w : World) (x : Fv) : ∀ j u, (C [x])[j]? = some u → (w.alloc (.cells #[.int .i64 x.f.t, .int .i64 x.f.p, x.mv, x.dv] 90)).cell? ((⟨w.heap.size, 0, none⟩ : Addr).add j) = some u := by
 intro j u hj
 match j, hj with
 | 0, hj => simp [C] at hj; subst hj; simp [Addr.add]
 | 1, hj => simp [C] at hj; subst hj; simp [Addr.add]
 | 2, hj => simp [C] at hj; subst hj; simp [Addr.add]
 | 3, hj => simp [C] at hj; subst hj; simp [Addr.add]
theorem nx_mem (f : Fl) (out : List Fl) : ∀ k, k ≤ out.length → ∀ x ∈ (nx f out k).1, x = f ∨ x ∈ out
 | 0, _, x, hx => by simp [nx] at hx
 | k + 1, hk, x, hx => by
  have ho : out.getD k fl0 ∈ out := by
   rw [List.getD_eq_getElem?_getD, List.getElem?_eq_getElem (by omega : k < out.length)]
   exact List.getElem_mem _
  have ih := nx_mem f out k (by omega) x
  unfold nx at hx
  simp only at hx
  split at hx
  ·simp only [List.mem_append, List.mem_cons, List.not_mem_nil, or_false] at hx
   rcases hx with hx | rfl | rfl
   ·exact ih hx
   ·exact .inl rfl
   ·exact .inr ho
  ·simp only [List.mem_append, List.mem_cons, List.not_mem_nil, or_false] at hx
   rcases hx with hx | rfl
   ·exact ih hx
   ·exact .inr ho
theorem srt_mem (l : List Fl) : ∀ k, k ≤ l.length → ∀ x ∈ srt l k, x ∈ l
 | 0, _, x, hx => by simp [srt] at hx
 | k + 1, hk, x, hx => by
  have hf : l.getD k fl0 ∈ l := by
   rw [List.getD_eq_getElem?_getD, List.getElem?_eq_getElem (by omega : k < l.length)]
   exact List.getElem_mem _
  have ih := srt_mem l k (by omega) x
  have hm := nx_mem (l.getD k fl0) (srt l k) (srt l k).length (Nat.le_refl _) x
  unfold srt put1 at hx
  split at hx
  ·rcases hm hx with rfl | h
   ·exact hf
   ·exact ih h
  ·simp only [List.mem_append, List.mem_singleton] at hx
   rcases hx with hx | rfl
   ·rcases hm hx with rfl | h
    ·exact hf
    ·exact ih h
   ·exact hf
end Go.Proofs.YtncdininppehkaaGreat

namespace Go.Proofs.YtncdininppehkaaGreat
open Go.RowKit
set_option linter.unusedVariables false
set_option maxRecDepth 100000
theorem alloc_below (w : World) (o : Obj) : Below w.heap.size w (w.alloc o) := (Below.refl _ _).alloc (Nat.le_refl _) _
set_option maxHeartbeats 400000 in
theorem is_any (f v : Int) (w : World) : Calls Tryz.prog 55 #[.int .i64 f, .int .i64 v] w fun e w' => e = .returned (.agg #[.int .i64 f, .int .i64 65535, .int .i64 v]) ∧ Below w.heap.size w w' := by
 go_enter Tryz.func55, Tryz.ntmps55
 go_wp2
 refine bodyPost_ret (v := .agg #[.int .i64 f, .int .i64 65535, .int .i64 v]) ?_ rfl ⟨rfl, alloc_below _ _⟩
 simp [results, Tryz.results55, go_sem]
set_option maxHeartbeats 400000 in
theorem does_any (k a n : Int) (w : World) : Calls Tryz.prog 58 #[.int .i64 k, .int .i64 a, .int .i64 n] w fun e w' => e = .returned (.agg #[.int .i64 k, .int .i64 a, .int .i64 n]) ∧ Below w.heap.size w w' := by
 go_enter Tryz.func58, Tryz.ntmps58
 go_wp2
 refine bodyPost_ret (v := .agg #[.int .i64 k, .int .i64 a, .int .i64 n]) ?_ rfl ⟨rfl, alloc_below _ _⟩
 simp [results, Tryz.results58, go_sem]
set_option maxHeartbeats 400000 in
theorem flowOf_any (t p : Int) (ma da : Option Addr) (ml mc dl dc : Nat) (w : World) : Calls Tryz.prog 56 #[.int .i64 t, .int .i64 p, .slice ma ml mc, .slice da dl dc] w fun e w' => e = .returned (.agg #[.int .i64 t, .int .i64 p, .slice ma ml mc, .slice da dl dc]) ∧ Below w.heap.size w w' := by
 go_enter Tryz.func56, Tryz.ntmps56
 go_wp2
 refine bodyPost_ret (v := .agg #[.int .i64 t, .int .i64 p, .slice ma ml mc, .slice da dl dc]) ?_ rfl ⟨rfl, alloc_below _ _⟩
 simp [results, Tryz.results56, go_sem]
set_option maxHeartbeats 400000 in
theorem routerAt_any (n : Int) (w : World) (h0 : 0 ≤ n) (h1 : n ≤ 100000) : Calls Tryz.prog 119 #[.int .i64 n] w fun e w' => e = .returned (.int .i64 (60000 + n)) ∧ w' = w := by
 go_enter Tryz.func119, Tryz.ntmps119
 go_wp2
 go_ret
 exact ⟨by go_num, rfl⟩
theorem hi_small (b : Int) (h0 : 0 ≤ b) (h1 : b ≤ 16) : 1 ≤ (2 : Int) ^ (16 - b).toNat ∧ (2 : Int) ^ (16 - b).toNat ≤ 65536 := by
 obtain ⟨n, rfl⟩ := Int.eq_ofNat_of_zero_le h0
 have : n = 0 ∨ n = 1 ∨ n = 2 ∨ n = 3 ∨ n = 4 ∨ n = 5 ∨ n = 6 ∨ n = 7 ∨ n = 8 ∨ n = 9 ∨ n = 10 ∨ n = 11 ∨ n = 12 ∨ n = 13 ∨ n = 14 ∨ n = 15 ∨ n = 16 := by omega
 rcases this with rfl | rfl | rfl | rfl | rfl | rfl | rfl | rfl | rfl | rfl | rfl | rfl | rfl | rfl | rfl | rfl | rfl <;> decide
theorem hi_bits (b : Int) (h0 : 0 ≤ b) (h1 : b ≤ 16) : bits .andNot .i64 65535 (2 ^ (16 - b).toNat - 1) = 65536 - 2 ^ (16 - b).toNat := by
 obtain ⟨n, rfl⟩ := Int.eq_ofNat_of_zero_le h0
 have : n = 0 ∨ n = 1 ∨ n = 2 ∨ n = 3 ∨ n = 4 ∨ n = 5 ∨ n = 6 ∨ n = 7 ∨ n = 8 ∨ n = 9 ∨ n = 10 ∨ n = 11 ∨ n = 12 ∨ n = 13 ∨ n = 14 ∨ n = 15 ∨ n = 16 := by omega
 rcases this with rfl | rfl | rfl | rfl | rfl | rfl | rfl | rfl | rfl | rfl | rfl | rfl | rfl | rfl | rfl | rfl | rfl <;> decide
set_option maxHeartbeats 1000000 in
theorem highest_any (f v b : Int) (w : World) (h0 : 0 ≤ b) (h1 : b ≤ 16) : Calls Tryz.prog 158 #[.int .i64 f, .int .i64 v, .int .i64 b] w fun e w' => e = .returned (.agg #[.int .i64 f, .int .i64 (65536 - 2 ^ (16 - b).toNat), .int .i64 v]) ∧ Below w.heap.size w w' := by
 go_enter Tryz.func158, Tryz.ntmps158
 go_wp2
 have e1 : wrap64 (2 ^ (16 - b).toNat) = 2 ^ (16 - b).toNat := by
  have hx := hi_small b h0 h1
  generalize (2 : Int) ^ (16 - b).toNat = x at hx ⊢
  unfold wrap64; omega
 have e2 : wrap64 (2 ^ (16 - b).toNat - 1) = 2 ^ (16 - b).toNat - 1 := by
  have hx := hi_small b h0 h1
  generalize (2 : Int) ^ (16 - b).toNat = x at hx ⊢
  unfold wrap64; omega
 rw [e1, e2, hi_bits b h0 h1]
 refine bodyPost_ret (v := .agg #[.int .i64 f, .int .i64 (65536 - 2 ^ (16 - b).toNat), .int .i64 v]) ?_ rfl ⟨rfl, alloc_below _ _⟩
 simp [results, Tryz.results158, go_sem]
set_option maxHeartbeats 1000000 in
theorem dataMatches_any (w : World) : Calls Tryz.prog 57 #[] w fun e w' => ∃ u, e = .returned u ∧ w'.ownsRow w.heap.size 95 3 u 2 (M dataMs) ∧ Below w.heap.size w w' := by
 go_enter Tryz.func57, Tryz.ntmps57
 go_wp2_with fail
 refine (is_any _ _ _).mono ?_
 rintro e w1 ⟨rfl, hb1⟩
 go_wp2_with fail
 go_ret
 exact ⟨_, rfl, World.ownsRow_lit _ _ _ hb1.size (by decide) rfl, hb1.alloc hb1.size _⟩
end Go.Proofs.YtncdininppehkaaGreat

namespace Go.Proofs.YtncdininppehkaaGreat
open Go.RowKit
set_option linter.unusedVariables false
set_option maxRecDepth 100000
theorem filter_next {α : Type} (p : α → Bool) (d : α) {l : List α} {k : Nat} (h : k < l.length) : (l.take (k + 1)).filter p = (l.take k).filter p ++ (if p (l.getD k d) then [l.getD k d] else []) := by
 rw [List.take_succ_eq_append_getElem h, List.filter_append]
 have e : l.getD k d = l[k] := by simp [List.getD, List.getElem?_eq_getElem h]
 rw [e]
 by_cases hp : p l[k] = true
 ·simp [hp]
 ·simp [hp]
theorem news_lit (W : World) (cs : List Value) (t : TypeId) : ∀ j u, cs[j]? = some u → (W.alloc (.cells cs.toArray t)).cell? ((⟨W.heap.size, 0, none⟩ : Addr).add j) = some u := fun j u h => by
 rw [add_fl, Nat.zero_add]
 exact new_cell W _ rfl _ _ _ _ (by simpa using h)
def Entered (f : Nat) : Prop := ∀ args W, Sem.run Tryz.prog (callFunc f args) W = .ok (.enter f args) W
def PicksPr (w : World) (f : Nat) (cs : Array Value) (p : Pr → Bool) : Prop := ∀ (W : World) (x : Pr), Below w.heap.size w W → Calls Tryz.prog f (#[.agg #[.int .i64 x.i, .int .i64 x.s, .int .i64 x.m, .int .i64 x.p, .int .i64 x.c]] ++ cs) W fun e w' => e = .returned (.bool (p x)) ∧ Below W.heap.size W w'
set_option maxHeartbeats 4000000 in
theorem pickedPr_any (l : List Pr) (p : Pr → Bool) (v : Value) (f : Nat) (cs : Array Value) (w : World) (hF : PrsAt w v l) (hT : PicksPr w f cs p) (hE : Entered f) (hl : l.length ≤ 1000) :
  Calls Tryz.prog 25 #[v, .func (.func f) #[] cs] w fun e w' => ∃ u, e = .returned u ∧ w'.ownsRow w.heap.size 71 5 u (l.filter p).length ((l.filter p).flatMap prC) ∧ Below w.heap.size w w' := by
 obtain ⟨i0, hi, hz0, hz1, hz2⟩ := info_parts infoPr
 have HF := hide hF
 have HT := hide hT
 have HEN := hide hE
 obtain ⟨a, cap, rfl⟩ := hF.slice
 clear hF hT hE
 go_enter Tryz.func25, Tryz.ntmps25
 go_wp2_with fail
 go_loopw [5, 10] (fun u i wr => ∃ k : Nat, k ≤ l.length ∧ i = .int .i64 k ∧ Hid (wr.ownsRow w.heap.size 71 5 u ((l.take k).filter p).length (((l.take k).filter p).flatMap prC)) ∧ Below w.heap.size w wr) (fun _ i _ => l.length - (intOf i).toNat)
 case atStart => exact ⟨0, by omega, rfl, hide (by simpa using World.ownsRow_nil w w.heap.size 71 5), Below.refl _ _⟩
 case round =>
  obtain ⟨k, hk, rfl, HO, hbr⟩ := hrel
  by_cases hlt : k < l.length
  ·obtain ⟨b, off, cap', e1, hcap, -, g0, g1, g2, g3, g4⟩ := pr_at (RowAt.below HF.out hbr (Nat.le_refl _)) hlt
   simp only [Value.slice.injEq, true_and] at e1
   obtain ⟨rfl, rfl⟩ := e1
   have HST : Hid (∀ W : World, Below w.heap.size w W → Calls Tryz.prog f (#[.agg #[.int .i64 (l.getD k pr0).i, .int .i64 (l.getD k pr0).s, .int .i64 (l.getD k pr0).m, .int .i64 (l.getD k pr0).p, .int .i64 (l.getD k pr0).c]] ++ cs) W fun e w' => e = .returned (.bool (p (l.getD k pr0))) ∧ Below W.heap.size W w') := fun W hW => HT.out W _ hW
   have HN := hide (filter_next p pr0 hlt)
   have HC : Hid (prC (l.getD k pr0) = [.int .i64 (l.getD k pr0).i, .int .i64 (l.getD k pr0).s, .int .i64 (l.getD k pr0).m, .int .i64 (l.getD k pr0).p, .int .i64 (l.getD k pr0).c]) := rfl
   have hlen : ((l.take k).filter p).length ≤ k := Nat.le_trans (List.length_filter_le _ _) (by rw [List.length_take]; omega)
   obtain ⟨o, c, rfl⟩ := own_slc HO.out
   obtain ⟨N, hN⟩ : ∃ N, N = ((l.take k).filter p).length := ⟨_, rfl⟩
   rw [← hN] at HO hlen ⊢
   have HNN := hide hN
   clear hN
   generalize hR : p (l.getD k pr0) = R at *
   have HR := hide hR
   clear hR
   generalize (l.getD k pr0).i = y0 at *
   generalize (l.getD k pr0).s = y1 at *
   generalize (l.getD k pr0).m = y2 at *
   generalize (l.getD k pr0).p = y3 at *
   generalize (l.getD k pr0).c = y4 at *
   have q1 : (0 : Int) ≤ (k : Int) := by omega
   have q2 : (k : Int) < (l.length : Int) := by omega
   obtain ⟨W1, hW1⟩ : ∃ W1, W1 = wr.alloc (.cells #[.int .i64 y0, .int .i64 y1, .int .i64 y2, .int .i64 y3, .int .i64 y4] 71) := ⟨_, rfl⟩
   have hbW : Below wr.heap.size wr W1 := by rw [hW1]; exact alloc_below _ _
   have d0 : W1.cell? ⟨wr.heap.size, 0, none⟩ = some (.int .i64 y0) := by rw [hW1]; exact new_cell wr _ rfl _ _ _ _ rfl
   have d1 : W1.cell? ⟨wr.heap.size, 1, none⟩ = some (.int .i64 y1) := by rw [hW1]; exact new_cell wr _ rfl _ _ _ _ rfl
   have d2 : W1.cell? ⟨wr.heap.size, 2, none⟩ = some (.int .i64 y2) := by rw [hW1]; exact new_cell wr _ rfl _ _ _ _ rfl
   have d3 : W1.cell? ⟨wr.heap.size, 3, none⟩ = some (.int .i64 y3) := by rw [hW1]; exact new_cell wr _ rfl _ _ _ _ rfl
   have d4 : W1.cell? ⟨wr.heap.size, 4, none⟩ = some (.int .i64 y4) := by rw [hW1]; exact new_cell wr _ rfl _ _ _ _ rfl
   go_wp2_with fail
   rw [← hW1]
   clear hW1
   rw [unhide HEN]
   refine (unhide HST _ (hbr.trans (hbW.mono hbr.size))).mono ?_
   rintro e w1 ⟨rfl, hb1⟩
   have hb01 : Below wr.heap.size wr w1 := hbW.trans (hb1.mono hbW.size)
   have HO1 := hide (own_below HO.out hb01)
   have HB1 : Hid (Below w.heap.size w w1) := hbr.trans (hb01.mono hbr.size)
   have q3 := cell_beh d0 hb1 (Nat.le_refl _)
   have q4 := cell_beh d1 hb1 (Nat.le_refl _)
   have q5 := cell_beh d2 hb1 (Nat.le_refl _)
   have q6 := cell_beh d3 hb1 (Nat.le_refl _)
   have q7 := cell_beh d4 hb1 (Nat.le_refl _)
   have hs1 : w.heap.size ≤ w1.heap.size := HB1.out.size
   clear g0 g1 g2 g3 g4 d0 d1 d2 d3 d4 hb1 hbr HST HO hb01 hbW
   cases R
   ·have HE : Hid (w1.ownsRow w.heap.size 71 5 (.slice o N c) ((l.take (k + 1)).filter p).length (((l.take (k + 1)).filter p).flatMap prC)) := by
     refine hide ?_
     rw [HN.out, if_neg (by simp), List.append_nil]
     rw [← HNN.out]
     exact HO1.out
    go_wp2_with fail
    go_roundw
    case rel => exact ⟨k + 1, by omega, by go_num, HE, HB1.out⟩
    case measure => simp [intOf]; omega
   ·obtain ⟨W2, hW2⟩ : ∃ W2, W2 = w1.alloc (.cells #[.int .i64 y0, .int .i64 y1, .int .i64 y2, .int .i64 y3, .int .i64 y4] 71) := ⟨_, rfl⟩
    have hbW2 : Below w1.heap.size w1 W2 := by rw [hW2]; exact alloc_below _ _
    have NEWS : Hid (∀ j u, [.int .i64 y0, .int .i64 y1, .int .i64 y2, .int .i64 y3, .int .i64 y4][j]? = some u → W2.cell? ((⟨w1.heap.size, 0, none⟩ : Addr).add j) = some u) := by rw [hW2]; exact hide (news_lit w1 _ _)
    have HO2 := hide (own_below HO1.out hbW2)
    have hs2 : w.heap.size ≤ W2.heap.size := Nat.le_trans hs1 hbW2.size
    have HW2 : Hid (w1.alloc (.cells #[.int .i64 y0, .int .i64 y1, .int .i64 y2, .int .i64 y3, .int .i64 y4] 71) = W2) := hW2.symm
    clear hW2
    go_wp2_with (at_builtin; rw [unhide HW2]; refine wpList_append_own _ rfl _ _ 26 rfl w.heap.size 71 i0 _ 5 40 Tryz.underlying26 hi hz0 hz1 hz2 rfl (by decide) _ _ _ rfl (unhide HO2) ⟨w1.heap.size, 0, none⟩ 1 1 [.int .i64 y0, .int .i64 y1, .int .i64 y2, .int .i64 y3, .int .i64 y4] rfl rfl (unhide NEWS) (all_one rfl) ?a1 ?a2 ?a3 ?_)
    case a1 => unfold maxLen; omega
    case a2 => omega
    case a3 => exact hs2
    intro v3 w3 ho3 hg3 _
    have hb3 : Below w.heap.size w w3 := (HB1.out.trans (hbW2.mono hs1)).grown hg3 hs2 (own_ge HO2.out)
    have HE : Hid (w3.ownsRow w.heap.size 71 5 v3 ((l.take (k + 1)).filter p).length (((l.take (k + 1)).filter p).flatMap prC)) := by
     refine hide ?_
     rw [HN.out, if_pos trivial, List.length_append, List.flatMap_append, ← HNN.out]
     simp only [List.flatMap_cons, List.flatMap_nil, List.append_nil, HC.out, List.length_singleton]
     exact ho3
    clear ho3 hg3 HO2 NEWS HO1 HW2 hbW2 q3 q4 q5 q6 q7 HN HC
    go_wp2_with fail
    go_roundw
    case rel => exact ⟨k + 1, by omega, by go_num, HE, hb3⟩
    case measure => simp [intOf]; omega
  ·have hke : k = l.length := by omega
   have HE : Hid (wr.ownsRow w.heap.size 71 5 u5 (l.filter p).length ((l.filter p).flatMap prC)) := by
    have := HO.out
    rw [hke, List.take_length] at this
    exact hide this
   obtain ⟨o, c, rfl⟩ := own_slc HE.out
   clear HO
   have hkk : ¬ ((k : Int) < (l.length : Int)) := by omega
   go_wp2_with fail
   go_ret
   exact ⟨_, rfl, HE.out, hbr⟩
def PicksSw (w : World) (f : Nat) (cs : Array Value) (p : Sw → Bool) : Prop := ∀ (W : World) (x : Sw), Below w.heap.size w W → Calls Tryz.prog f (#[.agg #[.int .i64 x.i, .int .i64 x.t, .int .i64 x.g]] ++ cs) W fun e w' => e = .returned (.bool (p x)) ∧ Below W.heap.size W w'
set_option maxHeartbeats 4000000 in
theorem pickedSw_any (l : List Sw) (p : Sw → Bool) (v : Value) (f : Nat) (cs : Array Value) (w : World) (hF : SwsAt w v l) (hT : PicksSw w f cs p) (hE : Entered f) (hl : l.length ≤ 1000) :
  Calls Tryz.prog 29 #[v, .func (.func f) #[] cs] w fun e w' => ∃ u, e = .returned u ∧ w'.ownsRow w.heap.size 59 3 u (l.filter p).length ((l.filter p).flatMap swC) ∧ Below w.heap.size w w' := by
 obtain ⟨i0, hi, hz0, hz1, hz2⟩ := info_parts infoSw
 have HF := hide hF
 have HT := hide hT
 have HEN := hide hE
 obtain ⟨a, cap, rfl⟩ := hF.slice
 clear hF hT hE
 go_enter Tryz.func29, Tryz.ntmps29
 go_wp2_with fail
 go_loopw [5, 10] (fun u i wr => ∃ k : Nat, k ≤ l.length ∧ i = .int .i64 k ∧ Hid (wr.ownsRow w.heap.size 59 3 u ((l.take k).filter p).length (((l.take k).filter p).flatMap swC)) ∧ Below w.heap.size w wr) (fun _ i _ => l.length - (intOf i).toNat)
 case atStart => exact ⟨0, by omega, rfl, hide (by simpa using World.ownsRow_nil w w.heap.size 59 3), Below.refl _ _⟩
 case round =>
  obtain ⟨k, hk, rfl, HO, hbr⟩ := hrel
  by_cases hlt : k < l.length
  ·obtain ⟨b, off, cap', e1, hcap, -, g0, g1, g2⟩ := sw_at (RowAt.below HF.out hbr (Nat.le_refl _)) hlt
   simp only [Value.slice.injEq, true_and] at e1
   obtain ⟨rfl, rfl⟩ := e1
   have HST : Hid (∀ W : World, Below w.heap.size w W → Calls Tryz.prog f (#[.agg #[.int .i64 (l.getD k sw0).i, .int .i64 (l.getD k sw0).t, .int .i64 (l.getD k sw0).g]] ++ cs) W fun e w' => e = .returned (.bool (p (l.getD k sw0))) ∧ Below W.heap.size W w') := fun W hW => HT.out W _ hW
   have HN := hide (filter_next p sw0 hlt)
   have HC : Hid (swC (l.getD k sw0) = [.int .i64 (l.getD k sw0).i, .int .i64 (l.getD k sw0).t, .int .i64 (l.getD k sw0).g]) := rfl
   have hlen : ((l.take k).filter p).length ≤ k := Nat.le_trans (List.length_filter_le _ _) (by rw [List.length_take]; omega)
   obtain ⟨o, c, rfl⟩ := own_slc HO.out
   obtain ⟨N, hN⟩ : ∃ N, N = ((l.take k).filter p).length := ⟨_, rfl⟩
   rw [← hN] at HO hlen ⊢
   have HNN := hide hN
   clear hN
   generalize hR : p (l.getD k sw0) = R at *
   have HR := hide hR
   clear hR
   generalize (l.getD k sw0).i = y0 at *
   generalize (l.getD k sw0).t = y1 at *
   generalize (l.getD k sw0).g = y2 at *
   have q1 : (0 : Int) ≤ (k : Int) := by omega
   have q2 : (k : Int) < (l.length : Int) := by omega
   obtain ⟨W1, hW1⟩ : ∃ W1, W1 = wr.alloc (.cells #[.int .i64 y0, .int .i64 y1, .int .i64 y2] 59) := ⟨_, rfl⟩
   have hbW : Below wr.heap.size wr W1 := by rw [hW1]; exact alloc_below _ _
   have d0 : W1.cell? ⟨wr.heap.size, 0, none⟩ = some (.int .i64 y0) := by rw [hW1]; exact new_cell wr _ rfl _ _ _ _ rfl
   have d1 : W1.cell? ⟨wr.heap.size, 1, none⟩ = some (.int .i64 y1) := by rw [hW1]; exact new_cell wr _ rfl _ _ _ _ rfl
   have d2 : W1.cell? ⟨wr.heap.size, 2, none⟩ = some (.int .i64 y2) := by rw [hW1]; exact new_cell wr _ rfl _ _ _ _ rfl
   go_wp2_with fail
   rw [← hW1]
   clear hW1
   rw [unhide HEN]
   refine (unhide HST _ (hbr.trans (hbW.mono hbr.size))).mono ?_
   rintro e w1 ⟨rfl, hb1⟩
   have hb01 : Below wr.heap.size wr w1 := hbW.trans (hb1.mono hbW.size)
   have HO1 := hide (own_below HO.out hb01)
   have HB1 : Hid (Below w.heap.size w w1) := hbr.trans (hb01.mono hbr.size)
   have q3 := cell_beh d0 hb1 (Nat.le_refl _)
   have q4 := cell_beh d1 hb1 (Nat.le_refl _)
   have q5 := cell_beh d2 hb1 (Nat.le_refl _)
   have hs1 : w.heap.size ≤ w1.heap.size := HB1.out.size
   clear g0 g1 g2 d0 d1 d2 hb1 hbr HST HO hb01 hbW
   cases R
   ·have HE : Hid (w1.ownsRow w.heap.size 59 3 (.slice o N c) ((l.take (k + 1)).filter p).length (((l.take (k + 1)).filter p).flatMap swC)) := by
     refine hide ?_
     rw [HN.out, if_neg (by simp), List.append_nil]
     rw [← HNN.out]
     exact HO1.out
    go_wp2_with fail
    go_roundw
    case rel => exact ⟨k + 1, by omega, by go_num, HE, HB1.out⟩
    case measure => simp [intOf]; omega
   ·obtain ⟨W2, hW2⟩ : ∃ W2, W2 = w1.alloc (.cells #[.int .i64 y0, .int .i64 y1, .int .i64 y2] 59) := ⟨_, rfl⟩
    have hbW2 : Below w1.heap.size w1 W2 := by rw [hW2]; exact alloc_below _ _
    have NEWS : Hid (∀ j u, [.int .i64 y0, .int .i64 y1, .int .i64 y2][j]? = some u → W2.cell? ((⟨w1.heap.size, 0, none⟩ : Addr).add j) = some u) := by rw [hW2]; exact hide (news_lit w1 _ _)
    have HO2 := hide (own_below HO1.out hbW2)
    have hs2 : w.heap.size ≤ W2.heap.size := Nat.le_trans hs1 hbW2.size
    have HW2 : Hid (w1.alloc (.cells #[.int .i64 y0, .int .i64 y1, .int .i64 y2] 59) = W2) := hW2.symm
    clear hW2
    go_wp2_with (at_builtin; rw [unhide HW2]; refine wpList_append_own _ rfl _ _ 25 rfl w.heap.size 59 i0 _ 3 24 Tryz.underlying25 hi hz0 hz1 hz2 rfl (by decide) _ _ _ rfl (unhide HO2) ⟨w1.heap.size, 0, none⟩ 1 1 [.int .i64 y0, .int .i64 y1, .int .i64 y2] rfl rfl (unhide NEWS) (all_one rfl) ?a1 ?a2 ?a3 ?_)
    case a1 => unfold maxLen; omega
    case a2 => omega
    case a3 => exact hs2
    intro v3 w3 ho3 hg3 _
    have hb3 : Below w.heap.size w w3 := (HB1.out.trans (hbW2.mono hs1)).grown hg3 hs2 (own_ge HO2.out)
    have HE : Hid (w3.ownsRow w.heap.size 59 3 v3 ((l.take (k + 1)).filter p).length (((l.take (k + 1)).filter p).flatMap swC)) := by
     refine hide ?_
     rw [HN.out, if_pos trivial, List.length_append, List.flatMap_append, ← HNN.out]
     simp only [List.flatMap_cons, List.flatMap_nil, List.append_nil, HC.out, List.length_singleton]
     exact ho3
    clear ho3 hg3 HO2 NEWS HO1 HW2 hbW2 q3 q4 q5 HN HC
    go_wp2_with fail
    go_roundw
    case rel => exact ⟨k + 1, by omega, by go_num, HE, hb3⟩
    case measure => simp [intOf]; omega
  ·have hke : k = l.length := by omega
   have HE : Hid (wr.ownsRow w.heap.size 59 3 u5 (l.filter p).length ((l.filter p).flatMap swC)) := by
    have := HO.out
    rw [hke, List.take_length] at this
    exact hide this
   obtain ⟨o, c, rfl⟩ := own_slc HE.out
   clear HO
   have hkk : ¬ ((k : Int) < (l.length : Int)) := by omega
   go_wp2_with fail
   go_ret
   exact ⟨_, rfl, HE.out, hbr⟩
def PicksAc (w : World) (f : Nat) (cs : Array Value) (p : Ac → Bool) : Prop := ∀ (W : World) (x : Ac), Below w.heap.size w W → Calls Tryz.prog f (#[.agg #[.int .i64 x.s, .int .i64 x.p, .bool x.n, .int .i64 x.src, .int .i64 x.sb, .int .i64 x.dst, .int .i64 x.db, .int .i64 x.o, .bool x.d]] ++ cs) W fun e w' => e = .returned (.bool (p x)) ∧ Below W.heap.size W w'
set_option maxHeartbeats 4000000 in
theorem pickedAc_any (l : List Ac) (p : Ac → Bool) (v : Value) (f : Nat) (cs : Array Value) (w : World) (hF : AcsAt w v l) (hT : PicksAc w f cs p) (hE : Entered f) (hl : l.length ≤ 1000) :
  Calls Tryz.prog 123 #[v, .func (.func f) #[] cs] w fun e w' => ∃ u, e = .returned u ∧ w'.ownsRow w.heap.size 65 9 u (l.filter p).length ((l.filter p).flatMap acC) ∧ Below w.heap.size w w' := by
 obtain ⟨i0, hi, hz0, hz1, hz2⟩ := info_parts infoAc
 have HF := hide hF
 have HT := hide hT
 have HEN := hide hE
 obtain ⟨a, cap, rfl⟩ := hF.slice
 clear hF hT hE
 go_enter Tryz.func123, Tryz.ntmps123
 go_wp2_with fail
 go_loopw [5, 10] (fun u i wr => ∃ k : Nat, k ≤ l.length ∧ i = .int .i64 k ∧ Hid (wr.ownsRow w.heap.size 65 9 u ((l.take k).filter p).length (((l.take k).filter p).flatMap acC)) ∧ Below w.heap.size w wr) (fun _ i _ => l.length - (intOf i).toNat)
 case atStart => exact ⟨0, by omega, rfl, hide (by simpa using World.ownsRow_nil w w.heap.size 65 9), Below.refl _ _⟩
 case round =>
  obtain ⟨k, hk, rfl, HO, hbr⟩ := hrel
  by_cases hlt : k < l.length
  ·obtain ⟨b, off, cap', e1, hcap, -, g0, g1, g2, g3, g4, g5, g6, g7, g8⟩ := ac_at (RowAt.below HF.out hbr (Nat.le_refl _)) hlt
   simp only [Value.slice.injEq, true_and] at e1
   obtain ⟨rfl, rfl⟩ := e1
   have HST : Hid (∀ W : World, Below w.heap.size w W → Calls Tryz.prog f (#[.agg #[.int .i64 (l.getD k ac0).s, .int .i64 (l.getD k ac0).p, .bool (l.getD k ac0).n, .int .i64 (l.getD k ac0).src, .int .i64 (l.getD k ac0).sb, .int .i64 (l.getD k ac0).dst, .int .i64 (l.getD k ac0).db, .int .i64 (l.getD k ac0).o, .bool (l.getD k ac0).d]] ++ cs) W fun e w' => e = .returned (.bool (p (l.getD k ac0))) ∧ Below W.heap.size W w') := fun W hW => HT.out W _ hW
   have HN := hide (filter_next p ac0 hlt)
   have HC : Hid (acC (l.getD k ac0) = [.int .i64 (l.getD k ac0).s, .int .i64 (l.getD k ac0).p, .bool (l.getD k ac0).n, .int .i64 (l.getD k ac0).src, .int .i64 (l.getD k ac0).sb, .int .i64 (l.getD k ac0).dst, .int .i64 (l.getD k ac0).db, .int .i64 (l.getD k ac0).o, .bool (l.getD k ac0).d]) := rfl
   have hlen : ((l.take k).filter p).length ≤ k := Nat.le_trans (List.length_filter_le _ _) (by rw [List.length_take]; omega)
   obtain ⟨o, c, rfl⟩ := own_slc HO.out
   obtain ⟨N, hN⟩ : ∃ N, N = ((l.take k).filter p).length := ⟨_, rfl⟩
   rw [← hN] at HO hlen ⊢
   have HNN := hide hN
   clear hN
   generalize hR : p (l.getD k ac0) = R at *
   have HR := hide hR
   clear hR
   generalize (l.getD k ac0).s = y0 at *
   generalize (l.getD k ac0).p = y1 at *
   generalize (l.getD k ac0).n = y2 at *
   generalize (l.getD k ac0).src = y3 at *
   generalize (l.getD k ac0).sb = y4 at *
   generalize (l.getD k ac0).dst = y5 at *
   generalize (l.getD k ac0).db = y6 at *
   generalize (l.getD k ac0).o = y7 at *
   generalize (l.getD k ac0).d = y8 at *
   have q1 : (0 : Int) ≤ (k : Int) := by omega
   have q2 : (k : Int) < (l.length : Int) := by omega
   obtain ⟨W1, hW1⟩ : ∃ W1, W1 = wr.alloc (.cells #[.int .i64 y0, .int .i64 y1, .bool y2, .int .i64 y3, .int .i64 y4, .int .i64 y5, .int .i64 y6, .int .i64 y7, .bool y8] 65) := ⟨_, rfl⟩
   have hbW : Below wr.heap.size wr W1 := by rw [hW1]; exact alloc_below _ _
   have d0 : W1.cell? ⟨wr.heap.size, 0, none⟩ = some (.int .i64 y0) := by rw [hW1]; exact new_cell wr _ rfl _ _ _ _ rfl
   have d1 : W1.cell? ⟨wr.heap.size, 1, none⟩ = some (.int .i64 y1) := by rw [hW1]; exact new_cell wr _ rfl _ _ _ _ rfl
   have d2 : W1.cell? ⟨wr.heap.size, 2, none⟩ = some (.bool y2) := by rw [hW1]; exact new_cell wr _ rfl _ _ _ _ rfl
   have d3 : W1.cell? ⟨wr.heap.size, 3, none⟩ = some (.int .i64 y3) := by rw [hW1]; exact new_cell wr _ rfl _ _ _ _ rfl
   have d4 : W1.cell? ⟨wr.heap.size, 4, none⟩ = some (.int .i64 y4) := by rw [hW1]; exact new_cell wr _ rfl _ _ _ _ rfl
   have d5 : W1.cell? ⟨wr.heap.size, 5, none⟩ = some (.int .i64 y5) := by rw [hW1]; exact new_cell wr _ rfl _ _ _ _ rfl
   have d6 : W1.cell? ⟨wr.heap.size, 6, none⟩ = some (.int .i64 y6) := by rw [hW1]; exact new_cell wr _ rfl _ _ _ _ rfl
   have d7 : W1.cell? ⟨wr.heap.size, 7, none⟩ = some (.int .i64 y7) := by rw [hW1]; exact new_cell wr _ rfl _ _ _ _ rfl
   have d8 : W1.cell? ⟨wr.heap.size, 8, none⟩ = some (.bool y8) := by rw [hW1]; exact new_cell wr _ rfl _ _ _ _ rfl
   go_wp2_with fail
   rw [← hW1]
   clear hW1
   rw [unhide HEN]
   refine (unhide HST _ (hbr.trans (hbW.mono hbr.size))).mono ?_
   rintro e w1 ⟨rfl, hb1⟩
   have hb01 : Below wr.heap.size wr w1 := hbW.trans (hb1.mono hbW.size)
   have HO1 := hide (own_below HO.out hb01)
   have HB1 : Hid (Below w.heap.size w w1) := hbr.trans (hb01.mono hbr.size)
   have q3 := cell_beh d0 hb1 (Nat.le_refl _)
   have q4 := cell_beh d1 hb1 (Nat.le_refl _)
   have q5 := cell_beh d2 hb1 (Nat.le_refl _)
   have q6 := cell_beh d3 hb1 (Nat.le_refl _)
   have q7 := cell_beh d4 hb1 (Nat.le_refl _)
   have q8 := cell_beh d5 hb1 (Nat.le_refl _)
   have q9 := cell_beh d6 hb1 (Nat.le_refl _)
   have q10 := cell_beh d7 hb1 (Nat.le_refl _)
   have q11 := cell_beh d8 hb1 (Nat.le_refl _)
   have hs1 : w.heap.size ≤ w1.heap.size := HB1.out.size
   clear g0 g1 g2 g3 g4 g5 g6 g7 g8 d0 d1 d2 d3 d4 d5 d6 d7 d8 hb1 hbr HST HO hb01 hbW
   cases R
   ·have HE : Hid (w1.ownsRow w.heap.size 65 9 (.slice o N c) ((l.take (k + 1)).filter p).length (((l.take (k + 1)).filter p).flatMap acC)) := by
     refine hide ?_
     rw [HN.out, if_neg (by simp), List.append_nil]
     rw [← HNN.out]
     exact HO1.out
    go_wp2_with fail
    go_roundw
    case rel => exact ⟨k + 1, by omega, by go_num, HE, HB1.out⟩
    case measure => simp [intOf]; omega
   ·obtain ⟨W2, hW2⟩ : ∃ W2, W2 = w1.alloc (.cells #[.int .i64 y0, .int .i64 y1, .bool y2, .int .i64 y3, .int .i64 y4, .int .i64 y5, .int .i64 y6, .int .i64 y7, .bool y8] 65) := ⟨_, rfl⟩
    have hbW2 : Below w1.heap.size w1 W2 := by rw [hW2]; exact alloc_below _ _
    have NEWS : Hid (∀ j u, [.int .i64 y0, .int .i64 y1, .bool y2, .int .i64 y3, .int .i64 y4, .int .i64 y5, .int .i64 y6, .int .i64 y7, .bool y8][j]? = some u → W2.cell? ((⟨w1.heap.size, 0, none⟩ : Addr).add j) = some u) := by rw [hW2]; exact hide (news_lit w1 _ _)
    have HO2 := hide (own_below HO1.out hbW2)
    have hs2 : w.heap.size ≤ W2.heap.size := Nat.le_trans hs1 hbW2.size
    have HW2 : Hid (w1.alloc (.cells #[.int .i64 y0, .int .i64 y1, .bool y2, .int .i64 y3, .int .i64 y4, .int .i64 y5, .int .i64 y6, .int .i64 y7, .bool y8] 65) = W2) := hW2.symm
    clear hW2
    go_wp2_with (at_builtin; rw [unhide HW2]; refine wpList_append_own _ rfl _ _ 27 rfl w.heap.size 65 i0 _ 9 72 Tryz.underlying27 hi hz0 hz1 hz2 rfl (by decide) _ _ _ rfl (unhide HO2) ⟨w1.heap.size, 0, none⟩ 1 1 [.int .i64 y0, .int .i64 y1, .bool y2, .int .i64 y3, .int .i64 y4, .int .i64 y5, .int .i64 y6, .int .i64 y7, .bool y8] rfl rfl (unhide NEWS) (all_one rfl) ?a1 ?a2 ?a3 ?_)
    case a1 => unfold maxLen; omega
    case a2 => omega
    case a3 => exact hs2
    intro v3 w3 ho3 hg3 _
    have hb3 : Below w.heap.size w w3 := (HB1.out.trans (hbW2.mono hs1)).grown hg3 hs2 (own_ge HO2.out)
    have HE : Hid (w3.ownsRow w.heap.size 65 9 v3 ((l.take (k + 1)).filter p).length (((l.take (k + 1)).filter p).flatMap acC)) := by
     refine hide ?_
     rw [HN.out, if_pos trivial, List.length_append, List.flatMap_append, ← HNN.out]
     simp only [List.flatMap_cons, List.flatMap_nil, List.append_nil, HC.out, List.length_singleton]
     exact ho3
    clear ho3 hg3 HO2 NEWS HO1 HW2 hbW2 q3 q4 q5 q6 q7 q8 q9 q10 q11 HN HC
    go_wp2_with fail
    go_roundw
    case rel => exact ⟨k + 1, by omega, by go_num, HE, hb3⟩
    case measure => simp [intOf]; omega
  ·have hke : k = l.length := by omega
   have HE : Hid (wr.ownsRow w.heap.size 65 9 u5 (l.filter p).length ((l.filter p).flatMap acC)) := by
    have := HO.out
    rw [hke, List.take_length] at this
    exact hide this
   obtain ⟨o, c, rfl⟩ := own_slc HE.out
   clear HO
   have hkk : ¬ ((k : Int) < (l.length : Int)) := by omega
   go_wp2_with fail
   go_ret
   exact ⟨_, rfl, HE.out, hbr⟩
end Go.Proofs.YtncdininppehkaaGreat

namespace Go.Proofs.YtncdininppehkaaGreat
open Go.RowKit
set_option linter.unusedVariables false
set_option maxRecDepth 100000
theorem alloc_step {K : Act → World → Prop} {a : Act} {cur : World} {o : Obj} (h : ∀ V g, V = cur.alloc o → g = cur.heap.size → K a V) : K a (cur.alloc o) := h _ _ rfl rfl
set_option maxHeartbeats 4000000 in
theorem bareMatches_any (k : Int) (w : World) : Calls Tryz.prog 59 #[.int .i64 k] w fun e w' => ∃ u, e = .returned u ∧ w'.ownsRow w.heap.size 95 3 u 3 (M (bareMs k)) ∧ Below w.heap.size w w' := by
 have HB : Below w.heap.size w w := Below.refl _ _
 go_enter Tryz.func59, Tryz.ntmps59
 go_wp2_with fail
 refine (is_any _ _ _).mono ?_
 rintro e V0 ⟨rfl, hb⟩
 replace HB := tm HB hb
 clear hb
 go_wp2_with fail
 refine (is_any _ _ _).mono ?_
 rintro e V1 ⟨rfl, hb⟩
 replace HB := tm HB hb
 clear hb
 go_wp2_with fail
 refine (is_any _ _ _).mono ?_
 rintro e V2 ⟨rfl, hb⟩
 replace HB := tm HB hb
 clear hb
 go_wp2_with fail
 go_ret
 exact ⟨_, rfl, World.ownsRow_lit _ _ 3 HB.size (by decide) rfl, HB.alloc HB.size _⟩
set_option maxHeartbeats 4000000 in
theorem answerDoes_any (ip mac ch : Int) (w : World) : Calls Tryz.prog 118 #[.int .i64 ip, .int .i64 mac, .int .i64 ch] w fun e w' => ∃ u, e = .returned u ∧ w'.ownsRow w.heap.size 98 3 u 7 (D (answerD ip mac ch)) ∧ Below w.heap.size w w' := by
 have HB : Below w.heap.size w w := Below.refl _ _
 go_enter Tryz.func118, Tryz.ntmps118
 go_wp2_with fail
 refine (does_any _ _ _ _).mono ?_
 rintro e V0 ⟨rfl, hb⟩
 replace HB := tm HB hb
 clear hb
 go_wp2_with fail
 refine (does_any _ _ _ _).mono ?_
 rintro e V1 ⟨rfl, hb⟩
 replace HB := tm HB hb
 clear hb
 go_wp2_with fail
 refine (does_any _ _ _ _).mono ?_
 rintro e V2 ⟨rfl, hb⟩
 replace HB := tm HB hb
 clear hb
 go_wp2_with fail
 refine (does_any _ _ _ _).mono ?_
 rintro e V3 ⟨rfl, hb⟩
 replace HB := tm HB hb
 clear hb
 go_wp2_with fail
 refine (does_any _ _ _ _).mono ?_
 rintro e V4 ⟨rfl, hb⟩
 replace HB := tm HB hb
 clear hb
 go_wp2_with fail
 refine (does_any _ _ _ _).mono ?_
 rintro e V5 ⟨rfl, hb⟩
 replace HB := tm HB hb
 clear hb
 go_wp2_with fail
 refine (does_any _ _ _ _).mono ?_
 rintro e V6 ⟨rfl, hb⟩
 replace HB := tm HB hb
 clear hb
 go_wp2_with fail
 go_ret
 exact ⟨_, rfl, World.ownsRow_lit _ _ 7 HB.size (by decide) rfl, HB.alloc HB.size _⟩
set_option maxHeartbeats 4000000 in
theorem toPort_any (i s m p c : Int) (w : World) : Calls Tryz.prog 115 #[.agg #[.int .i64 i, .int .i64 s, .int .i64 m, .int .i64 p, .int .i64 c]] w fun e w' => ∃ u, e = .returned u ∧ w'.ownsRow w.heap.size 98 3 u 2 (D (toPortD ⟨i, s, m, p, c⟩)) ∧ Below w.heap.size w w' := by
 go_enter Tryz.func115, Tryz.ntmps115
 go_wp2_with fail
 obtain ⟨W, hW⟩ : ∃ W, W = w.alloc (.cells #[.int .i64 i, .int .i64 s, .int .i64 m, .int .i64 p, .int .i64 c] 71) := ⟨_, rfl⟩
 rw [← hW]
 have k0 : W.cell? ⟨w.heap.size, 0, none⟩ = some (.int .i64 i) := by rw [hW]; exact new_cell w _ rfl _ _ _ _ rfl
 have k1 : W.cell? ⟨w.heap.size, 1, none⟩ = some (.int .i64 s) := by rw [hW]; exact new_cell w _ rfl _ _ _ _ rfl
 have k2 : W.cell? ⟨w.heap.size, 2, none⟩ = some (.int .i64 m) := by rw [hW]; exact new_cell w _ rfl _ _ _ _ rfl
 have k3 : W.cell? ⟨w.heap.size, 3, none⟩ = some (.int .i64 p) := by rw [hW]; exact new_cell w _ rfl _ _ _ _ rfl
 have k4 : W.cell? ⟨w.heap.size, 4, none⟩ = some (.int .i64 c) := by rw [hW]; exact new_cell w _ rfl _ _ _ _ rfl
 have HB : Below w.heap.size w W := by rw [hW]; exact alloc_below _ _
 clear hW
 refine wp_region_held_drew (S := (fun w' => w'.cell? ⟨w.heap.size, 0, none⟩ = some (.int .i64 i) ∧ w'.cell? ⟨w.heap.size, 1, none⟩ = some (.int .i64 s) ∧ w'.cell? ⟨w.heap.size, 2, none⟩ = some (.int .i64 m) ∧ w'.cell? ⟨w.heap.size, 3, none⟩ = some (.int .i64 p) ∧ w'.cell? ⟨w.heap.size, 4, none⟩ = some (.int .i64 c))) (by kernel_rfl) ⟨k0, k1, k2, k3, k4⟩ (fun hHeld => ?_)
 have HDW : Below W.heap.size W W.drew := (Below.refl _ _).drew
 replace k0 := cb k0 HDW
 replace k1 := cb k1 HDW
 replace k2 := cb k2 HDW
 replace k3 := cb k3 HDW
 replace k4 := cb k4 HDW
 replace HB := tm HB HDW
 clear HDW
 generalize W.drew = V1 at *
 refine tk (i := 0) (d := 3) rfl (by kernel_rfl) (fun _ _ _ h => h) rfl ‹_› (by intro w h; (try dsimp only at h); go_simp <;> with_reducible rfl) ?_
 simp only [nz]
 refine tk (i := 1) (d := 4) rfl (by kernel_rfl) (fun _ _ _ h => h) rfl ‹_› (by intro w h; (try dsimp only at h); go_simp <;> with_reducible rfl) ?_
 simp only [nz]
 refine tk (i := 3) (d := 6) rfl (by kernel_rfl) (fun _ _ _ h => h) rfl ‹_› (by intro w h; (try dsimp only at h); go_simp <;> with_reducible rfl) ?_
 simp only [nz]
 refine tk (i := 4) (d := 7) rfl (by kernel_rfl) (fun _ _ _ h => h) rfl ‹_› (by intro w h; (try dsimp only at h); go_simp <;> with_reducible rfl) ?_
 simp only [nz]
 refine rd (i := 2) (o := ⟨some 5, _, _, _, _, _⟩) (by kernel_rfl) rfl (fun K hK => ?_)
 go_simp
 clear hHeld
 refine (does_any _ _ _ _).mono ?_
 rintro e V2 ⟨rfl, hb2⟩
 replace k0 := cb k0 hb2
 replace k1 := cb k1 hb2
 replace k2 := cb k2 hb2
 replace k3 := cb k3 hb2
 replace k4 := cb k4 hb2
 replace HB := tm HB hb2
 clear hb2
 refine hK.out _ _ ⟨k0, k1, k2, k3, k4⟩ (fun hHeld => ?_)
 clear hK K
 (try simp only [nz])
 refine rd (i := 5) (o := ⟨some 8, _, _, _, _, _⟩) (by kernel_rfl) rfl (fun K hK => ?_)
 go_simp
 clear hHeld
 refine (does_any _ _ _ _).mono ?_
 rintro e V3 ⟨rfl, hb3⟩
 replace k0 := cb k0 hb3
 replace k1 := cb k1 hb3
 replace k2 := cb k2 hb3
 replace k3 := cb k3 hb3
 replace k4 := cb k4 hb3
 replace HB := tm HB hb3
 clear hb3
 refine hK.out _ _ ⟨k0, k1, k2, k3, k4⟩ (fun hHeld => ?_)
 clear hK K
 (try simp only [nz])
 refine rd (i := 6) (o := ⟨some 9, _, _, _, _, _⟩) (by kernel_rfl) rfl (fun K hK => ?_)
 go_simp
 clear hHeld
 refine alloc_step (fun V4 g4 hV hg => ?_)
 rw [← hg]
 have hbN := bn hV
 have HO : Hid (V4.ownsRow w.heap.size 98 3 (.slice (some ⟨g4, 0, none⟩) 2 2) 2 (D (toPortD ⟨i, s, m, p, c⟩))) := by rw [hV, hg]; exact hide (World.ownsRow_lit V3 _ 2 HB.size (by decide) rfl)
 replace k0 := cb k0 hbN
 replace k1 := cb k1 hbN
 replace k2 := cb k2 hbN
 replace k3 := cb k3 hbN
 replace k4 := cb k4 hbN
 replace HB := tm HB hbN
 clear hV hg hbN
 refine hK.out _ _ ⟨k0, k1, k2, k3, k4⟩ (fun hHeld => ?_)
 clear hK K
 (try simp only [nz])
 refine tk (i := 7) (d := 2) rfl (by kernel_rfl) (fun _ _ _ h => h) rfl ‹_› (by intro w h; (try dsimp only at h); go_simp <;> with_reducible rfl) ?_
 simp only [nz]
 refine wpAnyH_done (by kernel_rfl) ?_ _
 clear hHeld
 go_wp2_with fail
 go_ret
 exact ⟨_, rfl, HO.out, HB⟩
set_option maxHeartbeats 4000000 in
theorem routeDoes_any (i s m p c : Int) (w : World) (h0 : 0 ≤ s) (h1 : s ≤ 100000) : Calls Tryz.prog 127 #[.agg #[.int .i64 i, .int .i64 s, .int .i64 m, .int .i64 p, .int .i64 c]] w fun e w' => ∃ u, e = .returned u ∧ w'.ownsRow w.heap.size 98 3 u 4 (D (routeD ⟨i, s, m, p, c⟩)) ∧ Below w.heap.size w w' := by
 go_enter Tryz.func127, Tryz.ntmps127
 go_wp2_with fail
 obtain ⟨W, hW⟩ : ∃ W, W = w.alloc (.cells #[.int .i64 i, .int .i64 s, .int .i64 m, .int .i64 p, .int .i64 c] 71) := ⟨_, rfl⟩
 rw [← hW]
 have k0 : W.cell? ⟨w.heap.size, 0, none⟩ = some (.int .i64 i) := by rw [hW]; exact new_cell w _ rfl _ _ _ _ rfl
 have k1 : W.cell? ⟨w.heap.size, 1, none⟩ = some (.int .i64 s) := by rw [hW]; exact new_cell w _ rfl _ _ _ _ rfl
 have k2 : W.cell? ⟨w.heap.size, 2, none⟩ = some (.int .i64 m) := by rw [hW]; exact new_cell w _ rfl _ _ _ _ rfl
 have k3 : W.cell? ⟨w.heap.size, 3, none⟩ = some (.int .i64 p) := by rw [hW]; exact new_cell w _ rfl _ _ _ _ rfl
 have k4 : W.cell? ⟨w.heap.size, 4, none⟩ = some (.int .i64 c) := by rw [hW]; exact new_cell w _ rfl _ _ _ _ rfl
 have HB : Below w.heap.size w W := by rw [hW]; exact alloc_below _ _
 clear hW
 refine wp_region_held_drew (S := (fun w' => w'.cell? ⟨w.heap.size, 0, none⟩ = some (.int .i64 i) ∧ w'.cell? ⟨w.heap.size, 1, none⟩ = some (.int .i64 s) ∧ w'.cell? ⟨w.heap.size, 2, none⟩ = some (.int .i64 m) ∧ w'.cell? ⟨w.heap.size, 3, none⟩ = some (.int .i64 p) ∧ w'.cell? ⟨w.heap.size, 4, none⟩ = some (.int .i64 c))) (by kernel_rfl) ⟨k0, k1, k2, k3, k4⟩ (fun hHeld => ?_)
 have HDW : Below W.heap.size W W.drew := (Below.refl _ _).drew
 replace k0 := cb k0 HDW
 replace k1 := cb k1 HDW
 replace k2 := cb k2 HDW
 replace k3 := cb k3 HDW
 replace k4 := cb k4 HDW
 replace HB := tm HB HDW
 clear HDW
 generalize W.drew = V1 at *
 refine tk (i := 0) (d := 3) rfl (by kernel_rfl) (fun _ _ _ h => h) rfl ‹_› (by intro w h; (try dsimp only at h); go_simp <;> with_reducible rfl) ?_
 simp only [nz]
 refine tk (i := 1) (d := 4) rfl (by kernel_rfl) (fun _ _ _ h => h) rfl ‹_› (by intro w h; (try dsimp only at h); go_simp <;> with_reducible rfl) ?_
 simp only [nz]
 refine tk (i := 3) (d := 6) rfl (by kernel_rfl) (fun _ _ _ h => h) rfl ‹_› (by intro w h; (try dsimp only at h); go_simp <;> with_reducible rfl) ?_
 simp only [nz]
 refine tk (i := 4) (d := 7) rfl (by kernel_rfl) (fun _ _ _ h => h) rfl ‹_› (by intro w h; (try dsimp only at h); go_simp <;> with_reducible rfl) ?_
 simp only [nz]
 refine tk (i := 8) (d := 11) rfl (by kernel_rfl) (fun _ _ _ h => h) rfl ‹_› (by intro w h; (try dsimp only at h); go_simp <;> with_reducible rfl) ?_
 simp only [nz]
 refine tk (i := 9) (d := 12) rfl (by kernel_rfl) (fun _ _ _ h => h) rfl ‹_› (by intro w h; (try dsimp only at h); go_simp <;> with_reducible rfl) ?_
 simp only [nz]
 refine rd (i := 2) (o := ⟨some 5, _, _, _, _, _⟩) (by kernel_rfl) rfl (fun K hK => ?_)
 go_simp
 clear hHeld
 refine (does_any _ _ _ _).mono ?_
 rintro e V2 ⟨rfl, hb2⟩
 replace k0 := cb k0 hb2
 replace k1 := cb k1 hb2
 replace k2 := cb k2 hb2
 replace k3 := cb k3 hb2
 replace k4 := cb k4 hb2
 replace HB := tm HB hb2
 clear hb2
 refine hK.out _ _ ⟨k0, k1, k2, k3, k4⟩ (fun hHeld => ?_)
 clear hK K
 (try simp only [nz])
 refine rd (i := 5) (o := ⟨some 8, _, _, _, _, _⟩) (by kernel_rfl) rfl (fun K hK => ?_)
 go_simp
 clear hHeld
 refine (routerAt_any _ _ (by assumption) (by assumption)).mono ?_
 rintro e V3 ⟨rfl, hVV⟩
 rw [hVV]
 clear hVV
 refine hK.out _ _ ⟨k0, k1, k2, k3, k4⟩ (fun hHeld => ?_)
 clear hK K
 (try simp only [nz])
 refine rd (i := 6) (o := ⟨some 9, _, _, _, _, _⟩) (by kernel_rfl) rfl (fun K hK => ?_)
 go_simp
 clear hHeld
 refine (does_any _ _ _ _).mono ?_
 rintro e V4 ⟨rfl, hb4⟩
 replace k0 := cb k0 hb4
 replace k1 := cb k1 hb4
 replace k2 := cb k2 hb4
 replace k3 := cb k3 hb4
 replace k4 := cb k4 hb4
 replace HB := tm HB hb4
 clear hb4
 refine hK.out _ _ ⟨k0, k1, k2, k3, k4⟩ (fun hHeld => ?_)
 clear hK K
 (try simp only [nz])
 refine rd (i := 7) (o := ⟨some 10, _, _, _, _, _⟩) (by kernel_rfl) rfl (fun K hK => ?_)
 go_simp
 clear hHeld
 refine (does_any _ _ _ _).mono ?_
 rintro e V5 ⟨rfl, hb5⟩
 replace k0 := cb k0 hb5
 replace k1 := cb k1 hb5
 replace k2 := cb k2 hb5
 replace k3 := cb k3 hb5
 replace k4 := cb k4 hb5
 replace HB := tm HB hb5
 clear hb5
 refine hK.out _ _ ⟨k0, k1, k2, k3, k4⟩ (fun hHeld => ?_)
 clear hK K
 (try simp only [nz])
 refine rd (i := 10) (o := ⟨some 13, _, _, _, _, _⟩) (by kernel_rfl) rfl (fun K hK => ?_)
 go_simp
 clear hHeld
 refine (does_any _ _ _ _).mono ?_
 rintro e V6 ⟨rfl, hb6⟩
 replace k0 := cb k0 hb6
 replace k1 := cb k1 hb6
 replace k2 := cb k2 hb6
 replace k3 := cb k3 hb6
 replace k4 := cb k4 hb6
 replace HB := tm HB hb6
 clear hb6
 refine hK.out _ _ ⟨k0, k1, k2, k3, k4⟩ (fun hHeld => ?_)
 clear hK K
 (try simp only [nz])
 refine rd (i := 11) (o := ⟨some 14, _, _, _, _, _⟩) (by kernel_rfl) rfl (fun K hK => ?_)
 go_simp
 clear hHeld
 refine alloc_step (fun V7 g7 hV hg => ?_)
 rw [← hg]
 have hbN := bn hV
 have HO : Hid (V7.ownsRow w.heap.size 98 3 (.slice (some ⟨g7, 0, none⟩) 4 4) 4 (D (routeD ⟨i, s, m, p, c⟩))) := by rw [hV, hg]; exact hide (World.ownsRow_lit V6 _ 4 HB.size (by decide) rfl)
 replace k0 := cb k0 hbN
 replace k1 := cb k1 hbN
 replace k2 := cb k2 hbN
 replace k3 := cb k3 hbN
 replace k4 := cb k4 hbN
 replace HB := tm HB hbN
 clear hV hg hbN
 refine hK.out _ _ ⟨k0, k1, k2, k3, k4⟩ (fun hHeld => ?_)
 clear hK K
 (try simp only [nz])
 refine tk (i := 12) (d := 2) rfl (by kernel_rfl) (fun _ _ _ h => h) rfl ‹_› (by intro w h; (try dsimp only at h); go_simp <;> with_reducible rfl) ?_
 simp only [nz]
 refine wpAnyH_done (by kernel_rfl) ?_ _
 clear hHeld
 go_wp2_with fail
 go_ret
 exact ⟨_, rfl, HO.out, HB⟩
set_option maxHeartbeats 4000000 in
theorem sentMatches_any (i s m p c : Int) (w : World) : Calls Tryz.prog 61 #[.agg #[.int .i64 i, .int .i64 s, .int .i64 m, .int .i64 p, .int .i64 c]] w fun e w' => ∃ u, e = .returned u ∧ w'.ownsRow w.heap.size 95 3 u 5 (M (sentMs ⟨i, s, m, p, c⟩)) ∧ Below w.heap.size w w' := by
 go_enter Tryz.func61, Tryz.ntmps61
 go_wp2_with fail
 obtain ⟨W, hW⟩ : ∃ W, W = w.alloc (.cells #[.int .i64 i, .int .i64 s, .int .i64 m, .int .i64 p, .int .i64 c] 71) := ⟨_, rfl⟩
 rw [← hW]
 have k0 : W.cell? ⟨w.heap.size, 0, none⟩ = some (.int .i64 i) := by rw [hW]; exact new_cell w _ rfl _ _ _ _ rfl
 have k1 : W.cell? ⟨w.heap.size, 1, none⟩ = some (.int .i64 s) := by rw [hW]; exact new_cell w _ rfl _ _ _ _ rfl
 have k2 : W.cell? ⟨w.heap.size, 2, none⟩ = some (.int .i64 m) := by rw [hW]; exact new_cell w _ rfl _ _ _ _ rfl
 have k3 : W.cell? ⟨w.heap.size, 3, none⟩ = some (.int .i64 p) := by rw [hW]; exact new_cell w _ rfl _ _ _ _ rfl
 have k4 : W.cell? ⟨w.heap.size, 4, none⟩ = some (.int .i64 c) := by rw [hW]; exact new_cell w _ rfl _ _ _ _ rfl
 have HB : Below w.heap.size w W := by rw [hW]; exact alloc_below _ _
 clear hW
 refine wp_region_held_drew (S := (fun w' => w'.cell? ⟨w.heap.size, 0, none⟩ = some (.int .i64 i) ∧ w'.cell? ⟨w.heap.size, 1, none⟩ = some (.int .i64 s) ∧ w'.cell? ⟨w.heap.size, 2, none⟩ = some (.int .i64 m) ∧ w'.cell? ⟨w.heap.size, 3, none⟩ = some (.int .i64 p) ∧ w'.cell? ⟨w.heap.size, 4, none⟩ = some (.int .i64 c))) (by kernel_rfl) ⟨k0, k1, k2, k3, k4⟩ (fun hHeld => ?_)
 have HDW : Below W.heap.size W W.drew := (Below.refl _ _).drew
 replace k0 := cb k0 HDW
 replace k1 := cb k1 HDW
 replace k2 := cb k2 HDW
 replace k3 := cb k3 HDW
 replace k4 := cb k4 HDW
 replace HB := tm HB HDW
 clear HDW
 generalize W.drew = V1 at *
 refine tk (i := 0) (d := 3) rfl (by kernel_rfl) (fun _ _ _ h => h) rfl ‹_› (by intro w h; (try dsimp only at h); go_simp <;> with_reducible rfl) ?_
 simp only [nz]
 refine tk (i := 1) (d := 4) rfl (by kernel_rfl) (fun _ _ _ h => h) rfl ‹_› (by intro w h; (try dsimp only at h); go_simp <;> with_reducible rfl) ?_
 simp only [nz]
 refine tk (i := 5) (d := 8) rfl (by kernel_rfl) (fun _ _ _ h => h) rfl ‹_› (by intro w h; (try dsimp only at h); go_simp <;> with_reducible rfl) ?_
 simp only [nz]
 refine tk (i := 6) (d := 9) rfl (by kernel_rfl) (fun _ _ _ h => h) rfl ‹_› (by intro w h; (try dsimp only at h); go_simp <;> with_reducible rfl) ?_
 simp only [nz]
 refine tk (i := 8) (d := 11) rfl (by kernel_rfl) (fun _ _ _ h => h) rfl ‹_› (by intro w h; (try dsimp only at h); go_simp <;> with_reducible rfl) ?_
 simp only [nz]
 refine tk (i := 9) (d := 12) rfl (by kernel_rfl) (fun _ _ _ h => h) rfl ‹_› (by intro w h; (try dsimp only at h); go_simp <;> with_reducible rfl) ?_
 simp only [nz]
 refine rd (i := 2) (o := ⟨some 5, _, _, _, _, _⟩) (by kernel_rfl) rfl (fun K hK => ?_)
 go_simp
 clear hHeld
 refine (is_any _ _ _).mono ?_
 rintro e V2 ⟨rfl, hb2⟩
 replace k0 := cb k0 hb2
 replace k1 := cb k1 hb2
 replace k2 := cb k2 hb2
 replace k3 := cb k3 hb2
 replace k4 := cb k4 hb2
 replace HB := tm HB hb2
 clear hb2
 refine hK.out _ _ ⟨k0, k1, k2, k3, k4⟩ (fun hHeld => ?_)
 clear hK K
 (try simp only [nz])
 refine rd (i := 3) (o := ⟨some 6, _, _, _, _, _⟩) (by kernel_rfl) rfl (fun K hK => ?_)
 go_simp
 clear hHeld
 refine (is_any _ _ _).mono ?_
 rintro e V3 ⟨rfl, hb3⟩
 replace k0 := cb k0 hb3
 replace k1 := cb k1 hb3
 replace k2 := cb k2 hb3
 replace k3 := cb k3 hb3
 replace k4 := cb k4 hb3
 replace HB := tm HB hb3
 clear hb3
 refine hK.out _ _ ⟨k0, k1, k2, k3, k4⟩ (fun hHeld => ?_)
 clear hK K
 (try simp only [nz])
 refine rd (i := 4) (o := ⟨some 7, _, _, _, _, _⟩) (by kernel_rfl) rfl (fun K hK => ?_)
 go_simp
 clear hHeld
 refine (is_any _ _ _).mono ?_
 rintro e V4 ⟨rfl, hb4⟩
 replace k0 := cb k0 hb4
 replace k1 := cb k1 hb4
 replace k2 := cb k2 hb4
 replace k3 := cb k3 hb4
 replace k4 := cb k4 hb4
 replace HB := tm HB hb4
 clear hb4
 refine hK.out _ _ ⟨k0, k1, k2, k3, k4⟩ (fun hHeld => ?_)
 clear hK K
 (try simp only [nz])
 refine rd (i := 7) (o := ⟨some 10, _, _, _, _, _⟩) (by kernel_rfl) rfl (fun K hK => ?_)
 go_simp
 clear hHeld
 refine (is_any _ _ _).mono ?_
 rintro e V5 ⟨rfl, hb5⟩
 replace k0 := cb k0 hb5
 replace k1 := cb k1 hb5
 replace k2 := cb k2 hb5
 replace k3 := cb k3 hb5
 replace k4 := cb k4 hb5
 replace HB := tm HB hb5
 clear hb5
 refine hK.out _ _ ⟨k0, k1, k2, k3, k4⟩ (fun hHeld => ?_)
 clear hK K
 (try simp only [nz])
 refine rd (i := 10) (o := ⟨some 13, _, _, _, _, _⟩) (by kernel_rfl) rfl (fun K hK => ?_)
 go_simp
 clear hHeld
 refine (is_any _ _ _).mono ?_
 rintro e V6 ⟨rfl, hb6⟩
 replace k0 := cb k0 hb6
 replace k1 := cb k1 hb6
 replace k2 := cb k2 hb6
 replace k3 := cb k3 hb6
 replace k4 := cb k4 hb6
 replace HB := tm HB hb6
 clear hb6
 refine hK.out _ _ ⟨k0, k1, k2, k3, k4⟩ (fun hHeld => ?_)
 clear hK K
 (try simp only [nz])
 refine rd (i := 11) (o := ⟨some 14, _, _, _, _, _⟩) (by kernel_rfl) rfl (fun K hK => ?_)
 go_simp
 clear hHeld
 refine alloc_step (fun V7 g7 hV hg => ?_)
 rw [← hg]
 have hbN := bn hV
 have HO : Hid (V7.ownsRow w.heap.size 95 3 (.slice (some ⟨g7, 0, none⟩) 5 5) 5 (M (sentMs ⟨i, s, m, p, c⟩))) := by rw [hV, hg]; exact hide (World.ownsRow_lit V6 _ 5 HB.size (by decide) rfl)
 replace k0 := cb k0 hbN
 replace k1 := cb k1 hbN
 replace k2 := cb k2 hbN
 replace k3 := cb k3 hbN
 replace k4 := cb k4 hbN
 replace HB := tm HB hbN
 clear hV hg hbN
 refine hK.out _ _ ⟨k0, k1, k2, k3, k4⟩ (fun hHeld => ?_)
 clear hK K
 (try simp only [nz])
 refine tk (i := 12) (d := 2) rfl (by kernel_rfl) (fun _ _ _ h => h) rfl ‹_› (by intro w h; (try dsimp only at h); go_simp <;> with_reducible rfl) ?_
 simp only [nz]
 refine wpAnyH_done (by kernel_rfl) ?_ _
 clear hHeld
 go_wp2_with fail
 go_ret
 exact ⟨_, rfl, HO.out, HB⟩
end Go.Proofs.YtncdininppehkaaGreat

namespace Go.Proofs.YtncdininppehkaaGreat
open Go.RowKit
set_option linter.unusedVariables false
set_option maxRecDepth 100000
def SrcAt (w : World) (sz : Nat) (u : Value) (n : Nat) (xs : List Value) : Prop := (u = .slice none 0 0 ∧ n = 0 ∧ xs = []) ∨ ∃ ad c, u = .slice (some ad) n c ∧ xs.length = n * sz ∧ (∀ j v, xs[j]? = some v → w.cell? (ad.add j) = some v) ∧ ∀ v ∈ xs, v.oneCell' = true
theorem SrcAt.below {w w' : World} {sz n : Nat} {u : Value} {xs : List Value} (h : SrcAt w sz u n xs) (hb : Below w.heap.size w w') : SrcAt w' sz u n xs := by
 rcases h with h | ⟨ad, c, rfl, hl, hc, h1⟩
 ·exact .inl h
 ·refine .inr ⟨ad, c, rfl, hl, fun j v hj => ?_, h1⟩
  have h := hc j v hj
  have hsp : (ad.add j).spot = none := World.cell?_spot h
  rcases hq : ad.add j with ⟨bb, oo, ss⟩
  rw [hq] at h hsp
  simp only at hsp
  subst hsp
  exact cell_beh h hb (Nat.le_refl _)
theorem SrcAt.below' {w w' : World} {sz n : Nat} {u : Value} {xs : List Value} (h : SrcAt w sz u n xs) (hb : Below w.heap.size w w') : SrcAt w' sz u n xs := h.below hb
theorem size_zeroCells (cs : Array Value) (n : Nat) : (Builtin.zeroCells cs n).size = n * cs.size := by
 unfold Builtin.zeroCells
 simp
theorem SrcAt.of_own {w : World} {B e sz n : Nat} {u : Value} {xs : List Value} (h : w.ownsRow B e sz u n xs) (h1 : ∀ v ∈ xs, v.oneCell' = true) : SrcAt w sz u n xs := by
 have hh := h
 obtain ⟨hl, ⟨rfl, h0⟩ | ⟨g, cap, cur, rfl, _⟩⟩ := h
 ·exact .inl ⟨rfl, h0, List.eq_nil_of_length_eq_zero (by rw [hl, h0]; simp)⟩
 ·exact .inr ⟨⟨g, 0, none⟩, cap, rfl, hl, hh.cells rfl, h1⟩
def cnt (L : List (Value × Nat × List Value)) : Nat := (L.map fun x => x.2.1).sum
def cat (L : List (Value × Nat × List Value)) : List Value := L.flatMap fun x => x.2.2
def z3 : Value × Nat × List Value := (.slice none 0 0, 0, [])
theorem cnt_next {L : List (Value × Nat × List Value)} {k : Nat} (h : k < L.length) : cnt (L.take (k + 1)) = cnt (L.take k) + (L.getD k z3).2.1 := by
 unfold cnt
 rw [List.take_succ_eq_append_getElem h, List.map_append, List.sum_append]
 simp [List.getD, List.getElem?_eq_getElem h]
theorem cat_next {L : List (Value × Nat × List Value)} {k : Nat} (h : k < L.length) : cat (L.take (k + 1)) = cat (L.take k) ++ (L.getD k z3).2.2 := by
 unfold cat
 rw [List.take_succ_eq_append_getElem h, List.flatMap_append]
 simp [List.getD, List.getElem?_eq_getElem h]
theorem cnt_le {L : List (Value × Nat × List Value)} {m : Nat} (h : ∀ x ∈ L, x.2.1 ≤ m) : ∀ k, k ≤ L.length → cnt (L.take k) ≤ k * m
 | 0, _ => by simp [cnt]
 | k + 1, hk => by
  rw [cnt_next (by omega), Nat.add_mul]
  have h1 := cnt_le h k (by omega)
  have h2 := h (L.getD k z3) (by
   rw [List.getD_eq_getElem?_getD, List.getElem?_eq_getElem (by omega : k < L.length)]
   exact List.getElem_mem _)
  omega
theorem mem_at {L : List (Value × Nat × List Value)} {k : Nat} (h : k < L.length) : L.getD k z3 ∈ L := by
 rw [List.getD_eq_getElem?_getD, List.getElem?_eq_getElem h]
 exact List.getElem_mem _
set_option maxHeartbeats 4000000 in
theorem growMs_any (n : Nat) (w : World) (hn : n ≤ 10000000) : Calls Tryz.prog 111 #[.slice none 0 0, .int .i64 n] w fun e w' => ∃ u, e = .returned u ∧ w'.ownsRow w.heap.size 95 3 u 0 [] ∧ Below w.heap.size w w' := by
 obtain ⟨i0, hi, hz0, hz1, hz2⟩ := info_parts infoMatch
 have h1 : ¬ ((n : Int) < 0) := by omega
 by_cases h0 : n = 0
 ·subst h0
  clear hi hz0 hz1 hz2
  go_enter Tryz.func111, Tryz.ntmps111
  go_wp2
  go_ret
  exact ⟨_, rfl, World.ownsRow_nil _ _ _ _, Below.refl _ _⟩
 ·have h4 : (0 : Int) < (n : Int) := by omega
  have hr := fun ty => Lib.run_append_nil_zeros (P := Tryz.prog) w 87 3 ty 95 i0 _ .i64 .i64 Tryz.underlying87 Tryz.underlying3 hi hz0 n (by omega) (by rw [hz1]; decide) (by omega) (by rw [hz2]; omega)
  have HR := hide hr
  have hG0 := grownCap_ge w n 0 95
  have hG1 := grownCap_le_maxLen w n 0 95 (by unfold maxLen; omega)
  generalize grownCap w n 0 95 = G at *
  clear hr
  have hG2 : G ≤ 9223372036854775807 := by unfold maxLen at hG1; omega
  have hO : ((w.drew).alloc (.cells (Builtin.zeroCells (Value.cells (.agg #[.int .i64 0, .int .i64 0, .int .i64 0])) n ++ Builtin.zeroCells (Value.cells (.agg #[.int .i64 0, .int .i64 0, .int .i64 0])) (G - n)) 95)).ownsRow w.heap.size 95 3 (.slice (some ⟨w.heap.size, 0, none⟩) 0 G) 0 [] := by
   refine World.ownsRow_made w.drew _ G (Nat.le_refl _) hG1 ?_
   rw [Array.size_append, size_zeroCells, size_zeroCells]
   rw [← Nat.add_mul]
   congr 1
   omega
  have HO := hide hO
  clear hO
  go_enter Tryz.func111, Tryz.ntmps111
  go_wp2_with (at_builtin; refine Lib.wpList_append_run _ rfl _ _ _ _ rfl _ _ rfl rfl _ _ ((unhide HR) _) ?_)
  go_ret
  exact ⟨_, rfl, HO.out, (Below.refl _ _).drew.alloc (Nat.le_refl _) _⟩
set_option maxHeartbeats 8000000 in
theorem concatMs_any (L : List (Value × Nat × List Value)) (g cap : Nat) (w : World) (hc : ∀ j, j < L.length → w.cell? ⟨g, j, none⟩ = some (L.getD j z3).1) (hs : ∀ x ∈ L, SrcAt w 3 x.1 x.2.1 x.2.2) (hl : L.length ≤ 10) (hcap : L.length ≤ cap) (hn : ∀ x ∈ L, x.2.1 ≤ 100000) :
  Calls Tryz.prog 60 #[.slice (some ⟨g, 0, none⟩) L.length cap] w fun e w' => ∃ u, e = .returned u ∧ w'.ownsRow w.heap.size 95 3 u (cnt L) (cat L) ∧ Below w.heap.size w w' := by
 obtain ⟨i0, hi, hz0, hz1, hz2⟩ := info_parts infoMatch
 have HC := hide hc
 have HS := hide hs
 have HN := hide (fun k hk => cnt_le hn k hk)
 have HM := hide hn
 clear hc hs hn
 go_enter Tryz.func60, Tryz.ntmps60
 go_wp2_with fail
 go_loopw [3, 11] (fun s i wr => ∃ k : Nat, k ≤ L.length ∧ i = .int .i64 k ∧ s = .int .i64 (cnt (L.take k) : Nat) ∧ Below w.heap.size w wr) (fun _ i _ => L.length - (intOf i).toNat)
 case atStart => exact ⟨0, by omega, rfl, rfl, Below.refl _ _⟩
 case round =>
  obtain ⟨k, hk, rfl, rfl, hbr⟩ := hrel
  by_cases hlt : k < L.length
  ·have hx := (HS.out _ (mem_at hlt))
   have hcell := (hbr.cell (p := ⟨g, k, none⟩) (cell_in (HC.out k hlt))).trans (HC.out k hlt)
   obtain ⟨o, c, hu⟩ : ∃ o c, (L.getD k z3).1 = .slice o (L.getD k z3).2.1 c := by
    rcases hx with ⟨h, h0, _⟩ | ⟨ad, c, h, _⟩
    ·exact ⟨_, _, by rw [h, h0]⟩
    ·exact ⟨_, _, h⟩
   rw [hu] at hcell
   have HX := hide (cnt_next hlt)
   have hb1 := HN.out k hk
   have hb2 := HM.out _ (mem_at hlt)
   clear hx hu
   generalize (L.getD k z3).2.1 = m at *
   generalize hcn : cnt (L.take k) = C0 at *
   clear hcn
   have hb3 : C0 ≤ 1000000 := Nat.le_trans hb1 (by omega)
   have hb4 : ¬ ((C0 : Int) + (m : Int) < 0) := by omega
   have q1 : (0 : Int) ≤ (k : Int) := by omega
   have q2 : (k : Int) < (L.length : Int) := by omega
   clear hb1
   go_wp2_with fail
   go_roundw
   case rel => exact ⟨k + 1, by omega, by go_num, by rw [HX.out]; go_num, hbr⟩
   case measure => simp [intOf]; omega
  ·obtain rfl : k = L.length := by omega
   have hb1 := HN.out _ (Nat.le_refl _)
   rw [List.take_length] at hb1 ⊢
   have hb3 : cnt L ≤ 1000000 := Nat.le_trans hb1 (by omega)
   have HG := hide (growMs_any (cnt L) wr (by omega))
   obtain ⟨C1, hC1⟩ : ∃ C1, C1 = cnt L := ⟨_, rfl⟩
   have HC1 := hide hC1
   rw [← hC1] at HG hb3 ⊢
   clear hC1 hb1
   go_wp2_with fail
   refine (unhide HG).mono ?_
   rintro e w1 ⟨u, rfl, ho, hb⟩
   have hb01 := hbr.trans (hb.mono hbr.size)
   have HO := hide (own_less ho hbr.size)
   obtain ⟨o, c, rfl⟩ := own_slc ho
   clear ho hb hbr HG
   go_wp2_with fail
   go_loopw [6, 27] (fun v i wq => ∃ k : Nat, k ≤ L.length ∧ i = .int .i64 k ∧ Hid (wq.ownsRow w.heap.size 95 3 v (cnt (L.take k)) (cat (L.take k))) ∧ Below w.heap.size w wq) (fun _ i _ => L.length - (intOf i).toNat)
   case atStart => exact ⟨0, by omega, rfl, hide (by simpa [cnt, cat] using HO.out), hb01⟩
   case round =>
    clear HO hb01
    obtain ⟨k, hk, rfl, HO, hbr⟩ := hrel
    by_cases hlt : k < L.length
    ·have hx := (HS.out _ (mem_at hlt))
     have hcell := (hbr.cell (p := ⟨g, k, none⟩) (cell_in (HC.out k hlt))).trans (HC.out k hlt)
     have HX := hide (cnt_next hlt)
     have HY := hide (cat_next hlt)
     have hb1 := HN.out k hk
     have hb2 := HM.out _ (mem_at hlt)
     obtain ⟨o1, c1, rfl⟩ := own_slc HO.out
     have hb4 : cnt (L.take k) ≤ 1000000 := Nat.le_trans hb1 (by omega)
     have q1 : (0 : Int) ≤ (k : Int) := by omega
     have q2 : (k : Int) < (L.length : Int) := by omega
     clear hb1
     have hsz := hbr.size
     have HS2 := hide (hx.below' hbr)
     clear hx
     obtain ⟨C2, hC2⟩ : ∃ C2, C2 = cnt (L.take k) := ⟨_, rfl⟩
     rw [← hC2] at HO HX hb4 ⊢
     clear hC2
     obtain ⟨XS, hXS⟩ : ∃ XS, XS = cat (L.take k) := ⟨_, rfl⟩
     rw [← hXS] at HO HY
     clear hXS
     rcases HS2.out with ⟨hu, h0, hnil⟩ | ⟨ad, c2, hu, hln, hcs, hone⟩
     ·rw [hu] at hcell
      rw [h0, Nat.add_zero] at HX
      rw [hnil, List.append_nil] at HY
      clear hu h0 hnil HS2 hb2
      go_wp2_with (at_builtin; refine wpList_append_own_none rfl _ _ 87 rfl w.heap.size 95 i0 3 Tryz.underlying87 hi _ _ _ rfl (unhide HO) rfl ?_)
      go_roundw
      case rel => exact ⟨k + 1, by omega, by go_num, by rw [HX.out, HY.out]; exact HO, hbr⟩
      case measure => simp [intOf]; omega
     ·rw [hu] at hcell
      have HLN := hide hln
      have HCS := hide hcs
      have HONE := hide hone
      clear hu hln hcs hone HS2
      generalize (L.getD k z3).2.1 = m at *
      generalize (L.getD k z3).2.2 = ys at *
      go_wp2_with (at_builtin; refine wpList_append_own _ rfl _ _ 87 rfl w.heap.size 95 i0 _ 3 24 Tryz.underlying87 hi hz0 hz1 hz2 rfl (by decide) _ _ _ rfl (unhide HO) ad m c2 ys rfl (unhide HLN) (unhide HCS) (unhide HONE) ?a1 ?a2 ?a3 ?_)
      case a1 => unfold maxLen; omega
      case a2 => omega
      case a3 => exact hsz
      intro v3 w3 ho3 hg3 _
      have hb3 : Below w.heap.size w w3 := hbr.grown hg3 hsz (own_ge HO.out)
      have HE := hide ho3
      obtain ⟨o3, c3, rfl⟩ := own_slc ho3
      clear ho3 hg3 HO HCS hcell
      go_wp2_with fail
      go_roundw
      case rel => exact ⟨k + 1, by omega, by go_num, by rw [HX.out, HY.out]; exact HE, hb3⟩
      case measure => simp [intOf]; omega
    ·obtain rfl : k = L.length := by omega
     rw [List.take_length] at HO
     obtain ⟨o1, c1, rfl⟩ := own_slc HO.out
     have HX := hide HO.out
     clear HO
     go_wp2_with fail
     go_ret
     exact ⟨_, rfl, HX.out, hbr⟩
set_option maxHeartbeats 4000000 in
theorem growDs_any (n : Nat) (w : World) (hn : n ≤ 10000000) : Calls Tryz.prog 162 #[.slice none 0 0, .int .i64 n] w fun e w' => ∃ u, e = .returned u ∧ w'.ownsRow w.heap.size 98 3 u 0 [] ∧ Below w.heap.size w w' := by
 obtain ⟨i0, hi, hz0, hz1, hz2⟩ := info_parts infoDoes
 have h1 : ¬ ((n : Int) < 0) := by omega
 by_cases h0 : n = 0
 ·subst h0
  clear hi hz0 hz1 hz2
  go_enter Tryz.func162, Tryz.ntmps162
  go_wp2
  go_ret
  exact ⟨_, rfl, World.ownsRow_nil _ _ _ _, Below.refl _ _⟩
 ·have h4 : (0 : Int) < (n : Int) := by omega
  have hr := fun ty => Lib.run_append_nil_zeros (P := Tryz.prog) w 88 3 ty 98 i0 _ .i64 .i64 Tryz.underlying88 Tryz.underlying3 hi hz0 n (by omega) (by rw [hz1]; decide) (by omega) (by rw [hz2]; omega)
  have HR := hide hr
  have hG0 := grownCap_ge w n 0 98
  have hG1 := grownCap_le_maxLen w n 0 98 (by unfold maxLen; omega)
  generalize grownCap w n 0 98 = G at *
  clear hr
  have hG2 : G ≤ 9223372036854775807 := by unfold maxLen at hG1; omega
  have hO : ((w.drew).alloc (.cells (Builtin.zeroCells (Value.cells (.agg #[.int .i64 0, .int .i64 0, .int .i64 0])) n ++ Builtin.zeroCells (Value.cells (.agg #[.int .i64 0, .int .i64 0, .int .i64 0])) (G - n)) 98)).ownsRow w.heap.size 98 3 (.slice (some ⟨w.heap.size, 0, none⟩) 0 G) 0 [] := by
   refine World.ownsRow_made w.drew _ G (Nat.le_refl _) hG1 ?_
   rw [Array.size_append, size_zeroCells, size_zeroCells]
   rw [← Nat.add_mul]
   congr 1
   omega
  have HO := hide hO
  clear hO
  go_enter Tryz.func162, Tryz.ntmps162
  go_wp2_with (at_builtin; refine Lib.wpList_append_run _ rfl _ _ _ _ rfl _ _ rfl rfl _ _ ((unhide HR) _) ?_)
  go_ret
  exact ⟨_, rfl, HO.out, (Below.refl _ _).drew.alloc (Nat.le_refl _) _⟩
set_option maxHeartbeats 8000000 in
theorem concatDs_any (L : List (Value × Nat × List Value)) (g cap : Nat) (w : World) (hc : ∀ j, j < L.length → w.cell? ⟨g, j, none⟩ = some (L.getD j z3).1) (hs : ∀ x ∈ L, SrcAt w 3 x.1 x.2.1 x.2.2) (hl : L.length ≤ 10) (hcap : L.length ≤ cap) (hn : ∀ x ∈ L, x.2.1 ≤ 100000) :
  Calls Tryz.prog 126 #[.slice (some ⟨g, 0, none⟩) L.length cap] w fun e w' => ∃ u, e = .returned u ∧ w'.ownsRow w.heap.size 98 3 u (cnt L) (cat L) ∧ Below w.heap.size w w' := by
 obtain ⟨i0, hi, hz0, hz1, hz2⟩ := info_parts infoDoes
 have HC := hide hc
 have HS := hide hs
 have HN := hide (fun k hk => cnt_le hn k hk)
 have HM := hide hn
 clear hc hs hn
 go_enter Tryz.func126, Tryz.ntmps126
 go_wp2_with fail
 go_loopw [3, 11] (fun s i wr => ∃ k : Nat, k ≤ L.length ∧ i = .int .i64 k ∧ s = .int .i64 (cnt (L.take k) : Nat) ∧ Below w.heap.size w wr) (fun _ i _ => L.length - (intOf i).toNat)
 case atStart => exact ⟨0, by omega, rfl, rfl, Below.refl _ _⟩
 case round =>
  obtain ⟨k, hk, rfl, rfl, hbr⟩ := hrel
  by_cases hlt : k < L.length
  ·have hx := (HS.out _ (mem_at hlt))
   have hcell := (hbr.cell (p := ⟨g, k, none⟩) (cell_in (HC.out k hlt))).trans (HC.out k hlt)
   obtain ⟨o, c, hu⟩ : ∃ o c, (L.getD k z3).1 = .slice o (L.getD k z3).2.1 c := by
    rcases hx with ⟨h, h0, _⟩ | ⟨ad, c, h, _⟩
    ·exact ⟨_, _, by rw [h, h0]⟩
    ·exact ⟨_, _, h⟩
   rw [hu] at hcell
   have HX := hide (cnt_next hlt)
   have hb1 := HN.out k hk
   have hb2 := HM.out _ (mem_at hlt)
   clear hx hu
   generalize (L.getD k z3).2.1 = m at *
   generalize hcn : cnt (L.take k) = C0 at *
   clear hcn
   have hb3 : C0 ≤ 1000000 := Nat.le_trans hb1 (by omega)
   have hb4 : ¬ ((C0 : Int) + (m : Int) < 0) := by omega
   have q1 : (0 : Int) ≤ (k : Int) := by omega
   have q2 : (k : Int) < (L.length : Int) := by omega
   clear hb1
   go_wp2_with fail
   go_roundw
   case rel => exact ⟨k + 1, by omega, by go_num, by rw [HX.out]; go_num, hbr⟩
   case measure => simp [intOf]; omega
  ·obtain rfl : k = L.length := by omega
   have hb1 := HN.out _ (Nat.le_refl _)
   rw [List.take_length] at hb1 ⊢
   have hb3 : cnt L ≤ 1000000 := Nat.le_trans hb1 (by omega)
   have HG := hide (growDs_any (cnt L) wr (by omega))
   obtain ⟨C1, hC1⟩ : ∃ C1, C1 = cnt L := ⟨_, rfl⟩
   have HC1 := hide hC1
   rw [← hC1] at HG hb3 ⊢
   clear hC1 hb1
   go_wp2_with fail
   refine (unhide HG).mono ?_
   rintro e w1 ⟨u, rfl, ho, hb⟩
   have hb01 := hbr.trans (hb.mono hbr.size)
   have HO := hide (own_less ho hbr.size)
   obtain ⟨o, c, rfl⟩ := own_slc ho
   clear ho hb hbr HG
   go_wp2_with fail
   go_loopw [6, 27] (fun v i wq => ∃ k : Nat, k ≤ L.length ∧ i = .int .i64 k ∧ Hid (wq.ownsRow w.heap.size 98 3 v (cnt (L.take k)) (cat (L.take k))) ∧ Below w.heap.size w wq) (fun _ i _ => L.length - (intOf i).toNat)
   case atStart => exact ⟨0, by omega, rfl, hide (by simpa [cnt, cat] using HO.out), hb01⟩
   case round =>
    clear HO hb01
    obtain ⟨k, hk, rfl, HO, hbr⟩ := hrel
    by_cases hlt : k < L.length
    ·have hx := (HS.out _ (mem_at hlt))
     have hcell := (hbr.cell (p := ⟨g, k, none⟩) (cell_in (HC.out k hlt))).trans (HC.out k hlt)
     have HX := hide (cnt_next hlt)
     have HY := hide (cat_next hlt)
     have hb1 := HN.out k hk
     have hb2 := HM.out _ (mem_at hlt)
     obtain ⟨o1, c1, rfl⟩ := own_slc HO.out
     have hb4 : cnt (L.take k) ≤ 1000000 := Nat.le_trans hb1 (by omega)
     have q1 : (0 : Int) ≤ (k : Int) := by omega
     have q2 : (k : Int) < (L.length : Int) := by omega
     clear hb1
     have hsz := hbr.size
     have HS2 := hide (hx.below' hbr)
     clear hx
     obtain ⟨C2, hC2⟩ : ∃ C2, C2 = cnt (L.take k) := ⟨_, rfl⟩
     rw [← hC2] at HO HX hb4 ⊢
     clear hC2
     obtain ⟨XS, hXS⟩ : ∃ XS, XS = cat (L.take k) := ⟨_, rfl⟩
     rw [← hXS] at HO HY
     clear hXS
     rcases HS2.out with ⟨hu, h0, hnil⟩ | ⟨ad, c2, hu, hln, hcs, hone⟩
     ·rw [hu] at hcell
      rw [h0, Nat.add_zero] at HX
      rw [hnil, List.append_nil] at HY
      clear hu h0 hnil HS2 hb2
      go_wp2_with (at_builtin; refine wpList_append_own_none rfl _ _ 88 rfl w.heap.size 98 i0 3 Tryz.underlying88 hi _ _ _ rfl (unhide HO) rfl ?_)
      go_roundw
      case rel => exact ⟨k + 1, by omega, by go_num, by rw [HX.out, HY.out]; exact HO, hbr⟩
      case measure => simp [intOf]; omega
     ·rw [hu] at hcell
      have HLN := hide hln
      have HCS := hide hcs
      have HONE := hide hone
      clear hu hln hcs hone HS2
      generalize (L.getD k z3).2.1 = m at *
      generalize (L.getD k z3).2.2 = ys at *
      go_wp2_with (at_builtin; refine wpList_append_own _ rfl _ _ 88 rfl w.heap.size 98 i0 _ 3 24 Tryz.underlying88 hi hz0 hz1 hz2 rfl (by decide) _ _ _ rfl (unhide HO) ad m c2 ys rfl (unhide HLN) (unhide HCS) (unhide HONE) ?a1 ?a2 ?a3 ?_)
      case a1 => unfold maxLen; omega
      case a2 => omega
      case a3 => exact hsz
      intro v3 w3 ho3 hg3 _
      have hb3 : Below w.heap.size w w3 := hbr.grown hg3 hsz (own_ge HO.out)
      have HE := hide ho3
      obtain ⟨o3, c3, rfl⟩ := own_slc ho3
      clear ho3 hg3 HO HCS hcell
      go_wp2_with fail
      go_roundw
      case rel => exact ⟨k + 1, by omega, by go_num, by rw [HX.out, HY.out]; exact HE, hb3⟩
      case measure => simp [intOf]; omega
    ·obtain rfl : k = L.length := by omega
     rw [List.take_length] at HO
     obtain ⟨o1, c1, rfl⟩ := own_slc HO.out
     have HX := hide HO.out
     clear HO
     go_wp2_with fail
     go_ret
     exact ⟨_, rfl, HX.out, hbr⟩
set_option maxHeartbeats 4000000 in
theorem growFs_any (n : Nat) (w : World) (hn : n ≤ 10000000) : Calls Tryz.prog 116 #[.slice none 0 0, .int .i64 n] w fun e w' => ∃ u, e = .returned u ∧ w'.ownsRow w.heap.size 90 4 u 0 [] ∧ Below w.heap.size w w' := by
 obtain ⟨i0, hi, hz0, hz1, hz2⟩ := info_parts infoFlow
 have h1 : ¬ ((n : Int) < 0) := by omega
 by_cases h0 : n = 0
 ·subst h0
  clear hi hz0 hz1 hz2
  go_enter Tryz.func116, Tryz.ntmps116
  go_wp2
  go_ret
  exact ⟨_, rfl, World.ownsRow_nil _ _ _ _, Below.refl _ _⟩
 ·have h4 : (0 : Int) < (n : Int) := by omega
  have hr := fun ty => Lib.run_append_nil_zeros (P := Tryz.prog) w 31 3 ty 90 i0 _ .i64 .i64 Tryz.underlying31 Tryz.underlying3 hi hz0 n (by omega) (by rw [hz1]; decide) (by omega) (by rw [hz2]; omega)
  have HR := hide hr
  have hG0 := grownCap_ge w n 0 90
  have hG1 := grownCap_le_maxLen w n 0 90 (by unfold maxLen; omega)
  generalize grownCap w n 0 90 = G at *
  clear hr
  have hG2 : G ≤ 9223372036854775807 := by unfold maxLen at hG1; omega
  have hO : ((w.drew).alloc (.cells (Builtin.zeroCells (Value.cells (.agg #[.int .i64 0, .int .i64 0, .slice none 0 0, .slice none 0 0])) n ++ Builtin.zeroCells (Value.cells (.agg #[.int .i64 0, .int .i64 0, .slice none 0 0, .slice none 0 0])) (G - n)) 90)).ownsRow w.heap.size 90 4 (.slice (some ⟨w.heap.size, 0, none⟩) 0 G) 0 [] := by
   refine World.ownsRow_made w.drew _ G (Nat.le_refl _) hG1 ?_
   rw [Array.size_append, size_zeroCells, size_zeroCells]
   rw [← Nat.add_mul]
   congr 1
   omega
  have HO := hide hO
  clear hO
  go_enter Tryz.func116, Tryz.ntmps116
  go_wp2_with (at_builtin; refine Lib.wpList_append_run _ rfl _ _ _ _ rfl _ _ rfl rfl _ _ ((unhide HR) _) ?_)
  go_ret
  exact ⟨_, rfl, HO.out, (Below.refl _ _).drew.alloc (Nat.le_refl _) _⟩
set_option maxHeartbeats 8000000 in
theorem concatFs_any (L : List (Value × Nat × List Value)) (g cap : Nat) (w : World) (hc : ∀ j, j < L.length → w.cell? ⟨g, j, none⟩ = some (L.getD j z3).1) (hs : ∀ x ∈ L, SrcAt w 4 x.1 x.2.1 x.2.2) (hl : L.length ≤ 10) (hcap : L.length ≤ cap) (hn : ∀ x ∈ L, x.2.1 ≤ 100000) :
  Calls Tryz.prog 65 #[.slice (some ⟨g, 0, none⟩) L.length cap] w fun e w' => ∃ u, e = .returned u ∧ w'.ownsRow w.heap.size 90 4 u (cnt L) (cat L) ∧ Below w.heap.size w w' := by
 obtain ⟨i0, hi, hz0, hz1, hz2⟩ := info_parts infoFlow
 have HC := hide hc
 have HS := hide hs
 have HN := hide (fun k hk => cnt_le hn k hk)
 have HM := hide hn
 clear hc hs hn
 go_enter Tryz.func65, Tryz.ntmps65
 go_wp2_with fail
 go_loopw [3, 11] (fun s i wr => ∃ k : Nat, k ≤ L.length ∧ i = .int .i64 k ∧ s = .int .i64 (cnt (L.take k) : Nat) ∧ Below w.heap.size w wr) (fun _ i _ => L.length - (intOf i).toNat)
 case atStart => exact ⟨0, by omega, rfl, rfl, Below.refl _ _⟩
 case round =>
  obtain ⟨k, hk, rfl, rfl, hbr⟩ := hrel
  by_cases hlt : k < L.length
  ·have hx := (HS.out _ (mem_at hlt))
   have hcell := (hbr.cell (p := ⟨g, k, none⟩) (cell_in (HC.out k hlt))).trans (HC.out k hlt)
   obtain ⟨o, c, hu⟩ : ∃ o c, (L.getD k z3).1 = .slice o (L.getD k z3).2.1 c := by
    rcases hx with ⟨h, h0, _⟩ | ⟨ad, c, h, _⟩
    ·exact ⟨_, _, by rw [h, h0]⟩
    ·exact ⟨_, _, h⟩
   rw [hu] at hcell
   have HX := hide (cnt_next hlt)
   have hb1 := HN.out k hk
   have hb2 := HM.out _ (mem_at hlt)
   clear hx hu
   generalize (L.getD k z3).2.1 = m at *
   generalize hcn : cnt (L.take k) = C0 at *
   clear hcn
   have hb3 : C0 ≤ 1000000 := Nat.le_trans hb1 (by omega)
   have hb4 : ¬ ((C0 : Int) + (m : Int) < 0) := by omega
   have q1 : (0 : Int) ≤ (k : Int) := by omega
   have q2 : (k : Int) < (L.length : Int) := by omega
   clear hb1
   go_wp2_with fail
   go_roundw
   case rel => exact ⟨k + 1, by omega, by go_num, by rw [HX.out]; go_num, hbr⟩
   case measure => simp [intOf]; omega
  ·obtain rfl : k = L.length := by omega
   have hb1 := HN.out _ (Nat.le_refl _)
   rw [List.take_length] at hb1 ⊢
   have hb3 : cnt L ≤ 1000000 := Nat.le_trans hb1 (by omega)
   have HG := hide (growFs_any (cnt L) wr (by omega))
   obtain ⟨C1, hC1⟩ : ∃ C1, C1 = cnt L := ⟨_, rfl⟩
   have HC1 := hide hC1
   rw [← hC1] at HG hb3 ⊢
   clear hC1 hb1
   go_wp2_with fail
   refine (unhide HG).mono ?_
   rintro e w1 ⟨u, rfl, ho, hb⟩
   have hb01 := hbr.trans (hb.mono hbr.size)
   have HO := hide (own_less ho hbr.size)
   obtain ⟨o, c, rfl⟩ := own_slc ho
   clear ho hb hbr HG
   go_wp2_with fail
   go_loopw [6, 27] (fun v i wq => ∃ k : Nat, k ≤ L.length ∧ i = .int .i64 k ∧ Hid (wq.ownsRow w.heap.size 90 4 v (cnt (L.take k)) (cat (L.take k))) ∧ Below w.heap.size w wq) (fun _ i _ => L.length - (intOf i).toNat)
   case atStart => exact ⟨0, by omega, rfl, hide (by simpa [cnt, cat] using HO.out), hb01⟩
   case round =>
    clear HO hb01
    obtain ⟨k, hk, rfl, HO, hbr⟩ := hrel
    by_cases hlt : k < L.length
    ·have hx := (HS.out _ (mem_at hlt))
     have hcell := (hbr.cell (p := ⟨g, k, none⟩) (cell_in (HC.out k hlt))).trans (HC.out k hlt)
     have HX := hide (cnt_next hlt)
     have HY := hide (cat_next hlt)
     have hb1 := HN.out k hk
     have hb2 := HM.out _ (mem_at hlt)
     obtain ⟨o1, c1, rfl⟩ := own_slc HO.out
     have hb4 : cnt (L.take k) ≤ 1000000 := Nat.le_trans hb1 (by omega)
     have q1 : (0 : Int) ≤ (k : Int) := by omega
     have q2 : (k : Int) < (L.length : Int) := by omega
     clear hb1
     have hsz := hbr.size
     have HS2 := hide (hx.below' hbr)
     clear hx
     obtain ⟨C2, hC2⟩ : ∃ C2, C2 = cnt (L.take k) := ⟨_, rfl⟩
     rw [← hC2] at HO HX hb4 ⊢
     clear hC2
     obtain ⟨XS, hXS⟩ : ∃ XS, XS = cat (L.take k) := ⟨_, rfl⟩
     rw [← hXS] at HO HY
     clear hXS
     rcases HS2.out with ⟨hu, h0, hnil⟩ | ⟨ad, c2, hu, hln, hcs, hone⟩
     ·rw [hu] at hcell
      rw [h0, Nat.add_zero] at HX
      rw [hnil, List.append_nil] at HY
      clear hu h0 hnil HS2 hb2
      go_wp2_with (at_builtin; refine wpList_append_own_none rfl _ _ 31 rfl w.heap.size 90 i0 4 Tryz.underlying31 hi _ _ _ rfl (unhide HO) rfl ?_)
      go_roundw
      case rel => exact ⟨k + 1, by omega, by go_num, by rw [HX.out, HY.out]; exact HO, hbr⟩
      case measure => simp [intOf]; omega
     ·rw [hu] at hcell
      have HLN := hide hln
      have HCS := hide hcs
      have HONE := hide hone
      clear hu hln hcs hone HS2
      generalize (L.getD k z3).2.1 = m at *
      generalize (L.getD k z3).2.2 = ys at *
      go_wp2_with (at_builtin; refine wpList_append_own _ rfl _ _ 31 rfl w.heap.size 90 i0 _ 4 64 Tryz.underlying31 hi hz0 hz1 hz2 rfl (by decide) _ _ _ rfl (unhide HO) ad m c2 ys rfl (unhide HLN) (unhide HCS) (unhide HONE) ?a1 ?a2 ?a3 ?_)
      case a1 => unfold maxLen; omega
      case a2 => omega
      case a3 => exact hsz
      intro v3 w3 ho3 hg3 _
      have hb3 : Below w.heap.size w w3 := hbr.grown hg3 hsz (own_ge HO.out)
      have HE := hide ho3
      obtain ⟨o3, c3, rfl⟩ := own_slc ho3
      clear ho3 hg3 HO HCS hcell
      go_wp2_with fail
      go_roundw
      case rel => exact ⟨k + 1, by omega, by go_num, by rw [HX.out, HY.out]; exact HE, hb3⟩
      case measure => simp [intOf]; omega
    ·obtain rfl : k = L.length := by omega
     rw [List.take_length] at HO
     obtain ⟨o1, c1, rfl⟩ := own_slc HO.out
     have HX := hide HO.out
     clear HO
     go_wp2_with fail
     go_ret
     exact ⟨_, rfl, HX.out, hbr⟩
end Go.Proofs.YtncdininppehkaaGreat

namespace Go.Proofs.YtncdininppehkaaGreat
open Go.RowKit
set_option linter.unusedVariables false
set_option maxRecDepth 100000
def FvIn (w : World) (B : Nat) (u : Value) (x : Fv) : Prop := FvOk w x ∧ Apart x.mv u ∧ Apart x.dv u ∧ (∀ g, x.mv.ownBlock = some g → B ≤ g) ∧ ∀ g, x.dv.ownBlock = some g → B ≤ g
theorem FvIn.below {w w' : World} {B : Nat} {u : Value} {x : Fv} (h : FvIn w B u x) (hb : Below w.heap.size w w') : FvIn w' B u x := ⟨h.1.below hb, h.2⟩
theorem FvIn.less {w : World} {B B' : Nat} {u : Value} {x : Fv} (h : FvIn w B u x) (hB : B' ≤ B) : FvIn w B' u x := ⟨h.1, h.2.1, h.2.2.1, fun g e => Nat.le_trans hB (h.2.2.2.1 g e), fun g e => Nat.le_trans hB (h.2.2.2.2 g e)⟩
theorem FvIn.far {w : World} {B : Nat} {u v : Value} {x : Fv} (h : FvIn w B u x) (hv : ∀ g, v.ownBlock = some g → g < B) : FvIn w B v x := by
 refine ⟨h.1, ?_, ?_, h.2.2.2⟩
 ·cases e : x.mv.ownBlock with
  | none => exact .inl e
  | some b => exact .inr fun e' => by have h1 := h.2.2.2.1 b e; have h2 := hv b (by rw [← e', e]); omega
 ·cases e : x.dv.ownBlock with
  | none => exact .inl e
  | some b => exact .inr fun e' => by have h1 := h.2.2.2.2 b e; have h2 := hv b (by rw [← e', e]); omega
def FR (w : World) (B : Nat) (u : Value) (fs : List Fl) : Prop := ∃ lo : List Fv, lo.map Fv.f = fs ∧ w.ownsRow B 90 4 u lo.length (C lo) ∧ ∀ x ∈ lo, FvIn w B u x
theorem FR.below {w w' : World} {B B' : Nat} {u : Value} {fs : List Fl} (h : FR w B u fs) (hb : Below B' w w') (hB : w.heap.size ≤ B') : FR w' B u fs := by
 obtain ⟨lo, h1, h2, h3⟩ := h
 have hb' := hb.mono hB
 exact ⟨lo, h1, own_below h2 hb', fun x hx => (h3 x hx).below hb'⟩
theorem FR.less {w : World} {B B' : Nat} {u : Value} {fs : List Fl} (h : FR w B u fs) (hB : B' ≤ B) : FR w B' u fs := by
 obtain ⟨lo, h1, h2, h3⟩ := h
 exact ⟨lo, h1, own_less h2 hB, fun x hx => (h3 x hx).less hB⟩
theorem FR.nil (w : World) (B : Nat) : FR w B (.slice none 0 0) [] := ⟨[], rfl, World.ownsRow_nil _ _ _ _, by simp⟩
theorem FR.slc {w : World} {B : Nat} {u : Value} {fs : List Fl} (h : FR w B u fs) : ∃ o c, u = .slice o fs.length c := by
 obtain ⟨lo, h1, h2, h3⟩ := h
 obtain ⟨o, c, h⟩ := own_slc h2
 exact ⟨o, c, by rw [h, ← h1, List.length_map]⟩
theorem FR.lt {w : World} {B : Nat} {u : Value} {fs : List Fl} (h : FR w B u fs) : ∀ g, u.ownBlock = some g → g < w.heap.size := by
 obtain ⟨lo, h1, h2, h3⟩ := h
 intro g e
 exact own_in h2 e
theorem C_cells (l : List Fv) : (C l).length = l.length * 4 := by
 induction l with
 | nil => rfl
 | cons x r ih => simp [C] at ih ⊢; omega
theorem FvIn.held {w : World} {B : Nat} {u : Value} {x : Fv} (h : FvIn w B u x) : MsAt w x.mv x.f.ms ∧ DsAt w x.dv x.f.ds := ⟨h.1.1, h.1.2.1⟩
theorem C_one {w : World} {B : Nat} {u : Value} : ∀ {lo : List Fv}, (∀ x ∈ lo, FvIn w B u x) → ∀ v ∈ C lo, v.oneCell' = true := by
 intro lo h v hv
 unfold C at hv
 rw [List.mem_flatMap] at hv
 obtain ⟨x, hx, hv⟩ := hv
 exact (h x hx).1.one v (by simpa [C] using hv)
theorem FR.src {w : World} {B : Nat} {u : Value} {fs : List Fl} (h : FR w B u fs) : ∃ lo : List Fv, lo.map Fv.f = fs ∧ lo.length = fs.length ∧ SrcAt w 4 u lo.length (C lo) ∧ ∀ x ∈ lo, FvIn w B u x := by
 obtain ⟨lo, h1, h2, h3⟩ := h
 exact ⟨lo, h1, by rw [← h1, List.length_map], SrcAt.of_own h2 (C_one h3), h3⟩
theorem FR.app {w w' : World} {B g n cap : Nat} {u : Value} {lo lo2 : List Fv} (ok1 : ∀ x ∈ lo, FvIn w B u x) (ok2 : ∀ x ∈ lo2, FvIn w B u x)
  (ho : w'.ownsRow B 90 4 (.slice (some ⟨g, 0, none⟩) n cap) n (C lo ++ C lo2)) (hn : n = lo.length + lo2.length) (hg : w.grownBy w' u.ownBlock) (ha : u.ownBlock = some g ∨ g = w.heap.size) :
  FR w' B (.slice (some ⟨g, 0, none⟩) n cap) (lo.map Fv.f ++ lo2.map Fv.f) := by
 refine ⟨lo ++ lo2, by simp, by rw [C_append, List.length_append, ← hn]; exact ho, fun x hx => ?_⟩
 have hx' : FvIn w B u x := by
  rcases List.mem_append.1 hx with h | h
  ·exact ok1 x h
  ·exact ok2 x h
 obtain ⟨k0, k1, k2, k3, k4⟩ := hx'
 refine ⟨k0.kept hg k1 k2, ?_, ?_, k3, k4⟩
 ·exact Apart.app (w := w) k1 (fun g e => k0.2.2.1 g e) ha
 ·exact Apart.app (w := w) k2 (fun g e => k0.2.2.2 g e) ha
theorem fv_in {w : World} {B : Nat} {f : Fl} {mv dv u : Value} (h1 : w.ownsRow B 95 3 mv f.ms.length (M f.ms)) (h2 : w.ownsRow B 98 3 dv f.ds.length (D f.ds)) (hu : ∀ g, u.ownBlock = some g → g < B) : FvIn w B u ⟨f, mv, dv⟩ := by
 refine FvIn.far (u := .slice none 0 0) ⟨⟨MsAt.of_own h1, DsAt.of_own h2, fun g e => own_in h1 e, fun g e => own_in h2 e⟩, ?_, ?_, own_ge h1, own_ge h2⟩ hu
 ·exact apart_nil _
 ·exact apart_nil _
theorem FR.lit {cur : World} {B n : Nat} {lo : List Fv} {cs : Array Value} (hcs : cs.toList = C lo) (hn : lo.length = n) (hB : B ≤ cur.heap.size) (hm : n ≤ maxLen) (ok : ∀ x ∈ lo, FvIn cur B (.slice none 0 0) x) :
  FR (cur.alloc (.cells cs 90)) B (.slice (some ⟨cur.heap.size, 0, none⟩) n n) (lo.map Fv.f) := by
 have hs : cs.size = n * 4 := by rw [← Array.length_toList, hcs, C_cells, hn]
 have ho := World.ownsRow_lit (base := B) (e := 90) (size := 4) cur cs n hB hm hs
 rw [hcs] at ho
 refine ⟨lo, rfl, by rw [hn]; exact ho, fun x hx => ?_⟩
 have hb := alloc_below cur (.cells cs 90)
 obtain ⟨k0, _, _, k3, k4⟩ := ok x hx
 refine ⟨k0.below hb, ?_, ?_, k3, k4⟩
 ·cases e : x.mv.ownBlock with
  | none => exact .inl e
  | some b => exact .inr fun e' => by have h1 := k0.2.2.1 b e; rw [e] at e'; simp [Value.ownBlock] at e'; omega
 ·cases e : x.dv.ownBlock with
  | none => exact .inl e
  | some b => exact .inr fun e' => by have h1 := k0.2.2.2 b e; rw [e] at e'; simp [Value.ownBlock] at e'; omega
theorem FR.fsAt {w : World} {B : Nat} {u : Value} {fs : List Fl} (h : FR w B u fs) : FsAt w u fs := by
 obtain ⟨lo, h1, h2, h3⟩ := h
 subst h1
 obtain ⟨o, c, rfl, hc, hg⟩ := own_form h2
 by_cases hz : lo.length = 0
 ·refine ⟨o, c, by simp, ?_, .inl (by simpa using hz)⟩
  intro ho
  subst ho
  obtain ⟨_, ⟨hv, _⟩ | ⟨g', cap', cur, hv, _⟩⟩ := h2
  ·simp only [Value.slice.injEq] at hv; exact hv.2.2
  ·simp at hv
 ·obtain ⟨g, rfl⟩ := hg (by omega)
  refine ⟨_, c, by simp, by simp, .inr ⟨g, 0, rfl, by simpa using hc, fun i hi => ?_⟩⟩
  have hi' : i < lo.length := by simpa using hi
  obtain ⟨c0, c1, c2, c3⟩ := C_at lo i hi'
  have e : (lo.map Fv.f).getD i fl0 = (lo.getD i fv0).f := by simp [List.getD, List.getElem?_eq_getElem hi']
  rw [e, Nat.zero_add]
  have hh := (h3 (lo.getD i fv0) (by rw [List.getD_eq_getElem?_getD, List.getElem?_eq_getElem hi']; exact List.getElem_mem _)).held
  exact ⟨(h2.cellAt _ (by omega)).trans c0, (h2.cellAt _ (by omega)).trans c1, _, _, (h2.cellAt _ (by omega)).trans c2, (h2.cellAt _ (by omega)).trans c3, hh.1, hh.2⟩
end Go.Proofs.YtncdininppehkaaGreat
