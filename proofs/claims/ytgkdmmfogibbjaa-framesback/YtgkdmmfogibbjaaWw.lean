/-
  What wire.Wrap answers.
-/
import Derived.Test.YtgkdmmfogibbjaaWf
import Derived.Lib.SlBytesConst
import Derived.ArgAppend
namespace Go.Proofs.Ytgkdmmfogibbjaa
open Go.RowKit
set_option linter.unusedVariables false
set_option maxRecDepth 100000

set_option maxHeartbeats 1000000 in
/-- appendWord upon two bytes without spare room, wherever they lie. -/
theorem appendWord_full (g : Nat) (p q x : Int) (w : World) (h0 : w.cell? ⟨g, 0, none⟩ = some (.int .u8 p)) (h1 : w.cell? ⟨g, 1, none⟩ = some (.int .u8 q)) (hx0 : 0 ≤ x) (hx1 : x ≤ 65535) :
    Calls Try.prog 27 #[.slice (some ⟨g, 0, none⟩) 2 2, .int .i64 x] w fun e w' => ∃ v', e = .returned v' ∧ w'.ownsRow w.heap.size 5 1 v' ([p, q] ++ word x).length (U ([p, q] ++ word x)) ∧ Below w.heap.size w w' := by
  obtain ⟨i0, hi, hz0, hz1, hz2⟩ := info_parts infoByte
  have hlt : g < w.heap.size := by
    rcases Nat.lt_or_ge g w.heap.size with h | h
    · exact h
    · simp [World.cell?, Array.getElem?_eq_none h] at h0
  have holds : ∀ o : Obj, ∀ j u, (U [p, q])[j]? = some u → (w.alloc o).cell? ((⟨g, 0, none⟩ : Addr).add j) = some u := by
    intro o j u hj
    match j, hj with
    | 0, hj => simp [U] at hj; subst hj; exact Lib.cell?_alloc_marked o (by simpa [Addr.add] using h0)
    | 1, hj => simp [U] at hj; subst hj; exact Lib.cell?_alloc_marked o (by simpa [Addr.add] using h1)
  have HO := hide holds
  clear holds h0 h1
  go_enter Try.func27, Try.ntmps27
  go_wp2_with (at_builtin; refine wpList_append_grows _ rfl _ _ 27 rfl 5 i0 (.int .u8 0) 1 1 Try.underlying27 hi hz0 hz1 hz2 rfl (by decide) (some ⟨g, 0, none⟩) 2 2 (U [p, q]) rfl ?n1 rfl ?n2 ⟨w.heap.size, 0, none⟩ 2 2 (U (word x)) rfl rfl ?n3 ?n4 ?n5 ?n6 ?n7 ?_)
  case n1 => simp
  case n2 => intro b hb; cases hb; exact unhide HO _
  case n3 =>
    intro j u hj
    match j, hj with
    | 0, hj => simp [U, word] at hj; subst hj; simp [Addr.add]
    | 1, hj => simp [U, word] at hj; subst hj; simp [Addr.add]
  case n4 => exact U_one _
  case n5 => decide
  case n6 => decide
  case n7 => decide
  intro v' w1 hown' hgrow
  have hbel : Below w.heap.size w w1 := ((Below.refl _ w).alloc (Nat.le_refl _) _).grown hgrow (by simp) (by simp)
  have hown2 : w1.ownsRow w.heap.size 5 1 v' ([p, q] ++ word x).length (U ([p, q] ++ word x)) := own_less (own_app (xs := [p, q]) hown' rfl) (by simp)
  clear hown' hgrow HO
  go_wp2
  go_ret
  exact ⟨v', rfl, hown2, hbel⟩

theorem news_of {w : World} {g : Nat} {xs : List Int} (h : ∀ i, i < xs.length → w.cell? ⟨g, 0 + i, none⟩ = some (.int .u8 (xs.getD i 0))) : ∀ j u, (U xs)[j]? = some u → w.cell? ((⟨g, 0, none⟩ : Addr).add j) = some u := by
  intro j u hj
  have hjl : j < xs.length := by
    rcases Nat.lt_or_ge j xs.length with h | h
    · exact h
    · simp [U, List.getElem?_eq_none h] at hj
  have hp : (⟨g, 0, none⟩ : Addr).add j = ⟨g, 0 + j, none⟩ := by unfold Addr.add; split <;> simp_all
  rw [hp, h j hjl]
  simp [U, List.getElem?_eq_getElem hjl] at hj
  subst hj
  simp [List.getD, List.getElem?_eq_getElem hjl]

set_option maxHeartbeats 1000000 in
theorem wrap_far (net tow dst src kind ips ipd ttl port : Int) (body : ByteArray) (w : World) (hw : (wordB net && wordB tow) = false) :
    Calls Try.prog 15 #[.int .i64 net, .int .i64 tow, fr dst src kind ips ipd ttl port body] w fun e w' => e = .returned (.tuple #[.slice none 0 0, .int .i64 2]) ∧ Below w.heap.size w w' := by
  by_cases h1 : wordB net = true
  · have h2 : wordB tow = false := by simpa [h1] using hw
    clear hw
    go_enter Try.func15, Try.ntmps15
    go_wp2_with (go_at_call 34; refine (isWord_any _ _).mono ?_; rintro e w' ⟨rfl, rfl⟩)
    go_ret2
    exact ⟨rfl, (Below.refl _ _).alloc (Nat.le_refl _) _⟩
  · have h1' : wordB net = false := by simpa using h1
    clear hw h1
    go_enter Try.func15, Try.ntmps15
    go_wp2_with (go_at_call 34; refine (isWord_any _ _).mono ?_; rintro e w' ⟨rfl, rfl⟩)
    go_ret2
    exact ⟨rfl, (Below.refl _ _).alloc (Nat.le_refl _) _⟩

set_option maxHeartbeats 1000000 in
theorem wrap_no (net tow dst src kind ips ipd ttl port : Int) (body : ByteArray) (w : World) (h1 : wordB net = true) (h2 : wordB tow = true) (hb : body.size ≤ maxLen) (hf : fault dst src kind ips ipd ttl port body.size ≠ 0) :
    Calls Try.prog 15 #[.int .i64 net, .int .i64 tow, fr dst src kind ips ipd ttl port body] w fun e w' => e = .returned (.tuple #[.slice none 0 0, .int .i64 (fault dst src kind ips ipd ttl port body.size)]) ∧ Below w.heap.size w w' := by
  have hf' : (fault dst src kind ips ipd ttl port body.size != 0) = true := by simpa using hf
  go_enter Try.func15, Try.ntmps15
  go_wp2_with (go_at_call 34; refine (isWord_any _ _).mono ?_; rintro e w' ⟨rfl, rfl⟩)
  refine (encode_no _ _ _ _ _ _ _ _ _ hb hf).mono ?_
  rintro e w1 ⟨rfl, hb1⟩
  go_wp2_with fail
  go_ret2
  exact ⟨rfl, ((Below.refl _ _).alloc (Nat.le_refl _) _).trans (hb1.mono (by simp))⟩

set_option maxHeartbeats 1000000 in
theorem wrap_yes (net tow dst src kind ips ipd ttl port : Int) (body : ByteArray) (w : World) (h1 : wordB net = true) (h2 : wordB tow = true) (hf : fault dst src kind ips ipd ttl port body.size = 0) :
    Calls Try.prog 15 #[.int .i64 net, .int .i64 tow, fr dst src kind ips ipd ttl port body] w fun e w' => ∃ v, e = .returned (.tuple #[v, .int .i64 0]) ∧
      w'.ownsRow w.heap.size 5 1 v (wrapped net tow dst src kind ips ipd ttl port body).length (U (wrapped net tow dst src kind ips ipd ttl port body)) ∧ Below w.heap.size w w' := by
  have hn : 0 ≤ net ∧ net ≤ 65535 := by simpa [wordB] using h1
  have ht : 0 ≤ tow ∧ tow ≤ 65535 := by simpa [wordB] using h2
  obtain ⟨hn0, hn1⟩ := hn
  obtain ⟨ht0, ht1⟩ := ht
  have hn40 := (fault_zero hf).2.2.2.2.2.2.2
  obtain ⟨i0, hi, hz0, hz1, hz2⟩ := info_parts infoByte
  have kc := fun (w : World) (C : Array Value) (n c : Nat) => Lib.run_convert_bytes_const (P := Try.prog) w 27 5 C n c Try.underlying27 Try.underlying5
  have hlen := enc_length dst src kind ips ipd ttl port body
  go_enter Try.func15, Try.ntmps15
  go_wp2_with (go_at_call 34; refine (isWord_any _ _).mono ?_; rintro e w' ⟨rfl, rfl⟩)
  refine (encode_yes _ _ _ _ _ _ _ _ _ hf).mono ?_
  rintro e w1 ⟨v1, rfl, ho1, hb1⟩
  have HW : Hid (wrapped net tow dst src kind ips ipd ttl port body = [100, 121] ++ word net ++ word tow ++ enc dst src kind ips ipd ttl port body) := rfl
  generalize enc dst src kind ips ipd ttl port body = xs at *
  have hl1 : 16 ≤ xs.length := by omega
  have hl2 : xs.length ≤ 56 := by omega
  clear hlen hn40
  obtain ⟨g, cap, rfl, hg, _, hcell⟩ := own_cells ho1 (by omega)
  have hB1 : w.heap.size + 1 ≤ w1.heap.size := by have := hb1.size; simpa using this
  have HC := hide hcell
  clear hcell ho1
  go_wp2_with fail
  refine (appendWord_full w1.heap.size 100 121 net _ ?_ ?_ hn0 hn1).mono ?_
  · rw [World.cell?_alloc_mark]; rfl
  · rw [World.cell?_alloc_mark]; rfl
  rintro e w2 ⟨v2, rfl, ho2, hb2⟩
  have hs2 : w1.heap.size + 1 ≤ w2.heap.size := by have := hb2.size; simpa using this
  have hb2' : Below (w1.heap.size + 1) (w1.alloc (.cells #[.int .u8 100, .int .u8 121] 5 (2, 3))) w2 := hb2.mono (by simp)
  have ho2' := own_less ho2 (B' := w1.heap.size + 1) (by simp)
  clear ho2 hb2
  go_wp2_with fail
  refine (appendWord_any (w1.heap.size + 1) v2 _ tow _ ho2' ht0 ht1 (by simp [word]) hs2).mono ?_
  rintro e w3 ⟨v3, rfl, ho3, hb3⟩
  have hb3' := hb2'.trans hb3
  have hs3 := Nat.le_trans hs2 hb3.size
  have hb30 : Below w1.heap.size w1 w3 := ((Below.refl _ w1).alloc (Nat.le_refl _) _).trans (hb3'.mono (by omega))
  have hc3 : ∀ i, i < xs.length → w3.cell? ⟨g, 0 + i, none⟩ = some (.int .u8 (xs.getD i 0)) := fun i hi => (hb30.cell (p := ⟨g, 0 + i, none⟩) hg.2).trans (unhide HC i hi)
  have HC3 := hide hc3
  clear hb2' ho2' hb3 hc3 HC
  go_wp2_with (at_builtin; refine wpList_append_own _ rfl _ _ 27 rfl (w1.heap.size + 1) 5 i0 (.int .u8 0) 1 1 Try.underlying27 hi hz0 hz1 hz2 rfl (by decide) _ _ _ rfl ho3 ⟨g, 0, none⟩ xs.length cap (U xs) rfl ?m1 ?m2 ?m3 ?m4 ?m5 ?m6 ?_)
  case m1 => simp [U_length]
  case m2 => exact news_of (unhide HC3)
  case m3 => exact U_one _
  case m4 => simp [word, maxLen]; omega
  case m5 => simp [word]; omega
  case m6 => exact hs3
  intro v4 w4 ho4 hg4 _
  have hb4 : Below (w1.heap.size + 1) w3 w4 := (Below.refl _ w3).grown hg4 hs3 (own_ge ho3)
  have ho4' := own_app ho4 rfl
  have hbel : Below w.heap.size w w4 := (((Below.refl w.heap.size w).alloc (Nat.le_refl _) _).trans (hb1.mono (by simp))).trans ((hb30.mono (by omega)).trans (hb4.mono (by omega)))
  clear ho3 ho4 hg4 hb30 hb3' HC3 hb4
  go_wp2
  go_ret2
  refine ⟨v4, rfl, ?_, hbel⟩
  rw [HW.out]
  exact own_less ho4' (by omega)

end Go.Proofs.Ytgkdmmfogibbjaa
