/-
  What the document's WrappedOf answers.
-/
import Derived.Test.YtaonmcjbpfiliaaWw
import Derived.Test.YtaonmcjbpfiliaaRb
namespace Go.Proofs.Ytaonmcjbpfiliaa
open Go.RowKit
set_option linter.unusedVariables false

set_option maxHeartbeats 1000000 in
theorem wrappedOf_far (net tow dst src kind ips ipd ttl port : Int) (body : ByteArray) (w : World) (hw : (wordB net && wordB tow) = false) :
    Calls Try.prog 15 #[.int .i64 net, .int .i64 tow, fr dst src kind ips ipd ttl port body] w fun e w' => e = .returned (.tuple #[.slice none 0 0, .int .i64 2]) ∧ Below w.heap.size w w' := by
  by_cases h1 : wordB net = true
  · have h2 : wordB tow = false := by simpa [h1] using hw
    clear hw
    go_enter Try.func15, Try.ntmps15
    go_wp2_with (go_at_call 21; refine (inWord_any _ _).mono ?_; rintro e w' ⟨rfl, rfl⟩)
    go_ret2
    exact ⟨rfl, (Below.refl _ _).alloc (Nat.le_refl _) _⟩
  · have h1' : wordB net = false := by simpa using h1
    clear hw h1
    go_enter Try.func15, Try.ntmps15
    go_wp2_with (go_at_call 21; refine (inWord_any _ _).mono ?_; rintro e w' ⟨rfl, rfl⟩)
    go_ret2
    exact ⟨rfl, (Below.refl _ _).alloc (Nat.le_refl _) _⟩

set_option maxHeartbeats 1000000 in
theorem wrappedOf_no (net tow dst src kind ips ipd ttl port : Int) (body : ByteArray) (w : World) (h1 : wordB net = true) (h2 : wordB tow = true) (hb : body.size ≤ maxLen) (hf : fault dst src kind ips ipd ttl port body.size ≠ 0) :
    Calls Try.prog 15 #[.int .i64 net, .int .i64 tow, fr dst src kind ips ipd ttl port body] w fun e w' => e = .returned (.tuple #[.slice none 0 0, .int .i64 (fault dst src kind ips ipd ttl port body.size)]) ∧ Below w.heap.size w w' := by
  have hf' : (fault dst src kind ips ipd ttl port body.size != 0) = true := by simpa using hf
  go_enter Try.func15, Try.ntmps15
  go_wp2_with (go_at_call 21; refine (inWord_any _ _).mono ?_; rintro e w' ⟨rfl, rfl⟩)
  refine (frameBytes_no _ _ _ _ _ _ _ _ _ hb hf).mono ?_
  rintro e w1 ⟨rfl, hb1⟩
  go_wp2_with fail
  go_ret2
  exact ⟨rfl, ((Below.refl _ _).alloc (Nat.le_refl _) _).trans (hb1.mono (by simp))⟩

set_option maxHeartbeats 1000000 in
theorem wrappedOf_yes (net tow dst src kind ips ipd ttl port : Int) (body : ByteArray) (w : World) (h1 : wordB net = true) (h2 : wordB tow = true) (hf : fault dst src kind ips ipd ttl port body.size = 0) :
    Calls Try.prog 15 #[.int .i64 net, .int .i64 tow, fr dst src kind ips ipd ttl port body] w fun e w' => ∃ v, e = .returned (.tuple #[v, .int .i64 0]) ∧
      w'.ownsRow w.heap.size 5 1 v (wrapped net tow dst src kind ips ipd ttl port body).length (U (wrapped net tow dst src kind ips ipd ttl port body)) ∧ Below w.heap.size w w' := by
  have hn : 0 ≤ net ∧ net ≤ 65535 := by simpa [wordB] using h1
  have ht : 0 ≤ tow ∧ tow ≤ 65535 := by simpa [wordB] using h2
  obtain ⟨hn0, hn1⟩ := hn
  obtain ⟨ht0, ht1⟩ := ht
  have hn40 := (fault_zero hf).2.2.2.2.2.2.2
  obtain ⟨i0, hi, hz0, hz1, hz2⟩ := info_parts infoByte
  have hlen := enc_length dst src kind ips ipd ttl port body
  go_enter Try.func15, Try.ntmps15
  go_wp2_with (go_at_call 21; refine (inWord_any _ _).mono ?_; rintro e w' ⟨rfl, rfl⟩)
  refine (frameBytes_yes _ _ _ _ _ _ _ _ _ hf).mono ?_
  rintro e w1 ⟨v1, rfl, ho1, hb1⟩
  have HW : Hid (wrapped net tow dst src kind ips ipd ttl port body = [100, 121] ++ word net ++ word tow ++ enc dst src kind ips ipd ttl port body) := rfl
  generalize enc dst src kind ips ipd ttl port body = xs at *
  have hl1 : 16 ≤ xs.length := by omega
  have hl2 : xs.length ≤ 56 := by omega
  clear hlen hn40
  obtain ⟨g, cap, rfl, hg, _, hcell⟩ := own_cells ho1 (by omega)
  have hB1 : w.heap.size + 1 ≤ w1.heap.size := by have := hb1.size; simpa using this
  have HC := hide hcell
  clear hcell ho1
  go_wp2_with fail
  refine (pair_any net _ hn0 hn1).mono ?_
  rintro e w' ⟨rfl, rfl⟩
  have hoA : (w1.alloc (.cells #[.int .u8 100, .int .u8 121] 5)).ownsRow w1.heap.size 5 1 (.slice (some ⟨w1.heap.size, 0, none⟩) 2 2) [(100 : Int), 121].length (U [100, 121]) :=
    ⟨rfl, .inr ⟨w1.heap.size, 2, _, rfl, Nat.le_refl _, (MapKept.heap_alloc w1 _).1, Nat.le_refl _, by decide, rfl, rfl⟩⟩
  go_wp2_with (at_builtin; refine wpList_append_own _ rfl _ _ 27 rfl w1.heap.size 5 i0 (.int .u8 0) 1 1 Try.underlying27 hi hz0 hz1 hz2 rfl (by decide) _ _ _ rfl (hoA.alloc _) ⟨w1.heap.size + 1, 0, none⟩ 2 2 (U (word net)) rfl rfl ?a1 ?a2 ?a3 ?a4 ?a5 ?_)
  case a1 => 
    intro j u hj
    match j, hj with
    | 0, hj => simp [U, word] at hj; subst hj; simp [Addr.add]
    | 1, hj => simp [U, word] at hj; subst hj; simp [Addr.add]
  case a2 => exact U_one _
  case a3 => simp [maxLen]
  case a4 => simp
  case a5 => simp; omega
  intro v2 w2 ho2 hg2 _
  have hb2 : Below w1.heap.size w1 w2 := (((Below.refl _ w1).alloc (Nat.le_refl _) _).alloc (by simp) _).grown hg2 (by simp; omega) (own_ge hoA)
  have ho2' := own_app (xs := [100, 121]) ho2 rfl
  have hs2 := hb2.size
  clear hoA ho2 hg2
  go_wp2_with fail
  refine (pair_any tow _ ht0 ht1).mono ?_
  rintro e w' ⟨rfl, rfl⟩
  go_wp2_with (at_builtin; refine wpList_append_own _ rfl _ _ 27 rfl w1.heap.size 5 i0 (.int .u8 0) 1 1 Try.underlying27 hi hz0 hz1 hz2 rfl (by decide) _ _ _ rfl (ho2'.alloc _) ⟨w2.heap.size, 0, none⟩ 2 2 (U (word tow)) rfl rfl ?b1 ?b2 ?b3 ?b4 ?b5 ?_)
  case b1 => exact pair_news _ _
  case b2 => exact U_one _
  case b3 => simp [word, maxLen]
  case b4 => simp [word]
  case b5 => simp; omega
  intro v3 w3 ho3 hg3 _
  have hb3 : Below w1.heap.size w2 w3 := ((Below.refl _ w2).alloc hs2 _).grown hg3 (by simp; omega) (own_ge ho2')
  have ho3' := own_app ho3 rfl
  have hs3 := Nat.le_trans hs2 hb3.size
  have hb30 : Below w1.heap.size w1 w3 := hb2.trans hb3
  have hc3 : ∀ i, i < xs.length → w3.cell? ⟨g, 0 + i, none⟩ = some (.int .u8 (xs.getD i 0)) := fun i hi => (hb30.cell (p := ⟨g, 0 + i, none⟩) hg.2).trans (unhide HC i hi)
  have HC3 := hide hc3
  clear ho2' hb3 hc3 HC hb2 ho3 hg3
  go_wp2_with (at_builtin; refine wpList_append_own _ rfl _ _ 27 rfl w1.heap.size 5 i0 (.int .u8 0) 1 1 Try.underlying27 hi hz0 hz1 hz2 rfl (by decide) _ _ _ rfl ho3' ⟨g, 0, none⟩ xs.length cap (U xs) rfl ?m1 ?m2 ?m3 ?m4 ?m5 ?m6 ?_)
  case m1 => simp [U_length]
  case m2 => exact news_of (unhide HC3)
  case m3 => exact U_one _
  case m4 => simp [word, maxLen]; omega
  case m5 => simp [word]; omega
  case m6 => exact hs3
  intro v4 w4 ho4 hg4 _
  have hb4 : Below w1.heap.size w3 w4 := (Below.refl _ w3).grown hg4 hs3 (own_ge ho3')
  have ho4' := own_app ho4 rfl
  have hbel : Below w.heap.size w w4 := (((Below.refl w.heap.size w).alloc (Nat.le_refl _) _).trans (hb1.mono (by simp))).trans ((hb30.mono (by omega)).trans (hb4.mono (by omega)))
  clear ho3' ho4 hg4 hb30 HC3 hb4
  go_wp2
  go_ret2
  refine ⟨v4, rfl, ?_, hbel⟩
  rw [HW.out]
  exact own_less ho4' (by omega)

end Go.Proofs.Ytaonmcjbpfiliaa
