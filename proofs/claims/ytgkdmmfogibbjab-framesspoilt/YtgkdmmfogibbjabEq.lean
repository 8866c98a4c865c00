/-
  '==' of a frame with itself; a slice of bytes that came in, opened; a copy of it.
-/
import Derived.Test.YtgkdmmfogibbjabWe2
import Derived.Test.YtgkdmmfogibbjabOp
import Derived.Laws.StructEq
import Derived.Laws.AppendOwnNone
import Derived.SizedLaws
namespace Go.Proofs.Ytgkdmmfogibbjab
open Go.ChangeShapes Go.WideShapes Go.ChangeAt Go.RowKit
set_option linter.unusedVariables false
set_option maxRecDepth 100000

theorem eqFrame (a b c d e f g : Int) (s : ByteArray) (w : World) : (Op.equalIn 10000 24 (.agg #[.int .i64 a, .int .i64 b, .int .i64 c, .int .i64 d, .int .i64 e, .int .i64 f, .int .i64 g, .string s]) (.agg #[.int .i64 a, .int .i64 b, .int .i64 c, .int .i64 d, .int .i64 e, .int .i64 f, .int .i64 g, .string s])).run Try.prog w = .ok true w := by
  have hS : Try.prog.underlying 24 = some (.struct (Try.prog.fieldsOf 24)) := by kernel_rfl
  have hp : Try.prog.stoodInHeld 24 = false := by kernel_rfl
  rw [show (10000 : Nat) = 9999 + 1 from rfl, run_equalIn_agg w 9999 24 _ _ hS hp]
  simp only [Program.fieldsOf, Try.underlying24]
  go_simp

theorem guardFrame : Try.prog.eqGuardType Try.prog.depth 24 = false := by kernel_rfl

/-- What owns bytes is a slice of bytes. -/
theorem own_isB {w : World} {B : Nat} {v : Value} {xs : List Int} (h : w.ownsRow B 5 1 v xs.length (U xs)) (hx : Bs xs) (hm : xs.length ≤ 140737488355328) : ∃ a cap, v = .slice a xs.length cap ∧ IsB w a xs.length cap xs := by
  by_cases h0 : xs.length = 0
  · obtain ⟨_, ⟨rfl, _⟩ | ⟨g, cap, cur, rfl, _⟩⟩ := h
    · exact ⟨none, 0, by rw [h0], rfl, hx, hm, .inl h0⟩
    · exact ⟨_, cap, rfl, rfl, hx, hm, .inl h0⟩
  · obtain ⟨g, cap, rfl, _, hc, hcell⟩ := own_cells h (by omega)
    exact ⟨_, cap, rfl, rfl, hx, hm, .inr ⟨g, 0, rfl, hc, hcell⟩⟩

theorem IsB.news {w : World} {ad : Addr} {len cap : Nat} {xs : List Int} (h : IsB w (some ad) len cap xs) : ∀ j u, (U xs)[j]? = some u → w.cell? (ad.add j) = some u := by
  obtain ⟨h1, h2, h3, h0 | ⟨b, off, ha, hc, hL⟩⟩ := h
  · intro j u hj
    have : xs = [] := List.eq_nil_of_length_eq_zero (by omega)
    subst this
    simp [U] at hj
  · cases ha
    intro j u hj
    have hjl : j < xs.length := by
      rcases Nat.lt_or_ge j xs.length with h | h
      · exact h
      · simp [U, List.getElem?_eq_none h] at hj
    have hp : (⟨b, off, none⟩ : Addr).add j = ⟨b, off + j, none⟩ := by unfold Addr.add; split <;> simp_all
    rw [hp, hL j hjl]
    simp [U, List.getElem?_eq_getElem hjl] at hj
    subst hj
    simp [List.getD, List.getElem?_eq_getElem hjl]

/-- A slice of bytes that came in, opened. -/
theorem open_bytes {H : Type} {enc : TypeId × Value → H} {w : World} {base b0 : Nat} {spare : Nat → Bool} {held : Bool} {r : Reach} {v : Value} {d : DataW H} {p : List MemPlace}
    (hv : Value.okWide Try.prog w r b0 22 v) (h : DataW.Trod enc Try.prog w base spare held 22 v d p) :
    ∃ a len cap xs, v = .slice a len cap ∧ xs.length = len ∧ Bs xs ∧ (len = 0 ∨ ∃ b off, a = some ⟨b, off, none⟩ ∧ len ≤ cap ∧ Lies w b off xs) ∧ (a = none → cap = 0) ∧
      (len = 0 ∨ ∃ elems sp, d = .slice elems sp ∧ elems.length = len) := by
  obtain ⟨a, len, cap, rfl⟩ := okWide_slice Try.underlying22 hv
  obtain ⟨fuel, hf⟩ := h
  rcases open_ints Try.underlying22 Try.underlying5 (by kernel_rfl) hf with ⟨hcs, _⟩ | ⟨x, l, c, zs, hcs, _, hl, hm, hz, hd, hcell, hwz⟩
  · simp [Value.cells] at hcs
    obtain ⟨rfl, rfl, rfl⟩ := hcs
    exact ⟨none, 0, 0, [], rfl, rfl, Bs.nil, .inl rfl, fun _ => rfl, .inl rfl⟩
  · simp [Value.cells] at hcs
    obtain ⟨rfl, rfl, rfl⟩ := hcs
    have hzl : len ≤ zs.length := by rw [hz]; split <;> omega
    have hbz : Bs zs := fun n hn => by
      have := hwz n hn
      simpa [Lit.wf, IntKind.min, IntKind.max, IntKind.signed, IntKind.bits] using this
    have htl : (zs.take len).length = len := by simp; omega
    simp only [Prod.mk.injEq] at hd
    refine ⟨some x, len, cap, zs.take len, rfl, htl, hbz.take len, ?_, fun h => by simp at h, .inr ⟨_, _, hd.1, by simp [lits]; omega⟩⟩
    by_cases h0 : len = 0
    · exact .inl h0
    · right
      obtain ⟨b, off, spot⟩ := x
      have hc0 := hcell 0 (by omega)
      have hspot : spot = none := by simpa [Addr.add] using World.cell?_spot hc0
      subst hspot
      refine ⟨b, off, rfl, hl, fun i hi => ?_⟩
      have hi' : i < len := by omega
      have hp : (⟨b, off, none⟩ : Addr).add i = ⟨b, off + i, none⟩ := by unfold Addr.add; split <;> simp_all
      rw [← hp, hcell i (by omega)]
      simp [hi']

theorem bytesU8 : Try.prog.bytesOf 5 = 1 := by kernel_rfl

end Go.Proofs.Ytgkdmmfogibbjab
