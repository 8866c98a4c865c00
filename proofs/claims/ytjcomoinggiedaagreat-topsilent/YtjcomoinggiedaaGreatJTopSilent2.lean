/- Texts joined: Xk, Xa, Xb, Pp, Wb, Wc, Wd, We, We2, Oa, Op, Ef, Eq, Un, Wf, Fm, Ww, Wu, Xc, Fn2, Rk, Xd, Zm, Pd. -/
import Derived.Deep.MidRow
import Derived.Laws.AppendOwnNone
import Derived.Laws.BitsLemmas
import Derived.Deep.QuietTactic
import Derived.BigQuiet
import Derived.Deep.RegionHeld3
import Derived.Lib.AppendStr
import Derived.ProofKit
import Derived.OpenShut
import Derived.ShutString
import Derived.ChangeOld
import Derived.Laws.StructEq
import Derived.SizedLaws
import Derived.Lib.SlBytesConst
import Derived.ArgAppend
import Derived.Test.YtjcomoinggiedaaGreatJTopSilent1
namespace Go.Proofs.YtjcomoinggiedaaGreat
open Go.RowKit
set_option linter.unusedVariables false
set_option maxRecDepth 100000

theorem range_below {w w' : World} {b o B : Nat} {cs : List Value} (h : w.rangeAt b o cs) (hb : Below B w w') (hB : b < B) : w'.rangeAt b o cs := fun j v hj => (hb.cell (p := ⟨b, o + j, none⟩) hB).trans (h j v hj)
theorem range_new (w : World) (cs : List Value) (t : TypeId) : (w.alloc (.cells cs.toArray t)).rangeAt w.heap.size 0 cs := fun j v hj => by
  rw [Nat.zero_add]
  exact new_cell w _ rfl _ _ _ _ (by simpa using hj)
/-- A box: its cells, all of which may be written. -/
def Box (w : World) (b : Nat) (cs : List Value) : Prop := (b < w.heap.size ∧ w.rangeAt b 0 cs) ∧ ∀ j, j < cs.length → w.frozen? ⟨b, j, none⟩ = false
theorem Box.lt {w : World} {b : Nat} {cs : List Value} (h : Box w b cs) : b < w.heap.size := h.1.1
theorem Box.range {w : World} {b : Nat} {cs : List Value} (h : Box w b cs) : w.rangeAt b 0 cs := h.1.2
theorem Box.cell {w : World} {b : Nat} {cs : List Value} (h : Box w b cs) (j : Nat) (v : Value) (hj : cs[j]? = some v) : w.cell? ⟨b, j, none⟩ = some v := by
  have := h.1.2 j v hj
  rwa [Nat.zero_add] at this
theorem Box.below {w w' : World} {b : Nat} {cs : List Value} (h : Box w b cs) (hb : Below w.heap.size w w') : Box w' b cs :=
  ⟨⟨Nat.lt_of_lt_of_le h.1.1 hb.size, range_below h.1.2 hb h.1.1⟩, fun j hj => (hb.frozen (p := ⟨b, j, none⟩) h.1.1).trans (h.2 j hj)⟩
theorem Box.new (w : World) (cs : List Value) (t : TypeId) : Box (w.alloc (.cells cs.toArray t)) w.heap.size cs :=
  ⟨⟨by simp, range_new w cs t⟩, fun j hj => new_frozen w _ rfl _ _ _⟩
theorem Box.alloc {w : World} {b : Nat} {cs : List Value} (h : Box w b cs) (o : Obj) : Box (w.alloc o) b cs := h.below ((Below.refl _ _).alloc (Nat.le_refl _) _)
theorem Box.there {w : World} {b : Nat} {cs : List Value} (h : Box w b cs) : w.there b 0 cs.length := fun j hj => by
  rw [Nat.zero_add]
  refine ⟨?_, h.2 j hj⟩
  rw [h.cell j _ (List.getElem?_eq_getElem hj)]; rfl
theorem Box.fit {w : World} {b : Nat} {cs : List Value} (h : Box w b cs) (n : Nat) (hn : cs.length = n) : w.there b 0 n := hn ▸ h.there
theorem ones {cs : List Value} (h : cs.all (fun u => u.oneCell') = true) : cs.toArray.all (·.oneCell') = true := all_oneCell_toArray (all_one h)
theorem setCells_size (b : Nat) : ∀ (vs : List Value) (o : Nat) (w : World), (w.setCells b o vs).heap.size = w.heap.size
  | [], o, w => rfl
  | v :: vs, o, w => by
    show ((w.setCell ⟨b, o, none⟩ v).setCells b (o + 1) vs).heap.size = _
    rw [setCells_size b vs]; simp
theorem setCells_below (b : Nat) {B : Nat} (hB : B ≤ b) {a : World} : ∀ (vs : List Value) (o : Nat) {w : World}, Below B a w → Below B a (w.setCells b o vs)
  | [], o, w, h => h
  | v :: vs, o, w, h => setCells_below b hB vs (o + 1) (w := w.setCell ⟨b, o, none⟩ v) (h.setCell hB _)
theorem setCells_frozen (b : Nat) : ∀ (vs : List Value) (o : Nat) (w : World) (x : Addr), (w.setCells b o vs).frozen? x = w.frozen? x
  | [], o, w, x => rfl
  | v :: vs, o, w, x => by
    show ((w.setCell ⟨b, o, none⟩ v).setCells b (o + 1) vs).frozen? x = _
    rw [setCells_frozen b vs]; simp
/-- A box that is written anew. -/
theorem Box.set {w : World} {b : Nat} {cs : List Value} (h : Box w b cs) (vs : List Value) (hl : vs.length = cs.length) : Box (w.setCells b 0 vs) b vs :=
  ⟨⟨by rw [setCells_size]; exact h.1.1, World.rangeAt_setCells_same w b 0 vs (by rw [hl]; exact h.there)⟩, fun j hj => by rw [setCells_frozen]; exact h.2 j (by omega)⟩
/-- Another box. -/
theorem Box.set_far {w : World} {b b' : Nat} {cs : List Value} (h : Box w b cs) (hne : b ≠ b') (o : Nat) (vs : List Value) : Box (w.setCells b' o vs) b cs :=
  ⟨⟨by rw [setCells_size]; exact h.1.1, World.rangeAt_setCells_apart h.1.2 b' o vs (.inl hne)⟩, fun j hj => by rw [setCells_frozen]; exact h.2 j hj⟩
section
variable {P : Program} {fn : Func} {tmps : Array Value} {w : World} {b : Nat} {cs : List Value} {ty : TypeId} {d : TypeDesc} {p q r : Tmp}
theorem results_c (h : fn.results = #[.cell p ty]) (hp : tmps.getD p undef = .pointer (some ⟨b, 0, none⟩)) (hc : w.rangeAt b 0 cs) (hu : P.underlying ty = some d) (hd : d.isRow = true) (hi : (P.info? ty).map (·.size) = some cs.length) :
    (results fn tmps).run P w = .ok (.agg cs.toArray) w := by
  have := run_loadVar_mid (P := P) w b 0 ty cs d hc hu hd hi
  rw [Array.getD_eq_getD_getElem?] at hp
  simp only [results, h]
  simp [asAddr, this, hp]
theorem results_ct (h : fn.results = #[.cell p ty, .tmp q]) (hp : tmps.getD p undef = .pointer (some ⟨b, 0, none⟩)) (hc : w.rangeAt b 0 cs) (hu : P.underlying ty = some d) (hd : d.isRow = true) (hi : (P.info? ty).map (·.size) = some cs.length) :
    (results fn tmps).run P w = .ok (.tuple #[.agg cs.toArray, tmps.getD q undef]) w := by
  have := run_loadVar_mid (P := P) w b 0 ty cs d hc hu hd hi
  rw [Array.getD_eq_getD_getElem?] at hp
  simp only [results, h]
  simp [asAddr, this, hp]
theorem results_tc (h : fn.results = #[.tmp q, .cell p ty]) (hp : tmps.getD p undef = .pointer (some ⟨b, 0, none⟩)) (hc : w.rangeAt b 0 cs) (hu : P.underlying ty = some d) (hd : d.isRow = true) (hi : (P.info? ty).map (·.size) = some cs.length) :
    (results fn tmps).run P w = .ok (.tuple #[tmps.getD q undef, .agg cs.toArray]) w := by
  have := run_loadVar_mid (P := P) w b 0 ty cs d hc hu hd hi
  rw [Array.getD_eq_getD_getElem?] at hp
  simp only [results, h]
  simp [asAddr, this, hp]
theorem results_tct (h : fn.results = #[.tmp q, .cell p ty, .tmp r]) (hp : tmps.getD p undef = .pointer (some ⟨b, 0, none⟩)) (hc : w.rangeAt b 0 cs) (hu : P.underlying ty = some d) (hd : d.isRow = true) (hi : (P.info? ty).map (·.size) = some cs.length) :
    (results fn tmps).run P w = .ok (.tuple #[tmps.getD q undef, .agg cs.toArray, tmps.getD r undef]) w := by
  have := run_loadVar_mid (P := P) w b 0 ty cs d hc hu hd hi
  rw [Array.getD_eq_getD_getElem?] at hp
  simp only [results, h]
  simp [asAddr, this, hp]
end

end Go.Proofs.YtjcomoinggiedaaGreat

namespace Go.Proofs.YtjcomoinggiedaaGreat
open Go.RowKit
set_option linter.unusedVariables false
set_option maxRecDepth 100000

/-- A frame at a port: the port, the frame's seven numbers. -/
structure Ar where
  n : Int
  f : List Int
def ar0 : Ar := ⟨0, []⟩
def snz : Sn := ⟨0, 0, []⟩
def arC (body : ByteArray) (x : Ar) : List Value := [.int .i64 x.n, .int .i64 (x.f.getD 0 0), .int .i64 (x.f.getD 1 0), .int .i64 (x.f.getD 2 0), .int .i64 (x.f.getD 3 0), .int .i64 (x.f.getD 4 0), .int .i64 (x.f.getD 5 0), .int .i64 (x.f.getD 6 0), .string body]
def AR (body : ByteArray) (l : List Ar) : List Value := l.flatMap (arC body)
def snC (body : ByteArray) (x : Sn) : List Value := [.int .i64 x.k, .int .i64 x.n, .int .i64 (x.F.getD 0 0), .int .i64 (x.F.getD 1 0), .int .i64 (x.F.getD 2 0), .int .i64 (x.F.getD 3 0), .int .i64 (x.F.getD 4 0), .int .i64 (x.F.getD 5 0), .int .i64 (x.F.getD 6 0), .int .i64 (x.F.getD 7 0), .int .i64 (x.F.getD 8 0), .int .i64 (x.F.getD 9 0), .string body]
/-- The fault of a packet's frame. -/
def ff (F : List Int) (n : Nat) : Int := fault (F.getD 1 0) (F.getD 2 0) (F.getD 3 0) (F.getD 4 0) (F.getD 5 0) (F.getD 6 0) (F.getD 7 0) n
def frOf (F : List Int) : List Int := [F.getD 1 0, F.getD 2 0, F.getD 3 0, F.getD 4 0, F.getD 5 0, F.getD 6 0, F.getD 7 0]
def arOf (s : Sn) : Ar := ⟨s.n, frOf s.F⟩
def outB (s : Sn) : Bool := s.k == 5
def badB (n : Nat) (s : Sn) : Bool := outB s && !(ff s.F n == 0)
/-- What goes out of what is sent. -/
def atL0 (l : List Sn) : List Ar := (l.filter outB).map arOf
def atE (n : Nat) (l : List Sn) : Int := match l.find? (badB n) with
  | none => 0
  | some s => ff s.F n
def atL (n : Nat) (l : List Sn) : List Ar := if atE n l = 0 then atL0 l else []

theorem flat_get {α : Type} (C : α → List Value) (sz : Nat) (hC : ∀ x, (C x).length = sz) (d : α) : ∀ (l : List α) (i j : Nat), i < l.length → j < sz → (l.flatMap C)[i * sz + j]? = (C (l.getD i d))[j]?
  | [], i, j, hi, _ => by simp at hi
  | x :: r, 0, j, _, hj => by
    rw [List.flatMap_cons, Nat.zero_mul, Nat.zero_add, List.getElem?_append_left (by rw [hC]; exact hj)]
    rfl
  | x :: r, i + 1, j, hi, hj => by
    rw [List.flatMap_cons, List.getElem?_append_right (by rw [hC, Nat.succ_mul]; omega), hC, List.getD_cons_succ, ← flat_get C sz hC d r i j (by simpa using hi) hj]
    congr 1
    rw [Nat.succ_mul]; omega
/-- The cells of one of a row. -/
theorem own_range {α : Type} {C : α → List Value} {sz : Nat} (hC : ∀ x, (C x).length = sz) (d : α) {w : World} {B g cap e : Nat} {l : List α} (h : w.ownsRow B e sz (.slice (some ⟨g, 0, none⟩) l.length cap) l.length (l.flatMap C)) {i : Nat} (hi : i < l.length) : w.rangeAt g (i * sz) (C (l.getD i d)) := fun j v hj => by
  have hjs : j < sz := by
    have := (List.getElem?_eq_some_iff.1 hj).1
    rwa [hC] at this
  have hl : i * sz + j < l.length * sz := by
    have : (i + 1) * sz ≤ l.length * sz := Nat.mul_le_mul_right _ hi
    rw [Nat.succ_mul] at this; omega
  rw [h.cellAt _ hl, flat_get C sz hC d l i j hi hjs]
  exact hj
theorem own_formA {w : World} {B e sz n : Nat} {u : Value} {xs : List Value} (h : w.ownsRow B e sz u n xs) : ∃ oo oc, u = .slice oo n oc ∧ n ≤ oc ∧ (0 < n → ∃ g, oo = some ⟨g, 0, none⟩ ∧ B ≤ g ∧ g < w.heap.size) := by
  have h' := h
  obtain ⟨_, ⟨rfl, h0⟩ | ⟨g, cap, cur, rfl, hB, _, hc, _⟩⟩ := h
  · exact ⟨none, 0, by rw [h0], by omega, fun h => absurd h (by omega)⟩
  · exact ⟨_, cap, rfl, hc, fun _ => ⟨g, rfl, hB, own_in h' rfl⟩⟩
theorem take_next {α : Type} (d : α) {l : List α} {k : Nat} (h : k < l.length) : l.take (k + 1) = l.take k ++ [l.getD k d] := by
  rw [List.take_succ_eq_append_getElem h]
  congr 2
  simp [List.getD, List.getElem?_eq_getElem h]
theorem atL0_next {l : List Sn} {k : Nat} (h : k < l.length) : atL0 (l.take (k + 1)) = atL0 (l.take k) ++ (if outB (l.getD k snz) = true then [arOf (l.getD k snz)] else []) := by
  unfold atL0
  rw [take_next snz h, List.filter_append, List.map_append]
  congr 1
  generalize l.getD k snz = x
  cases hx : outB x <;> simp [hx]
theorem bad_next {n : Nat} {l : List Sn} {k : Nat} (h : k < l.length) (h0 : (l.take k).find? (badB n) = none) (h1 : badB n (l.getD k snz) = false) : (l.take (k + 1)).find? (badB n) = none := by
  rw [take_next snz h, List.find?_append, h0]
  generalize l.getD k snz = x at *
  simp [h1]
theorem bad_at {n : Nat} {l : List Sn} {k : Nat} (h : k < l.length) (h0 : (l.take k).find? (badB n) = none) (h1 : badB n (l.getD k snz) = true) : atE n l = ff (l.getD k snz).F n ∧ atE n l ≠ 0 := by
  have e0 : l = l.take k ++ l.getD k snz :: l.drop (k + 1) := by
    rw [← List.singleton_append, ← List.append_assoc, ← take_next snz h, List.take_append_drop]
  have e : (l.take k ++ l.getD k snz :: l.drop (k + 1)).find? (badB n) = some (l.getD k snz) := by
    rw [List.find?_append, h0, List.find?_cons_of_pos h1]; rfl
  rw [← e0] at e
  unfold atE
  rw [e]
  refine ⟨rfl, fun h => ?_⟩
  simp only at h
  unfold badB at h1
  rw [h] at h1
  simp at h1
theorem atL0_le (l : List Sn) : (atL0 l).length ≤ l.length := by
  unfold atL0; rw [List.length_map]; exact List.length_filter_le _ _
theorem infoAr : (Tryz.prog.info? 61).map (fun i => (i.zero, i.size, i.bytes)) = some (some (.agg #[.int .i64 0, .int .i64 0, .int .i64 0, .int .i64 0, .int .i64 0, .int .i64 0, .int .i64 0, .int .i64 0, .string ByteArray.empty]), 9, 80) := by kernel_rfl
theorem sizeSent : (Tryz.prog.info? 115).map (·.size) = some 13 := by kernel_rfl

end Go.Proofs.YtjcomoinggiedaaGreat

namespace Go.Proofs.YtjcomoinggiedaaGreat
open Go.RowKit
set_option linter.unusedVariables false
set_option maxRecDepth 100000

set_option maxHeartbeats 4000000 in
theorem atPorts_any (sv : Value) (l : List Sn) (body : ByteArray) (B : Nat) (w : World) (hL : w.ownsRow B 115 13 sv l.length (S body l)) (hb : body.size ≤ maxLen) (hl : l.length ≤ 1000000) :
    Calls Tryz.prog 82 #[sv] w fun e w' => ∃ u, e = .returned (.tuple #[u, .int .i64 (atE body.size l)]) ∧ w'.ownsRow w.heap.size 61 9 u (atL body.size l).length (AR body (atL body.size l)) ∧ Below w.heap.size w w' := by
  obtain ⟨i0, hi, hz0, hz1, hz2⟩ := info_parts infoAr
  have HL := hide hL
  obtain ⟨o, c, rfl, hc, hg⟩ := own_formA hL
  clear hL
  go_enter Tryz.func82, Tryz.ntmps82
  go_wp2_with fail
  go_loopw [4, 11] (fun u i wr => ∃ k : Nat, k ≤ l.length ∧ i = .int .i64 k ∧ Hid (wr.ownsRow w.heap.size 61 9 u (atL0 (l.take k)).length (AR body (atL0 (l.take k)))) ∧ Hid ((l.take k).find? (badB body.size) = none) ∧ Below w.heap.size w wr) (fun _ i _ => l.length - (intOf i).toNat)
  case atStart => exact ⟨0, by omega, rfl, hide (by simpa [atL0, AR] using World.ownsRow_nil w w.heap.size 61 9), hide rfl, Below.refl _ _⟩
  case round =>
    obtain ⟨k, hk, rfl, HO, HBAD, hbr⟩ := hrel
    by_cases hlt : k < l.length
    · obtain ⟨g, rfl, hgB, hgw⟩ := hg (by omega)
      have R0 := hide (range_below (own_range (C := snC body) (fun _ => rfl) snz HL.out hlt) hbr hgw)
      have HN := hide (atL0_next hlt)
      have HB1 := hide (bad_next (n := body.size) hlt HBAD.out)
      have HB2 := hide (bad_at (n := body.size) hlt HBAD.out)
      have hlen : (atL0 (l.take k)).length ≤ k := Nat.le_trans (atL0_le _) (by rw [List.length_take]; omega)
      obtain ⟨oo, oc, rfl⟩ := own_slc HO.out
      obtain ⟨N, hN⟩ : ∃ N, N = (atL0 (l.take k)).length := ⟨_, rfl⟩
      rw [← hN] at HO hlen ⊢
      have HNN := hide hN
      clear hN HBAD
      generalize l.getD k snz = x at *
      have q1 : (0 : Int) ≤ (k : Int) := by omega
      have q2 : (k : Int) < (l.length : Int) := by omega
      have HFR := hide (fun W => pFrame_any (x.F.getD 0 0) (x.F.getD 1 0) (x.F.getD 2 0) (x.F.getD 3 0) (x.F.getD 4 0) (x.F.getD 5 0) (x.F.getD 6 0) (x.F.getD 7 0) (x.F.getD 8 0) (x.F.getD 9 0) body W hb)
      have HCX : Hid (arC body (arOf x) = [.int .i64 x.n, .int .i64 (x.F.getD 1 0), .int .i64 (x.F.getD 2 0), .int .i64 (x.F.getD 3 0), .int .i64 (x.F.getD 4 0), .int .i64 (x.F.getD 5 0), .int .i64 (x.F.getD 6 0), .int .i64 (x.F.getD 7 0), .string body]) := rfl
      have HK : Hid (outB x = (x.k == 5)) := rfl
      have HE : Hid (badB body.size x = (outB x && !(fault (x.F.getD 1 0) (x.F.getD 2 0) (x.F.getD 3 0) (x.F.getD 4 0) (x.F.getD 5 0) (x.F.getD 6 0) (x.F.getD 7 0) body.size == 0))) := rfl
      have HE2 : Hid (ff x.F body.size = fault (x.F.getD 1 0) (x.F.getD 2 0) (x.F.getD 3 0) (x.F.getD 4 0) (x.F.getD 5 0) (x.F.getD 6 0) (x.F.getD 7 0) body.size) := rfl
      have HXC : Hid (snC body x = [.int .i64 x.k, .int .i64 x.n, .int .i64 (x.F.getD 0 0), .int .i64 (x.F.getD 1 0), .int .i64 (x.F.getD 2 0), .int .i64 (x.F.getD 3 0), .int .i64 (x.F.getD 4 0), .int .i64 (x.F.getD 5 0), .int .i64 (x.F.getD 6 0), .int .i64 (x.F.getD 7 0), .int .i64 (x.F.getD 8 0), .int .i64 (x.F.getD 9 0), .string body]) := rfl
      rw [HXC.out] at R0
      generalize fault (x.F.getD 1 0) (x.F.getD 2 0) (x.F.getD 3 0) (x.F.getD 4 0) (x.F.getD 5 0) (x.F.getD 6 0) (x.F.getD 7 0) body.size = E at *
      generalize x.F.getD 0 0 = y0 at *
      generalize x.F.getD 1 0 = y1 at *
      generalize x.F.getD 2 0 = y2 at *
      generalize x.F.getD 3 0 = y3 at *
      generalize x.F.getD 4 0 = y4 at *
      generalize x.F.getD 5 0 = y5 at *
      generalize x.F.getD 6 0 = y6 at *
      generalize x.F.getD 7 0 = y7 at *
      generalize x.F.getD 8 0 = y8 at *
      generalize x.F.getD 9 0 = y9 at *
      generalize x.n = xn at *
      generalize x.k = xk at *
      by_cases h5 : xk = 5
      · subst h5
        have hx5 : outB x = true := by rw [HK.out]; rfl
        rw [hx5] at HE HN
        obtain ⟨W1, hW1⟩ : ∃ W1, W1 = wr.alloc (.cells #[.int .i64 5, .int .i64 xn, .int .i64 y0, .int .i64 y1, .int .i64 y2, .int .i64 y3, .int .i64 y4, .int .i64 y5, .int .i64 y6, .int .i64 y7, .int .i64 y8, .int .i64 y9, .string body] 115) := ⟨_, rfl⟩
        have hb1 : Below wr.heap.size wr W1 := by rw [hW1]; exact (Below.refl _ _).alloc (Nat.le_refl _) _
        have d1 : W1.cell? ⟨wr.heap.size, 1, none⟩ = some (.int .i64 xn) := by rw [hW1]; exact new_cell wr _ rfl _ _ _ _ rfl
        go_wp2_with (refine wpList_load_mid rfl 115 (.tmp 13) rfl g (k * 13) ?_ _ _ R0.out Tryz.underlying115 rfl sizeSent ?_; · rfl)
        rw [← hW1]
        clear hW1
        refine (unhide HFR _).mono ?_
        rintro e w2 ⟨rfl, hb2⟩
        replace d1 := cell_beh d1 hb2 (Nat.le_refl _)
        have hb12 : Below wr.heap.size wr w2 := hb1.trans (hb2.mono hb1.size)
        have HO1 := hide (own_below HO.out hb12)
        have hB2 := hbr.trans (hb12.mono hbr.size)
        have hs2 : w.heap.size ≤ w2.heap.size := hB2.size
        clear HO hb1 hb2 hbr HFR R0
        have hwr := cell_in d1
        by_cases hE : E = 0
        · subst hE
          rw [if_pos rfl]
          obtain ⟨W3, hW3⟩ : ∃ W3, W3 = (w2.alloc (.cells #[.int .i64 y1, .int .i64 y2, .int .i64 y3, .int .i64 y4, .int .i64 y5, .int .i64 y6, .int .i64 y7, .string body] 32)).alloc (.cells #[.int .i64 xn, .int .i64 y1, .int .i64 y2, .int .i64 y3, .int .i64 y4, .int .i64 y5, .int .i64 y6, .int .i64 y7, .string body] 61) := ⟨_, rfl⟩
          have hb3 : Below w2.heap.size w2 W3 := by rw [hW3]; exact ((Below.refl _ _).alloc (Nat.le_refl _) _).alloc (by simp) _
          have NEWS : Hid (∀ j u, [.int .i64 xn, .int .i64 y1, .int .i64 y2, .int .i64 y3, .int .i64 y4, .int .i64 y5, .int .i64 y6, .int .i64 y7, .string body][j]? = some u → W3.cell? ((⟨w2.heap.size + 1, 0, none⟩ : Addr).add j) = some u) := by
            rw [hW3]
            have := range_new (w2.alloc (.cells #[.int .i64 y1, .int .i64 y2, .int .i64 y3, .int .i64 y4, .int .i64 y5, .int .i64 y6, .int .i64 y7, .string body] 32)) [.int .i64 xn, .int .i64 y1, .int .i64 y2, .int .i64 y3, .int .i64 y4, .int .i64 y5, .int .i64 y6, .int .i64 y7, .string body] 61
            refine hide (fun j u hj => ?_)
            have h := this j u hj
            rw [Nat.zero_add] at h
            rw [addf]
            simpa using h
          have HO2 := hide (own_below HO1.out hb3)
          have hs3 : w.heap.size ≤ W3.heap.size := Nat.le_trans hs2 hb3.size
          have HW3 : Hid ((w2.alloc (.cells #[.int .i64 y1, .int .i64 y2, .int .i64 y3, .int .i64 y4, .int .i64 y5, .int .i64 y6, .int .i64 y7, .string body] 32)).alloc (.cells #[.int .i64 xn, .int .i64 y1, .int .i64 y2, .int .i64 y3, .int .i64 y4, .int .i64 y5, .int .i64 y6, .int .i64 y7, .string body] 61) = W3) := hW3.symm
          clear hW3
          go_wp2_with (at_builtin; rw [unhide HW3]; refine wpList_append_own _ rfl _ _ 35 rfl w.heap.size 61 i0 _ 9 80 Tryz.underlying35 hi hz0 hz1 hz2 rfl (by decide) _ _ _ rfl (unhide HO2) ⟨w2.heap.size + 1, 0, none⟩ 1 1 [.int .i64 xn, .int .i64 y1, .int .i64 y2, .int .i64 y3, .int .i64 y4, .int .i64 y5, .int .i64 y6, .int .i64 y7, .string body] rfl rfl (unhide NEWS) (all_one rfl) ?a1 ?a2 ?a3 ?_)
          case a1 => unfold maxLen; omega
          case a2 => omega
          case a3 => exact hs3
          intro v4 w4 ho4 hg4 _
          have hb4 : Below w.heap.size w w4 := (hB2.trans (hb3.mono hs2)).grown hg4 hs3 (own_ge HO2.out)
          have HE4 : Hid (w4.ownsRow w.heap.size 61 9 v4 (atL0 (l.take (k + 1))).length (AR body (atL0 (l.take (k + 1))))) := by
            refine hide ?_
            rw [HN.out, if_pos trivial, List.length_append, ← HNN.out]
            unfold AR
            rw [List.flatMap_append]
            simp only [List.flatMap_cons, List.flatMap_nil, List.append_nil, HCX.out, List.length_singleton]
            exact ho4
          have HBD : Hid ((l.take (k + 1)).find? (badB body.size) = none) := HB1.out (by rw [HE.out]; rfl)
          clear ho4 hg4 HO2 NEWS HO1 HW3 hb3 HN HB1 HB2 HE HCX HXC HK d1
          go_wp2_with fail
          go_roundw
          case rel => exact ⟨k + 1, by omega, by go_num, HE4, HBD, hb4⟩
          case measure => simp [intOf]; omega
        · rw [if_neg hE]
          have hEb : (E != 0) = true := by simpa using hE
          have hEE := HB2.out (by rw [HE.out]; simpa using hE)
          have HE1 : Hid (atE body.size l = E) := hEE.1.trans HE2.out
          have HE3 : Hid (atL body.size l = []) := by unfold atL; rw [if_neg hEE.2]; exact hide rfl
          clear hEE
          go_wp2_with fail
          rw [HE1.out, HE3.out]
          go_ret2
          exact ⟨_, rfl, World.ownsRow_nil _ _ _ _, hB2.alloc hs2 _⟩
      · have h5b : (xk != 5) = true := by simpa using h5
        have hx5 : outB x = false := by rw [HK.out]; simpa using h5
        rw [hx5] at HE HN
        obtain ⟨W1, hW1⟩ : ∃ W1, W1 = wr.alloc (.cells #[.int .i64 xk, .int .i64 xn, .int .i64 y0, .int .i64 y1, .int .i64 y2, .int .i64 y3, .int .i64 y4, .int .i64 y5, .int .i64 y6, .int .i64 y7, .int .i64 y8, .int .i64 y9, .string body] 115) := ⟨_, rfl⟩
        have hb1 : Below wr.heap.size wr W1 := by rw [hW1]; exact (Below.refl _ _).alloc (Nat.le_refl _) _
        have HE4 : Hid (W1.ownsRow w.heap.size 61 9 (.slice oo N oc) (atL0 (l.take (k + 1))).length (AR body (atL0 (l.take (k + 1))))) := by
          refine hide ?_
          rw [HN.out, if_neg (by simp), List.append_nil, ← HNN.out]
          exact own_below HO.out hb1
        have HBD : Hid ((l.take (k + 1)).find? (badB body.size) = none) := HB1.out (by rw [HE.out]; rfl)
        go_wp2_with (refine wpList_load_mid rfl 115 (.tmp 13) rfl g (k * 13) ?_ _ _ R0.out Tryz.underlying115 rfl sizeSent ?_; · rfl)
        rw [← hW1]
        go_roundw
        case rel => exact ⟨k + 1, by omega, by go_num, HE4, HBD, hbr.trans (hb1.mono hbr.size)⟩
        case measure => simp [intOf]; omega
    · have hke : k = l.length := by omega
      subst hke
      rw [List.take_length] at HO HBAD
      have hE0 : atE body.size l = 0 := by unfold atE; rw [HBAD.out]
      have hA0 : atL body.size l = atL0 l := by unfold atL; rw [if_pos hE0]
      have HE0 := hide hE0
      have HA0 := hide hA0
      clear hE0 hA0
      obtain ⟨oo, oc, rfl⟩ := own_slc HO.out
      have hkk : ¬ ((l.length : Int) < (l.length : Int)) := by omega
      go_wp2_with fail
      rw [HE0.out, HA0.out]
      go_ret2
      exact ⟨_, rfl, HO.out, hbr⟩

end Go.Proofs.YtjcomoinggiedaaGreat

namespace Go.Proofs.YtjcomoinggiedaaGreat
open Go.RowKit
set_option linter.unusedVariables false
set_option maxRecDepth 100000

/-- P4.1: what Packet refuses. -/
def pkE (dst src kind ips ipd ttl port : Int) (n : Nat) (i net t : Int) : Int :=
  if fault dst src kind ips ipd ttl port n = 0 then pktFault [i, dst, src, kind, ips, ipd, ttl, port, net, t] n else fault dst src kind ips ipd ttl port n
abbrev pkZ : Value := pkt 0 0 0 0 0 0 0 0 0 0 ⟨#[]⟩

set_option maxHeartbeats 4000000 in
theorem pPacket_any (dst src kind ips ipd ttl port : Int) (body : ByteArray) (i net t : Int) (w : World) (hb : body.size ≤ maxLen) :
    Calls Tryz.prog 46 #[fr dst src kind ips ipd ttl port body, .int .i64 i, .int .i64 net, .int .i64 t] w fun e w' => e = .returned (.tuple #[if pkE dst src kind ips ipd ttl port body.size i net t = 0 then pkt i dst src kind ips ipd ttl port net t body else pkZ, .int .i64 (pkE dst src kind ips ipd ttl port body.size i net t)]) ∧ Below w.heap.size w w' := by
  have HE : Hid (pkE dst src kind ips ipd ttl port body.size i net t = if fault dst src kind ips ipd ttl port body.size = 0 then pktFault [i, dst, src, kind, ips, ipd, ttl, port, net, t] body.size else fault dst src kind ips ipd ttl port body.size) := rfl
  generalize pkE dst src kind ips ipd ttl port body.size i net t = E at *
  have H1 := hide (fun W => check_any dst src kind ips ipd ttl port body W hb)
  have H2 := hide (fun W => checkPacket_any i dst src kind ips ipd ttl port net t body W hb)
  generalize fault dst src kind ips ipd ttl port body.size = G at *
  generalize pktFault [i, dst, src, kind, ips, ipd, ttl, port, net, t] body.size = K at *
  go_enter Tryz.func46, Tryz.ntmps46
  go_wp2_with fail
  obtain ⟨W0, hW0⟩ : ∃ W0, W0 = (w.alloc (.cells #[.int .i64 dst, .int .i64 src, .int .i64 kind, .int .i64 ips, .int .i64 ipd, .int .i64 ttl, .int .i64 port, .string body] 32)).alloc (.cells #[.int .i64 0, .int .i64 0, .int .i64 0, .int .i64 0, .int .i64 0, .int .i64 0, .int .i64 0, .int .i64 0, .int .i64 0, .int .i64 0, .string ⟨#[]⟩] 108) := ⟨_, rfl⟩
  have hb0 : Below w.heap.size w W0 := by rw [hW0]; exact ((Below.refl _ w).alloc (Nat.le_refl _) _).alloc (by simp) _
  have hz0 : W0.heap.size = w.heap.size + 1 + 1 := by rw [hW0]; simp
  have c0 : W0.cell? ⟨w.heap.size, 0, none⟩ = some (.int .i64 dst) := by rw [hW0]; exact old_cell (new_cell w _ rfl _ _ _ _ rfl) _
  have c1 : W0.cell? ⟨w.heap.size, 1, none⟩ = some (.int .i64 src) := by rw [hW0]; exact old_cell (new_cell w _ rfl _ _ _ _ rfl) _
  have c2 : W0.cell? ⟨w.heap.size, 2, none⟩ = some (.int .i64 kind) := by rw [hW0]; exact old_cell (new_cell w _ rfl _ _ _ _ rfl) _
  have c3 : W0.cell? ⟨w.heap.size, 3, none⟩ = some (.int .i64 ips) := by rw [hW0]; exact old_cell (new_cell w _ rfl _ _ _ _ rfl) _
  have c4 : W0.cell? ⟨w.heap.size, 4, none⟩ = some (.int .i64 ipd) := by rw [hW0]; exact old_cell (new_cell w _ rfl _ _ _ _ rfl) _
  have c5 : W0.cell? ⟨w.heap.size, 5, none⟩ = some (.int .i64 ttl) := by rw [hW0]; exact old_cell (new_cell w _ rfl _ _ _ _ rfl) _
  have c6 : W0.cell? ⟨w.heap.size, 6, none⟩ = some (.int .i64 port) := by rw [hW0]; exact old_cell (new_cell w _ rfl _ _ _ _ rfl) _
  have c7 : W0.cell? ⟨w.heap.size, 7, none⟩ = some (.string body) := by rw [hW0]; exact old_cell (new_cell w _ rfl _ _ _ _ rfl) _
  have r0 : W0.cell? ⟨w.heap.size + 1, 0, none⟩ = some (.int .i64 0) := by rw [hW0]; exact new_cell _ _ (by simp) _ _ _ _ rfl
  have r1 : W0.cell? ⟨w.heap.size + 1, 1, none⟩ = some (.int .i64 0) := by rw [hW0]; exact new_cell _ _ (by simp) _ _ _ _ rfl
  have r2 : W0.cell? ⟨w.heap.size + 1, 2, none⟩ = some (.int .i64 0) := by rw [hW0]; exact new_cell _ _ (by simp) _ _ _ _ rfl
  have r3 : W0.cell? ⟨w.heap.size + 1, 3, none⟩ = some (.int .i64 0) := by rw [hW0]; exact new_cell _ _ (by simp) _ _ _ _ rfl
  have r4 : W0.cell? ⟨w.heap.size + 1, 4, none⟩ = some (.int .i64 0) := by rw [hW0]; exact new_cell _ _ (by simp) _ _ _ _ rfl
  have r5 : W0.cell? ⟨w.heap.size + 1, 5, none⟩ = some (.int .i64 0) := by rw [hW0]; exact new_cell _ _ (by simp) _ _ _ _ rfl
  have r6 : W0.cell? ⟨w.heap.size + 1, 6, none⟩ = some (.int .i64 0) := by rw [hW0]; exact new_cell _ _ (by simp) _ _ _ _ rfl
  have r7 : W0.cell? ⟨w.heap.size + 1, 7, none⟩ = some (.int .i64 0) := by rw [hW0]; exact new_cell _ _ (by simp) _ _ _ _ rfl
  have r8 : W0.cell? ⟨w.heap.size + 1, 8, none⟩ = some (.int .i64 0) := by rw [hW0]; exact new_cell _ _ (by simp) _ _ _ _ rfl
  have r9 : W0.cell? ⟨w.heap.size + 1, 9, none⟩ = some (.int .i64 0) := by rw [hW0]; exact new_cell _ _ (by simp) _ _ _ _ rfl
  have r10 : W0.cell? ⟨w.heap.size + 1, 10, none⟩ = some (.string ⟨#[]⟩) := by rw [hW0]; exact new_cell _ _ (by simp) _ _ _ _ rfl
  have z : ∀ j, W0.frozen? ⟨w.heap.size + 1, j, none⟩ = false := by rw [hW0]; simp
  rw [← hW0]
  clear hW0
  refine (unhide H1 _).mono ?_
  rintro e w1 ⟨rfl, hb1⟩
  have k1 := hb0.trans (hb1.mono hb0.size)
  have hz1 : w.heap.size + 1 + 1 ≤ w1.heap.size := by have := hb1.size; omega
  replace c0 := cell_beh c0 hb1 (Nat.le_refl _)
  replace c1 := cell_beh c1 hb1 (Nat.le_refl _)
  replace c2 := cell_beh c2 hb1 (Nat.le_refl _)
  replace c3 := cell_beh c3 hb1 (Nat.le_refl _)
  replace c4 := cell_beh c4 hb1 (Nat.le_refl _)
  replace c5 := cell_beh c5 hb1 (Nat.le_refl _)
  replace c6 := cell_beh c6 hb1 (Nat.le_refl _)
  replace c7 := cell_beh c7 hb1 (Nat.le_refl _)
  replace r0 := cell_beh r0 hb1 (Nat.le_refl _)
  replace r1 := cell_beh r1 hb1 (Nat.le_refl _)
  replace r2 := cell_beh r2 hb1 (Nat.le_refl _)
  replace r3 := cell_beh r3 hb1 (Nat.le_refl _)
  replace r4 := cell_beh r4 hb1 (Nat.le_refl _)
  replace r5 := cell_beh r5 hb1 (Nat.le_refl _)
  replace r6 := cell_beh r6 hb1 (Nat.le_refl _)
  replace r7 := cell_beh r7 hb1 (Nat.le_refl _)
  replace r8 := cell_beh r8 hb1 (Nat.le_refl _)
  replace r9 := cell_beh r9 hb1 (Nat.le_refl _)
  replace r10 := cell_beh r10 hb1 (Nat.le_refl _)
  replace z : ∀ j, w1.frozen? ⟨w.heap.size + 1, j, none⟩ = false := fun j => (hb1.frozen (p := ⟨w.heap.size + 1, j, none⟩) (by show w.heap.size + 1 < W0.heap.size; omega)).trans (z j)
  clear hb1 hb0 hz0 H1
  by_cases hG : ¬ G = 0
  · have hE : E = G := by rw [HE.out, if_neg hG]
    subst hE
    clear HE H2
    go_wp2_with fail
    have hS : (((((((((((w1.setCell ⟨w.heap.size + 1, 0, none⟩ (.int .i64 0)).setCell ⟨w.heap.size + 1, 1, none⟩ (.int .i64 0)).setCell ⟨w.heap.size + 1, 2, none⟩ (.int .i64 0)).setCell ⟨w.heap.size + 1, 3, none⟩ (.int .i64 0)).setCell ⟨w.heap.size + 1, 4, none⟩ (.int .i64 0)).setCell ⟨w.heap.size + 1, 5, none⟩ (.int .i64 0)).setCell ⟨w.heap.size + 1, 6, none⟩ (.int .i64 0)).setCell ⟨w.heap.size + 1, 7, none⟩ (.int .i64 0)).setCell ⟨w.heap.size + 1, 8, none⟩ (.int .i64 0)).setCell ⟨w.heap.size + 1, 9, none⟩ (.int .i64 0)).setCell ⟨w.heap.size + 1, 10, none⟩ (.string ⟨#[]⟩)) = w1.setCells (w.heap.size + 1) 0 [Value.int .i64 0, .int .i64 0, .int .i64 0, .int .i64 0, .int .i64 0, .int .i64 0, .int .i64 0, .int .i64 0, .int .i64 0, .int .i64 0, .string ⟨#[]⟩] := rfl
    have HB : Hid (Below w.heap.size w (((((((((((w1.setCell ⟨w.heap.size + 1, 0, none⟩ (.int .i64 0)).setCell ⟨w.heap.size + 1, 1, none⟩ (.int .i64 0)).setCell ⟨w.heap.size + 1, 2, none⟩ (.int .i64 0)).setCell ⟨w.heap.size + 1, 3, none⟩ (.int .i64 0)).setCell ⟨w.heap.size + 1, 4, none⟩ (.int .i64 0)).setCell ⟨w.heap.size + 1, 5, none⟩ (.int .i64 0)).setCell ⟨w.heap.size + 1, 6, none⟩ (.int .i64 0)).setCell ⟨w.heap.size + 1, 7, none⟩ (.int .i64 0)).setCell ⟨w.heap.size + 1, 8, none⟩ (.int .i64 0)).setCell ⟨w.heap.size + 1, 9, none⟩ (.int .i64 0)).setCell ⟨w.heap.size + 1, 10, none⟩ (.string ⟨#[]⟩))) := by rw [hS]; exact fill_below (Nat.le_succ _) _ _ _ (k1)
    have HI : Hid (∀ j, j < 11 → (w1.cell? ⟨w.heap.size + 1, j, none⟩).isSome = true) := fun j hj => by
      have hc : j = 0 ∨ j = 1 ∨ j = 2 ∨ j = 3 ∨ j = 4 ∨ j = 5 ∨ j = 6 ∨ j = 7 ∨ j = 8 ∨ j = 9 ∨ j = 10 := by omega
      rcases hc with rfl | rfl | rfl | rfl | rfl | rfl | rfl | rfl | rfl | rfl | rfl
      · rw [r0]; rfl
      · rw [r1]; rfl
      · rw [r2]; rfl
      · rw [r3]; rfl
      · rw [r4]; rfl
      · rw [r5]; rfl
      · rw [r6]; rfl
      · rw [r7]; rfl
      · rw [r8]; rfl
      · rw [r9]; rfl
      · rw [r10]; rfl
    have u0 : (((((((((((w1.setCell ⟨w.heap.size + 1, 0, none⟩ (.int .i64 0)).setCell ⟨w.heap.size + 1, 1, none⟩ (.int .i64 0)).setCell ⟨w.heap.size + 1, 2, none⟩ (.int .i64 0)).setCell ⟨w.heap.size + 1, 3, none⟩ (.int .i64 0)).setCell ⟨w.heap.size + 1, 4, none⟩ (.int .i64 0)).setCell ⟨w.heap.size + 1, 5, none⟩ (.int .i64 0)).setCell ⟨w.heap.size + 1, 6, none⟩ (.int .i64 0)).setCell ⟨w.heap.size + 1, 7, none⟩ (.int .i64 0)).setCell ⟨w.heap.size + 1, 8, none⟩ (.int .i64 0)).setCell ⟨w.heap.size + 1, 9, none⟩ (.int .i64 0)).setCell ⟨w.heap.size + 1, 10, none⟩ (.string ⟨#[]⟩)).cell? ⟨w.heap.size + 1, 0, none⟩ = some (.int .i64 0) := by rw [hS]; exact fill_at (vs := [Value.int .i64 0, .int .i64 0, .int .i64 0, .int .i64 0, .int .i64 0, .int .i64 0, .int .i64 0, .int .i64 0, .int .i64 0, .int .i64 0, .string ⟨#[]⟩]) HI.out rfl
    have u1 : (((((((((((w1.setCell ⟨w.heap.size + 1, 0, none⟩ (.int .i64 0)).setCell ⟨w.heap.size + 1, 1, none⟩ (.int .i64 0)).setCell ⟨w.heap.size + 1, 2, none⟩ (.int .i64 0)).setCell ⟨w.heap.size + 1, 3, none⟩ (.int .i64 0)).setCell ⟨w.heap.size + 1, 4, none⟩ (.int .i64 0)).setCell ⟨w.heap.size + 1, 5, none⟩ (.int .i64 0)).setCell ⟨w.heap.size + 1, 6, none⟩ (.int .i64 0)).setCell ⟨w.heap.size + 1, 7, none⟩ (.int .i64 0)).setCell ⟨w.heap.size + 1, 8, none⟩ (.int .i64 0)).setCell ⟨w.heap.size + 1, 9, none⟩ (.int .i64 0)).setCell ⟨w.heap.size + 1, 10, none⟩ (.string ⟨#[]⟩)).cell? ⟨w.heap.size + 1, 1, none⟩ = some (.int .i64 0) := by rw [hS]; exact fill_at (vs := [Value.int .i64 0, .int .i64 0, .int .i64 0, .int .i64 0, .int .i64 0, .int .i64 0, .int .i64 0, .int .i64 0, .int .i64 0, .int .i64 0, .string ⟨#[]⟩]) HI.out rfl
    have u2 : (((((((((((w1.setCell ⟨w.heap.size + 1, 0, none⟩ (.int .i64 0)).setCell ⟨w.heap.size + 1, 1, none⟩ (.int .i64 0)).setCell ⟨w.heap.size + 1, 2, none⟩ (.int .i64 0)).setCell ⟨w.heap.size + 1, 3, none⟩ (.int .i64 0)).setCell ⟨w.heap.size + 1, 4, none⟩ (.int .i64 0)).setCell ⟨w.heap.size + 1, 5, none⟩ (.int .i64 0)).setCell ⟨w.heap.size + 1, 6, none⟩ (.int .i64 0)).setCell ⟨w.heap.size + 1, 7, none⟩ (.int .i64 0)).setCell ⟨w.heap.size + 1, 8, none⟩ (.int .i64 0)).setCell ⟨w.heap.size + 1, 9, none⟩ (.int .i64 0)).setCell ⟨w.heap.size + 1, 10, none⟩ (.string ⟨#[]⟩)).cell? ⟨w.heap.size + 1, 2, none⟩ = some (.int .i64 0) := by rw [hS]; exact fill_at (vs := [Value.int .i64 0, .int .i64 0, .int .i64 0, .int .i64 0, .int .i64 0, .int .i64 0, .int .i64 0, .int .i64 0, .int .i64 0, .int .i64 0, .string ⟨#[]⟩]) HI.out rfl
    have u3 : (((((((((((w1.setCell ⟨w.heap.size + 1, 0, none⟩ (.int .i64 0)).setCell ⟨w.heap.size + 1, 1, none⟩ (.int .i64 0)).setCell ⟨w.heap.size + 1, 2, none⟩ (.int .i64 0)).setCell ⟨w.heap.size + 1, 3, none⟩ (.int .i64 0)).setCell ⟨w.heap.size + 1, 4, none⟩ (.int .i64 0)).setCell ⟨w.heap.size + 1, 5, none⟩ (.int .i64 0)).setCell ⟨w.heap.size + 1, 6, none⟩ (.int .i64 0)).setCell ⟨w.heap.size + 1, 7, none⟩ (.int .i64 0)).setCell ⟨w.heap.size + 1, 8, none⟩ (.int .i64 0)).setCell ⟨w.heap.size + 1, 9, none⟩ (.int .i64 0)).setCell ⟨w.heap.size + 1, 10, none⟩ (.string ⟨#[]⟩)).cell? ⟨w.heap.size + 1, 3, none⟩ = some (.int .i64 0) := by rw [hS]; exact fill_at (vs := [Value.int .i64 0, .int .i64 0, .int .i64 0, .int .i64 0, .int .i64 0, .int .i64 0, .int .i64 0, .int .i64 0, .int .i64 0, .int .i64 0, .string ⟨#[]⟩]) HI.out rfl
    have u4 : (((((((((((w1.setCell ⟨w.heap.size + 1, 0, none⟩ (.int .i64 0)).setCell ⟨w.heap.size + 1, 1, none⟩ (.int .i64 0)).setCell ⟨w.heap.size + 1, 2, none⟩ (.int .i64 0)).setCell ⟨w.heap.size + 1, 3, none⟩ (.int .i64 0)).setCell ⟨w.heap.size + 1, 4, none⟩ (.int .i64 0)).setCell ⟨w.heap.size + 1, 5, none⟩ (.int .i64 0)).setCell ⟨w.heap.size + 1, 6, none⟩ (.int .i64 0)).setCell ⟨w.heap.size + 1, 7, none⟩ (.int .i64 0)).setCell ⟨w.heap.size + 1, 8, none⟩ (.int .i64 0)).setCell ⟨w.heap.size + 1, 9, none⟩ (.int .i64 0)).setCell ⟨w.heap.size + 1, 10, none⟩ (.string ⟨#[]⟩)).cell? ⟨w.heap.size + 1, 4, none⟩ = some (.int .i64 0) := by rw [hS]; exact fill_at (vs := [Value.int .i64 0, .int .i64 0, .int .i64 0, .int .i64 0, .int .i64 0, .int .i64 0, .int .i64 0, .int .i64 0, .int .i64 0, .int .i64 0, .string ⟨#[]⟩]) HI.out rfl
    have u5 : (((((((((((w1.setCell ⟨w.heap.size + 1, 0, none⟩ (.int .i64 0)).setCell ⟨w.heap.size + 1, 1, none⟩ (.int .i64 0)).setCell ⟨w.heap.size + 1, 2, none⟩ (.int .i64 0)).setCell ⟨w.heap.size + 1, 3, none⟩ (.int .i64 0)).setCell ⟨w.heap.size + 1, 4, none⟩ (.int .i64 0)).setCell ⟨w.heap.size + 1, 5, none⟩ (.int .i64 0)).setCell ⟨w.heap.size + 1, 6, none⟩ (.int .i64 0)).setCell ⟨w.heap.size + 1, 7, none⟩ (.int .i64 0)).setCell ⟨w.heap.size + 1, 8, none⟩ (.int .i64 0)).setCell ⟨w.heap.size + 1, 9, none⟩ (.int .i64 0)).setCell ⟨w.heap.size + 1, 10, none⟩ (.string ⟨#[]⟩)).cell? ⟨w.heap.size + 1, 5, none⟩ = some (.int .i64 0) := by rw [hS]; exact fill_at (vs := [Value.int .i64 0, .int .i64 0, .int .i64 0, .int .i64 0, .int .i64 0, .int .i64 0, .int .i64 0, .int .i64 0, .int .i64 0, .int .i64 0, .string ⟨#[]⟩]) HI.out rfl
    have u6 : (((((((((((w1.setCell ⟨w.heap.size + 1, 0, none⟩ (.int .i64 0)).setCell ⟨w.heap.size + 1, 1, none⟩ (.int .i64 0)).setCell ⟨w.heap.size + 1, 2, none⟩ (.int .i64 0)).setCell ⟨w.heap.size + 1, 3, none⟩ (.int .i64 0)).setCell ⟨w.heap.size + 1, 4, none⟩ (.int .i64 0)).setCell ⟨w.heap.size + 1, 5, none⟩ (.int .i64 0)).setCell ⟨w.heap.size + 1, 6, none⟩ (.int .i64 0)).setCell ⟨w.heap.size + 1, 7, none⟩ (.int .i64 0)).setCell ⟨w.heap.size + 1, 8, none⟩ (.int .i64 0)).setCell ⟨w.heap.size + 1, 9, none⟩ (.int .i64 0)).setCell ⟨w.heap.size + 1, 10, none⟩ (.string ⟨#[]⟩)).cell? ⟨w.heap.size + 1, 6, none⟩ = some (.int .i64 0) := by rw [hS]; exact fill_at (vs := [Value.int .i64 0, .int .i64 0, .int .i64 0, .int .i64 0, .int .i64 0, .int .i64 0, .int .i64 0, .int .i64 0, .int .i64 0, .int .i64 0, .string ⟨#[]⟩]) HI.out rfl
    have u7 : (((((((((((w1.setCell ⟨w.heap.size + 1, 0, none⟩ (.int .i64 0)).setCell ⟨w.heap.size + 1, 1, none⟩ (.int .i64 0)).setCell ⟨w.heap.size + 1, 2, none⟩ (.int .i64 0)).setCell ⟨w.heap.size + 1, 3, none⟩ (.int .i64 0)).setCell ⟨w.heap.size + 1, 4, none⟩ (.int .i64 0)).setCell ⟨w.heap.size + 1, 5, none⟩ (.int .i64 0)).setCell ⟨w.heap.size + 1, 6, none⟩ (.int .i64 0)).setCell ⟨w.heap.size + 1, 7, none⟩ (.int .i64 0)).setCell ⟨w.heap.size + 1, 8, none⟩ (.int .i64 0)).setCell ⟨w.heap.size + 1, 9, none⟩ (.int .i64 0)).setCell ⟨w.heap.size + 1, 10, none⟩ (.string ⟨#[]⟩)).cell? ⟨w.heap.size + 1, 7, none⟩ = some (.int .i64 0) := by rw [hS]; exact fill_at (vs := [Value.int .i64 0, .int .i64 0, .int .i64 0, .int .i64 0, .int .i64 0, .int .i64 0, .int .i64 0, .int .i64 0, .int .i64 0, .int .i64 0, .string ⟨#[]⟩]) HI.out rfl
    have u8 : (((((((((((w1.setCell ⟨w.heap.size + 1, 0, none⟩ (.int .i64 0)).setCell ⟨w.heap.size + 1, 1, none⟩ (.int .i64 0)).setCell ⟨w.heap.size + 1, 2, none⟩ (.int .i64 0)).setCell ⟨w.heap.size + 1, 3, none⟩ (.int .i64 0)).setCell ⟨w.heap.size + 1, 4, none⟩ (.int .i64 0)).setCell ⟨w.heap.size + 1, 5, none⟩ (.int .i64 0)).setCell ⟨w.heap.size + 1, 6, none⟩ (.int .i64 0)).setCell ⟨w.heap.size + 1, 7, none⟩ (.int .i64 0)).setCell ⟨w.heap.size + 1, 8, none⟩ (.int .i64 0)).setCell ⟨w.heap.size + 1, 9, none⟩ (.int .i64 0)).setCell ⟨w.heap.size + 1, 10, none⟩ (.string ⟨#[]⟩)).cell? ⟨w.heap.size + 1, 8, none⟩ = some (.int .i64 0) := by rw [hS]; exact fill_at (vs := [Value.int .i64 0, .int .i64 0, .int .i64 0, .int .i64 0, .int .i64 0, .int .i64 0, .int .i64 0, .int .i64 0, .int .i64 0, .int .i64 0, .string ⟨#[]⟩]) HI.out rfl
    have u9 : (((((((((((w1.setCell ⟨w.heap.size + 1, 0, none⟩ (.int .i64 0)).setCell ⟨w.heap.size + 1, 1, none⟩ (.int .i64 0)).setCell ⟨w.heap.size + 1, 2, none⟩ (.int .i64 0)).setCell ⟨w.heap.size + 1, 3, none⟩ (.int .i64 0)).setCell ⟨w.heap.size + 1, 4, none⟩ (.int .i64 0)).setCell ⟨w.heap.size + 1, 5, none⟩ (.int .i64 0)).setCell ⟨w.heap.size + 1, 6, none⟩ (.int .i64 0)).setCell ⟨w.heap.size + 1, 7, none⟩ (.int .i64 0)).setCell ⟨w.heap.size + 1, 8, none⟩ (.int .i64 0)).setCell ⟨w.heap.size + 1, 9, none⟩ (.int .i64 0)).setCell ⟨w.heap.size + 1, 10, none⟩ (.string ⟨#[]⟩)).cell? ⟨w.heap.size + 1, 9, none⟩ = some (.int .i64 0) := by rw [hS]; exact fill_at (vs := [Value.int .i64 0, .int .i64 0, .int .i64 0, .int .i64 0, .int .i64 0, .int .i64 0, .int .i64 0, .int .i64 0, .int .i64 0, .int .i64 0, .string ⟨#[]⟩]) HI.out rfl
    have u10 : (((((((((((w1.setCell ⟨w.heap.size + 1, 0, none⟩ (.int .i64 0)).setCell ⟨w.heap.size + 1, 1, none⟩ (.int .i64 0)).setCell ⟨w.heap.size + 1, 2, none⟩ (.int .i64 0)).setCell ⟨w.heap.size + 1, 3, none⟩ (.int .i64 0)).setCell ⟨w.heap.size + 1, 4, none⟩ (.int .i64 0)).setCell ⟨w.heap.size + 1, 5, none⟩ (.int .i64 0)).setCell ⟨w.heap.size + 1, 6, none⟩ (.int .i64 0)).setCell ⟨w.heap.size + 1, 7, none⟩ (.int .i64 0)).setCell ⟨w.heap.size + 1, 8, none⟩ (.int .i64 0)).setCell ⟨w.heap.size + 1, 9, none⟩ (.int .i64 0)).setCell ⟨w.heap.size + 1, 10, none⟩ (.string ⟨#[]⟩)).cell? ⟨w.heap.size + 1, 10, none⟩ = some (.string ⟨#[]⟩) := by rw [hS]; exact fill_at (vs := [Value.int .i64 0, .int .i64 0, .int .i64 0, .int .i64 0, .int .i64 0, .int .i64 0, .int .i64 0, .int .i64 0, .int .i64 0, .int .i64 0, .string ⟨#[]⟩]) HI.out rfl
    refine bodyPost_ret (v := .tuple #[.agg #[.int .i64 0, .int .i64 0, .int .i64 0, .int .i64 0, .int .i64 0, .int .i64 0, .int .i64 0, .int .i64 0, .int .i64 0, .int .i64 0, .string ⟨#[]⟩], .int .i64 E]) ?_ rfl ⟨by first | rfl | rw [if_neg hG], HB.out⟩
    clear HB HI hS r0 r1 r2 r3 r4 r5 r6 r7 r8 r9 r10
    generalize (((((((((((w1.setCell ⟨w.heap.size + 1, 0, none⟩ (.int .i64 0)).setCell ⟨w.heap.size + 1, 1, none⟩ (.int .i64 0)).setCell ⟨w.heap.size + 1, 2, none⟩ (.int .i64 0)).setCell ⟨w.heap.size + 1, 3, none⟩ (.int .i64 0)).setCell ⟨w.heap.size + 1, 4, none⟩ (.int .i64 0)).setCell ⟨w.heap.size + 1, 5, none⟩ (.int .i64 0)).setCell ⟨w.heap.size + 1, 6, none⟩ (.int .i64 0)).setCell ⟨w.heap.size + 1, 7, none⟩ (.int .i64 0)).setCell ⟨w.heap.size + 1, 8, none⟩ (.int .i64 0)).setCell ⟨w.heap.size + 1, 9, none⟩ (.int .i64 0)).setCell ⟨w.heap.size + 1, 10, none⟩ (.string ⟨#[]⟩)) = W at *
    simp [results, Tryz.results46, go_sem, u0, u1, u2, u3, u4, u5, u6, u7, u8, u9, u10]
  · have hG0 : G = 0 := by omega
    have hE : E = K := by rw [HE.out, if_pos hG0]
    subst hE
    subst hG0
    clear HE hG
    have hq1 : w.heap.size < w1.heap.size := by omega
    have hq2 : ¬ w.heap.size = w1.heap.size := by omega
    go_wp2_with fail
    obtain ⟨W2, hW2⟩ : ∃ W2, W2 = (w1.alloc (.cells #[.int .i64 i, .int .i64 dst, .int .i64 src, .int .i64 kind, .int .i64 ips, .int .i64 ipd, .int .i64 ttl, .int .i64 port, .int .i64 net, .int .i64 t] 106)).alloc (.cells #[.int .i64 i, .int .i64 dst, .int .i64 src, .int .i64 kind, .int .i64 ips, .int .i64 ipd, .int .i64 ttl, .int .i64 port, .int .i64 net, .int .i64 t, .string body] 108) := ⟨_, rfl⟩
    have k2 : Below w.heap.size w W2 := by rw [hW2]; exact (k1.alloc (by omega) _).alloc (by simp; omega) _
    have hz2 : W2.heap.size = w1.heap.size + 1 + 1 := by rw [hW2]; simp
    have p0 : W2.cell? ⟨w1.heap.size + 1, 0, none⟩ = some (.int .i64 i) := by rw [hW2]; exact new_cell _ _ (by simp) _ _ _ _ rfl
    have p1 : W2.cell? ⟨w1.heap.size + 1, 1, none⟩ = some (.int .i64 dst) := by rw [hW2]; exact new_cell _ _ (by simp) _ _ _ _ rfl
    have p2 : W2.cell? ⟨w1.heap.size + 1, 2, none⟩ = some (.int .i64 src) := by rw [hW2]; exact new_cell _ _ (by simp) _ _ _ _ rfl
    have p3 : W2.cell? ⟨w1.heap.size + 1, 3, none⟩ = some (.int .i64 kind) := by rw [hW2]; exact new_cell _ _ (by simp) _ _ _ _ rfl
    have p4 : W2.cell? ⟨w1.heap.size + 1, 4, none⟩ = some (.int .i64 ips) := by rw [hW2]; exact new_cell _ _ (by simp) _ _ _ _ rfl
    have p5 : W2.cell? ⟨w1.heap.size + 1, 5, none⟩ = some (.int .i64 ipd) := by rw [hW2]; exact new_cell _ _ (by simp) _ _ _ _ rfl
    have p6 : W2.cell? ⟨w1.heap.size + 1, 6, none⟩ = some (.int .i64 ttl) := by rw [hW2]; exact new_cell _ _ (by simp) _ _ _ _ rfl
    have p7 : W2.cell? ⟨w1.heap.size + 1, 7, none⟩ = some (.int .i64 port) := by rw [hW2]; exact new_cell _ _ (by simp) _ _ _ _ rfl
    have p8 : W2.cell? ⟨w1.heap.size + 1, 8, none⟩ = some (.int .i64 net) := by rw [hW2]; exact new_cell _ _ (by simp) _ _ _ _ rfl
    have p9 : W2.cell? ⟨w1.heap.size + 1, 9, none⟩ = some (.int .i64 t) := by rw [hW2]; exact new_cell _ _ (by simp) _ _ _ _ rfl
    have p10 : W2.cell? ⟨w1.heap.size + 1, 10, none⟩ = some (.string body) := by rw [hW2]; exact new_cell _ _ (by simp) _ _ _ _ rfl
    replace r0 : W2.cell? ⟨w.heap.size + 1, 0, none⟩ = some (.int .i64 0) := by rw [hW2]; exact old_cell (old_cell r0 _) _
    replace r1 : W2.cell? ⟨w.heap.size + 1, 1, none⟩ = some (.int .i64 0) := by rw [hW2]; exact old_cell (old_cell r1 _) _
    replace r2 : W2.cell? ⟨w.heap.size + 1, 2, none⟩ = some (.int .i64 0) := by rw [hW2]; exact old_cell (old_cell r2 _) _
    replace r3 : W2.cell? ⟨w.heap.size + 1, 3, none⟩ = some (.int .i64 0) := by rw [hW2]; exact old_cell (old_cell r3 _) _
    replace r4 : W2.cell? ⟨w.heap.size + 1, 4, none⟩ = some (.int .i64 0) := by rw [hW2]; exact old_cell (old_cell r4 _) _
    replace r5 : W2.cell? ⟨w.heap.size + 1, 5, none⟩ = some (.int .i64 0) := by rw [hW2]; exact old_cell (old_cell r5 _) _
    replace r6 : W2.cell? ⟨w.heap.size + 1, 6, none⟩ = some (.int .i64 0) := by rw [hW2]; exact old_cell (old_cell r6 _) _
    replace r7 : W2.cell? ⟨w.heap.size + 1, 7, none⟩ = some (.int .i64 0) := by rw [hW2]; exact old_cell (old_cell r7 _) _
    replace r8 : W2.cell? ⟨w.heap.size + 1, 8, none⟩ = some (.int .i64 0) := by rw [hW2]; exact old_cell (old_cell r8 _) _
    replace r9 : W2.cell? ⟨w.heap.size + 1, 9, none⟩ = some (.int .i64 0) := by rw [hW2]; exact old_cell (old_cell r9 _) _
    replace r10 : W2.cell? ⟨w.heap.size + 1, 10, none⟩ = some (.string ⟨#[]⟩) := by rw [hW2]; exact old_cell (old_cell r10 _) _
    replace z : ∀ j, W2.frozen? ⟨w.heap.size + 1, j, none⟩ = false := fun j => by rw [hW2, (((Below.refl w1.heap.size w1).alloc (Nat.le_refl _) _).alloc (by simp) _).frozen (p := ⟨w.heap.size + 1, j, none⟩) (by show w.heap.size + 1 < w1.heap.size; omega)]; exact z j
    rw [← hW2]
    clear hW2 k1 c0 c1 c2 c3 c4 c5 c6 c7
    refine (unhide H2 _).mono ?_
    rintro e w3 ⟨rfl, hb3⟩
    have k3 := k2.trans (hb3.mono k2.size)
    replace p0 := cell_beh p0 hb3 (Nat.le_refl _)
    replace r0 := cell_beh r0 hb3 (Nat.le_refl _)
    replace p1 := cell_beh p1 hb3 (Nat.le_refl _)
    replace r1 := cell_beh r1 hb3 (Nat.le_refl _)
    replace p2 := cell_beh p2 hb3 (Nat.le_refl _)
    replace r2 := cell_beh r2 hb3 (Nat.le_refl _)
    replace p3 := cell_beh p3 hb3 (Nat.le_refl _)
    replace r3 := cell_beh r3 hb3 (Nat.le_refl _)
    replace p4 := cell_beh p4 hb3 (Nat.le_refl _)
    replace r4 := cell_beh r4 hb3 (Nat.le_refl _)
    replace p5 := cell_beh p5 hb3 (Nat.le_refl _)
    replace r5 := cell_beh r5 hb3 (Nat.le_refl _)
    replace p6 := cell_beh p6 hb3 (Nat.le_refl _)
    replace r6 := cell_beh r6 hb3 (Nat.le_refl _)
    replace p7 := cell_beh p7 hb3 (Nat.le_refl _)
    replace r7 := cell_beh r7 hb3 (Nat.le_refl _)
    replace p8 := cell_beh p8 hb3 (Nat.le_refl _)
    replace r8 := cell_beh r8 hb3 (Nat.le_refl _)
    replace p9 := cell_beh p9 hb3 (Nat.le_refl _)
    replace r9 := cell_beh r9 hb3 (Nat.le_refl _)
    replace p10 := cell_beh p10 hb3 (Nat.le_refl _)
    replace r10 := cell_beh r10 hb3 (Nat.le_refl _)
    replace z : ∀ j, w3.frozen? ⟨w.heap.size + 1, j, none⟩ = false := fun j => (hb3.frozen (p := ⟨w.heap.size + 1, j, none⟩) (by show w.heap.size + 1 < W2.heap.size; omega)).trans (z j)
    have hne : ¬ w1.heap.size + 1 = w.heap.size + 1 := by omega
    clear hb3 k2 H2
    by_cases hK : ¬ E = 0
    · clear p0 p1 p2 p3 p4 p5 p6 p7 p8 p9 p10
      go_wp2_with fail
      have hS : (((((((((((w3.setCell ⟨w.heap.size + 1, 0, none⟩ (.int .i64 0)).setCell ⟨w.heap.size + 1, 1, none⟩ (.int .i64 0)).setCell ⟨w.heap.size + 1, 2, none⟩ (.int .i64 0)).setCell ⟨w.heap.size + 1, 3, none⟩ (.int .i64 0)).setCell ⟨w.heap.size + 1, 4, none⟩ (.int .i64 0)).setCell ⟨w.heap.size + 1, 5, none⟩ (.int .i64 0)).setCell ⟨w.heap.size + 1, 6, none⟩ (.int .i64 0)).setCell ⟨w.heap.size + 1, 7, none⟩ (.int .i64 0)).setCell ⟨w.heap.size + 1, 8, none⟩ (.int .i64 0)).setCell ⟨w.heap.size + 1, 9, none⟩ (.int .i64 0)).setCell ⟨w.heap.size + 1, 10, none⟩ (.string ⟨#[]⟩)) = w3.setCells (w.heap.size + 1) 0 [Value.int .i64 0, .int .i64 0, .int .i64 0, .int .i64 0, .int .i64 0, .int .i64 0, .int .i64 0, .int .i64 0, .int .i64 0, .int .i64 0, .string ⟨#[]⟩] := rfl
      have HB : Hid (Below w.heap.size w (((((((((((w3.setCell ⟨w.heap.size + 1, 0, none⟩ (.int .i64 0)).setCell ⟨w.heap.size + 1, 1, none⟩ (.int .i64 0)).setCell ⟨w.heap.size + 1, 2, none⟩ (.int .i64 0)).setCell ⟨w.heap.size + 1, 3, none⟩ (.int .i64 0)).setCell ⟨w.heap.size + 1, 4, none⟩ (.int .i64 0)).setCell ⟨w.heap.size + 1, 5, none⟩ (.int .i64 0)).setCell ⟨w.heap.size + 1, 6, none⟩ (.int .i64 0)).setCell ⟨w.heap.size + 1, 7, none⟩ (.int .i64 0)).setCell ⟨w.heap.size + 1, 8, none⟩ (.int .i64 0)).setCell ⟨w.heap.size + 1, 9, none⟩ (.int .i64 0)).setCell ⟨w.heap.size + 1, 10, none⟩ (.string ⟨#[]⟩))) := by rw [hS]; exact fill_below (Nat.le_succ _) _ _ _ (k3)
      have HI : Hid (∀ j, j < 11 → (w3.cell? ⟨w.heap.size + 1, j, none⟩).isSome = true) := fun j hj => by
        have hc : j = 0 ∨ j = 1 ∨ j = 2 ∨ j = 3 ∨ j = 4 ∨ j = 5 ∨ j = 6 ∨ j = 7 ∨ j = 8 ∨ j = 9 ∨ j = 10 := by omega
        rcases hc with rfl | rfl | rfl | rfl | rfl | rfl | rfl | rfl | rfl | rfl | rfl
        · rw [r0]; rfl
        · rw [r1]; rfl
        · rw [r2]; rfl
        · rw [r3]; rfl
        · rw [r4]; rfl
        · rw [r5]; rfl
        · rw [r6]; rfl
        · rw [r7]; rfl
        · rw [r8]; rfl
        · rw [r9]; rfl
        · rw [r10]; rfl
      have u0 : (((((((((((w3.setCell ⟨w.heap.size + 1, 0, none⟩ (.int .i64 0)).setCell ⟨w.heap.size + 1, 1, none⟩ (.int .i64 0)).setCell ⟨w.heap.size + 1, 2, none⟩ (.int .i64 0)).setCell ⟨w.heap.size + 1, 3, none⟩ (.int .i64 0)).setCell ⟨w.heap.size + 1, 4, none⟩ (.int .i64 0)).setCell ⟨w.heap.size + 1, 5, none⟩ (.int .i64 0)).setCell ⟨w.heap.size + 1, 6, none⟩ (.int .i64 0)).setCell ⟨w.heap.size + 1, 7, none⟩ (.int .i64 0)).setCell ⟨w.heap.size + 1, 8, none⟩ (.int .i64 0)).setCell ⟨w.heap.size + 1, 9, none⟩ (.int .i64 0)).setCell ⟨w.heap.size + 1, 10, none⟩ (.string ⟨#[]⟩)).cell? ⟨w.heap.size + 1, 0, none⟩ = some (.int .i64 0) := by rw [hS]; exact fill_at (vs := [Value.int .i64 0, .int .i64 0, .int .i64 0, .int .i64 0, .int .i64 0, .int .i64 0, .int .i64 0, .int .i64 0, .int .i64 0, .int .i64 0, .string ⟨#[]⟩]) HI.out rfl
      have u1 : (((((((((((w3.setCell ⟨w.heap.size + 1, 0, none⟩ (.int .i64 0)).setCell ⟨w.heap.size + 1, 1, none⟩ (.int .i64 0)).setCell ⟨w.heap.size + 1, 2, none⟩ (.int .i64 0)).setCell ⟨w.heap.size + 1, 3, none⟩ (.int .i64 0)).setCell ⟨w.heap.size + 1, 4, none⟩ (.int .i64 0)).setCell ⟨w.heap.size + 1, 5, none⟩ (.int .i64 0)).setCell ⟨w.heap.size + 1, 6, none⟩ (.int .i64 0)).setCell ⟨w.heap.size + 1, 7, none⟩ (.int .i64 0)).setCell ⟨w.heap.size + 1, 8, none⟩ (.int .i64 0)).setCell ⟨w.heap.size + 1, 9, none⟩ (.int .i64 0)).setCell ⟨w.heap.size + 1, 10, none⟩ (.string ⟨#[]⟩)).cell? ⟨w.heap.size + 1, 1, none⟩ = some (.int .i64 0) := by rw [hS]; exact fill_at (vs := [Value.int .i64 0, .int .i64 0, .int .i64 0, .int .i64 0, .int .i64 0, .int .i64 0, .int .i64 0, .int .i64 0, .int .i64 0, .int .i64 0, .string ⟨#[]⟩]) HI.out rfl
      have u2 : (((((((((((w3.setCell ⟨w.heap.size + 1, 0, none⟩ (.int .i64 0)).setCell ⟨w.heap.size + 1, 1, none⟩ (.int .i64 0)).setCell ⟨w.heap.size + 1, 2, none⟩ (.int .i64 0)).setCell ⟨w.heap.size + 1, 3, none⟩ (.int .i64 0)).setCell ⟨w.heap.size + 1, 4, none⟩ (.int .i64 0)).setCell ⟨w.heap.size + 1, 5, none⟩ (.int .i64 0)).setCell ⟨w.heap.size + 1, 6, none⟩ (.int .i64 0)).setCell ⟨w.heap.size + 1, 7, none⟩ (.int .i64 0)).setCell ⟨w.heap.size + 1, 8, none⟩ (.int .i64 0)).setCell ⟨w.heap.size + 1, 9, none⟩ (.int .i64 0)).setCell ⟨w.heap.size + 1, 10, none⟩ (.string ⟨#[]⟩)).cell? ⟨w.heap.size + 1, 2, none⟩ = some (.int .i64 0) := by rw [hS]; exact fill_at (vs := [Value.int .i64 0, .int .i64 0, .int .i64 0, .int .i64 0, .int .i64 0, .int .i64 0, .int .i64 0, .int .i64 0, .int .i64 0, .int .i64 0, .string ⟨#[]⟩]) HI.out rfl
      have u3 : (((((((((((w3.setCell ⟨w.heap.size + 1, 0, none⟩ (.int .i64 0)).setCell ⟨w.heap.size + 1, 1, none⟩ (.int .i64 0)).setCell ⟨w.heap.size + 1, 2, none⟩ (.int .i64 0)).setCell ⟨w.heap.size + 1, 3, none⟩ (.int .i64 0)).setCell ⟨w.heap.size + 1, 4, none⟩ (.int .i64 0)).setCell ⟨w.heap.size + 1, 5, none⟩ (.int .i64 0)).setCell ⟨w.heap.size + 1, 6, none⟩ (.int .i64 0)).setCell ⟨w.heap.size + 1, 7, none⟩ (.int .i64 0)).setCell ⟨w.heap.size + 1, 8, none⟩ (.int .i64 0)).setCell ⟨w.heap.size + 1, 9, none⟩ (.int .i64 0)).setCell ⟨w.heap.size + 1, 10, none⟩ (.string ⟨#[]⟩)).cell? ⟨w.heap.size + 1, 3, none⟩ = some (.int .i64 0) := by rw [hS]; exact fill_at (vs := [Value.int .i64 0, .int .i64 0, .int .i64 0, .int .i64 0, .int .i64 0, .int .i64 0, .int .i64 0, .int .i64 0, .int .i64 0, .int .i64 0, .string ⟨#[]⟩]) HI.out rfl
      have u4 : (((((((((((w3.setCell ⟨w.heap.size + 1, 0, none⟩ (.int .i64 0)).setCell ⟨w.heap.size + 1, 1, none⟩ (.int .i64 0)).setCell ⟨w.heap.size + 1, 2, none⟩ (.int .i64 0)).setCell ⟨w.heap.size + 1, 3, none⟩ (.int .i64 0)).setCell ⟨w.heap.size + 1, 4, none⟩ (.int .i64 0)).setCell ⟨w.heap.size + 1, 5, none⟩ (.int .i64 0)).setCell ⟨w.heap.size + 1, 6, none⟩ (.int .i64 0)).setCell ⟨w.heap.size + 1, 7, none⟩ (.int .i64 0)).setCell ⟨w.heap.size + 1, 8, none⟩ (.int .i64 0)).setCell ⟨w.heap.size + 1, 9, none⟩ (.int .i64 0)).setCell ⟨w.heap.size + 1, 10, none⟩ (.string ⟨#[]⟩)).cell? ⟨w.heap.size + 1, 4, none⟩ = some (.int .i64 0) := by rw [hS]; exact fill_at (vs := [Value.int .i64 0, .int .i64 0, .int .i64 0, .int .i64 0, .int .i64 0, .int .i64 0, .int .i64 0, .int .i64 0, .int .i64 0, .int .i64 0, .string ⟨#[]⟩]) HI.out rfl
      have u5 : (((((((((((w3.setCell ⟨w.heap.size + 1, 0, none⟩ (.int .i64 0)).setCell ⟨w.heap.size + 1, 1, none⟩ (.int .i64 0)).setCell ⟨w.heap.size + 1, 2, none⟩ (.int .i64 0)).setCell ⟨w.heap.size + 1, 3, none⟩ (.int .i64 0)).setCell ⟨w.heap.size + 1, 4, none⟩ (.int .i64 0)).setCell ⟨w.heap.size + 1, 5, none⟩ (.int .i64 0)).setCell ⟨w.heap.size + 1, 6, none⟩ (.int .i64 0)).setCell ⟨w.heap.size + 1, 7, none⟩ (.int .i64 0)).setCell ⟨w.heap.size + 1, 8, none⟩ (.int .i64 0)).setCell ⟨w.heap.size + 1, 9, none⟩ (.int .i64 0)).setCell ⟨w.heap.size + 1, 10, none⟩ (.string ⟨#[]⟩)).cell? ⟨w.heap.size + 1, 5, none⟩ = some (.int .i64 0) := by rw [hS]; exact fill_at (vs := [Value.int .i64 0, .int .i64 0, .int .i64 0, .int .i64 0, .int .i64 0, .int .i64 0, .int .i64 0, .int .i64 0, .int .i64 0, .int .i64 0, .string ⟨#[]⟩]) HI.out rfl
      have u6 : (((((((((((w3.setCell ⟨w.heap.size + 1, 0, none⟩ (.int .i64 0)).setCell ⟨w.heap.size + 1, 1, none⟩ (.int .i64 0)).setCell ⟨w.heap.size + 1, 2, none⟩ (.int .i64 0)).setCell ⟨w.heap.size + 1, 3, none⟩ (.int .i64 0)).setCell ⟨w.heap.size + 1, 4, none⟩ (.int .i64 0)).setCell ⟨w.heap.size + 1, 5, none⟩ (.int .i64 0)).setCell ⟨w.heap.size + 1, 6, none⟩ (.int .i64 0)).setCell ⟨w.heap.size + 1, 7, none⟩ (.int .i64 0)).setCell ⟨w.heap.size + 1, 8, none⟩ (.int .i64 0)).setCell ⟨w.heap.size + 1, 9, none⟩ (.int .i64 0)).setCell ⟨w.heap.size + 1, 10, none⟩ (.string ⟨#[]⟩)).cell? ⟨w.heap.size + 1, 6, none⟩ = some (.int .i64 0) := by rw [hS]; exact fill_at (vs := [Value.int .i64 0, .int .i64 0, .int .i64 0, .int .i64 0, .int .i64 0, .int .i64 0, .int .i64 0, .int .i64 0, .int .i64 0, .int .i64 0, .string ⟨#[]⟩]) HI.out rfl
      have u7 : (((((((((((w3.setCell ⟨w.heap.size + 1, 0, none⟩ (.int .i64 0)).setCell ⟨w.heap.size + 1, 1, none⟩ (.int .i64 0)).setCell ⟨w.heap.size + 1, 2, none⟩ (.int .i64 0)).setCell ⟨w.heap.size + 1, 3, none⟩ (.int .i64 0)).setCell ⟨w.heap.size + 1, 4, none⟩ (.int .i64 0)).setCell ⟨w.heap.size + 1, 5, none⟩ (.int .i64 0)).setCell ⟨w.heap.size + 1, 6, none⟩ (.int .i64 0)).setCell ⟨w.heap.size + 1, 7, none⟩ (.int .i64 0)).setCell ⟨w.heap.size + 1, 8, none⟩ (.int .i64 0)).setCell ⟨w.heap.size + 1, 9, none⟩ (.int .i64 0)).setCell ⟨w.heap.size + 1, 10, none⟩ (.string ⟨#[]⟩)).cell? ⟨w.heap.size + 1, 7, none⟩ = some (.int .i64 0) := by rw [hS]; exact fill_at (vs := [Value.int .i64 0, .int .i64 0, .int .i64 0, .int .i64 0, .int .i64 0, .int .i64 0, .int .i64 0, .int .i64 0, .int .i64 0, .int .i64 0, .string ⟨#[]⟩]) HI.out rfl
      have u8 : (((((((((((w3.setCell ⟨w.heap.size + 1, 0, none⟩ (.int .i64 0)).setCell ⟨w.heap.size + 1, 1, none⟩ (.int .i64 0)).setCell ⟨w.heap.size + 1, 2, none⟩ (.int .i64 0)).setCell ⟨w.heap.size + 1, 3, none⟩ (.int .i64 0)).setCell ⟨w.heap.size + 1, 4, none⟩ (.int .i64 0)).setCell ⟨w.heap.size + 1, 5, none⟩ (.int .i64 0)).setCell ⟨w.heap.size + 1, 6, none⟩ (.int .i64 0)).setCell ⟨w.heap.size + 1, 7, none⟩ (.int .i64 0)).setCell ⟨w.heap.size + 1, 8, none⟩ (.int .i64 0)).setCell ⟨w.heap.size + 1, 9, none⟩ (.int .i64 0)).setCell ⟨w.heap.size + 1, 10, none⟩ (.string ⟨#[]⟩)).cell? ⟨w.heap.size + 1, 8, none⟩ = some (.int .i64 0) := by rw [hS]; exact fill_at (vs := [Value.int .i64 0, .int .i64 0, .int .i64 0, .int .i64 0, .int .i64 0, .int .i64 0, .int .i64 0, .int .i64 0, .int .i64 0, .int .i64 0, .string ⟨#[]⟩]) HI.out rfl
      have u9 : (((((((((((w3.setCell ⟨w.heap.size + 1, 0, none⟩ (.int .i64 0)).setCell ⟨w.heap.size + 1, 1, none⟩ (.int .i64 0)).setCell ⟨w.heap.size + 1, 2, none⟩ (.int .i64 0)).setCell ⟨w.heap.size + 1, 3, none⟩ (.int .i64 0)).setCell ⟨w.heap.size + 1, 4, none⟩ (.int .i64 0)).setCell ⟨w.heap.size + 1, 5, none⟩ (.int .i64 0)).setCell ⟨w.heap.size + 1, 6, none⟩ (.int .i64 0)).setCell ⟨w.heap.size + 1, 7, none⟩ (.int .i64 0)).setCell ⟨w.heap.size + 1, 8, none⟩ (.int .i64 0)).setCell ⟨w.heap.size + 1, 9, none⟩ (.int .i64 0)).setCell ⟨w.heap.size + 1, 10, none⟩ (.string ⟨#[]⟩)).cell? ⟨w.heap.size + 1, 9, none⟩ = some (.int .i64 0) := by rw [hS]; exact fill_at (vs := [Value.int .i64 0, .int .i64 0, .int .i64 0, .int .i64 0, .int .i64 0, .int .i64 0, .int .i64 0, .int .i64 0, .int .i64 0, .int .i64 0, .string ⟨#[]⟩]) HI.out rfl
      have u10 : (((((((((((w3.setCell ⟨w.heap.size + 1, 0, none⟩ (.int .i64 0)).setCell ⟨w.heap.size + 1, 1, none⟩ (.int .i64 0)).setCell ⟨w.heap.size + 1, 2, none⟩ (.int .i64 0)).setCell ⟨w.heap.size + 1, 3, none⟩ (.int .i64 0)).setCell ⟨w.heap.size + 1, 4, none⟩ (.int .i64 0)).setCell ⟨w.heap.size + 1, 5, none⟩ (.int .i64 0)).setCell ⟨w.heap.size + 1, 6, none⟩ (.int .i64 0)).setCell ⟨w.heap.size + 1, 7, none⟩ (.int .i64 0)).setCell ⟨w.heap.size + 1, 8, none⟩ (.int .i64 0)).setCell ⟨w.heap.size + 1, 9, none⟩ (.int .i64 0)).setCell ⟨w.heap.size + 1, 10, none⟩ (.string ⟨#[]⟩)).cell? ⟨w.heap.size + 1, 10, none⟩ = some (.string ⟨#[]⟩) := by rw [hS]; exact fill_at (vs := [Value.int .i64 0, .int .i64 0, .int .i64 0, .int .i64 0, .int .i64 0, .int .i64 0, .int .i64 0, .int .i64 0, .int .i64 0, .int .i64 0, .string ⟨#[]⟩]) HI.out rfl
      refine bodyPost_ret (v := .tuple #[.agg #[.int .i64 0, .int .i64 0, .int .i64 0, .int .i64 0, .int .i64 0, .int .i64 0, .int .i64 0, .int .i64 0, .int .i64 0, .int .i64 0, .string ⟨#[]⟩], .int .i64 E]) ?_ rfl ⟨by first | rfl | rw [if_neg hK], HB.out⟩
      clear HB HI hS r0 r1 r2 r3 r4 r5 r6 r7 r8 r9 r10
      generalize (((((((((((w3.setCell ⟨w.heap.size + 1, 0, none⟩ (.int .i64 0)).setCell ⟨w.heap.size + 1, 1, none⟩ (.int .i64 0)).setCell ⟨w.heap.size + 1, 2, none⟩ (.int .i64 0)).setCell ⟨w.heap.size + 1, 3, none⟩ (.int .i64 0)).setCell ⟨w.heap.size + 1, 4, none⟩ (.int .i64 0)).setCell ⟨w.heap.size + 1, 5, none⟩ (.int .i64 0)).setCell ⟨w.heap.size + 1, 6, none⟩ (.int .i64 0)).setCell ⟨w.heap.size + 1, 7, none⟩ (.int .i64 0)).setCell ⟨w.heap.size + 1, 8, none⟩ (.int .i64 0)).setCell ⟨w.heap.size + 1, 9, none⟩ (.int .i64 0)).setCell ⟨w.heap.size + 1, 10, none⟩ (.string ⟨#[]⟩)) = W at *
      simp [results, Tryz.results46, go_sem, u0, u1, u2, u3, u4, u5, u6, u7, u8, u9, u10]
    · have hK0 : E = 0 := by omega
      subst hK0
      clear hK
      go_wp2_with fail
      have hS : (((((((((((w3.setCell ⟨w.heap.size + 1, 0, none⟩ (.int .i64 i)).setCell ⟨w.heap.size + 1, 1, none⟩ (.int .i64 dst)).setCell ⟨w.heap.size + 1, 2, none⟩ (.int .i64 src)).setCell ⟨w.heap.size + 1, 3, none⟩ (.int .i64 kind)).setCell ⟨w.heap.size + 1, 4, none⟩ (.int .i64 ips)).setCell ⟨w.heap.size + 1, 5, none⟩ (.int .i64 ipd)).setCell ⟨w.heap.size + 1, 6, none⟩ (.int .i64 ttl)).setCell ⟨w.heap.size + 1, 7, none⟩ (.int .i64 port)).setCell ⟨w.heap.size + 1, 8, none⟩ (.int .i64 net)).setCell ⟨w.heap.size + 1, 9, none⟩ (.int .i64 t)).setCell ⟨w.heap.size + 1, 10, none⟩ (.string body)) = w3.setCells (w.heap.size + 1) 0 [Value.int .i64 i, .int .i64 dst, .int .i64 src, .int .i64 kind, .int .i64 ips, .int .i64 ipd, .int .i64 ttl, .int .i64 port, .int .i64 net, .int .i64 t, .string body] := rfl
      have HB : Hid (Below w.heap.size w (((((((((((w3.setCell ⟨w.heap.size + 1, 0, none⟩ (.int .i64 i)).setCell ⟨w.heap.size + 1, 1, none⟩ (.int .i64 dst)).setCell ⟨w.heap.size + 1, 2, none⟩ (.int .i64 src)).setCell ⟨w.heap.size + 1, 3, none⟩ (.int .i64 kind)).setCell ⟨w.heap.size + 1, 4, none⟩ (.int .i64 ips)).setCell ⟨w.heap.size + 1, 5, none⟩ (.int .i64 ipd)).setCell ⟨w.heap.size + 1, 6, none⟩ (.int .i64 ttl)).setCell ⟨w.heap.size + 1, 7, none⟩ (.int .i64 port)).setCell ⟨w.heap.size + 1, 8, none⟩ (.int .i64 net)).setCell ⟨w.heap.size + 1, 9, none⟩ (.int .i64 t)).setCell ⟨w.heap.size + 1, 10, none⟩ (.string body))) := by rw [hS]; exact fill_below (Nat.le_succ _) _ _ _ (k3)
      have HI : Hid (∀ j, j < 11 → (w3.cell? ⟨w.heap.size + 1, j, none⟩).isSome = true) := fun j hj => by
        have hc : j = 0 ∨ j = 1 ∨ j = 2 ∨ j = 3 ∨ j = 4 ∨ j = 5 ∨ j = 6 ∨ j = 7 ∨ j = 8 ∨ j = 9 ∨ j = 10 := by omega
        rcases hc with rfl | rfl | rfl | rfl | rfl | rfl | rfl | rfl | rfl | rfl | rfl
        · rw [r0]; rfl
        · rw [r1]; rfl
        · rw [r2]; rfl
        · rw [r3]; rfl
        · rw [r4]; rfl
        · rw [r5]; rfl
        · rw [r6]; rfl
        · rw [r7]; rfl
        · rw [r8]; rfl
        · rw [r9]; rfl
        · rw [r10]; rfl
      have u0 : (((((((((((w3.setCell ⟨w.heap.size + 1, 0, none⟩ (.int .i64 i)).setCell ⟨w.heap.size + 1, 1, none⟩ (.int .i64 dst)).setCell ⟨w.heap.size + 1, 2, none⟩ (.int .i64 src)).setCell ⟨w.heap.size + 1, 3, none⟩ (.int .i64 kind)).setCell ⟨w.heap.size + 1, 4, none⟩ (.int .i64 ips)).setCell ⟨w.heap.size + 1, 5, none⟩ (.int .i64 ipd)).setCell ⟨w.heap.size + 1, 6, none⟩ (.int .i64 ttl)).setCell ⟨w.heap.size + 1, 7, none⟩ (.int .i64 port)).setCell ⟨w.heap.size + 1, 8, none⟩ (.int .i64 net)).setCell ⟨w.heap.size + 1, 9, none⟩ (.int .i64 t)).setCell ⟨w.heap.size + 1, 10, none⟩ (.string body)).cell? ⟨w.heap.size + 1, 0, none⟩ = some (.int .i64 i) := by rw [hS]; exact fill_at (vs := [Value.int .i64 i, .int .i64 dst, .int .i64 src, .int .i64 kind, .int .i64 ips, .int .i64 ipd, .int .i64 ttl, .int .i64 port, .int .i64 net, .int .i64 t, .string body]) HI.out rfl
      have u1 : (((((((((((w3.setCell ⟨w.heap.size + 1, 0, none⟩ (.int .i64 i)).setCell ⟨w.heap.size + 1, 1, none⟩ (.int .i64 dst)).setCell ⟨w.heap.size + 1, 2, none⟩ (.int .i64 src)).setCell ⟨w.heap.size + 1, 3, none⟩ (.int .i64 kind)).setCell ⟨w.heap.size + 1, 4, none⟩ (.int .i64 ips)).setCell ⟨w.heap.size + 1, 5, none⟩ (.int .i64 ipd)).setCell ⟨w.heap.size + 1, 6, none⟩ (.int .i64 ttl)).setCell ⟨w.heap.size + 1, 7, none⟩ (.int .i64 port)).setCell ⟨w.heap.size + 1, 8, none⟩ (.int .i64 net)).setCell ⟨w.heap.size + 1, 9, none⟩ (.int .i64 t)).setCell ⟨w.heap.size + 1, 10, none⟩ (.string body)).cell? ⟨w.heap.size + 1, 1, none⟩ = some (.int .i64 dst) := by rw [hS]; exact fill_at (vs := [Value.int .i64 i, .int .i64 dst, .int .i64 src, .int .i64 kind, .int .i64 ips, .int .i64 ipd, .int .i64 ttl, .int .i64 port, .int .i64 net, .int .i64 t, .string body]) HI.out rfl
      have u2 : (((((((((((w3.setCell ⟨w.heap.size + 1, 0, none⟩ (.int .i64 i)).setCell ⟨w.heap.size + 1, 1, none⟩ (.int .i64 dst)).setCell ⟨w.heap.size + 1, 2, none⟩ (.int .i64 src)).setCell ⟨w.heap.size + 1, 3, none⟩ (.int .i64 kind)).setCell ⟨w.heap.size + 1, 4, none⟩ (.int .i64 ips)).setCell ⟨w.heap.size + 1, 5, none⟩ (.int .i64 ipd)).setCell ⟨w.heap.size + 1, 6, none⟩ (.int .i64 ttl)).setCell ⟨w.heap.size + 1, 7, none⟩ (.int .i64 port)).setCell ⟨w.heap.size + 1, 8, none⟩ (.int .i64 net)).setCell ⟨w.heap.size + 1, 9, none⟩ (.int .i64 t)).setCell ⟨w.heap.size + 1, 10, none⟩ (.string body)).cell? ⟨w.heap.size + 1, 2, none⟩ = some (.int .i64 src) := by rw [hS]; exact fill_at (vs := [Value.int .i64 i, .int .i64 dst, .int .i64 src, .int .i64 kind, .int .i64 ips, .int .i64 ipd, .int .i64 ttl, .int .i64 port, .int .i64 net, .int .i64 t, .string body]) HI.out rfl
      have u3 : (((((((((((w3.setCell ⟨w.heap.size + 1, 0, none⟩ (.int .i64 i)).setCell ⟨w.heap.size + 1, 1, none⟩ (.int .i64 dst)).setCell ⟨w.heap.size + 1, 2, none⟩ (.int .i64 src)).setCell ⟨w.heap.size + 1, 3, none⟩ (.int .i64 kind)).setCell ⟨w.heap.size + 1, 4, none⟩ (.int .i64 ips)).setCell ⟨w.heap.size + 1, 5, none⟩ (.int .i64 ipd)).setCell ⟨w.heap.size + 1, 6, none⟩ (.int .i64 ttl)).setCell ⟨w.heap.size + 1, 7, none⟩ (.int .i64 port)).setCell ⟨w.heap.size + 1, 8, none⟩ (.int .i64 net)).setCell ⟨w.heap.size + 1, 9, none⟩ (.int .i64 t)).setCell ⟨w.heap.size + 1, 10, none⟩ (.string body)).cell? ⟨w.heap.size + 1, 3, none⟩ = some (.int .i64 kind) := by rw [hS]; exact fill_at (vs := [Value.int .i64 i, .int .i64 dst, .int .i64 src, .int .i64 kind, .int .i64 ips, .int .i64 ipd, .int .i64 ttl, .int .i64 port, .int .i64 net, .int .i64 t, .string body]) HI.out rfl
      have u4 : (((((((((((w3.setCell ⟨w.heap.size + 1, 0, none⟩ (.int .i64 i)).setCell ⟨w.heap.size + 1, 1, none⟩ (.int .i64 dst)).setCell ⟨w.heap.size + 1, 2, none⟩ (.int .i64 src)).setCell ⟨w.heap.size + 1, 3, none⟩ (.int .i64 kind)).setCell ⟨w.heap.size + 1, 4, none⟩ (.int .i64 ips)).setCell ⟨w.heap.size + 1, 5, none⟩ (.int .i64 ipd)).setCell ⟨w.heap.size + 1, 6, none⟩ (.int .i64 ttl)).setCell ⟨w.heap.size + 1, 7, none⟩ (.int .i64 port)).setCell ⟨w.heap.size + 1, 8, none⟩ (.int .i64 net)).setCell ⟨w.heap.size + 1, 9, none⟩ (.int .i64 t)).setCell ⟨w.heap.size + 1, 10, none⟩ (.string body)).cell? ⟨w.heap.size + 1, 4, none⟩ = some (.int .i64 ips) := by rw [hS]; exact fill_at (vs := [Value.int .i64 i, .int .i64 dst, .int .i64 src, .int .i64 kind, .int .i64 ips, .int .i64 ipd, .int .i64 ttl, .int .i64 port, .int .i64 net, .int .i64 t, .string body]) HI.out rfl
      have u5 : (((((((((((w3.setCell ⟨w.heap.size + 1, 0, none⟩ (.int .i64 i)).setCell ⟨w.heap.size + 1, 1, none⟩ (.int .i64 dst)).setCell ⟨w.heap.size + 1, 2, none⟩ (.int .i64 src)).setCell ⟨w.heap.size + 1, 3, none⟩ (.int .i64 kind)).setCell ⟨w.heap.size + 1, 4, none⟩ (.int .i64 ips)).setCell ⟨w.heap.size + 1, 5, none⟩ (.int .i64 ipd)).setCell ⟨w.heap.size + 1, 6, none⟩ (.int .i64 ttl)).setCell ⟨w.heap.size + 1, 7, none⟩ (.int .i64 port)).setCell ⟨w.heap.size + 1, 8, none⟩ (.int .i64 net)).setCell ⟨w.heap.size + 1, 9, none⟩ (.int .i64 t)).setCell ⟨w.heap.size + 1, 10, none⟩ (.string body)).cell? ⟨w.heap.size + 1, 5, none⟩ = some (.int .i64 ipd) := by rw [hS]; exact fill_at (vs := [Value.int .i64 i, .int .i64 dst, .int .i64 src, .int .i64 kind, .int .i64 ips, .int .i64 ipd, .int .i64 ttl, .int .i64 port, .int .i64 net, .int .i64 t, .string body]) HI.out rfl
      have u6 : (((((((((((w3.setCell ⟨w.heap.size + 1, 0, none⟩ (.int .i64 i)).setCell ⟨w.heap.size + 1, 1, none⟩ (.int .i64 dst)).setCell ⟨w.heap.size + 1, 2, none⟩ (.int .i64 src)).setCell ⟨w.heap.size + 1, 3, none⟩ (.int .i64 kind)).setCell ⟨w.heap.size + 1, 4, none⟩ (.int .i64 ips)).setCell ⟨w.heap.size + 1, 5, none⟩ (.int .i64 ipd)).setCell ⟨w.heap.size + 1, 6, none⟩ (.int .i64 ttl)).setCell ⟨w.heap.size + 1, 7, none⟩ (.int .i64 port)).setCell ⟨w.heap.size + 1, 8, none⟩ (.int .i64 net)).setCell ⟨w.heap.size + 1, 9, none⟩ (.int .i64 t)).setCell ⟨w.heap.size + 1, 10, none⟩ (.string body)).cell? ⟨w.heap.size + 1, 6, none⟩ = some (.int .i64 ttl) := by rw [hS]; exact fill_at (vs := [Value.int .i64 i, .int .i64 dst, .int .i64 src, .int .i64 kind, .int .i64 ips, .int .i64 ipd, .int .i64 ttl, .int .i64 port, .int .i64 net, .int .i64 t, .string body]) HI.out rfl
      have u7 : (((((((((((w3.setCell ⟨w.heap.size + 1, 0, none⟩ (.int .i64 i)).setCell ⟨w.heap.size + 1, 1, none⟩ (.int .i64 dst)).setCell ⟨w.heap.size + 1, 2, none⟩ (.int .i64 src)).setCell ⟨w.heap.size + 1, 3, none⟩ (.int .i64 kind)).setCell ⟨w.heap.size + 1, 4, none⟩ (.int .i64 ips)).setCell ⟨w.heap.size + 1, 5, none⟩ (.int .i64 ipd)).setCell ⟨w.heap.size + 1, 6, none⟩ (.int .i64 ttl)).setCell ⟨w.heap.size + 1, 7, none⟩ (.int .i64 port)).setCell ⟨w.heap.size + 1, 8, none⟩ (.int .i64 net)).setCell ⟨w.heap.size + 1, 9, none⟩ (.int .i64 t)).setCell ⟨w.heap.size + 1, 10, none⟩ (.string body)).cell? ⟨w.heap.size + 1, 7, none⟩ = some (.int .i64 port) := by rw [hS]; exact fill_at (vs := [Value.int .i64 i, .int .i64 dst, .int .i64 src, .int .i64 kind, .int .i64 ips, .int .i64 ipd, .int .i64 ttl, .int .i64 port, .int .i64 net, .int .i64 t, .string body]) HI.out rfl
      have u8 : (((((((((((w3.setCell ⟨w.heap.size + 1, 0, none⟩ (.int .i64 i)).setCell ⟨w.heap.size + 1, 1, none⟩ (.int .i64 dst)).setCell ⟨w.heap.size + 1, 2, none⟩ (.int .i64 src)).setCell ⟨w.heap.size + 1, 3, none⟩ (.int .i64 kind)).setCell ⟨w.heap.size + 1, 4, none⟩ (.int .i64 ips)).setCell ⟨w.heap.size + 1, 5, none⟩ (.int .i64 ipd)).setCell ⟨w.heap.size + 1, 6, none⟩ (.int .i64 ttl)).setCell ⟨w.heap.size + 1, 7, none⟩ (.int .i64 port)).setCell ⟨w.heap.size + 1, 8, none⟩ (.int .i64 net)).setCell ⟨w.heap.size + 1, 9, none⟩ (.int .i64 t)).setCell ⟨w.heap.size + 1, 10, none⟩ (.string body)).cell? ⟨w.heap.size + 1, 8, none⟩ = some (.int .i64 net) := by rw [hS]; exact fill_at (vs := [Value.int .i64 i, .int .i64 dst, .int .i64 src, .int .i64 kind, .int .i64 ips, .int .i64 ipd, .int .i64 ttl, .int .i64 port, .int .i64 net, .int .i64 t, .string body]) HI.out rfl
      have u9 : (((((((((((w3.setCell ⟨w.heap.size + 1, 0, none⟩ (.int .i64 i)).setCell ⟨w.heap.size + 1, 1, none⟩ (.int .i64 dst)).setCell ⟨w.heap.size + 1, 2, none⟩ (.int .i64 src)).setCell ⟨w.heap.size + 1, 3, none⟩ (.int .i64 kind)).setCell ⟨w.heap.size + 1, 4, none⟩ (.int .i64 ips)).setCell ⟨w.heap.size + 1, 5, none⟩ (.int .i64 ipd)).setCell ⟨w.heap.size + 1, 6, none⟩ (.int .i64 ttl)).setCell ⟨w.heap.size + 1, 7, none⟩ (.int .i64 port)).setCell ⟨w.heap.size + 1, 8, none⟩ (.int .i64 net)).setCell ⟨w.heap.size + 1, 9, none⟩ (.int .i64 t)).setCell ⟨w.heap.size + 1, 10, none⟩ (.string body)).cell? ⟨w.heap.size + 1, 9, none⟩ = some (.int .i64 t) := by rw [hS]; exact fill_at (vs := [Value.int .i64 i, .int .i64 dst, .int .i64 src, .int .i64 kind, .int .i64 ips, .int .i64 ipd, .int .i64 ttl, .int .i64 port, .int .i64 net, .int .i64 t, .string body]) HI.out rfl
      have u10 : (((((((((((w3.setCell ⟨w.heap.size + 1, 0, none⟩ (.int .i64 i)).setCell ⟨w.heap.size + 1, 1, none⟩ (.int .i64 dst)).setCell ⟨w.heap.size + 1, 2, none⟩ (.int .i64 src)).setCell ⟨w.heap.size + 1, 3, none⟩ (.int .i64 kind)).setCell ⟨w.heap.size + 1, 4, none⟩ (.int .i64 ips)).setCell ⟨w.heap.size + 1, 5, none⟩ (.int .i64 ipd)).setCell ⟨w.heap.size + 1, 6, none⟩ (.int .i64 ttl)).setCell ⟨w.heap.size + 1, 7, none⟩ (.int .i64 port)).setCell ⟨w.heap.size + 1, 8, none⟩ (.int .i64 net)).setCell ⟨w.heap.size + 1, 9, none⟩ (.int .i64 t)).setCell ⟨w.heap.size + 1, 10, none⟩ (.string body)).cell? ⟨w.heap.size + 1, 10, none⟩ = some (.string body) := by rw [hS]; exact fill_at (vs := [Value.int .i64 i, .int .i64 dst, .int .i64 src, .int .i64 kind, .int .i64 ips, .int .i64 ipd, .int .i64 ttl, .int .i64 port, .int .i64 net, .int .i64 t, .string body]) HI.out rfl
      refine bodyPost_ret (v := .tuple #[.agg #[.int .i64 i, .int .i64 dst, .int .i64 src, .int .i64 kind, .int .i64 ips, .int .i64 ipd, .int .i64 ttl, .int .i64 port, .int .i64 net, .int .i64 t, .string body], .int .i64 0]) ?_ rfl ⟨rfl, HB.out⟩
      clear HB HI hS r0 r1 r2 r3 r4 r5 r6 r7 r8 r9 r10
      generalize (((((((((((w3.setCell ⟨w.heap.size + 1, 0, none⟩ (.int .i64 i)).setCell ⟨w.heap.size + 1, 1, none⟩ (.int .i64 dst)).setCell ⟨w.heap.size + 1, 2, none⟩ (.int .i64 src)).setCell ⟨w.heap.size + 1, 3, none⟩ (.int .i64 kind)).setCell ⟨w.heap.size + 1, 4, none⟩ (.int .i64 ips)).setCell ⟨w.heap.size + 1, 5, none⟩ (.int .i64 ipd)).setCell ⟨w.heap.size + 1, 6, none⟩ (.int .i64 ttl)).setCell ⟨w.heap.size + 1, 7, none⟩ (.int .i64 port)).setCell ⟨w.heap.size + 1, 8, none⟩ (.int .i64 net)).setCell ⟨w.heap.size + 1, 9, none⟩ (.int .i64 t)).setCell ⟨w.heap.size + 1, 10, none⟩ (.string body)) = W at *
      simp [results, Tryz.results46, go_sem, u0, u1, u2, u3, u4, u5, u6, u7, u8, u9, u10]

end Go.Proofs.YtjcomoinggiedaaGreat

namespace Go.Proofs.YtjcomoinggiedaaGreat
open Go.RowKit
set_option linter.unusedVariables false
set_option maxRecDepth 100000

set_option maxHeartbeats 1000000 in
theorem sum_any (b off len cap : Nat) (xs : List Int) (w : World) (hl : xs.length = len) (hx : Bs xs) (hs : len ≤ 100) (hlc : len ≤ cap)
    (hcell : ∀ i, i < len → w.cell? ⟨b, off + i, none⟩ = some (.int .u8 (xs.getD i 0))) :
    Calls Tryz.prog 55 #[.slice (some ⟨b, off, none⟩) len cap] w fun e w' => e = .returned (.int .i64 (sm xs)) ∧ w' = w := by
  go_enter Tryz.func55, Tryz.ntmps55
  go_wp2
  go_loop [3, 8] (fun t i => ∃ k : Nat, k ≤ len ∧ i = .int .i64 k ∧ t = .int .i64 (tot xs k)) (fun _ i => len - (intOf i).toNat)
  case atStart => exact ⟨0, Nat.zero_le _, rfl, rfl⟩
  case round =>
    obtain ⟨k, hk, rfl, rfl⟩ := hrel
    have ht := tot_bd hx k
    by_cases hlt : k < len
    · have hc := hcell k hlt
      have hb := hx.at k
      have HT : Hid (tot xs (k + 1) = tot xs k + wt k (xs.getD k 0)) := rfl
      clear hcell
      generalize xs.getD k 0 = c at hc hb HT
      obtain ⟨hb0, hb1⟩ := hb
      obtain ⟨ht0, ht1⟩ := ht
      rcases Nat.mod_two_eq_zero_or_one k with hm | hm
      · have hm' : ((k : Int) % 2 == 0) = true := by simp; omega
        go_wp2
        go_round
        case rel => exact ⟨k + 1, by omega, by go_num, by rw [HT.out]; unfold wt; rw [if_pos hm]; go_num⟩
        case measure => simp [intOf]; omega
      · have hm' : ((k : Int) % 2 == 0) = false := by simp; omega
        go_wp2
        go_round
        case rel => exact ⟨k + 1, by omega, by go_num, by rw [HT.out]; unfold wt; rw [if_neg (by omega)]⟩
        case measure => simp [intOf]; omega
    · have hkl : k = xs.length := by omega
      have HS : Hid (sm xs = 65535 - norm (tot xs k)) := by show _ = _; unfold sm; rw [hkl]
      have hT2 : tot xs k ≤ 6528000 := by omega
      obtain ⟨ht0, ht1⟩ := ht
      clear hcell hkl ht1 hx
      generalize tot xs k = T at *
      go_wp2
      go_loop [3] (fun t => ∃ S : Int, 0 ≤ S ∧ S ≤ 6528000 ∧ t = .int .i64 S ∧ norm S = norm T) (fun t => (intOf t).toNat)
      case atStart => exact ⟨T, ht0, hT2, rfl, rfl⟩
      case round =>
        obtain ⟨S, hS0, hS1, rfl, hN⟩ := hrel
        have HN : Hid (norm S = norm T) := hN
        clear hN
        by_cases hgt : 65535 < S
        · go_wp2
          go_round
          case rel => exact ⟨S % 65536 + S / 65536, by omega, by omega, by go_num, by rw [norm_carry S hgt]; exact HN.out⟩
          case measure => simp [intOf]; omega
        · go_wp2
          go_ret
          exact ⟨int_ret (by rw [HS.out, ← HN.out, norm_small S hS0 (by omega)]), rfl⟩

theorem infoByte : (Tryz.prog.info? 5).map (fun i => (i.zero, i.size, i.bytes)) = some (some (.int .u8 0), 1, 1) := by kernel_rfl

set_option maxHeartbeats 1000000 in
theorem appendWord_any (B : Nat) (v : Value) (xs : List Int) (x : Int) (w : World) (hown : w.ownsRow B 5 1 v xs.length (U xs)) (hx0 : 0 ≤ x) (hx1 : x ≤ 65535) (hl : xs.length ≤ 1000) (hB : B ≤ w.heap.size) :
    Calls Tryz.prog 54 #[v, .int .i64 x] w fun e w' => ∃ v', e = .returned v' ∧ w'.ownsRow B 5 1 v' (xs ++ word x).length (U (xs ++ word x)) ∧ Below B w w' := by
  obtain ⟨i0, hi, hz0, hz1, hz2⟩ := info_parts infoByte
  go_enter Tryz.func54, Tryz.ntmps54
  go_wp2_with (at_builtin; refine wpList_append_own _ rfl _ _ 88 rfl B 5 i0 (.int .u8 0) 1 1 Tryz.underlying88 hi hz0 hz1 hz2 rfl (by decide) _ _ _ rfl (hown.alloc _) ⟨w.heap.size, 0, none⟩ 2 2 (U (word x)) rfl rfl ?c1 ?c2 ?c3 ?c4 ?c5 ?_)
  case c1 =>
    intro j u hj
    match j, hj with
    | 0, hj => simp [U, word] at hj; subst hj; simp [Addr.add]
    | 1, hj => simp [U, word] at hj; subst hj; simp [Addr.add]
  case c2 => exact U_one _
  case c3 => unfold maxLen; omega
  case c4 => omega
  case c5 => simp; omega
  intro v' w1 hown' hgrow _
  have hbel : Below B w w1 := ((Below.refl B w).alloc hB _).grown hgrow (by simp; omega) (own_ge hown)
  have hown2 : w1.ownsRow B 5 1 v' (xs ++ word x).length (U (xs ++ word x)) := by rw [U_append, List.length_append]; exact hown'
  clear hown' hgrow hown
  go_wp2
  go_ret
  exact ⟨v', rfl, hown2, hbel⟩

end Go.Proofs.YtjcomoinggiedaaGreat

namespace Go.Proofs.YtjcomoinggiedaaGreat
open Go.RowKit
set_option linter.unusedVariables false
set_option maxRecDepth 100000

theorem wrap_i64_small (n : Int) (h0 : 0 ≤ n) (h1 : n < 2 ^ 16) : IntKind.i64.wrap n = n := by
  simp [IntKind.wrap, IntKind.bits, IntKind.signed]
  split <;> omega
theorem or_word (p q : Int) (h0 : 0 ≤ p) (h1 : p ≤ 255) (h2 : 0 ≤ q) (h3 : q ≤ 255) : bits .or .i64 (p * 256) q = p * 256 + q :=
  bits_join .i64 16 (by decide) wrap_i64_small 8 (p * 256) q (by omega) (by omega) (by omega) h2 (by omega) (by omega)

/-- Bytes lie at a place of memory. -/
def Lies (w : World) (b off : Nat) (xs : List Int) : Prop := ∀ i, i < xs.length → w.cell? ⟨b, off + i, none⟩ = some (.int .u8 (xs.getD i 0))
/-- The byte at a place. -/
def bt (xs : List Int) (i : Nat) : Int := xs.getD i 0
/-- The word at a place. -/
def wd (xs : List Int) (i : Nat) : Int := xs.getD i 0 * 256 + xs.getD (i + 1) 0

set_option maxHeartbeats 1000000 in
theorem wordAt_any (b off len cap : Nat) (xs : List Int) (i : Int) (w : World) (hl : xs.length = len) (hx : Bs xs) (hm : len ≤ 140737488355328) (hlc : len ≤ cap) (hL : Lies w b off xs) (h0 : 0 ≤ i) (h1 : i + 1 < len) :
    Calls Tryz.prog 185 #[.slice (some ⟨b, off, none⟩) len cap, .int .i64 i] w fun e w' => e = .returned (.int .i64 (wd xs i.toNat)) ∧ ∃ n, w' = w.drewN n := by
  have c0 := hL i.toNat (by omega)
  have c1 := hL (i + 1).toNat (by omega)
  have b0 := hx.at i.toNat
  have b1 := hx.at (i + 1).toNat
  have HW : Hid (wd xs i.toNat = xs.getD i.toNat 0 * 256 + xs.getD (i + 1).toNat 0) := by show _ = _; unfold wd; rw [show (i + 1).toNat = i.toNat + 1 by omega]
  generalize xs.getD i.toNat 0 = p at c0 b0 HW
  generalize xs.getD (i + 1).toNat 0 = q at c1 b1 HW
  obtain ⟨p0, p1⟩ := b0
  obtain ⟨q0, q1⟩ := b1
  have hor := or_word p q p0 p1 q0 q1
  clear hL hx hl
  have h2 : i < len := by omega
  go_enter Tryz.func185, Tryz.ntmps185
  go_wp2
  go_quiet (fail)
  go_wp2
  go_ret
  exact ⟨int_ret HW.out.symm, _, rfl⟩

theorem Lies.drewN {w : World} {b off : Nat} {xs : List Int} (h : Lies w b off xs) (n : Nat) : Lies (w.drewN n) b off xs := fun i hi => by
  have := h i hi
  simpa using this
theorem Lies.take {w : World} {b off : Nat} {xs : List Int} (h : Lies w b off xs) (k : Nat) : Lies w b off (xs.take k) := fun i hi => by
  have hk : i < k ∧ i < xs.length := by rw [List.length_take] at hi; omega
  rw [h i hk.2]
  simp [hk.1]

set_option maxHeartbeats 1000000 in
theorem bodySize_any (b off len cap : Nat) (xs : List Int) (w : World) (hl : xs.length = len) (hx : Bs xs) (hm : len ≤ 140737488355328) (hlc : len ≤ cap) (hL : Lies w b off xs) (h1 : 16 ≤ len) :
    Calls Tryz.prog 216 #[.slice (some ⟨b, off, none⟩) len cap] w fun e w' => e = .returned (.int .i64 (wd xs 12)) ∧ ∃ n, w' = w.drewN n := by
  go_enter Tryz.func216, Tryz.ntmps216
  go_wp2_with fail
  refine (wordAt_any b off len cap xs 12 _ hl hx hm hlc hL (by omega) (by omega)).mono ?_
  rintro e w' ⟨rfl, n, rfl⟩
  go_wp2_with fail
  go_ret
  exact ⟨rfl, n, rfl⟩

/-- P1.4: what is wrong with bytes ahead of the frame that they tell. -/
def chk (xs : List Int) : Int :=
  if xs.length < 16 then 5 else if 40 < wd xs 12 then 1 else if (xs.length : Int) < 16 + wd xs 12 then 5 else if 16 + wd xs 12 < (xs.length : Int) then 4 else
    if wd xs (14 + (wd xs 12).toNat) ≠ sm (xs.take (14 + (wd xs 12).toNat)) then 10 else 0

theorem wd_bd {xs : List Int} (hx : Bs xs) (i : Nat) : 0 ≤ wd xs i ∧ wd xs i ≤ 65535 := by
  have h1 := hx.at i
  have h2 := hx.at (i + 1)
  unfold wd; omega

set_option maxHeartbeats 1000000 in
theorem checkBytes_short (a : Option Addr) (len cap : Nat) (w : World) (h : len < 16) :
    Calls Tryz.prog 203 #[.slice a len cap] w fun e w' => e = .returned (.int .i64 5) ∧ w' = w := by
  go_enter Tryz.func203, Tryz.ntmps203
  go_wp2
  go_ret
  exact ⟨rfl, rfl⟩

set_option maxHeartbeats 1000000 in
theorem checkBytes_any (b off len cap : Nat) (xs : List Int) (w : World) (hl : xs.length = len) (hx : Bs xs) (hm : len ≤ 140737488355328) (hlc : len ≤ cap) (hL : Lies w b off xs) (h1 : 16 ≤ len) :
    Calls Tryz.prog 203 #[.slice (some ⟨b, off, none⟩) len cap] w fun e w' => e = .returned (.int .i64 (chk xs)) ∧ ∃ n, w' = w.drewN n := by
  have hw := wd_bd hx 12
  have HCK : Hid (chk xs = if 40 < wd xs 12 then 1 else if (len : Int) < 16 + wd xs 12 then 5 else if 16 + wd xs 12 < (len : Int) then 4 else
    if wd xs (14 + (wd xs 12).toNat) ≠ sm (xs.take (14 + (wd xs 12).toNat)) then 10 else 0) := by
    show _ = _
    unfold chk
    rw [if_neg (by omega), hl]
  have HB := hide (fun w' (h : Lies w' b off xs) => bodySize_any b off len cap xs w' hl hx hm hlc h h1)
  obtain ⟨n, hn⟩ := Int.eq_ofNat_of_zero_le hw.1
  have hnb : n ≤ 65535 := by omega
  rw [hn] at HCK HB
  rw [Int.toNat_natCast] at HCK
  clear hw
  go_enter Tryz.func203, Tryz.ntmps203
  go_wp2_with fail
  refine (unhide HB _ hL).mono ?_
  rintro e w' ⟨rfl, m, rfl⟩
  have hL1 := hL.drewN m
  clear HB hL hn
  by_cases c1 : 40 < n
  · go_wp2
    go_ret
    exact ⟨int_ret (by rw [HCK.out, if_pos (by omega)]), m, rfl⟩
  · by_cases c2 : len < 16 + n
    · go_wp2
      go_ret
      exact ⟨int_ret (by rw [HCK.out, if_neg (by omega), if_pos (by omega)]), m, rfl⟩
    · by_cases c3 : 16 + n < len
      · go_wp2
        go_ret
        exact ⟨int_ret (by rw [HCK.out, if_neg (by omega), if_neg (by omega), if_pos (by omega)]), m, rfl⟩
      · have hT : (xs.take (14 + n)).length = 14 + n := by simp; omega
        have HT := hide hT
        clear hT
        have hT1 : 14 + n ≤ cap := by omega
        obtain ⟨w1, hw1⟩ : ∃ w1, w1 = w.drewN m := ⟨_, rfl⟩
        rw [← hw1] at hL1 ⊢
        have HW1 := hide hw1
        clear hw1
        go_wp2_with fail
        go_quiet ((first | (go_at_call 185; exact Calls.quiet_of (wordAt_any b off len cap xs _ _ hl hx hm hlc (hL1.drewN _) (by omega) (by omega))) | (go_at_call 55; exact Calls.quiet_of_same (sum_any b off (14 + n) cap (xs.take (14 + n)) _ HT.out (hx.take _) (by omega) hT1 (fun i hi => ((hL1.take (14 + n)).drewN _) i (by rw [HT.out]; exact hi))))))
        have hck : chk xs = if wd xs (14 + n) ≠ sm (xs.take (14 + n)) then 10 else 0 := by rw [HCK.out, if_neg (by omega), if_neg (by omega), if_neg (by omega)]
        have HK := hide hck
        clear hck HCK
        generalize wd xs (14 + n) = p at *
        generalize sm (xs.take (14 + n)) = q at *
        by_cases hpq : p = q
        · have hne : (p != q) = false := by simpa using hpq
          go_wp2
          go_ret
          exact ⟨int_ret (by rw [HK.out, if_neg (by simpa using hpq)]), m + nq, by rw [HW1.out, World.drewN_drewN]⟩
        · have hne : (p != q) = true := by simpa using hpq
          go_wp2
          go_ret
          exact ⟨int_ret (by rw [HK.out, if_pos hpq]), m + nq, by rw [HW1.out, World.drewN_drewN]⟩

end Go.Proofs.YtjcomoinggiedaaGreat

namespace Go.Proofs.YtjcomoinggiedaaGreat
open Go.RowKit
set_option linter.unusedVariables false
set_option maxRecDepth 100000

theorem Lies.lt {w : World} {b off : Nat} {xs : List Int} (h : Lies w b off xs) (h0 : 0 < xs.length) : b < w.heap.size := by
  have := h 0 h0
  rcases Nat.lt_or_ge b w.heap.size with h' | h'
  · exact h'
  · simp [World.cell?, Array.getElem?_eq_none h'] at this
theorem Lies.below {w w' : World} {b off B : Nat} {xs : List Int} (h : Lies w b off xs) (hb : Below B w w') (hB : b < B) : Lies w' b off xs := fun i hi => (hb.cell (p := ⟨b, off + i, none⟩) hB).trans (h i hi)
theorem lies_drewN (w : World) (b off : Nat) (xs : List Int) (n : Nat) : Lies (w.drewN n) b off xs ↔ Lies w b off xs := by
  constructor
  · intro h i hi; have := h i hi; simpa using this
  · intro h; exact h.drewN n
theorem lies_drew (w : World) (b off : Nat) (xs : List Int) : Lies w.drew b off xs ↔ Lies w b off xs := by
  constructor
  · intro h i hi; have := h i hi; simpa using this
  · intro h i hi; have := h i hi; simpa using this

theorem lies_alloc (w : World) (o : Obj) (b off : Nat) (xs : List Int) (h : b < w.heap.size) : Lies (w.alloc o) b off xs ↔ Lies w b off xs := by
  have hb : Below w.heap.size w (w.alloc o) := (Below.refl _ w).alloc (Nat.le_refl _) o
  constructor
  · intro hL i hi; rw [← hb.cell (p := ⟨b, off + i, none⟩) h]; exact hL i hi
  · intro hL; exact hL.below hb h
theorem cell_set_ne (w : World) (a : Addr) (v : Value) (b o : Nat) (h : ¬ b = a.block) : (w.setCell a v).cell? ⟨b, o, none⟩ = w.cell? ⟨b, o, none⟩ :=
  World.cell?_of_block (w := w) (Below.heap_setCell w a v b h)
theorem lies_set_ne (w : World) (a : Addr) (v : Value) (b off : Nat) (xs : List Int) (h : ¬ b = a.block) : Lies (w.setCell a v) b off xs ↔ Lies w b off xs := by
  constructor
  · intro hL i hi; rw [← cell_set_ne w a v b _ h]; exact hL i hi
  · intro hL i hi; rw [cell_set_ne w a v b _ h]; exact hL i hi

/-- The text of bytes that tell a frame. -/
def bodyOf (xs : List Int) (n : Nat) : ByteArray := strOfNums ((xs.drop 14).take n)
theorem bodyOf_size (xs : List Int) (n : Nat) (h : 14 + n ≤ xs.length) : (bodyOf xs n).size = n := by
  unfold bodyOf; rw [strOfNums_size]; simp; omega

theorem conv_body (b off cap n : Nat) (xs : List Int) (hn : 14 + n ≤ xs.length) (w : World) (hL : Lies w b off xs) :
    (convert 88 9 (.slice (some ⟨b, off + 14, none⟩) n cap)).run Tryz.prog w = .ok (.string (bodyOf xs n)) w :=
  run_convert_bytes_arg w 88 5 Tryz.underlying88 Tryz.underlying5 b (off + 14) n cap ((xs.drop 14).take n) (by simp; omega) (fun i hi => by
    rw [show off + 14 + i = off + (14 + i) by omega, hL (14 + i) (by omega)]
    simp [hi]) 9 Tryz.underlying9

/-- The frame that bytes tell. -/
abbrev told (xs : List Int) (n : Nat) : Value := fr (wd xs 0) (wd xs 2) (bt xs 4) (wd xs 6) (wd xs 8) (bt xs 5) (wd xs 10) (bodyOf xs n)

set_option maxHeartbeats 2000000 in
theorem parse_any (b off len cap n : Nat) (xs : List Int) (w : World) (hl : xs.length = len) (hx : Bs xs) (hm : len ≤ 140737488355328) (hlc : len ≤ cap) (hL : Lies w b off xs) (hn : wd xs 12 = n) (h1 : 16 + n = len) (h40 : n ≤ 40) :
    Calls Tryz.prog 204 #[.slice (some ⟨b, off, none⟩) len cap] w fun e w' => e = .returned (told xs n) ∧ Below w.heap.size w w' := by
  have hb := hL.lt (by omega)
  have hL0 : ∀ o : Obj, Lies (w.alloc o) b off xs := fun o => hL.below ((Below.refl _ w).alloc (Nat.le_refl _) o) hb
  have c4 : ∀ w', Lies w' b off xs → w'.cell? ⟨b, off + 4, none⟩ = some (.int .u8 (xs.getD 4 0)) := fun w' h => h 4 (by omega)
  have c5 : ∀ w', Lies w' b off xs → w'.cell? ⟨b, off + 5, none⟩ = some (.int .u8 (xs.getD 5 0)) := fun w' h => h 5 (by omega)
  have b4 := hx.at 4
  have b5 := hx.at 5
  have HW := hide (fun (w' : World) (h : Lies w' b off xs) (i : Int) (h0 : 0 ≤ i) (h1 : i + 1 < len) => wordAt_any b off len cap xs i w' hl hx hm hlc h h0 h1)
  have HB := hide (fun (w' : World) (h : Lies w' b off xs) => bodySize_any b off len cap xs w' hl hx hm hlc h (by omega))
  rw [hn] at HB
  have hcv := fun (c : Nat) (w' : World) (h : Lies w' b off xs) => conv_body b off c n xs (by omega) w' h
  clear hL hx hn
  have n14 : ¬ cap = 14 := by omega
  have hbn : ¬ b = w.heap.size := by omega
  have HT : Hid (told xs n = fr (wd xs 0) (wd xs 2) (xs.getD 4 0) (wd xs 6) (wd xs 8) (xs.getD 5 0) (wd xs 10) (bodyOf xs n)) := rfl
  generalize xs.getD 4 0 = x4 at *
  generalize xs.getD 5 0 = x5 at *
  obtain ⟨b40, b41⟩ := b4
  obtain ⟨b50, b51⟩ := b5
  have k0 : (4 : Int) < (len : Int) := by omega
  have k1 : (5 : Int) < (len : Int) := by omega
  have k2 : (14 : Int) ≤ 14 + (n : Int) := by omega
  have k3 : 14 + (n : Int) ≤ (cap : Int) := by omega
  have k4 : (0 : Int) ≤ 14 + (n : Int) := by omega
  have k5 : IntKind.i64.wrap (14 + (n : Int)) = 14 + (n : Int) := wrap_i64_small _ (by omega) (by omega)
  have k6 : (14 + (n : Int)).toNat - 14 = n := by omega
  have k7 : IntKind.i64.wrap x4 = x4 := wrap_i64_small _ (by omega) (by omega)
  have k8 : IntKind.i64.wrap x5 = x5 := wrap_i64_small _ (by omega) (by omega)
  go_enter Tryz.func204, Tryz.ntmps204
  go_wp2_with fail
  go_region_held3 (fun w' => Lies w' b off xs ∧ w'.cell? ⟨b, off + 4, none⟩ = some (.int .u8 x4) ∧ w'.cell? ⟨b, off + 5, none⟩ = some (.int .u8 x5)) (first | (simp [*, lies_drewN, lies_drew]; done) | (simp [*, lies_set_ne]; done))
    (first | (go_at_call 185; refine (unhide HW _ (by first | assumption | (simp [*]; done)) _ (by omega) (by omega)).mono ?_; rintro e w' ⟨rfl, m, rfl⟩) | (go_at_call 216; refine (unhide HB _ (by first | assumption | (simp [*]; done))).mono ?_; rintro e w' ⟨rfl, m, rfl⟩))
  go_wp2
  refine bodyPost_ret (v := fr (wd xs 0) (wd xs 2) x4 (wd xs 6) (wd xs 8) x5 (wd xs 10) (bodyOf xs n)) ?_ rfl ⟨by rw [HT.out], ?_⟩
  · simp [results, Tryz.results204, go_sem]
  · refine Below.setCell (Below.setCell (Below.setCell (Below.setCell (Below.setCell (Below.setCell (Below.setCell (Below.setCell ?_ ?_ _) ?_ _) ?_ _) ?_ _) ?_ _) ?_ _) ?_ _) ?_ _
    · exact below_drewN ((Below.refl _ _).alloc (Nat.le_refl _) _) _
    all_goals exact Nat.le_refl _

end Go.Proofs.YtjcomoinggiedaaGreat

namespace Go.Proofs.YtjcomoinggiedaaGreat
open Go.RowKit
set_option linter.unusedVariables false
set_option maxRecDepth 100000

theorem fault_zero {dst src kind ips ipd ttl port : Int} {n : Nat} (h : fault dst src kind ips ipd ttl port n = 0) :
    (1 ≤ kind ∧ kind ≤ 3) ∧ (0 ≤ dst ∧ dst ≤ 65535) ∧ (0 ≤ src ∧ src ≤ 65535) ∧ (0 ≤ ips ∧ ips ≤ 65535) ∧ (0 ≤ ipd ∧ ipd ≤ 65535) ∧ (0 ≤ port ∧ port ≤ 65535) ∧ (0 ≤ ttl ∧ ttl ≤ 255) ∧ n ≤ 40 := by
  unfold fault at h
  by_cases hk : kindB kind = true
  · rw [if_pos hk] at h
    by_cases hb : boundsB dst src ips ipd ttl port = true
    · rw [if_pos hb] at h
      by_cases hn : 40 < n
      · rw [if_pos hn] at h; omega
      · unfold boundsB wordB lifeB at hb
        unfold kindB at hk
        simp at hb hk
        omega
    · rw [if_neg hb] at h; omega
  · rw [if_neg hk] at h; omega

theorem enc0_bs {dst src kind ips ipd ttl port : Int} {body : ByteArray} (hf : fault dst src kind ips ipd ttl port body.size = 0) : Bs (enc0 dst src kind ips ipd ttl port body) := by
  obtain ⟨⟨hk0, hk1⟩, ⟨hd0, hd1⟩, ⟨hs0, hs1⟩, ⟨hi0, hi1⟩, ⟨hj0, hj1⟩, ⟨hp0, hp1⟩, ⟨ht0, ht1⟩, hn⟩ := fault_zero hf
  unfold enc0
  exact (((((((word_bs _ hd0 hd1).append (word_bs _ hs0 hs1)).append (fun n h => by simp at h; rcases h with rfl | rfl <;> omega)).append (word_bs _ hi0 hi1)).append (word_bs _ hj0 hj1)).append (word_bs _ hp0 hp1)).append (word_bs _ (by omega) (by omega))).append (nums_bs body)

theorem strCells_U (s : ByteArray) : Lib.strCells s = U (nums s) := by simp [Lib.strCells, U, nums]

theorem own_app {w : World} {B m : Nat} {v : Value} {xs ys : List Int} (h : w.ownsRow B 5 1 v (xs.length + m) (U xs ++ U ys)) (hm : ys.length = m) : w.ownsRow B 5 1 v (xs ++ ys).length (U (xs ++ ys)) := by
  rw [U_append, List.length_append, hm]; exact h

/-- A slice that owns bytes: where they lie. -/
theorem own_cells {w : World} {B : Nat} {v : Value} {xs : List Int} (h : w.ownsRow B 5 1 v xs.length (U xs)) (hne : 0 < xs.length) :
    ∃ g cap, v = .slice (some ⟨g, 0, none⟩) xs.length cap ∧ (B ≤ g ∧ g < w.heap.size) ∧ xs.length ≤ cap ∧ ∀ i, i < xs.length → w.cell? ⟨g, 0 + i, none⟩ = some (.int .u8 (xs.getD i 0)) := by
  have hc := h
  obtain ⟨_, ⟨_, h0⟩ | ⟨g, cap, cur, rfl, hg, hgc, hcap, _⟩⟩ := h
  · omega
  · refine ⟨g, cap, rfl, ⟨hg, lt_of_block hgc⟩, hcap, fun i hi => ?_⟩
    have := hc.cells (g := g) rfl i (.int .u8 (xs.getD i 0)) (by simp [U, List.getD, hi])
    have hp : (⟨g, 0, none⟩ : Addr).add i = ⟨g, 0 + i, none⟩ := by unfold Addr.add; split <;> simp_all
    rw [← hp]; exact this

set_option maxHeartbeats 1000000 in
theorem encode_no (dst src kind ips ipd ttl port : Int) (body : ByteArray) (w : World) (hb : body.size ≤ maxLen) (hf : fault dst src kind ips ipd ttl port body.size ≠ 0) :
    Calls Tryz.prog 36 #[fr dst src kind ips ipd ttl port body] w fun e w' => e = .returned (.tuple #[.slice none 0 0, .int .i64 (fault dst src kind ips ipd ttl port body.size)]) ∧ Below w.heap.size w w' := by
  have hf' : (fault dst src kind ips ipd ttl port body.size != 0) = true := by simpa using hf
  go_enter Tryz.func36, Tryz.ntmps36
  go_wp2_with fail
  refine (check_any _ _ _ _ _ _ _ _ _ hb).mono ?_
  rintro e w1 ⟨rfl, hb1⟩
  go_wp2_with fail
  go_ret2
  exact ⟨rfl, ((Below.refl _ _).alloc (Nat.le_refl _) _).trans (hb1.mono (by simp))⟩

set_option maxHeartbeats 2000000 in
theorem encode_yes (dst src kind ips ipd ttl port : Int) (body : ByteArray) (w : World) (hf : fault dst src kind ips ipd ttl port body.size = 0) :
    Calls Tryz.prog 36 #[fr dst src kind ips ipd ttl port body] w fun e w' => ∃ v, e = .returned (.tuple #[v, .int .i64 0]) ∧
      w'.ownsRow w.heap.size 5 1 v (enc dst src kind ips ipd ttl port body).length (U (enc dst src kind ips ipd ttl port body)) ∧ Below w.heap.size w w' := by
  obtain ⟨⟨hk0, hk1⟩, ⟨hd0, hd1⟩, ⟨hs0, hs1⟩, ⟨hi0, hi1⟩, ⟨hj0, hj1⟩, ⟨hp0, hp1⟩, ⟨ht0, ht1⟩, hn⟩ := fault_zero hf
  have hbm : body.size ≤ maxLen := by unfold maxLen; omega
  obtain ⟨i0, hi, hz0, hz1, hz2⟩ := info_parts infoByte
  go_enter Tryz.func36, Tryz.ntmps36
  go_wp2_with fail
  refine (check_any _ _ _ _ _ _ _ _ _ hbm).mono ?_
  rintro e w1 ⟨rfl, hb1⟩
  have hB1 : w.heap.size + 1 ≤ w1.heap.size := by have := hb1.size; simpa using this
  have hb1' := hb1.mono (B' := w.heap.size + 1) (by simp)
  clear hb1
  obtain ⟨hc1, _⟩ := bcell2 hb1'
  go_wp2_with fail
  refine (appendWord_any (w.heap.size + 1) (.slice none 0 0) [] dst _ (World.ownsRow_nil _ _ _ _) hd0 hd1 (by simp) hB1).mono ?_
  rintro e w2 ⟨v2, rfl, ho2, hb2⟩
  have hb2' := hb1'.trans hb2
  have hB2 := Nat.le_trans hB1 hb2.size
  clear hb2 hc1
  obtain ⟨hc2, _⟩ := bcell2 hb2'
  go_wp2_with fail
  refine (appendWord_any (w.heap.size + 1) v2 _ src _ ho2 hs0 hs1 (by simp [word]) hB2).mono ?_
  rintro e w3 ⟨v3, rfl, ho3, hb3⟩
  have hb3' := hb2'.trans hb3
  have hB3 := Nat.le_trans hB2 hb3.size
  clear hb3 hc2 ho2 hb1' hb2'
  obtain ⟨hc3, _⟩ := bcell2 hb3'
  go_wp2_with (at_builtin; refine wpList_append_own _ rfl _ _ 88 rfl (w.heap.size + 1) 5 i0 (.int .u8 0) 1 1 Tryz.underlying88 hi hz0 hz1 hz2 rfl (by decide) _ _ _ rfl (ho3.alloc _) ⟨w3.heap.size, 0, none⟩ 2 2 (U [kind, ttl]) rfl rfl ?c1 ?c2 ?c3 ?c4 ?c5 ?_)
  case c1 =>
    intro j u hj
    match j, hj with
    | 0, hj => simp [U] at hj; subst hj; simp [Addr.add]
    | 1, hj => simp [U] at hj; subst hj; simp [Addr.add]
  case c2 => exact U_one _
  case c3 => simp [word, maxLen]
  case c4 => simp [word]
  case c5 => simp; omega
  intro v4 w4 ho4 hg4 _
  have hb4 : Below (w.heap.size + 1) w3 w4 := ((Below.refl _ w3).alloc hB3 _).grown hg4 (by simp; omega) (own_ge ho3)
  have hb4' := hb3'.trans hb4
  have hB4 := Nat.le_trans hB3 hb4.size
  have ho4' := own_app ho4 rfl
  clear hb4 hc3 ho3 hb3' ho4 hg4
  obtain ⟨hc4, _⟩ := bcell2 hb4'
  go_wp2_with fail
  refine (appendWord_any (w.heap.size + 1) v4 _ ips _ ho4' hi0 hi1 (by simp [word]) hB4).mono ?_
  rintro e w5 ⟨v5, rfl, ho5, hb5⟩
  have hb5' := hb4'.trans hb5
  have hB5 := Nat.le_trans hB4 hb5.size
  clear hb5 hc4 ho4' hb4'
  obtain ⟨hc5, _⟩ := bcell2 hb5'
  go_wp2_with fail
  refine (appendWord_any (w.heap.size + 1) v5 _ ipd _ ho5 hj0 hj1 (by simp [word]) hB5).mono ?_
  rintro e w6 ⟨v6, rfl, ho6, hb6⟩
  have hb6' := hb5'.trans hb6
  have hB6 := Nat.le_trans hB5 hb6.size
  clear hb6 hc5 ho5 hb5'
  obtain ⟨hc6, _⟩ := bcell2 hb6'
  go_wp2_with fail
  refine (appendWord_any (w.heap.size + 1) v6 _ port _ ho6 hp0 hp1 (by simp [word]) hB6).mono ?_
  rintro e w7 ⟨v7, rfl, ho7, hb7⟩
  have hb7' := hb6'.trans hb7
  have hB7 := Nat.le_trans hB6 hb7.size
  clear hb7 hc6 ho6 hb6'
  obtain ⟨hc7, _⟩ := bcell2 hb7'
  go_wp2_with fail
  refine (appendWord_any (w.heap.size + 1) v7 _ (body.size : Int) _ ho7 (by omega) (by omega) (by simp [word]) hB7).mono ?_
  rintro e w8 ⟨v8, rfl, ho8, hb8⟩
  have hb8' := hb7'.trans hb8
  have hB8 := Nat.le_trans hB7 hb8.size
  clear hb8 hc7 ho7 hb7'
  obtain ⟨hc8, _⟩ := bcell2 hb8'
  go_wp2_with (at_builtin; refine Lib.wpList_append_own_string _ rfl _ _ 88 9 rfl (w.heap.size + 1) 5 i0 Tryz.underlying88 Tryz.underlying9 hi hz0 hz1 hz2 _ _ _ rfl ho8 body rfl ?d1 ?d2 ?d3 ?_)
  case d1 => simp [word, maxLen]; omega
  case d2 => simp [word]; omega
  case d3 => exact hB8
  intro v9 w9 ho9 hg9 _
  have hb9 : Below (w.heap.size + 1) w8 w9 := (Below.refl _ w8).grown hg9 hB8 (own_ge ho8)
  have hb9' := hb8'.trans hb9
  have hB9 := Nat.le_trans hB8 hb9.size
  rw [strCells_U] at ho9
  have ho9' := own_app ho9 (nums_length body)
  clear hb9 hc8 ho8 hb8' ho9 hg9
  obtain ⟨xs, hxs⟩ : ∃ xs, xs = enc0 dst src kind ips ipd ttl port body := ⟨_, rfl⟩
  have ho : w9.ownsRow (w.heap.size + 1) 5 1 v9 xs.length (U xs) := by rw [hxs]; exact ho9'
  have hxl : xs.length = 14 + body.size := by rw [hxs]; exact enc0_length _ _ _ _ _ _ _ _
  have hbs : Bs xs := by rw [hxs]; exact enc0_bs hf
  have HE : Hid (enc dst src kind ips ipd ttl port body = xs ++ word (sm xs)) := by show _ = _; rw [hxs]; rfl
  clear ho9' hxs
  have hxl1 : 14 ≤ xs.length := by omega
  have hxl2 : xs.length ≤ 54 := by omega
  clear hxl
  obtain ⟨hsm0, hsm1⟩ := sm_bd hbs
  obtain ⟨g, cap, rfl, hg, hcap, hcell⟩ := own_cells ho (by omega)
  go_wp2_with fail
  refine (sum_any g 0 xs.length cap xs _ rfl hbs (by omega) hcap hcell).mono ?_
  rintro e w' ⟨rfl, rfl⟩
  clear hcell
  go_wp2_with fail
  refine (appendWord_any (w.heap.size + 1) _ xs (sm xs) _ ho hsm0 hsm1 (by omega) hB9).mono ?_
  rintro e w10 ⟨v10, rfl, ho10, hb10⟩
  have hb10' := hb9'.trans hb10
  clear ho hb9' hb10
  go_wp2_with fail
  go_ret2
  refine ⟨v10, rfl, ?_, ((Below.refl _ _).alloc (Nat.le_refl _) _).trans (hb10'.mono (by omega))⟩
  rw [HE.out]
  exact own_less ho10 (by omega)

end Go.Proofs.YtjcomoinggiedaaGreat

namespace Go.Proofs.YtjcomoinggiedaaGreat
open Go.RowKit
set_option linter.unusedVariables false
set_option maxRecDepth 100000

/-- A slice of bytes that came in: its bytes. -/
def IsB (w : World) (a : Option Addr) (len cap : Nat) (xs : List Int) : Prop :=
  xs.length = len ∧ Bs xs ∧ len ≤ 140737488355328 ∧ (len = 0 ∨ ∃ b off, a = some ⟨b, off, none⟩ ∧ len ≤ cap ∧ Lies w b off xs)

theorem IsB.below {w w' : World} {a : Option Addr} {len cap : Nat} {xs : List Int} {B : Nat} (h : IsB w a len cap xs) (hb : Below B w w') (hB : w.heap.size ≤ B) : IsB w' a len cap xs := by
  obtain ⟨h1, h2, h3, h0 | ⟨b, off, ha, hc, hL⟩⟩ := h
  · exact ⟨h1, h2, h3, .inl h0⟩
  · by_cases h0 : len = 0
    · exact ⟨h1, h2, h3, .inl h0⟩
    · exact ⟨h1, h2, h3, .inr ⟨b, off, ha, hc, hL.below hb (Nat.lt_of_lt_of_le (hL.lt (by omega)) hB)⟩⟩

theorem below_set8 {B : Nat} {a w : World} (h : Below B a w) (g : Nat) (hg : B ≤ g) (v0 v1 v2 v3 v4 v5 v6 v7 : Value) :
    Below B a ((((((((w.setCell ⟨g, 0, none⟩ v0).setCell ⟨g, 1, none⟩ v1).setCell ⟨g, 2, none⟩ v2).setCell ⟨g, 3, none⟩ v3).setCell ⟨g, 4, none⟩ v4).setCell ⟨g, 5, none⟩ v5).setCell ⟨g, 6, none⟩ v6).setCell ⟨g, 7, none⟩ v7) :=
  Below.setCell (Below.setCell (Below.setCell (Below.setCell (Below.setCell (Below.setCell (Below.setCell (Below.setCell h hg _) hg _) hg _) hg _) hg _) hg _) hg _) hg _

abbrev zeroF : Value := fr 0 0 0 0 0 0 0 ⟨#[]⟩

/-- P1.4: the error, and the frame. -/
def toldFault (xs : List Int) : Int := fault (wd xs 0) (wd xs 2) (bt xs 4) (wd xs 6) (wd xs 8) (bt xs 5) (wd xs 10) (wd xs 12).toNat
def decE (xs : List Int) : Int := if chk xs = 0 then toldFault xs else chk xs
def decV (xs : List Int) : Value := if decE xs = 0 then told xs (wd xs 12).toNat else zeroF

theorem chk_zero {xs : List Int} (hx : Bs xs) (h : chk xs = 0) : 16 ≤ xs.length ∧ wd xs 12 ≤ 40 ∧ 16 + (wd xs 12).toNat = xs.length ∧ wd xs (14 + (wd xs 12).toNat) = sm (xs.take (14 + (wd xs 12).toNat)) := by
  have hw := wd_bd hx 12
  unfold chk at h
  by_cases c0 : xs.length < 16
  · rw [if_pos c0] at h; omega
  · rw [if_neg c0] at h
    by_cases c1 : 40 < wd xs 12
    · rw [if_pos c1] at h; omega
    · rw [if_neg c1] at h
      by_cases c2 : (xs.length : Int) < 16 + wd xs 12
      · rw [if_pos c2] at h; omega
      · rw [if_neg c2] at h
        by_cases c3 : 16 + wd xs 12 < (xs.length : Int)
        · rw [if_pos c3] at h; omega
        · rw [if_neg c3] at h
          by_cases c4 : wd xs (14 + (wd xs 12).toNat) = sm (xs.take (14 + (wd xs 12).toNat))
          · exact ⟨by omega, by omega, by omega, c4⟩
          · rw [if_pos c4] at h; omega

set_option maxHeartbeats 1000000 in
theorem decode_any (a : Option Addr) (len cap : Nat) (xs : List Int) (w : World) (hI : IsB w a len cap xs) :
    Calls Tryz.prog 184 #[.slice a len cap] w fun e w' => e = .returned (.tuple #[decV xs, .int .i64 (decE xs)]) ∧ Below w.heap.size w w' := by
  obtain ⟨hl, hx, hm, hI⟩ := hI
  by_cases h16 : len < 16
  · have hE : decE xs = 5 := by
      have hc : chk xs = 5 := by unfold chk; rw [if_pos (by omega)]
      unfold decE; rw [hc]; rfl
    have hV : decV xs = zeroF := by unfold decV; rw [hE]; rfl
    have HR : Hid (Ending.returned (.tuple #[decV xs, .int .i64 (decE xs)]) = .returned (.tuple #[zeroF, .int .i64 5])) := by show _ = _; rw [hE, hV]
    clear hE hV hI
    go_enter Tryz.func184, Tryz.ntmps184
    go_wp2_with fail
    refine (checkBytes_short a len cap _ h16).mono ?_
    rintro e w' ⟨rfl, rfl⟩
    go_wp2_with fail
    refine bodyPost_ret (v := .tuple #[zeroF, .int .i64 5]) ?_ rfl ⟨HR.out.symm, ?_⟩
    · simp [results, Tryz.results184, go_sem]
    · exact (Below.refl _ _).alloc (Nat.le_refl _) _
  · have h16' : 16 ≤ len := by omega
    obtain ⟨b, off, rfl, hlc, hL⟩ : ∃ b off, a = some ⟨b, off, none⟩ ∧ len ≤ cap ∧ Lies w b off xs := by
      rcases hI with h0 | h
      · omega
      · exact h
    clear hI h16
    have hbw := hL.lt (by omega)
    have hL0 : ∀ o : Obj, Lies (w.alloc o) b off xs := fun o => hL.below ((Below.refl _ w).alloc (Nat.le_refl _) o) hbw
    by_cases hc : chk xs = 0
    · obtain ⟨_, hw40, hlen, _⟩ := chk_zero hx hc
      have HC := hide (fun w' h => checkBytes_any b off len cap xs w' hl hx hm hlc h h16')
      obtain ⟨n, hn⟩ := Int.eq_ofNat_of_zero_le (wd_bd hx 12).1
      have hn40 : n ≤ 40 := by omega
      have hn16 : 16 + n = len := by rw [hn, Int.toNat_natCast] at hlen; omega
      have HP := hide (fun w' h => parse_any b off len cap n xs w' hl hx hm hlc h hn hn16 hn40)
      have hbs := bodyOf_size xs n (by omega)
      have hE : decE xs = fault (wd xs 0) (wd xs 2) (bt xs 4) (wd xs 6) (wd xs 8) (bt xs 5) (wd xs 10) (bodyOf xs n).size := by unfold decE toldFault; rw [if_pos hc, hn, Int.toNat_natCast, hbs]
      have hV : decV xs = if decE xs = 0 then told xs n else zeroF := by unfold decV; rw [hn, Int.toNat_natCast]
      have HK := hide (fun w' => check_any (wd xs 0) (wd xs 2) (bt xs 4) (wd xs 6) (wd xs 8) (bt xs 5) (wd xs 10) (bodyOf xs n) w' (by rw [hbs]; unfold maxLen; omega))
      rw [hc] at HC
      rw [← hE] at HK
      clear hE hn hbs hL hlen hw40 hc
      go_enter Tryz.func184, Tryz.ntmps184
      go_wp2_with fail
      refine (unhide HC _ (hL0 _)).mono ?_
      rintro e w' ⟨rfl, m, rfl⟩
      go_wp2_with fail
      refine (unhide HP _ ((hL0 _).drewN m)).mono ?_
      rintro e w2 ⟨rfl, hb2⟩
      have hz2 : w.heap.size < w2.heap.size := by have := hb2.size; simp at this; omega
      have hz2' : ¬ w.heap.size = w2.heap.size := by omega
      have hb2' := hb2.mono (B' := w.heap.size + 1) (by simp)
      obtain ⟨hc2, hf2⟩ := bcell2 hb2'
      go_wp2_with fail
      refine (unhide HK _).mono ?_
      rintro e w3 ⟨rfl, hb3⟩
      have hb3' := hb3.mono (B' := w2.heap.size + 1) (by simp)
      obtain ⟨hc3, hf3⟩ := bcell2 hb3'
      have hbel : Below w.heap.size w w3 := ((below_drewN ((Below.refl w.heap.size w).alloc (Nat.le_refl _) _) m).trans (hb2'.mono (by omega))).trans (((Below.refl _ w2).alloc (by omega) _).trans (hb3'.mono (by omega)))
      clear hb2 hb3 HC HP HK hb2' hb3' hL0
      have HV := hide hV
      clear hV
      by_cases hz : decE xs = 0
      · have hV0 : decV xs = told xs n := by rw [HV.out, if_pos hz]
        have HR : Hid (Ending.returned (.tuple #[decV xs, .int .i64 (decE xs)]) = .returned (.tuple #[told xs n, .int .i64 0])) := by show _ = _; rw [hV0, hz]
        clear hV0 HV
        go_wp2_with fail
        refine bodyPost_ret (v := .tuple #[told xs n, .int .i64 0]) ?_ rfl ⟨HR.out.symm, ?_⟩
        · simp [results, Tryz.results184, go_sem, hc3, hc2, hz2, Nat.lt_succ_of_lt hz2]
        · exact below_set8 hbel _ (Nat.le_refl _) _ _ _ _ _ _ _ _
      · have hV0 : decV xs = zeroF := by rw [HV.out, if_neg hz]
        have HR : Hid (Ending.returned (.tuple #[decV xs, .int .i64 (decE xs)]) = .returned (.tuple #[zeroF, .int .i64 (decE xs)])) := by show _ = _; rw [hV0]
        have hne : (decE xs != 0) = true := by simpa using hz
        clear hV0 HV hz
        go_wp2_with fail
        refine bodyPost_ret (v := .tuple #[zeroF, .int .i64 (decE xs)]) ?_ rfl ⟨HR.out.symm, ?_⟩
        · simp [results, Tryz.results184, go_sem, hc3, hc2, hz2, Nat.lt_succ_of_lt hz2]
        · exact below_set8 hbel _ (Nat.le_refl _) _ _ _ _ _ _ _ _
    · have hE : decE xs = chk xs := by unfold decE; rw [if_neg hc]
      have hV : decV xs = zeroF := by unfold decV; rw [hE, if_neg hc]
      have HR : Hid (Ending.returned (.tuple #[decV xs, .int .i64 (decE xs)]) = .returned (.tuple #[zeroF, .int .i64 (chk xs)])) := by show _ = _; rw [hE, hV]
      have HC := hide (fun w' h => checkBytes_any b off len cap xs w' hl hx hm hlc h h16')
      have hne : (chk xs != 0) = true := by simpa using hc
      clear hE hV hc hL
      generalize chk xs = c at *
      go_enter Tryz.func184, Tryz.ntmps184
      go_wp2_with fail
      refine (unhide HC _ (hL0 _)).mono ?_
      rintro e w' ⟨rfl, m, rfl⟩
      go_wp2_with fail
      refine bodyPost_ret (v := .tuple #[zeroF, .int .i64 c]) ?_ rfl ⟨HR.out.symm, ?_⟩
      · simp [results, Tryz.results184, go_sem]
      · exact below_set8 (below_drewN ((Below.refl _ _).alloc (Nat.le_refl _) _) _) _ (Nat.le_refl _) _ _ _ _ _ _ _ _

end Go.Proofs.YtjcomoinggiedaaGreat

namespace Go.Proofs.YtjcomoinggiedaaGreat
set_option linter.unusedVariables false
set_option maxRecDepth 100000
open Go.ChangeShapes Go.WideShapes Go.ChangeAt Go.RowKit

theorem own : ownKnob Tryz.prog.godebug = none := by kernel_rfl
theorem laidOut : laidOutB Tryz.prog = true := by kernel_rfl

theorem int_cell {H : Type} {enc : TypeId × Value → H} {w : World} {base : Nat} {spare : Nat → Bool} {held : Bool} {n i : Nat} {c : Value} {xs : List (DataW H × List MemPlace)} (hi : i < xs.length)
    (h : DataW.trod enc Tryz.prog w base spare held n 3 [c] = xs[i]?) : ∃ k, c = .int .i64 k ∧ (Lit.int .i64 k).wf = true := by
  rw [List.getElem?_eq_getElem hi] at h
  obtain ⟨k, hc, _, hw⟩ := DataW.trod_int Tryz.underlying3 h
  exact ⟨k, by simpa using hc, hw⟩

theorem string_cell {H : Type} {enc : TypeId × Value → H} {w : World} {base : Nat} {spare : Nat → Bool} {held : Bool} {n i : Nat} {c : Value} {xs : List (DataW H × List MemPlace)} (hi : i < xs.length)
    (h : DataW.trod enc Tryz.prog w base spare held n 9 [c] = xs[i]?) : ∃ s : ByteArray, c = .string s ∧ s.size ≤ maxLen := by
  rw [List.getElem?_eq_getElem hi] at h
  obtain ⟨k, hc, _, hw⟩ := DataW.trod_string Tryz.underlying9 h
  exact ⟨k, by simpa using hc, hw⟩

end Go.Proofs.YtjcomoinggiedaaGreat

namespace Go.Proofs.YtjcomoinggiedaaGreat
set_option linter.unusedVariables false
set_option maxRecDepth 100000
open Go.ChangeShapes Go.WideShapes Go.ChangeAt Go.RowKit

theorem cellsFrame : Tryz.prog.cellsOf 32 = 8 := by kernel_rfl

theorem array8 {α : Type} {cs : Array α} (h : cs.size = 8) : ∃ c0 c1 c2 c3 c4 c5 c6 c7, cs = #[c0, c1, c2, c3, c4, c5, c6, c7] := by
  obtain ⟨l⟩ := cs
  match l, h with
  | [c0, c1, c2, c3, c4, c5, c6, c7], _ => exact ⟨c0, c1, c2, c3, c4, c5, c6, c7, rfl⟩

theorem open_frame {H : Type} {enc : TypeId × Value → H} {w : World} {base b0 : Nat} {spare : Nat → Bool} {held : Bool} {r : Reach} {v : Value} {d : DataW H} {p : List MemPlace}
    (hv : Value.okWide Tryz.prog w r b0 32 v) (h : DataW.Trod enc Tryz.prog w base spare held 32 v d p) :
    ∃ dst src kind ips ipd ttl port : Int, ∃ body : ByteArray, v = fr dst src kind ips ipd ttl port body ∧ body.size ≤ maxLen ∧ (Lit.int .i64 dst).wf = true ∧ (Lit.int .i64 src).wf = true ∧ (Lit.int .i64 kind).wf = true
      ∧ (Lit.int .i64 ips).wf = true ∧ (Lit.int .i64 ipd).wf = true ∧ (Lit.int .i64 ttl).wf = true ∧ (Lit.int .i64 port).wf = true := by
  obtain ⟨cs, rfl, hsz⟩ := okWide_struct Tryz.underlying32 hv
  obtain ⟨c0, c1, c2, c3, c4, c5, c6, c7, rfl⟩ := array8 (hsz.trans cellsFrame)
  obtain ⟨fuel, hf⟩ := h
  obtain ⟨xs, n, _, _, _, hlen, hf⟩ := DataW.trod_struct Tryz.underlying32 hf
  have h8 : xs.length = 8 := by simpa using hlen
  have g0 := hf 0 _ rfl
  have g1 := hf 1 _ rfl
  have g2 := hf 2 _ rfl
  have g3 := hf 3 _ rfl
  have g4 := hf 4 _ rfl
  have g5 := hf 5 _ rfl
  have g6 := hf 6 _ rfl
  have g7 := hf 7 _ rfl
  simp only [Value.cells] at g0 g1 g2 g3 g4 g5 g6 g7
  obtain ⟨k0, rfl, w0⟩ := int_cell (i := 0) (by omega) g0
  obtain ⟨k1, rfl, w1⟩ := int_cell (i := 1) (by omega) g1
  obtain ⟨k2, rfl, w2⟩ := int_cell (i := 2) (by omega) g2
  obtain ⟨k3, rfl, w3⟩ := int_cell (i := 3) (by omega) g3
  obtain ⟨k4, rfl, w4⟩ := int_cell (i := 4) (by omega) g4
  obtain ⟨k5, rfl, w5⟩ := int_cell (i := 5) (by omega) g5
  obtain ⟨k6, rfl, w6⟩ := int_cell (i := 6) (by omega) g6
  obtain ⟨s, rfl, hs⟩ := string_cell (i := 7) (by omega) g7
  exact ⟨k0, k1, k2, k3, k4, k5, k6, s, rfl, hs, w0, w1, w2, w3, w4, w5, w6⟩

end Go.Proofs.YtjcomoinggiedaaGreat

namespace Go.Proofs.YtjcomoinggiedaaGreat
open Go.RowKit
set_option linter.unusedVariables false
set_option maxRecDepth 100000

theorem eqFrame (a b c d e f g : Int) (s : ByteArray) (w : World) : (Op.equalIn 10000 32 (.agg #[.int .i64 a, .int .i64 b, .int .i64 c, .int .i64 d, .int .i64 e, .int .i64 f, .int .i64 g, .string s]) (.agg #[.int .i64 a, .int .i64 b, .int .i64 c, .int .i64 d, .int .i64 e, .int .i64 f, .int .i64 g, .string s])).run Tryz.prog w = .ok true w := by
  have hS : Tryz.prog.underlying 32 = some (.struct (Tryz.prog.fieldsOf 32)) := by kernel_rfl
  have hp : Tryz.prog.stoodInHeld 32 = false := by kernel_rfl
  rw [show (10000 : Nat) = 9999 + 1 from rfl, run_equalIn_agg w 9999 32 _ _ hS hp]
  simp only [Program.fieldsOf, Tryz.underlying32]
  go_simp

theorem guardFrame : Tryz.prog.eqGuardType Tryz.prog.depth 32 = false := by kernel_rfl

end Go.Proofs.YtjcomoinggiedaaGreat

namespace Go.Proofs.YtjcomoinggiedaaGreat
open Go.ChangeShapes Go.WideShapes Go.ChangeAt Go.RowKit
set_option linter.unusedVariables false
set_option maxRecDepth 100000

/-- What owns bytes is a slice of bytes. -/
theorem own_isB {w : World} {B : Nat} {v : Value} {xs : List Int} (h : w.ownsRow B 5 1 v xs.length (U xs)) (hx : Bs xs) (hm : xs.length ≤ 140737488355328) : ∃ a cap, v = .slice a xs.length cap ∧ IsB w a xs.length cap xs := by
  by_cases h0 : xs.length = 0
  · obtain ⟨_, ⟨rfl, _⟩ | ⟨g, cap, cur, rfl, _⟩⟩ := h
    · exact ⟨none, 0, by rw [h0], rfl, hx, hm, .inl h0⟩
    · exact ⟨_, cap, rfl, rfl, hx, hm, .inl h0⟩
  · obtain ⟨g, cap, rfl, _, hc, hcell⟩ := own_cells h (by omega)
    exact ⟨_, cap, rfl, rfl, hx, hm, .inr ⟨g, 0, rfl, hc, hcell⟩⟩

theorem IsB.news {w : World} {ad : Addr} {len cap : Nat} {xs : List Int} (h : IsB w (some ad) len cap xs) : ∀ j u, (U xs)[j]? = some u → w.cell? (ad.add j) = some u := by
  obtain ⟨h1, h2, h3, h0 | ⟨b, off, ha, hc, hL⟩⟩ := h
  · intro j u hj
    have : xs = [] := List.eq_nil_of_length_eq_zero (by omega)
    subst this
    simp [U] at hj
  · cases ha
    intro j u hj
    have hjl : j < xs.length := by
      rcases Nat.lt_or_ge j xs.length with h | h
      · exact h
      · simp [U, List.getElem?_eq_none h] at hj
    have hp : (⟨b, off, none⟩ : Addr).add j = ⟨b, off + j, none⟩ := by unfold Addr.add; split <;> simp_all
    rw [hp, hL j hjl]
    simp [U, List.getElem?_eq_getElem hjl] at hj
    subst hj
    simp [List.getD, List.getElem?_eq_getElem hjl]

/-- A slice of bytes that came in, opened. -/
theorem open_bytes {H : Type} {enc : TypeId × Value → H} {w : World} {base b0 : Nat} {spare : Nat → Bool} {held : Bool} {r : Reach} {v : Value} {d : DataW H} {p : List MemPlace}
    (hv : Value.okWide Tryz.prog w r b0 88 v) (h : DataW.Trod enc Tryz.prog w base spare held 88 v d p) :
    ∃ a len cap xs, v = .slice a len cap ∧ xs.length = len ∧ Bs xs ∧ (len = 0 ∨ ∃ b off, a = some ⟨b, off, none⟩ ∧ len ≤ cap ∧ Lies w b off xs) ∧ (a = none → cap = 0) ∧
      (len = 0 ∨ ∃ elems sp, d = .slice elems sp ∧ elems.length = len) := by
  obtain ⟨a, len, cap, rfl⟩ := okWide_slice Tryz.underlying88 hv
  obtain ⟨fuel, hf⟩ := h
  rcases open_ints Tryz.underlying88 Tryz.underlying5 (by kernel_rfl) hf with ⟨hcs, _⟩ | ⟨x, l, c, zs, hcs, _, hl, hm, hz, hd, hcell, hwz⟩
  · simp [Value.cells] at hcs
    obtain ⟨rfl, rfl, rfl⟩ := hcs
    exact ⟨none, 0, 0, [], rfl, rfl, Bs.nil, .inl rfl, fun _ => rfl, .inl rfl⟩
  · simp [Value.cells] at hcs
    obtain ⟨rfl, rfl, rfl⟩ := hcs
    have hzl : len ≤ zs.length := by rw [hz]; split <;> omega
    have hbz : Bs zs := fun n hn => by
      have := hwz n hn
      simpa [Lit.wf, IntKind.min, IntKind.max, IntKind.signed, IntKind.bits] using this
    have htl : (zs.take len).length = len := by simp; omega
    simp only [Prod.mk.injEq] at hd
    refine ⟨some x, len, cap, zs.take len, rfl, htl, hbz.take len, ?_, fun h => by simp at h, .inr ⟨_, _, hd.1, by simp [lits]; omega⟩⟩
    by_cases h0 : len = 0
    · exact .inl h0
    · right
      obtain ⟨b, off, spot⟩ := x
      have hc0 := hcell 0 (by omega)
      have hspot : spot = none := by simpa [Addr.add] using World.cell?_spot hc0
      subst hspot
      refine ⟨b, off, rfl, hl, fun i hi => ?_⟩
      have hi' : i < len := by omega
      have hp : (⟨b, off, none⟩ : Addr).add i = ⟨b, off + i, none⟩ := by unfold Addr.add; split <;> simp_all
      rw [← hp, hcell i (by omega)]
      simp [hi']

theorem bytesU8 : Tryz.prog.bytesOf 5 = 1 := by kernel_rfl

end Go.Proofs.YtjcomoinggiedaaGreat

namespace Go.Proofs.YtjcomoinggiedaaGreat
open Go.RowKit
set_option linter.unusedVariables false
set_option maxRecDepth 100000

/-- Do bytes begin as those of a tunnel do? -/
def dyB (xs : List Int) : Bool := (strOfNums (xs.take 2)).toList == [100, 121]
def unwE (xs : List Int) : Int := if xs.length < 6 then 5 else if dyB xs = true then decE (xs.drop 6) else 4
def unw (xs : List Int) : Value := if unwE xs = 0 then .tuple #[.int .i64 (wd xs 2), .int .i64 (wd xs 4), decV (xs.drop 6), .int .i64 0] else .tuple #[.int .i64 0, .int .i64 0, zeroF, .int .i64 (unwE xs)]

theorem conv_two (b off cap : Nat) (xs : List Int) (hn : 2 ≤ xs.length) (w : World) (hL : Lies w b off xs) :
    (convert 88 9 (.slice (some ⟨b, off, none⟩) 2 cap)).run Tryz.prog w = .ok (.string (strOfNums (xs.take 2))) w :=
  run_convert_bytes_arg w 88 5 Tryz.underlying88 Tryz.underlying5 b off 2 cap (xs.take 2) (by simp; omega) (fun i hi => by
    rw [hL i (by omega)]
    simp [hi]) 9 Tryz.underlying9

theorem decV_form (xs : List Int) : ∃ a b c d e f g : Int, ∃ s : ByteArray, decV xs = fr a b c d e f g s := by
  unfold decV
  split
  · exact ⟨_, _, _, _, _, _, _, _, rfl⟩
  · exact ⟨_, _, _, _, _, _, _, _, rfl⟩

theorem unw_form (xs : List Int) : ∃ n t a b c d e f g : Int, ∃ s : ByteArray, ∃ x : Int, unw xs = .tuple #[.int .i64 n, .int .i64 t, fr a b c d e f g s, .int .i64 x] := by
  unfold unw
  split
  · obtain ⟨a, b, c, d, e, f, g, s, h⟩ := decV_form (xs.drop 6)
    rw [h]
    exact ⟨_, _, _, _, _, _, _, _, _, _, _, rfl⟩
  · exact ⟨_, _, _, _, _, _, _, _, _, _, _, rfl⟩

end Go.Proofs.YtjcomoinggiedaaGreat

namespace Go.Proofs.YtjcomoinggiedaaGreat
open Go.RowKit
set_option linter.unusedVariables false
set_option maxRecDepth 100000

/-- P1.5: a frame's bytes for a tunnel. -/
def wrapped (net tow dst src kind ips ipd ttl port : Int) (body : ByteArray) : List Int := [100, 121] ++ word net ++ word tow ++ enc dst src kind ips ipd ttl port body

theorem enc_length (dst src kind ips ipd ttl port : Int) (body : ByteArray) : (enc dst src kind ips ipd ttl port body).length = 16 + body.size := by
  unfold enc; rw [List.length_append, enc0_length]; simp [word]; omega

end Go.Proofs.YtjcomoinggiedaaGreat

namespace Go.Proofs.YtjcomoinggiedaaGreat
open Go.RowKit
set_option linter.unusedVariables false
set_option maxRecDepth 100000

theorem enc_form (dst src kind ips ipd ttl port : Int) (body : ByteArray) : ∃ q0 q1 : Int, word (sm (enc0 dst src kind ips ipd ttl port body)) = [q0, q1] ∧
    enc dst src kind ips ipd ttl port body = dst / 256 :: dst % 256 :: src / 256 :: src % 256 :: kind :: ttl :: ips / 256 :: ips % 256 :: ipd / 256 :: ipd % 256 :: port / 256 :: port % 256 :: (body.size : Int) / 256 :: (body.size : Int) % 256 :: (nums body ++ [q0, q1]) := by
  refine ⟨_, _, rfl, ?_⟩
  unfold enc
  have h : word (sm (enc0 dst src kind ips ipd ttl port body)) = [sm (enc0 dst src kind ips ipd ttl port body) / 256, sm (enc0 dst src kind ips ipd ttl port body) % 256] := rfl
  rw [h]
  generalize sm (enc0 dst src kind ips ipd ttl port body) / 256 = q0
  generalize sm (enc0 dst src kind ips ipd ttl port body) % 256 = q1
  simp [enc0, word]

theorem str_nums (s : ByteArray) : strOfNums (nums s) = s := by
  apply ByteArray.ext
  apply Array.toList_inj.1
  rw [strOfNums_data, nums, List.map_map]
  conv => rhs; rw [← List.map_id s.data.toList]
  apply List.map_congr_left
  intro x _
  simp

theorem enc_bs {dst src kind ips ipd ttl port : Int} {body : ByteArray} (hf : fault dst src kind ips ipd ttl port body.size = 0) : Bs (enc dst src kind ips ipd ttl port body) := by
  have h := sm_bd (enc0_bs hf)
  exact (enc0_bs hf).append (word_bs _ h.1 h.2)

/-- The words of a frame's bytes, with whatever behind them. -/
theorem enc_words {dst src kind ips ipd ttl port : Int} {body : ByteArray} (z : List Int) :
    wd (enc dst src kind ips ipd ttl port body ++ z) 0 = dst ∧ wd (enc dst src kind ips ipd ttl port body ++ z) 2 = src ∧ bt (enc dst src kind ips ipd ttl port body ++ z) 4 = kind ∧ bt (enc dst src kind ips ipd ttl port body ++ z) 5 = ttl ∧
    wd (enc dst src kind ips ipd ttl port body ++ z) 6 = ips ∧ wd (enc dst src kind ips ipd ttl port body ++ z) 8 = ipd ∧ wd (enc dst src kind ips ipd ttl port body ++ z) 10 = port ∧ wd (enc dst src kind ips ipd ttl port body ++ z) 12 = body.size := by
  obtain ⟨q0, q1, _, h⟩ := enc_form dst src kind ips ipd ttl port body
  rw [h]
  simp only [wd, bt, List.cons_append]
  refine ⟨?_, ?_, rfl, rfl, ?_, ?_, ?_, ?_⟩
  · show dst / 256 * 256 + dst % 256 = dst; omega
  · show src / 256 * 256 + src % 256 = src; omega
  · show ips / 256 * 256 + ips % 256 = ips; omega
  · show ipd / 256 * 256 + ipd % 256 = ipd; omega
  · show port / 256 * 256 + port % 256 = port; omega
  · show (body.size : Int) / 256 * 256 + (body.size : Int) % 256 = (body.size : Int); omega

theorem take_enc0 (dst src kind ips ipd ttl port : Int) (body : ByteArray) : (enc dst src kind ips ipd ttl port body).take (14 + body.size) = enc0 dst src kind ips ipd ttl port body := by
  unfold enc
  rw [List.take_append_of_le_length (by rw [enc0_length]; omega), List.take_of_length_le (by rw [enc0_length]; omega)]

theorem getD_app_right (a z : List Int) (i : Nat) : (a ++ z).getD (a.length + i) 0 = z.getD i 0 := by
  simp [List.getD, List.getElem?_append_right]

/-- What is written is read: no error. -/
theorem chk_enc {dst src kind ips ipd ttl port : Int} {body : ByteArray} (hf : fault dst src kind ips ipd ttl port body.size = 0) : chk (enc dst src kind ips ipd ttl port body) = 0 := by
  have h40 := (fault_zero hf).2.2.2.2.2.2.2
  have hw : wd (enc dst src kind ips ipd ttl port body) 12 = body.size := by have := (enc_words (dst := dst) (src := src) (kind := kind) (ips := ips) (ipd := ipd) (ttl := ttl) (port := port) (body := body) []).2.2.2.2.2.2.2; simpa using this
  have hl := enc_length dst src kind ips ipd ttl port body
  have hs := sm_bd (enc0_bs hf)
  have hq : wd (enc dst src kind ips ipd ttl port body) (14 + body.size) = sm (enc0 dst src kind ips ipd ttl port body) := by
    have h0 := enc0_length dst src kind ips ipd ttl port body
    unfold wd enc
    have e0 := getD_app_right (enc0 dst src kind ips ipd ttl port body) (word (sm (enc0 dst src kind ips ipd ttl port body))) 0
    have e1 := getD_app_right (enc0 dst src kind ips ipd ttl port body) (word (sm (enc0 dst src kind ips ipd ttl port body))) 1
    rw [h0] at e0 e1
    rw [Nat.add_zero] at e0
    rw [e0, e1]
    show sm _ / 256 * 256 + sm _ % 256 = sm _
    omega
  unfold chk
  rw [hw, hl, Int.toNat_natCast, take_enc0, hq, if_neg (by omega), if_neg (by omega), if_neg (by omega), if_neg (by omega)]
  simp

theorem body_enc (dst src kind ips ipd ttl port : Int) (body : ByteArray) : bodyOf (enc dst src kind ips ipd ttl port body) body.size = body := by
  obtain ⟨q0, q1, _, h⟩ := enc_form dst src kind ips ipd ttl port body
  rw [h]
  unfold bodyOf
  simp only [List.drop_succ_cons, List.drop_zero]
  rw [List.take_append_of_le_length (by rw [nums_length]; omega), List.take_of_length_le (by rw [nums_length]; omega), str_nums]

theorem dec_enc {dst src kind ips ipd ttl port : Int} {body : ByteArray} (hf : fault dst src kind ips ipd ttl port body.size = 0) :
    decE (enc dst src kind ips ipd ttl port body) = 0 ∧ decV (enc dst src kind ips ipd ttl port body) = fr dst src kind ips ipd ttl port body := by
  have hc := chk_enc hf
  have hw := enc_words (dst := dst) (src := src) (kind := kind) (ips := ips) (ipd := ipd) (ttl := ttl) (port := port) (body := body) []
  rw [List.append_nil] at hw
  obtain ⟨w0, w2, w4, w5, w6, w8, w10, w12⟩ := hw
  have hE : decE (enc dst src kind ips ipd ttl port body) = 0 := by
    unfold decE toldFault
    rw [if_pos hc, w0, w2, w4, w5, w6, w8, w10, w12, Int.toNat_natCast]
    exact hf
  refine ⟨hE, ?_⟩
  unfold decV
  rw [if_pos hE, w12, Int.toNat_natCast]
  unfold told
  rw [w0, w2, w4, w5, w6, w8, w10, body_enc]

/-- Cut short it is not read. -/
theorem dec_short {dst src kind ips ipd ttl port : Int} {body : ByteArray} (hf : fault dst src kind ips ipd ttl port body.size = 0) (k : Nat) (hk : k < (enc dst src kind ips ipd ttl port body).length) :
    decE ((enc dst src kind ips ipd ttl port body).take k) = 5 := by
  have h40 := (fault_zero hf).2.2.2.2.2.2.2
  have hl := enc_length dst src kind ips ipd ttl port body
  have hc : chk ((enc dst src kind ips ipd ttl port body).take k) = 5 := by
    have htl : ((enc dst src kind ips ipd ttl port body).take k).length = k := by rw [List.length_take]; omega
    unfold chk
    rw [htl]
    by_cases h16 : k < 16
    · rw [if_pos h16]
    · have hw : wd ((enc dst src kind ips ipd ttl port body).take k) 12 = body.size := by
        have := (enc_words (dst := dst) (src := src) (kind := kind) (ips := ips) (ipd := ipd) (ttl := ttl) (port := port) (body := body) []).2.2.2.2.2.2.2
        rw [List.append_nil] at this
        rw [← this]
        simp [wd, show 12 < k by omega, show 13 < k by omega]
      rw [hw, if_neg h16, if_neg (by omega), if_pos (by omega)]
  unfold decE
  rw [hc]
  rfl

/-- Longer it is not read. -/
theorem dec_long {dst src kind ips ipd ttl port : Int} {body : ByteArray} (hf : fault dst src kind ips ipd ttl port body.size = 0) (x : Int) : decE (enc dst src kind ips ipd ttl port body ++ [x]) = 4 := by
  have h40 := (fault_zero hf).2.2.2.2.2.2.2
  have hl := enc_length dst src kind ips ipd ttl port body
  have hw := (enc_words (dst := dst) (src := src) (kind := kind) (ips := ips) (ipd := ipd) (ttl := ttl) (port := port) (body := body) [x]).2.2.2.2.2.2.2
  have hc : chk (enc dst src kind ips ipd ttl port body ++ [x]) = 4 := by
    unfold chk
    rw [hw, List.length_append, hl, List.length_singleton, if_neg (by omega), if_neg (by omega), if_neg (by omega), if_pos (by omega)]
  unfold decE
  rw [hc]
  rfl

/-- In a tunnel, too. -/
theorem unw_wrapped {net tow dst src kind ips ipd ttl port : Int} {body : ByteArray} (hf : fault dst src kind ips ipd ttl port body.size = 0) :
    unw (wrapped net tow dst src kind ips ipd ttl port body) = .tuple #[.int .i64 net, .int .i64 tow, fr dst src kind ips ipd ttl port body, .int .i64 0] := by
  obtain ⟨hE, hV⟩ := dec_enc hf
  have hx : wrapped net tow dst src kind ips ipd ttl port body = 100 :: 121 :: net / 256 :: net % 256 :: tow / 256 :: tow % 256 :: enc dst src kind ips ipd ttl port body := by simp [wrapped, word]
  generalize enc dst src kind ips ipd ttl port body = xs at *
  have hd : dyB (wrapped net tow dst src kind ips ipd ttl port body) = true := by rw [hx]; unfold dyB; simp only [List.take_succ_cons, List.take_zero]; rw [ByteArray.toList_eq, strOfNums_data]; decide
  have h6 : (wrapped net tow dst src kind ips ipd ttl port body).drop 6 = xs := by rw [hx]; rfl
  have hU : unwE (wrapped net tow dst src kind ips ipd ttl port body) = 0 := by
    unfold unwE
    rw [if_neg (by rw [hx]; simp), if_pos hd, h6, hE]
  unfold unw
  rw [if_pos hU, h6, hV, hx]
  have e1 : wd (100 :: 121 :: net / 256 :: net % 256 :: tow / 256 :: tow % 256 :: xs) 2 = net := by show net / 256 * 256 + net % 256 = net; omega
  have e2 : wd (100 :: 121 :: net / 256 :: net % 256 :: tow / 256 :: tow % 256 :: xs) 4 = tow := by show tow / 256 * 256 + tow % 256 = tow; omega
  rw [e1, e2]

end Go.Proofs.YtjcomoinggiedaaGreat

namespace Go.Proofs.YtjcomoinggiedaaGreat
open Go.RowKit
set_option linter.unusedVariables false
set_option maxRecDepth 100000

set_option maxHeartbeats 1000000 in
/-- appendWord upon two bytes without spare room, wherever they lie. -/
theorem appendWord_full (g : Nat) (p q x : Int) (w : World) (h0 : w.cell? ⟨g, 0, none⟩ = some (.int .u8 p)) (h1 : w.cell? ⟨g, 1, none⟩ = some (.int .u8 q)) (hx0 : 0 ≤ x) (hx1 : x ≤ 65535) :
    Calls Tryz.prog 54 #[.slice (some ⟨g, 0, none⟩) 2 2, .int .i64 x] w fun e w' => ∃ v', e = .returned v' ∧ w'.ownsRow w.heap.size 5 1 v' ([p, q] ++ word x).length (U ([p, q] ++ word x)) ∧ Below w.heap.size w w' := by
  obtain ⟨i0, hi, hz0, hz1, hz2⟩ := info_parts infoByte
  have hlt : g < w.heap.size := by
    rcases Nat.lt_or_ge g w.heap.size with h | h
    · exact h
    · simp [World.cell?, Array.getElem?_eq_none h] at h0
  have holds : ∀ o : Obj, ∀ j u, (U [p, q])[j]? = some u → (w.alloc o).cell? ((⟨g, 0, none⟩ : Addr).add j) = some u := by
    intro o j u hj
    match j, hj with
    | 0, hj => simp [U] at hj; subst hj; exact Lib.cell?_alloc_marked o (by simpa [Addr.add] using h0)
    | 1, hj => simp [U] at hj; subst hj; exact Lib.cell?_alloc_marked o (by simpa [Addr.add] using h1)
  have HO := hide holds
  clear holds h0 h1
  go_enter Tryz.func54, Tryz.ntmps54
  go_wp2_with (at_builtin; refine wpList_append_grows _ rfl _ _ 88 rfl 5 i0 (.int .u8 0) 1 1 Tryz.underlying88 hi hz0 hz1 hz2 rfl (by decide) (some ⟨g, 0, none⟩) 2 2 (U [p, q]) rfl ?n1 rfl ?n2 ⟨w.heap.size, 0, none⟩ 2 2 (U (word x)) rfl rfl ?n3 ?n4 ?n5 ?n6 ?n7 ?_)
  case n1 => simp
  case n2 => intro b hb; cases hb; exact unhide HO _
  case n3 =>
    intro j u hj
    match j, hj with
    | 0, hj => simp [U, word] at hj; subst hj; simp [Addr.add]
    | 1, hj => simp [U, word] at hj; subst hj; simp [Addr.add]
  case n4 => exact U_one _
  case n5 => decide
  case n6 => decide
  case n7 => decide
  intro v' w1 hown' hgrow
  have hbel : Below w.heap.size w w1 := ((Below.refl _ w).alloc (Nat.le_refl _) _).grown hgrow (by simp) (by simp)
  have hown2 : w1.ownsRow w.heap.size 5 1 v' ([p, q] ++ word x).length (U ([p, q] ++ word x)) := own_less (own_app (xs := [p, q]) hown' rfl) (by simp)
  clear hown' hgrow HO
  go_wp2
  go_ret
  exact ⟨v', rfl, hown2, hbel⟩

theorem news_of {w : World} {g : Nat} {xs : List Int} (h : ∀ i, i < xs.length → w.cell? ⟨g, 0 + i, none⟩ = some (.int .u8 (xs.getD i 0))) : ∀ j u, (U xs)[j]? = some u → w.cell? ((⟨g, 0, none⟩ : Addr).add j) = some u := by
  intro j u hj
  have hjl : j < xs.length := by
    rcases Nat.lt_or_ge j xs.length with h | h
    · exact h
    · simp [U, List.getElem?_eq_none h] at hj
  have hp : (⟨g, 0, none⟩ : Addr).add j = ⟨g, 0 + j, none⟩ := by unfold Addr.add; split <;> simp_all
  rw [hp, h j hjl]
  simp [U, List.getElem?_eq_getElem hjl] at hj
  subst hj
  simp [List.getD, List.getElem?_eq_getElem hjl]

set_option maxHeartbeats 1000000 in
theorem wrap_far (net tow dst src kind ips ipd ttl port : Int) (body : ByteArray) (w : World) (hw : (wordB net && wordB tow) = false) :
    Calls Tryz.prog 132 #[.int .i64 net, .int .i64 tow, fr dst src kind ips ipd ttl port body] w fun e w' => e = .returned (.tuple #[.slice none 0 0, .int .i64 2]) ∧ Below w.heap.size w w' := by
  by_cases h1 : wordB net = true
  · have h2 : wordB tow = false := by simpa [h1] using hw
    clear hw
    go_enter Tryz.func132, Tryz.ntmps132
    go_wp2_with (go_at_call 144; refine (isWord_any _ _).mono ?_; rintro e w' ⟨rfl, rfl⟩)
    go_ret2
    exact ⟨rfl, (Below.refl _ _).alloc (Nat.le_refl _) _⟩
  · have h1' : wordB net = false := by simpa using h1
    clear hw h1
    go_enter Tryz.func132, Tryz.ntmps132
    go_wp2_with (go_at_call 144; refine (isWord_any _ _).mono ?_; rintro e w' ⟨rfl, rfl⟩)
    go_ret2
    exact ⟨rfl, (Below.refl _ _).alloc (Nat.le_refl _) _⟩

set_option maxHeartbeats 1000000 in
theorem wrap_no (net tow dst src kind ips ipd ttl port : Int) (body : ByteArray) (w : World) (h1 : wordB net = true) (h2 : wordB tow = true) (hb : body.size ≤ maxLen) (hf : fault dst src kind ips ipd ttl port body.size ≠ 0) :
    Calls Tryz.prog 132 #[.int .i64 net, .int .i64 tow, fr dst src kind ips ipd ttl port body] w fun e w' => e = .returned (.tuple #[.slice none 0 0, .int .i64 (fault dst src kind ips ipd ttl port body.size)]) ∧ Below w.heap.size w w' := by
  have hf' : (fault dst src kind ips ipd ttl port body.size != 0) = true := by simpa using hf
  go_enter Tryz.func132, Tryz.ntmps132
  go_wp2_with (go_at_call 144; refine (isWord_any _ _).mono ?_; rintro e w' ⟨rfl, rfl⟩)
  refine (encode_no _ _ _ _ _ _ _ _ _ hb hf).mono ?_
  rintro e w1 ⟨rfl, hb1⟩
  go_wp2_with fail
  go_ret2
  exact ⟨rfl, ((Below.refl _ _).alloc (Nat.le_refl _) _).trans (hb1.mono (by simp))⟩

set_option maxHeartbeats 1000000 in
theorem wrap_yes (net tow dst src kind ips ipd ttl port : Int) (body : ByteArray) (w : World) (h1 : wordB net = true) (h2 : wordB tow = true) (hf : fault dst src kind ips ipd ttl port body.size = 0) :
    Calls Tryz.prog 132 #[.int .i64 net, .int .i64 tow, fr dst src kind ips ipd ttl port body] w fun e w' => ∃ v, e = .returned (.tuple #[v, .int .i64 0]) ∧
      w'.ownsRow w.heap.size 5 1 v (wrapped net tow dst src kind ips ipd ttl port body).length (U (wrapped net tow dst src kind ips ipd ttl port body)) ∧ Below w.heap.size w w' := by
  have hn : 0 ≤ net ∧ net ≤ 65535 := by simpa [wordB] using h1
  have ht : 0 ≤ tow ∧ tow ≤ 65535 := by simpa [wordB] using h2
  obtain ⟨hn0, hn1⟩ := hn
  obtain ⟨ht0, ht1⟩ := ht
  have hn40 := (fault_zero hf).2.2.2.2.2.2.2
  obtain ⟨i0, hi, hz0, hz1, hz2⟩ := info_parts infoByte
  have kc := fun (w : World) (C : Array Value) (n c : Nat) => Lib.run_convert_bytes_const (P := Tryz.prog) w 88 5 C n c Tryz.underlying88 Tryz.underlying5
  have hlen := enc_length dst src kind ips ipd ttl port body
  go_enter Tryz.func132, Tryz.ntmps132
  go_wp2_with (go_at_call 144; refine (isWord_any _ _).mono ?_; rintro e w' ⟨rfl, rfl⟩)
  refine (encode_yes _ _ _ _ _ _ _ _ _ hf).mono ?_
  rintro e w1 ⟨v1, rfl, ho1, hb1⟩
  have HW : Hid (wrapped net tow dst src kind ips ipd ttl port body = [100, 121] ++ word net ++ word tow ++ enc dst src kind ips ipd ttl port body) := rfl
  generalize enc dst src kind ips ipd ttl port body = xs at *
  have hl1 : 16 ≤ xs.length := by omega
  have hl2 : xs.length ≤ 56 := by omega
  clear hlen hn40
  obtain ⟨g, cap, rfl, hg, _, hcell⟩ := own_cells ho1 (by omega)
  have hB1 : w.heap.size + 1 ≤ w1.heap.size := by have := hb1.size; simpa using this
  have HC := hide hcell
  clear hcell ho1
  go_wp2_with fail
  refine (appendWord_full w1.heap.size 100 121 net _ ?_ ?_ hn0 hn1).mono ?_
  · rw [World.cell?_alloc_mark]; rfl
  · rw [World.cell?_alloc_mark]; rfl
  rintro e w2 ⟨v2, rfl, ho2, hb2⟩
  have hs2 : w1.heap.size + 1 ≤ w2.heap.size := by have := hb2.size; simpa using this
  have hb2' : Below (w1.heap.size + 1) (w1.alloc (.cells #[.int .u8 100, .int .u8 121] 5 (2, 3))) w2 := hb2.mono (by simp)
  have ho2' := own_less ho2 (B' := w1.heap.size + 1) (by simp)
  clear ho2 hb2
  go_wp2_with fail
  refine (appendWord_any (w1.heap.size + 1) v2 _ tow _ ho2' ht0 ht1 (by simp [word]) hs2).mono ?_
  rintro e w3 ⟨v3, rfl, ho3, hb3⟩
  have hb3' := hb2'.trans hb3
  have hs3 := Nat.le_trans hs2 hb3.size
  have hb30 : Below w1.heap.size w1 w3 := ((Below.refl _ w1).alloc (Nat.le_refl _) _).trans (hb3'.mono (by omega))
  have hc3 : ∀ i, i < xs.length → w3.cell? ⟨g, 0 + i, none⟩ = some (.int .u8 (xs.getD i 0)) := fun i hi => (hb30.cell (p := ⟨g, 0 + i, none⟩) hg.2).trans (unhide HC i hi)
  have HC3 := hide hc3
  clear hb2' ho2' hb3 hc3 HC
  go_wp2_with (at_builtin; refine wpList_append_own _ rfl _ _ 88 rfl (w1.heap.size + 1) 5 i0 (.int .u8 0) 1 1 Tryz.underlying88 hi hz0 hz1 hz2 rfl (by decide) _ _ _ rfl ho3 ⟨g, 0, none⟩ xs.length cap (U xs) rfl ?m1 ?m2 ?m3 ?m4 ?m5 ?m6 ?_)
  case m1 => simp [U_length]
  case m2 => exact news_of (unhide HC3)
  case m3 => exact U_one _
  case m4 => simp [word, maxLen]; omega
  case m5 => simp [word]; omega
  case m6 => exact hs3
  intro v4 w4 ho4 hg4 _
  have hb4 : Below (w1.heap.size + 1) w3 w4 := (Below.refl _ w3).grown hg4 hs3 (own_ge ho3)
  have ho4' := own_app ho4 rfl
  have hbel : Below w.heap.size w w4 := (((Below.refl w.heap.size w).alloc (Nat.le_refl _) _).trans (hb1.mono (by simp))).trans ((hb30.mono (by omega)).trans (hb4.mono (by omega)))
  clear ho3 ho4 hg4 hb30 hb3' HC3 hb4
  go_wp2
  go_ret2
  refine ⟨v4, rfl, ?_, hbel⟩
  rw [HW.out]
  exact own_less ho4' (by omega)

end Go.Proofs.YtjcomoinggiedaaGreat

namespace Go.Proofs.YtjcomoinggiedaaGreat
open Go.RowKit
set_option linter.unusedVariables false
set_option maxRecDepth 100000

set_option maxHeartbeats 2000000 in
theorem unwrap_any (a : Option Addr) (len cap : Nat) (xs : List Int) (w : World) (hI : IsB w a len cap xs) :
    Calls Tryz.prog 133 #[.slice a len cap] w fun e w' => e = .returned (unw xs) ∧ Below w.heap.size w w' := by
  obtain ⟨hl, hx, hm, hI⟩ := hI
  by_cases h6 : len < 6
  · have HR : Hid (Ending.returned (unw xs) = .returned (.tuple #[.int .i64 0, .int .i64 0, zeroF, .int .i64 5])) := by
      show _ = _
      have hE : unwE xs = 5 := by unfold unwE; rw [if_pos (by omega)]
      unfold unw; rw [hE]; rfl
    clear hI
    go_enter Tryz.func133, Tryz.ntmps133
    go_wp2_with fail
    refine bodyPost_ret (v := .tuple #[.int .i64 0, .int .i64 0, zeroF, .int .i64 5]) ?_ rfl ⟨HR.out.symm, ?_⟩
    · simp [results, Tryz.results133, go_sem]
    · exact (Below.refl _ _).alloc (Nat.le_refl _) _
  · obtain ⟨b, off, rfl, hlc, hL⟩ : ∃ b off, a = some ⟨b, off, none⟩ ∧ len ≤ cap ∧ Lies w b off xs := by
      rcases hI with h0 | h
      · omega
      · exact h
    clear hI
    have hbw := hL.lt (by omega)
    have hL0 : ∀ o : Obj, Lies (w.alloc o) b off xs := fun o => hL.below ((Below.refl _ w).alloc (Nat.le_refl _) o) hbw
    have hT : (xs.take 2).length = 2 := by simp; omega
    have hcv := fun (o : Obj) (c : Nat) => conv_two b off c xs (by omega) (w.alloc o) (hL0 o)
    have k6 : ((6 : Int)) ≤ (len : Int) := by omega
    have k2 : ((2 : Int)) ≤ (cap : Int) := by omega
    by_cases hdy : dyB xs = true
    · have hE : unwE xs = decE (xs.drop 6) := by unfold unwE; rw [if_neg (by omega), if_pos hdy]
      have hU : unw xs = if decE (xs.drop 6) = 0 then .tuple #[.int .i64 (wd xs 2), .int .i64 (wd xs 4), decV (xs.drop 6), .int .i64 0] else .tuple #[.int .i64 0, .int .i64 0, zeroF, .int .i64 (decE (xs.drop 6))] := by unfold unw; rw [hE]
      have HU := hide hU
      clear hU hE
      have hdl : (xs.drop 6).length = len - 6 := by simp; omega
      have HD := hide (fun a' c' w' (h : IsB w' a' (len - 6) c' (xs.drop 6)) => decode_any a' (len - 6) c' (xs.drop 6) w' h)
      have HW := hide (fun (w' : World) (h : Lies w' b off xs) (i : Int) (h0 : 0 ≤ i) (h1 : i + 1 < len) => wordAt_any b off len cap xs i w' hl hx hm hlc h h0 h1)
      have HI6 : Hid (∀ o : Obj, IsB (w.alloc o) (some ⟨b, off + 6, none⟩) (len - 6) (cap - 6) (xs.drop 6)) := fun o =>
        ⟨hdl, hx.drop 6, by omega, .inr ⟨b, off + 6, rfl, by omega, fun i hi => by
          rw [show off + 6 + i = off + (6 + i) by omega, hL0 o (6 + i) (by omega)]
          simp⟩⟩
      have HI0 : Hid (cap = 6 → ∀ (o : Obj) (a' : Option Addr) (c' : Nat), IsB (w.alloc o) a' (len - 6) c' (xs.drop 6)) := fun hc o a' c' =>
        ⟨hdl, hx.drop 6, by omega, .inl (by omega)⟩
      unfold dyB at hdy
      have HX := hide hx
      clear hx hdl hT
      have hy0 : cap = 6 → decE (xs.drop 6) = 5 := fun hc => by
        have : xs.drop 6 = [] := List.drop_eq_nil_of_le (by omega)
        rw [this]; decide
      generalize xs.drop 6 = ys at *
      obtain ⟨d0, d1, d2, d3, d4, d5, d6, s, hV⟩ := decV_form ys
      rw [hV] at HD HU
      clear hV
      by_cases n6 : cap = 6
      · have hz : decE ys ≠ 0 := by rw [hy0 n6]; decide
        obtain rfl : len = 6 := by omega
        subst n6
        have HI1 : Hid (∀ (o : Obj) (a' : Option Addr) (c' : Nat), IsB (w.alloc o) a' 0 c' ys) := HI0.out rfl
        have HD1 : Hid (∀ a' c' w', IsB w' a' 0 c' ys → Calls Tryz.prog 184 #[.slice a' 0 c'] w' fun e w'' => e = .returned (.tuple #[fr d0 d1 d2 d3 d4 d5 d6 s, .int .i64 (decE ys)]) ∧ Below w'.heap.size w' w'') := HD
        clear hy0 HI0 HI6 HD
        go_enter Tryz.func133, Tryz.ntmps133
        go_wp2_with fail
        refine (unhide HD1 _ _ _ (HI1.out _ _ _)).mono ?_
        rintro e w2 ⟨rfl, hb2⟩
        have hz2 : w.heap.size < w2.heap.size := by have := hb2.size; simp at this; omega
        have hz2' : ¬ w.heap.size = w2.heap.size := by omega
        have hb2' := hb2.mono (B' := w.heap.size + 1) (by simp)
        obtain ⟨hc2, hf2⟩ := bcell2 hb2'
        have hbel : Below w.heap.size w w2 := ((Below.refl _ w).alloc (Nat.le_refl _) _).trans (hb2'.mono (by omega))
        have hs2 : w.heap.size ≤ w2.heap.size := by omega
        have HR : Hid (Ending.returned (unw xs) = .returned (.tuple #[.int .i64 0, .int .i64 0, zeroF, .int .i64 (decE ys)])) := by show _ = _; rw [HU.out, if_neg hz]
        have hne : (decE ys != 0) = true := by simpa using hz
        clear HU hz hb2 hb2' HD1 HW HI1
        go_wp2_with fail
        refine bodyPost_ret (v := .tuple #[.int .i64 0, .int .i64 0, zeroF, .int .i64 (decE ys)]) ?_ rfl ⟨HR.out.symm, ?_⟩
        · simp [results, Tryz.results133, go_sem, hc2, hz2]
        · exact (below_set8 hbel _ (Nat.le_refl _) _ _ _ _ _ _ _ _).alloc (by simp; omega) _
      · clear hy0
        go_enter Tryz.func133, Tryz.ntmps133
        go_wp2_with fail
        refine (unhide HD _ _ _ (HI6.out _)).mono ?_
        rintro e w2 ⟨rfl, hb2⟩
        have hz2 : w.heap.size < w2.heap.size := by have := hb2.size; simp at this; omega
        have hz2' : ¬ w.heap.size = w2.heap.size := by omega
        have hb2' := hb2.mono (B' := w.heap.size + 1) (by simp)
        obtain ⟨hc2, hf2⟩ := bcell2 hb2'
        have hbel : Below w.heap.size w w2 := ((Below.refl _ w).alloc (Nat.le_refl _) _).trans (hb2'.mono (by omega))
        have hs2 : w.heap.size ≤ w2.heap.size := by omega
        by_cases hz : decE ys = 0
        · have HR : Hid (Ending.returned (unw xs) = .returned (.tuple #[.int .i64 (wd xs 2), .int .i64 (wd xs 4), fr d0 d1 d2 d3 d4 d5 d6 s, .int .i64 0])) := by show _ = _; rw [HU.out, if_pos hz]
          have hL2 : Lies w2 b off xs := hL.below hbel hbw
          clear HU hb2 hb2' HD HI6 HI0
          have hbn : ¬ b = w.heap.size := by omega
          have hbn2 : ¬ b = w2.heap.size := by omega
          have hbw2 : b < w2.heap.size := by omega
          have hz2'' : ¬ w2.heap.size = w.heap.size := by omega
          have k4 : (4 : Int) + 1 < (len : Int) := by omega
          have k3 : (2 : Int) + 1 < (len : Int) := by omega
          clear hcv hdy
          go_wp2_with fail
          go_region_held3 (fun w' => Lies w' b off xs ∧ w'.cell? ⟨w2.heap.size, 0, none⟩ = some (Value.int .i64 d0) ∧ w'.cell? ⟨w2.heap.size, 1, none⟩ = some (Value.int .i64 d1) ∧ w'.cell? ⟨w2.heap.size, 2, none⟩ = some (Value.int .i64 d2) ∧ w'.cell? ⟨w2.heap.size, 3, none⟩ = some (Value.int .i64 d3) ∧ w'.cell? ⟨w2.heap.size, 4, none⟩ = some (Value.int .i64 d4) ∧ w'.cell? ⟨w2.heap.size, 5, none⟩ = some (Value.int .i64 d5) ∧ w'.cell? ⟨w2.heap.size, 6, none⟩ = some (Value.int .i64 d6) ∧ w'.cell? ⟨w2.heap.size, 7, none⟩ = some (Value.string s)) (first | (simp [*, lies_alloc, lies_drew]; done) | (simp [*, lies_alloc, lies_drewN]; done) | (simp [*, lies_set_ne, cell_set_ne]; done))
            (first | (go_at_call 185; refine (unhide HW _ (by first | assumption | (simp [*]; done)) _ (by omega) (by omega)).mono ?_; rintro e w' ⟨rfl, m, rfl⟩))
          go_wp2
          refine bodyPost_ret (v := .tuple #[.int .i64 (wd xs 2), .int .i64 (wd xs 4), fr d0 d1 d2 d3 d4 d5 d6 s, .int .i64 0]) ?_ rfl ⟨HR.out.symm, ?_⟩
          · simp [results, Tryz.results133, go_sem, hc2, hz2]
          · exact below_set8 (below_drewN (hbel.alloc hs2 _) _) _ (Nat.le_refl _) _ _ _ _ _ _ _ _
        · have HR : Hid (Ending.returned (unw xs) = .returned (.tuple #[.int .i64 0, .int .i64 0, zeroF, .int .i64 (decE ys)])) := by show _ = _; rw [HU.out, if_neg hz]
          have hne : (decE ys != 0) = true := by simpa using hz
          clear HU hz hb2 hb2' HD HW HI6 HI0
          go_wp2_with fail
          refine bodyPost_ret (v := .tuple #[.int .i64 0, .int .i64 0, zeroF, .int .i64 (decE ys)]) ?_ rfl ⟨HR.out.symm, ?_⟩
          · simp [results, Tryz.results133, go_sem, hc2, hz2]
          · exact (below_set8 hbel _ (Nat.le_refl _) _ _ _ _ _ _ _ _).alloc (by simp; omega) _
    · have hdy' : dyB xs = false := by simpa using hdy
      have HR : Hid (Ending.returned (unw xs) = .returned (.tuple #[.int .i64 0, .int .i64 0, zeroF, .int .i64 4])) := by
        show _ = _
        have hE : unwE xs = 4 := by unfold unwE; rw [if_neg (by omega), if_neg hdy]
        unfold unw; rw [hE]; rfl
      unfold dyB at hdy'
      clear hdy
      go_enter Tryz.func133, Tryz.ntmps133
      go_wp2_with fail
      refine bodyPost_ret (v := .tuple #[.int .i64 0, .int .i64 0, zeroF, .int .i64 4]) ?_ rfl ⟨HR.out.symm, ?_⟩
      · simp [results, Tryz.results133, go_sem]
      · exact (Below.refl _ _).alloc (Nat.le_refl _) _

end Go.Proofs.YtjcomoinggiedaaGreat

namespace Go.Proofs.YtjcomoinggiedaaGreat
open Go.RowKit
set_option linter.unusedVariables false
set_option maxRecDepth 100000

theorem wrap_bs {net tow dst src kind ips ipd ttl port : Int} {body : ByteArray} (hf : fault dst src kind ips ipd ttl port body.size = 0) (h0 : wordB net = true) (h2 : wordB tow = true) : Bs (wrapped net tow dst src kind ips ipd ttl port body) := by
  unfold wrapped
  simp only [wordB, decide_eq_true_eq] at h0 h2
  refine (((?_ : Bs [100, 121]).append (word_bs _ h0.1 h0.2)).append (word_bs _ h2.1 h2.2)).append (enc_bs hf)
  intro n h; simp at h; omega
theorem wrap_length (net tow dst src kind ips ipd ttl port : Int) (body : ByteArray) : (wrapped net tow dst src kind ips ipd ttl port body).length = 22 + body.size := by
  unfold wrapped; simp [word, enc_length]; omega
theorem fault_parts {dst src kind ips ipd ttl port : Int} {n : Nat} (h : fault dst src kind ips ipd ttl port n = 0) : n ≤ 40 ∧ (kind = 1 ∨ kind = 2 ∨ kind = 3) ∧ (0 ≤ ttl ∧ ttl ≤ 255) ∧ (kind ≠ 3 → ttl = 0 ∧ port = 0 ∧ n = 0) ∧ (wordB dst = true ∧ wordB src = true ∧ wordB ips = true ∧ wordB ipd = true ∧ wordB port = true) := by
  unfold fault at h
  split at h
  · rename_i hk
    split at h
    · rename_i hb
      split at h
      · omega
      · split at h
        · omega
        · rename_i h1 h2
          simp only [kindB, decide_eq_true_eq] at hk
          simp only [boundsB, lifeB, Bool.and_eq_true, decide_eq_true_eq] at hb
          refine ⟨by omega, by omega, by omega, fun h3 => ?_, hb.1.1.1.1.1, hb.1.1.1.1.2, hb.1.1.1.2, hb.1.1.2, hb.1.2⟩
          have : loadB ttl port n ≠ true := fun h => h2 ⟨h3, h⟩
          simp [loadB] at this
          omega
    · omega
  · omega

theorem sizeFr : (Tryz.prog.info? 32).map (·.size) = some 8 := by kernel_rfl
theorem sizePkt : (Tryz.prog.info? 108).map (·.size) = some 11 := by kernel_rfl
set_option maxHeartbeats 4000000 in
theorem through_no (g0 g1 g2 g3 g4 g5 g6 g7 g8 g9 : Int) (body : ByteArray) (w : World) (hb : body.size ≤ maxLen) (hE : fault g1 g2 g3 g4 g5 g6 g7 body.size ≠ 0) :
    Calls Tryz.prog 83 #[pkt g0 g1 g2 g3 g4 g5 g6 g7 g8 g9 body] w fun e w' => e = .returned (.tuple #[pkZ, .int .i64 (fault g1 g2 g3 g4 g5 g6 g7 body.size)]) ∧ Below w.heap.size w w' := by
  have H1 := hide (fun W => pFrame_any g0 g1 g2 g3 g4 g5 g6 g7 g8 g9 body W hb)
  generalize fault g1 g2 g3 g4 g5 g6 g7 body.size = E at *
  have hEb : (E != 0) = true := by simpa using hE
  obtain ⟨W0, hW0⟩ : ∃ W0, W0 = (w.alloc (.cells #[.int .i64 g0, .int .i64 g1, .int .i64 g2, .int .i64 g3, .int .i64 g4, .int .i64 g5, .int .i64 g6, .int .i64 g7, .int .i64 g8, .int .i64 g9, .string body] 108)).alloc (.cells #[.int .i64 0, .int .i64 0, .int .i64 0, .int .i64 0, .int .i64 0, .int .i64 0, .int .i64 0, .int .i64 0, .int .i64 0, .int .i64 0, .string ⟨#[]⟩] 108) := ⟨_, rfl⟩
  have k0 : Below w.heap.size w W0 := by rw [hW0]; exact ((Below.refl _ w).alloc (Nat.le_refl _) _).alloc (by simp) _
  have R0 : Box W0 (w.heap.size + 1) [.int .i64 0, .int .i64 0, .int .i64 0, .int .i64 0, .int .i64 0, .int .i64 0, .int .i64 0, .int .i64 0, .int .i64 0, .int .i64 0, .string ⟨#[]⟩] := by rw [hW0]; simpa using Box.new (w.alloc (.cells #[.int .i64 g0, .int .i64 g1, .int .i64 g2, .int .i64 g3, .int .i64 g4, .int .i64 g5, .int .i64 g6, .int .i64 g7, .int .i64 g8, .int .i64 g9, .string body] 108)) [.int .i64 0, .int .i64 0, .int .i64 0, .int .i64 0, .int .i64 0, .int .i64 0, .int .i64 0, .int .i64 0, .int .i64 0, .int .i64 0, .string ⟨#[]⟩] 108
  have P0 : Box W0 w.heap.size [.int .i64 g0, .int .i64 g1, .int .i64 g2, .int .i64 g3, .int .i64 g4, .int .i64 g5, .int .i64 g6, .int .i64 g7, .int .i64 g8, .int .i64 g9, .string body] := by rw [hW0]; exact (Box.new w [.int .i64 g0, .int .i64 g1, .int .i64 g2, .int .i64 g3, .int .i64 g4, .int .i64 g5, .int .i64 g6, .int .i64 g7, .int .i64 g8, .int .i64 g9, .string body] 108).alloc _
  have HR := hide R0
  have HP := hide P0
  clear R0 P0
  go_enter Tryz.func83, Tryz.ntmps83
  go_wp2_with fail
  rw [← hW0]
  clear hW0
  refine (unhide H1 _).mono ?_
  rintro e w1 ⟨rfl, hb1⟩
  replace HR := hide (HR.out.below hb1)
  replace HP := hide (HP.out.below hb1)
  replace k0 := k0.trans (hb1.mono k0.size)
  have l1 := HR.out.lt
  clear hb1
  rw [if_neg hE]
  have HR1 := hide (HR.out.alloc (.cells #[.int .i64 0, .int .i64 0, .int .i64 0, .int .i64 0, .int .i64 0, .int .i64 0, .int .i64 0, .string ⟨#[]⟩] 32))
  go_wp2_with (first | (refine wpList_store_mid rfl 108 (.tmp 2) (.tmp 16) rfl (w.heap.size + 1) 0 _ rfl rfl (HR1.out.fit 11 rfl) sizePkt (ones rfl) ?_))
  refine bodyPost_ret (v := .tuple #[pkZ, .int .i64 E]) ?_ rfl ⟨rfl, setCells_below _ (by omega) _ _ (k0.alloc k0.size _)⟩
  exact results_ct (cs := [.int .i64 0, .int .i64 0, .int .i64 0, .int .i64 0, .int .i64 0, .int .i64 0, .int .i64 0, .int .i64 0, .int .i64 0, .int .i64 0, .string ⟨#[]⟩]) Tryz.results83 rfl (HR1.out.set ([.int .i64 0, .int .i64 0, .int .i64 0, .int .i64 0, .int .i64 0, .int .i64 0, .int .i64 0, .int .i64 0, .int .i64 0, .int .i64 0, .string ⟨#[]⟩] : List Value) rfl).range Tryz.underlying108 rfl sizePkt

theorem pkt_zero {g1 g2 g3 g4 g5 g6 g7 g8 g9 : Int} {n : Nat} (hf : fault g1 g2 g3 g4 g5 g6 g7 n = 0) (h8 : wordB g8 = true) (h9 : wordB g9 = true) : pkE g1 g2 g3 g4 g5 g6 g7 n 0 g8 g9 = 0 := by
  unfold pkE
  rw [if_pos hf]
  obtain ⟨a, b, c, d, e1, e2, e3, e4, e5⟩ := fault_parts hf
  unfold pktFault
  rw [if_pos, if_neg (by omega)]
  have hk : wordB g3 = true := by simp [wordB]; omega
  have ht : wordB g6 = true := by simp [wordB]; omega
  simp [e1, e2, e3, e4, e5, h8, h9, hk, ht]
  decide
set_option maxHeartbeats 4000000 in
theorem through_yes (g0 g1 g2 g3 g4 g5 g6 g7 g8 g9 : Int) (body : ByteArray) (w : World) (hf : fault g1 g2 g3 g4 g5 g6 g7 body.size = 0) (h8 : wordB g8 = true) (h9 : wordB g9 = true) :
    Calls Tryz.prog 83 #[pkt g0 g1 g2 g3 g4 g5 g6 g7 g8 g9 body] w fun e w' => e = .returned (.tuple #[pkt 0 g1 g2 g3 g4 g5 g6 g7 g8 g9 body, .int .i64 0]) ∧ Below w.heap.size w w' := by
  have hb40 := (fault_parts hf).1
  have hb : body.size ≤ maxLen := by unfold maxLen; omega
  have H1 : Hid (∀ W, Calls Tryz.prog 131 #[pkt g0 g1 g2 g3 g4 g5 g6 g7 g8 g9 body] W fun e w' => e = .returned (.tuple #[fr g1 g2 g3 g4 g5 g6 g7 body, .int .i64 0]) ∧ Below W.heap.size W w') := fun W => by
    have := pFrame_any g0 g1 g2 g3 g4 g5 g6 g7 g8 g9 body W hb
    rwa [if_pos hf, hf] at this
  have H2 := hide (fun W => wrap_yes g8 g9 g1 g2 g3 g4 g5 g6 g7 body W h8 h9 hf)
  have H3 : Hid (∀ a' c' W, IsB W a' (wrapped g8 g9 g1 g2 g3 g4 g5 g6 g7 body).length c' (wrapped g8 g9 g1 g2 g3 g4 g5 g6 g7 body) → Calls Tryz.prog 133 #[.slice a' (wrapped g8 g9 g1 g2 g3 g4 g5 g6 g7 body).length c'] W fun e w' => e = .returned (.tuple #[.int .i64 g8, .int .i64 g9, fr g1 g2 g3 g4 g5 g6 g7 body, .int .i64 0]) ∧ Below W.heap.size W w') := fun a' c' W h => by
    have := unwrap_any a' _ c' _ W h
    rwa [unw_wrapped hf] at this
  have H4 : Hid (∀ W, Calls Tryz.prog 46 #[fr g1 g2 g3 g4 g5 g6 g7 body, .int .i64 0, .int .i64 g8, .int .i64 g9] W fun e w' => e = .returned (.tuple #[pkt 0 g1 g2 g3 g4 g5 g6 g7 g8 g9 body, .int .i64 0]) ∧ Below W.heap.size W w') := fun W => by
    have := pPacket_any g1 g2 g3 g4 g5 g6 g7 body 0 g8 g9 W hb
    rwa [if_pos (pkt_zero hf h8 h9), pkt_zero hf h8 h9] at this
  have HBS := hide (wrap_bs hf h8 h9)
  have hlen : (wrapped g8 g9 g1 g2 g3 g4 g5 g6 g7 body).length ≤ 62 := by rw [wrap_length]; omega
  clear hf h8 h9 hb
  generalize wrapped g8 g9 g1 g2 g3 g4 g5 g6 g7 body = ys at *
  obtain ⟨W0, hW0⟩ : ∃ W0, W0 = (w.alloc (.cells #[.int .i64 g0, .int .i64 g1, .int .i64 g2, .int .i64 g3, .int .i64 g4, .int .i64 g5, .int .i64 g6, .int .i64 g7, .int .i64 g8, .int .i64 g9, .string body] 108)).alloc (.cells #[.int .i64 0, .int .i64 0, .int .i64 0, .int .i64 0, .int .i64 0, .int .i64 0, .int .i64 0, .int .i64 0, .int .i64 0, .int .i64 0, .string ⟨#[]⟩] 108) := ⟨_, rfl⟩
  have k0 : Below w.heap.size w W0 := by rw [hW0]; exact ((Below.refl _ w).alloc (Nat.le_refl _) _).alloc (by simp) _
  have R0 : Box W0 (w.heap.size + 1) [.int .i64 0, .int .i64 0, .int .i64 0, .int .i64 0, .int .i64 0, .int .i64 0, .int .i64 0, .int .i64 0, .int .i64 0, .int .i64 0, .string ⟨#[]⟩] := by rw [hW0]; simpa using Box.new (w.alloc (.cells #[.int .i64 g0, .int .i64 g1, .int .i64 g2, .int .i64 g3, .int .i64 g4, .int .i64 g5, .int .i64 g6, .int .i64 g7, .int .i64 g8, .int .i64 g9, .string body] 108)) [.int .i64 0, .int .i64 0, .int .i64 0, .int .i64 0, .int .i64 0, .int .i64 0, .int .i64 0, .int .i64 0, .int .i64 0, .int .i64 0, .string ⟨#[]⟩] 108
  have P0 : Box W0 w.heap.size [.int .i64 g0, .int .i64 g1, .int .i64 g2, .int .i64 g3, .int .i64 g4, .int .i64 g5, .int .i64 g6, .int .i64 g7, .int .i64 g8, .int .i64 g9, .string body] := by rw [hW0]; exact (Box.new w [.int .i64 g0, .int .i64 g1, .int .i64 g2, .int .i64 g3, .int .i64 g4, .int .i64 g5, .int .i64 g6, .int .i64 g7, .int .i64 g8, .int .i64 g9, .string body] 108).alloc _
  have HR := hide R0
  have HP := hide P0
  clear R0 P0
  go_enter Tryz.func83, Tryz.ntmps83
  go_wp2_with fail
  rw [← hW0]
  clear hW0
  refine (unhide H1 _).mono ?_
  rintro e w1 ⟨rfl, hb1⟩
  replace HR := hide (HR.out.below hb1)
  replace HP := hide (HP.out.below hb1)
  replace k0 := k0.trans (hb1.mono k0.size)
  have l1 := HR.out.lt
  clear hb1
  obtain ⟨W2, hW2⟩ : ∃ W2, W2 = w1.alloc (.cells #[.int .i64 g1, .int .i64 g2, .int .i64 g3, .int .i64 g4, .int .i64 g5, .int .i64 g6, .int .i64 g7, .string body] 32) := ⟨_, rfl⟩
  have hbN : Below w1.heap.size w1 W2 := by rw [hW2]; exact (Below.refl _ _).alloc (Nat.le_refl _) _
  have F2 : Box W2 w1.heap.size [.int .i64 g1, .int .i64 g2, .int .i64 g3, .int .i64 g4, .int .i64 g5, .int .i64 g6, .int .i64 g7, .string body] := by rw [hW2]; exact Box.new w1 [.int .i64 g1, .int .i64 g2, .int .i64 g3, .int .i64 g4, .int .i64 g5, .int .i64 g6, .int .i64 g7, .string body] 32
  have HF := hide F2
  replace HR := hide (HR.out.below hbN)
  replace HP := hide (HP.out.below hbN)
  replace k0 := k0.trans (hbN.mono k0.size)
  have p8 := HP.out.cell 8 _ rfl
  have p9 := HP.out.cell 9 _ rfl
  have HW2 := hide hW2
  clear F2 hbN hW2
  have l2 := HF.out.lt
  go_wp2_with (first | rw [← HW2.out] | (refine wpList_load_mid rfl 32 (.tmp 4) rfl w1.heap.size 0 rfl _ _ HF.out.range Tryz.underlying32 rfl sizeFr ?_))
  refine (unhide H2 _).mono ?_
  rintro e w3 ⟨v3, rfl, ho3, hb3⟩
  obtain ⟨a3, c3, rfl, hI3⟩ := own_isB ho3 HBS.out (by omega)
  have HI := hide hI3
  replace HR := hide (HR.out.below hb3)
  replace HF := hide (HF.out.below hb3)
  replace k0 := k0.trans (hb3.mono k0.size)
  clear p8 p9 HP ho3 hI3 hb3 H2 HBS HW2
  go_wp2_with fail
  refine (unhide H3 _ _ _ HI.out).mono ?_
  rintro e w4 ⟨rfl, hb4⟩
  replace HR := hide (HR.out.below hb4)
  replace HF := hide (HF.out.below hb4)
  replace k0 := k0.trans (hb4.mono k0.size)
  obtain ⟨W5, hW5⟩ : ∃ W5, W5 = w4.setCells w1.heap.size 0 [.int .i64 g1, .int .i64 g2, .int .i64 g3, .int .i64 g4, .int .i64 g5, .int .i64 g6, .int .i64 g7, .string body] := ⟨_, rfl⟩
  have HR1 : Hid (Box W5 (w.heap.size + 1) [.int .i64 0, .int .i64 0, .int .i64 0, .int .i64 0, .int .i64 0, .int .i64 0, .int .i64 0, .int .i64 0, .int .i64 0, .int .i64 0, .string ⟨#[]⟩]) := by rw [hW5]; exact hide (HR.out.set_far (by omega) 0 _)
  have HF1 : Hid (Box W5 w1.heap.size [.int .i64 g1, .int .i64 g2, .int .i64 g3, .int .i64 g4, .int .i64 g5, .int .i64 g6, .int .i64 g7, .string body]) := by rw [hW5]; exact hide (HF.out.set _ rfl)
  replace k0 : Below w.heap.size w W5 := by rw [hW5]; exact setCells_below w1.heap.size (by omega) _ 0 k0
  have HW5 : Hid (w4.setCells w1.heap.size 0 [.int .i64 g1, .int .i64 g2, .int .i64 g3, .int .i64 g4, .int .i64 g5, .int .i64 g6, .int .i64 g7, .string body] = W5) := hW5.symm
  clear hb4 H3 HI HR hW5
  go_wp2_with (first | (refine wpList_store_mid rfl 32 (.tmp 4) (.tmp 38) rfl w1.heap.size 0 _ rfl rfl (HF.out.fit 8 rfl) sizeFr (ones rfl) ?_; rw [show (#[.int .i64 g1, .int .i64 g2, .int .i64 g3, .int .i64 g4, .int .i64 g5, .int .i64 g6, .int .i64 g7, .string body] : Array Value).toList = [.int .i64 g1, .int .i64 g2, .int .i64 g3, .int .i64 g4, .int .i64 g5, .int .i64 g6, .int .i64 g7, .string body] from rfl, HW5.out]) | (refine wpList_load_mid rfl 32 (.tmp 4) rfl w1.heap.size 0 rfl _ _ HF1.out.range Tryz.underlying32 rfl sizeFr ?_))
  refine (unhide H4 _).mono ?_
  rintro e w5 ⟨rfl, hb5⟩
  replace HR1 := hide (HR1.out.below hb5)
  replace k0 := k0.trans (hb5.mono k0.size)
  clear hb5 H4 HF HF1
  go_wp2_with (refine wpList_store_mid rfl 108 (.tmp 2) (.tmp 48) rfl (w.heap.size + 1) 0 _ rfl rfl (HR1.out.fit 11 rfl) sizePkt (ones rfl) ?_)
  refine bodyPost_ret (v := .tuple #[pkt 0 g1 g2 g3 g4 g5 g6 g7 g8 g9 body, .int .i64 0]) ?_ rfl ⟨rfl, setCells_below _ (by omega) _ _ k0⟩
  exact results_ct (cs := [.int .i64 0, .int .i64 g1, .int .i64 g2, .int .i64 g3, .int .i64 g4, .int .i64 g5, .int .i64 g6, .int .i64 g7, .int .i64 g8, .int .i64 g9, .string body]) Tryz.results83 rfl (HR1.out.set ([.int .i64 0, .int .i64 g1, .int .i64 g2, .int .i64 g3, .int .i64 g4, .int .i64 g5, .int .i64 g6, .int .i64 g7, .int .i64 g8, .int .i64 g9, .string body] : List Value) rfl).range Tryz.underlying108 rfl sizePkt

end Go.Proofs.YtjcomoinggiedaaGreat

namespace Go.Proofs.YtjcomoinggiedaaGreat
open Go.RowKit
set_option linter.unusedVariables false
set_option maxRecDepth 100000

/-- P2.2: what is wrong, and what is sent. -/
def runE (fs : List Fl) (F : List Int) (n : Nat) : Int := if fsFault fs = 0 then pktFault F n else fsFault fs
def runL (fs : List Fl) (F : List Int) (n : Nat) : List Sn := if runE fs F n = 0 then ran fs F else []
theorem fs_small {fs : List Fl} (h : fsFault fs = 0) : fs.length ≤ 5000 := by
  rcases Nat.lt_or_ge 5000 fs.length with h' | h'
  · unfold fsFault at h; rw [if_pos h'] at h; omega
  · exact h'

set_option maxHeartbeats 4000000 in
theorem fRun_any (f0 f1 f2 f3 f4 f5 f6 f7 f8 f9 : Int) (body : ByteArray) (v : Value) (fs : List Fl) (w : World) (hL : FsAt w v fs) (hb : body.size ≤ maxLen) (hm : fs.length ≤ 140737488355328) :
    Calls Tryz.prog 47 #[v, pkt f0 f1 f2 f3 f4 f5 f6 f7 f8 f9 body] w fun e w' => ∃ u, e = .returned (.tuple #[u, .int .i64 (runE fs [f0, f1, f2, f3, f4, f5, f6, f7, f8, f9] body.size)]) ∧ w'.ownsRow w.heap.size 115 13 u (runL fs [f0, f1, f2, f3, f4, f5, f6, f7, f8, f9] body.size).length (S body (runL fs [f0, f1, f2, f3, f4, f5, f6, f7, f8, f9] body.size)) ∧ Below w.heap.size w w' := by
  by_cases hz : fsFault fs = 0
  · by_cases hp : pktFault [f0, f1, f2, f3, f4, f5, f6, f7, f8, f9] body.size = 0
    · have h1 : runE fs [f0, f1, f2, f3, f4, f5, f6, f7, f8, f9] body.size = 0 := by unfold runE; rw [if_pos hz]; exact hp
      have h2 : runL fs [f0, f1, f2, f3, f4, f5, f6, f7, f8, f9] body.size = ran fs [f0, f1, f2, f3, f4, f5, f6, f7, f8, f9] := by unfold runL; rw [if_pos h1]
      rw [h1, h2]
      exact fRun_ok f0 f1 f2 f3 f4 f5 f6 f7 f8 f9 body v fs w hL hz hp (fs_small hz)
    · have h1 : runE fs [f0, f1, f2, f3, f4, f5, f6, f7, f8, f9] body.size = pktFault [f0, f1, f2, f3, f4, f5, f6, f7, f8, f9] body.size := by unfold runE; rw [if_pos hz]
      have h2 : runL fs [f0, f1, f2, f3, f4, f5, f6, f7, f8, f9] body.size = [] := by unfold runL; rw [if_neg (by rw [h1]; exact hp)]
      rw [h1, h2]
      have HL := hide hL
      have HZ := hide hz
      obtain ⟨a, cap, rfl, hn, _⟩ := hL
      have HC := hide (fun W => checkPacket_any f0 f1 f2 f3 f4 f5 f6 f7 f8 f9 body W hb)
      generalize pktFault [f0, f1, f2, f3, f4, f5, f6, f7, f8, f9] body.size = R at *
      clear h1 h2 hz
      go_enter Tryz.func47, Tryz.ntmps47
      go_wp2_with fail
      obtain ⟨W0, hW0⟩ : ∃ W0, W0 = w.alloc (.cells #[.int .i64 f0, .int .i64 f1, .int .i64 f2, .int .i64 f3, .int .i64 f4, .int .i64 f5, .int .i64 f6, .int .i64 f7, .int .i64 f8, .int .i64 f9, .string body] 108) := ⟨_, rfl⟩
      have c0 : W0.cell? ⟨w.heap.size, 0, none⟩ = some (.int .i64 f0) := by rw [hW0]; simp
      have c1 : W0.cell? ⟨w.heap.size, 1, none⟩ = some (.int .i64 f1) := by rw [hW0]; simp
      have c2 : W0.cell? ⟨w.heap.size, 2, none⟩ = some (.int .i64 f2) := by rw [hW0]; simp
      have c3 : W0.cell? ⟨w.heap.size, 3, none⟩ = some (.int .i64 f3) := by rw [hW0]; simp
      have c4 : W0.cell? ⟨w.heap.size, 4, none⟩ = some (.int .i64 f4) := by rw [hW0]; simp
      have c5 : W0.cell? ⟨w.heap.size, 5, none⟩ = some (.int .i64 f5) := by rw [hW0]; simp
      have c6 : W0.cell? ⟨w.heap.size, 6, none⟩ = some (.int .i64 f6) := by rw [hW0]; simp
      have c7 : W0.cell? ⟨w.heap.size, 7, none⟩ = some (.int .i64 f7) := by rw [hW0]; simp
      have c8 : W0.cell? ⟨w.heap.size, 8, none⟩ = some (.int .i64 f8) := by rw [hW0]; simp
      have c9 : W0.cell? ⟨w.heap.size, 9, none⟩ = some (.int .i64 f9) := by rw [hW0]; simp
      have cb : W0.cell? ⟨w.heap.size, 10, none⟩ = some (.string body) := by rw [hW0]; simp
      have hb0 : Below w.heap.size w W0 := by rw [hW0]; exact (Below.refl _ _).alloc (Nat.le_refl _) _
      rw [← hW0]
      clear hW0
      refine (fCheck_any _ fs _ (HL.out.below hb0 (Nat.le_refl _)) hm).mono ?_
      rintro e w1 ⟨rfl, hb1⟩
      rw [HZ.out]
      replace c0 := cell_below c0 hb1 (Nat.le_refl _)
      replace c1 := cell_below c1 hb1 (Nat.le_refl _)
      replace c2 := cell_below c2 hb1 (Nat.le_refl _)
      replace c3 := cell_below c3 hb1 (Nat.le_refl _)
      replace c4 := cell_below c4 hb1 (Nat.le_refl _)
      replace c5 := cell_below c5 hb1 (Nat.le_refl _)
      replace c6 := cell_below c6 hb1 (Nat.le_refl _)
      replace c7 := cell_below c7 hb1 (Nat.le_refl _)
      replace c8 := cell_below c8 hb1 (Nat.le_refl _)
      replace c9 := cell_below c9 hb1 (Nat.le_refl _)
      replace cb := cell_below cb hb1 (Nat.le_refl _)
      go_wp2_with fail
      refine (unhide HC _).mono ?_
      rintro e w2 ⟨rfl, hb2⟩
      have hb02 := (hb0.trans (hb1.mono hb0.size)).trans (hb2.mono (Nat.le_trans hb0.size hb1.size))
      clear c0 c1 c2 c3 c4 c5 c6 c7 c8 c9 cb
      have hne : (R != 0) = true := by simpa using hp
      go_wp2_with fail
      go_ret2
      exact ⟨_, rfl, World.ownsRow_nil _ _ _ _, hb02⟩
  · have h1 : runE fs [f0, f1, f2, f3, f4, f5, f6, f7, f8, f9] body.size = fsFault fs := by unfold runE; rw [if_neg hz]
    have h2 : runL fs [f0, f1, f2, f3, f4, f5, f6, f7, f8, f9] body.size = [] := by unfold runL; rw [if_neg (by rw [h1]; exact hz)]
    rw [h1, h2]
    have HL := hide hL
    obtain ⟨a, cap, rfl, hn, _⟩ := hL
    clear h1 h2
    have HC := hide (fun W h => fCheck_any (.slice a fs.length cap) fs W h hm)
    generalize fsFault fs = R at *
    have hA : Below w.heap.size w (w.alloc (.cells #[.int .i64 f0, .int .i64 f1, .int .i64 f2, .int .i64 f3, .int .i64 f4, .int .i64 f5, .int .i64 f6, .int .i64 f7, .int .i64 f8, .int .i64 f9, .string body] 108)) := (Below.refl _ _).alloc (Nat.le_refl _) _
    go_enter Tryz.func47, Tryz.ntmps47
    go_wp2_with fail
    refine (unhide HC _ (HL.out.below hA (Nat.le_refl _))).mono ?_
    rintro e w1 ⟨rfl, hb1⟩
    have hne : (R != 0) = true := by simpa using hz
    have hb01 := hA.trans (hb1.mono hA.size)
    go_wp2_with fail
    go_ret2
    exact ⟨_, rfl, World.ownsRow_nil _ _ _ _, hb01⟩

end Go.Proofs.YtjcomoinggiedaaGreat

namespace Go.Proofs.YtjcomoinggiedaaGreat
open Go.RowKit
set_option linter.unusedVariables false
set_option maxRecDepth 100000

/-- What a table does, and how much it sends. -/
theorem table_ok {fs : List Fl} (hz : fsFault fs = 0) (s : St) (hF : WF s.F) (ht : s.t ≤ 7) : Ok s.t (s.out.length + 100) (table fs s) := by
  have key : ∀ ds : List Do, ds.length ≤ 100 → (∀ k, k < ds.length → doB s.t ds k = true) → Ok s.t (s.out.length + 100) (stepTo ⟨s.F, 8, s.out⟩ ds ds.length) := fun ds h1 h2 => by
    have h := Ok.stepTo (t := s.t) (c := s.out.length) (s := ⟨s.F, 8, s.out⟩) (ds := ds) ⟨hF, by simp; omega, by simp, by simp⟩ h2 ds.length (Nat.le_refl _)
    exact ⟨h.1, h.2.1, h.2.2.1, by have := h.2.2.2; omega⟩
  unfold table
  have hbi := bestTo_best fs s.F s.t fs.length
  rcases hbi with ⟨hb, _⟩ | ⟨i, hb, _, hi, hf, _⟩
  · rw [hb]
    exact key [] (by simp) (fun k hk => by simp at hk)
  · have hd : dsOf fs (bestTo fs s.F s.t fs.length) = (fs.getD i fl0).ds := by rw [hb]; unfold dsOf; rw [if_neg (by omega), Int.toNat_natCast]
    have hk := ok_flow hz hi
    have hft : (fs.getD i fl0).t = s.t := by
      unfold fitB at hf
      simp only [Bool.and_eq_true, beq_iff_eq] at hf
      exact hf.1
    rw [hd]
    exact key _ hk.2.2.1 (by rw [← hft]; exact hk.2.2.2.2.2.2.2.2)
theorem runN_len {fs : List Fl} (hz : fsFault fs = 0) : ∀ (n : Nat) (s : St), WF s.F → (runN fs n s).out.length ≤ s.out.length + 100 * n
  | 0, s, _ => by simp [runN]
  | n + 1, s, hF => by
    unfold runN
    split
    · omega
    · have h := table_ok hz s hF (by omega)
      have ih := runN_len hz n (table fs s) h.1
      have := h.2.2.2
      omega
theorem runL_len (fs : List Fl) (F : List Int) (n : Nat) (h10 : F.length = 10) : (runL fs F n).length ≤ 1000000 := by
  unfold runL
  split
  · rename_i h
    unfold runE at h
    split at h
    · rename_i hz
      have := runN_len hz 8 ⟨F, 0, []⟩ (wf_of_all h10 (pkt_parts h).1)
      unfold ran
      simp at this
      omega
    · rename_i hz; exact absurd h hz
  · simp

/-- What may be sent: its fields are words, a chassis is one of six. -/
def SnOk (s : Sn) : Prop := WF s.F ∧ (s.k = 5 ∧ wordB s.n = true ∨ s.k = 6 ∧ 0 ≤ s.n ∧ s.n ≤ 5)
def OutOk (l : List Sn) : Prop := ∀ s ∈ l, SnOk s
theorem OutOk.step {t : Int} {s : St} {ds : List Do} {k : Nat} (hF : WF s.F) (h : OutOk s.out) (hd : doB t ds k = true) : OutOk (step s (ds.getD k do0)).out := by
  have hp := doB_parts hd
  generalize ds.getD k do0 = d at hp
  simp only at hp
  have hx : ∀ x, SnOk x → OutOk (s.out ++ [x]) := fun x hx y hy => by
    rcases List.mem_append.1 hy with hy | hy
    · exact h y hy
    · obtain rfl : y = x := by simpa using hy
      exact hx
  rcases hp with ⟨e, _⟩ | ⟨e, _⟩ | ⟨e, _⟩ | ⟨e, _⟩ | ⟨e, hn⟩ | ⟨e, n0, n1⟩
  · unfold Go.Proofs.YtjcomoinggiedaaGreat.step; simp [e]; exact h
  · unfold Go.Proofs.YtjcomoinggiedaaGreat.step; simp [e]; exact h
  · unfold Go.Proofs.YtjcomoinggiedaaGreat.step; simp [e]; exact h
  · unfold Go.Proofs.YtjcomoinggiedaaGreat.step; simp [e]; exact h
  · unfold Go.Proofs.YtjcomoinggiedaaGreat.step; simp only [e, true_or, if_true]; exact hx _ ⟨hF, .inl ⟨rfl, hn⟩⟩
  · unfold Go.Proofs.YtjcomoinggiedaaGreat.step; simp only [e, or_true, if_true]; exact hx _ ⟨hF, .inr ⟨rfl, n0, n1⟩⟩
theorem OutOk.stepTo {t : Int} {c : Nat} {s : St} {ds : List Do} (hk : Ok t c s) (h : OutOk s.out) (hd : ∀ k, k < ds.length → doB t ds k = true) : ∀ k, k ≤ ds.length → OutOk (stepTo s ds k).out
  | 0, _ => h
  | k + 1, hkl => OutOk.step (Ok.stepTo hk hd k (by omega)).1 (OutOk.stepTo hk h hd k (by omega)) (hd k (by omega))
theorem table_out {fs : List Fl} (hz : fsFault fs = 0) (s : St) (hF : WF s.F) (ht : s.t ≤ 7) (h : OutOk s.out) : OutOk (table fs s).out := by
  have key : ∀ ds : List Do, (∀ k, k < ds.length → doB s.t ds k = true) → OutOk (Go.Proofs.YtjcomoinggiedaaGreat.stepTo ⟨s.F, 8, s.out⟩ ds ds.length).out := fun ds h2 =>
    OutOk.stepTo (t := s.t) (c := s.out.length) (s := ⟨s.F, 8, s.out⟩) (ds := ds) ⟨hF, by simp; omega, by simp, by simp⟩ h h2 ds.length (Nat.le_refl _)
  unfold table
  rcases bestTo_best fs s.F s.t fs.length with ⟨hb, _⟩ | ⟨i, hb, _, hi, hf, _⟩
  · rw [hb]
    exact key [] (fun k hk => by simp at hk)
  · have hd : dsOf fs (bestTo fs s.F s.t fs.length) = (fs.getD i fl0).ds := by rw [hb]; unfold dsOf; rw [if_neg (by omega), Int.toNat_natCast]
    have hk := ok_flow hz hi
    have hft : (fs.getD i fl0).t = s.t := by
      unfold fitB at hf
      simp only [Bool.and_eq_true, beq_iff_eq] at hf
      exact hf.1
    rw [hd]
    exact key _ (by rw [← hft]; exact hk.2.2.2.2.2.2.2.2)
theorem runN_out {fs : List Fl} (hz : fsFault fs = 0) : ∀ (n : Nat) (s : St), WF s.F → OutOk s.out → OutOk (runN fs n s).out
  | 0, s, _, h => h
  | n + 1, s, hF, h => by
    unfold runN
    split
    · exact h
    · exact runN_out hz n (table fs s) (table_ok hz s hF (by omega)).1 (table_out hz s hF (by omega) h)
theorem ran_out {fs : List Fl} {F : List Int} {n : Nat} (h10 : F.length = 10) (h : runE fs F n = 0) : OutOk (ran fs F) ∧ (ran fs F).length ≤ 1000000 := by
  have hl := runL_len fs F n h10
  unfold runL at hl
  rw [if_pos h] at hl
  refine ⟨?_, hl⟩
  unfold runE at h
  split at h
  · rename_i hz
    exact runN_out hz 8 ⟨F, 0, []⟩ (wf_of_all h10 (pkt_parts h).1) (fun s hs => by cases hs)
  · rename_i hz; exact absurd h hz

end Go.Proofs.YtjcomoinggiedaaGreat

namespace Go.Proofs.YtjcomoinggiedaaGreat
open Go.RowKit
set_option linter.unusedVariables false
set_option maxRecDepth 100000

/-- What each chassis knows. -/
def KAt (w : World) (ks : List Value) (K : Nat → List Fl) : Prop := ks.length = 6 ∧ ∀ i, i < 6 → ∀ v, ks[i]? = some v → FsAt w v (K i) ∧ (K i).length ≤ 140737488355328
theorem KAt.below {w w' : World} {ks : List Value} {K : Nat → List Fl} (h : KAt w ks K) (hb : Below w.heap.size w w') : KAt w' ks K := ⟨h.1, fun i hi v hv => ⟨(h.2 i hi v hv).1.below hb (Nat.le_refl _), (h.2 i hi v hv).2⟩⟩
def thrF (F : List Int) : List Int := [0, F.getD 1 0, F.getD 2 0, F.getD 3 0, F.getD 4 0, F.getD 5 0, F.getD 6 0, F.getD 7 0, F.getD 8 0, F.getD 9 0]
def carE (K : Nat → List Fl) (n : Nat) (s : Sn) : Int :=
  if s.k = 6 then (if ff s.F n = 0 then (if runE (K s.n.toNat) (thrF s.F) n = 0 then atE n (ran (K s.n.toNat) (thrF s.F)) else runE (K s.n.toNat) (thrF s.F) n) else ff s.F n) else atE n [s]
def carL (K : Nat → List Fl) (n : Nat) (s : Sn) : List Ar :=
  if s.k = 6 then (if ff s.F n = 0 then (if runE (K s.n.toNat) (thrF s.F) n = 0 then atL n (ran (K s.n.toNat) (thrF s.F)) else []) else []) else atL n [s]
theorem six {l : List Value} (h : l.length = 6) : ∃ k0 k1 k2 k3 k4 k5, l = [k0, k1, k2, k3, k4, k5] := by
  match l, h with
  | [a, b, c, d, e, f], _ => exact ⟨a, b, c, d, e, f, rfl⟩
theorem six_at {l : List Value} {m : Nat} (h : l.length = 6) (hm : m < 6) : ∃ v, l[m]? = some v := ⟨l[m], List.getElem?_eq_getElem (by omega)⟩
theorem sizeKn : (Tryz.prog.info? 76).map (·.size) = some 6 := by kernel_rfl

set_option maxHeartbeats 4000000 in
theorem carried_any (ks : List Value) (K : Nat → List Fl) (x : Sn) (body : ByteArray) (w : World) (hK : KAt w ks K) (hx : SnOk x) (hb : body.size ≤ maxLen) :
    Calls Tryz.prog 48 #[.agg ks.toArray, .agg (snC body x).toArray] w fun e w' => ∃ u, e = .returned (.tuple #[u, .int .i64 (carE K body.size x)]) ∧ w'.ownsRow w.heap.size 61 9 u (carL K body.size x).length (AR body (carL K body.size x)) ∧ Below w.heap.size w w' := by
  have HK := hide hK
  obtain ⟨k0, k1, k2, k3, k4, k5, rfl⟩ := six hK.1
  clear hK
  have HXC : Hid (snC body x = [.int .i64 x.k, .int .i64 x.n, .int .i64 (x.F.getD 0 0), .int .i64 (x.F.getD 1 0), .int .i64 (x.F.getD 2 0), .int .i64 (x.F.getD 3 0), .int .i64 (x.F.getD 4 0), .int .i64 (x.F.getD 5 0), .int .i64 (x.F.getD 6 0), .int .i64 (x.F.getD 7 0), .int .i64 (x.F.getD 8 0), .int .i64 (x.F.getD 9 0), .string body]) := rfl
  rw [HXC.out]
  have HAT := hide (fun W B v (h : W.ownsRow B 115 13 v 1 (S body [x])) => atPorts_any v [x] body B W h hb (by simp))
  have HS1 : Hid (S body [x] = [.int .i64 x.k, .int .i64 x.n, .int .i64 (x.F.getD 0 0), .int .i64 (x.F.getD 1 0), .int .i64 (x.F.getD 2 0), .int .i64 (x.F.getD 3 0), .int .i64 (x.F.getD 4 0), .int .i64 (x.F.getD 5 0), .int .i64 (x.F.getD 6 0), .int .i64 (x.F.getD 7 0), .int .i64 (x.F.getD 8 0), .int .i64 (x.F.getD 9 0), .string body]) := by rw [← HXC.out]; simp [S, snC, Hid]
  rw [HS1.out] at HAT
  have h8 : wordB (x.F.getD 8 0) = true := hx.1.2 8
  have h9 : wordB (x.F.getD 9 0) = true := hx.1.2 9
  have HT0 := hide (fun W => through_no (x.F.getD 0 0) (x.F.getD 1 0) (x.F.getD 2 0) (x.F.getD 3 0) (x.F.getD 4 0) (x.F.getD 5 0) (x.F.getD 6 0) (x.F.getD 7 0) (x.F.getD 8 0) (x.F.getD 9 0) body W hb)
  have HT1 := hide (fun W hf => through_yes (x.F.getD 0 0) (x.F.getD 1 0) (x.F.getD 2 0) (x.F.getD 3 0) (x.F.getD 4 0) (x.F.getD 5 0) (x.F.getD 6 0) (x.F.getD 7 0) (x.F.getD 8 0) (x.F.getD 9 0) body W hf h8 h9)
  have HFF : Hid (ff x.F body.size = fault (x.F.getD 1 0) (x.F.getD 2 0) (x.F.getD 3 0) (x.F.getD 4 0) (x.F.getD 5 0) (x.F.getD 6 0) (x.F.getD 7 0) body.size) := rfl
  have HTH : Hid (thrF x.F = [0, x.F.getD 1 0, x.F.getD 2 0, x.F.getD 3 0, x.F.getD 4 0, x.F.getD 5 0, x.F.getD 6 0, x.F.getD 7 0, x.F.getD 8 0, x.F.getD 9 0]) := rfl
  have HRN := hide (fun W v (h : FsAt W v (K x.n.toNat)) (hl : (K x.n.toNat).length ≤ 140737488355328) => fRun_any 0 (x.F.getD 1 0) (x.F.getD 2 0) (x.F.getD 3 0) (x.F.getD 4 0) (x.F.getD 5 0) (x.F.getD 6 0) (x.F.getD 7 0) (x.F.getD 8 0) (x.F.getD 9 0) body v (K x.n.toNat) W h hb hl)
  rw [← HTH.out] at HRN
  have HRL : Hid (runE (K x.n.toNat) (thrF x.F) body.size = 0 → runL (K x.n.toNat) (thrF x.F) body.size = ran (K x.n.toNat) (thrF x.F)) := fun h => by unfold runL; rw [if_pos h]
  have HRO : Hid (runE (K x.n.toNat) (thrF x.F) body.size = 0 → (ran (K x.n.toNat) (thrF x.F)).length ≤ 1000000) := fun h => (ran_out (by simp [thrF]) h).2
  have HCE : Hid (carE K body.size x = if x.k = 6 then (if ff x.F body.size = 0 then (if runE (K x.n.toNat) (thrF x.F) body.size = 0 then atE body.size (ran (K x.n.toNat) (thrF x.F)) else runE (K x.n.toNat) (thrF x.F) body.size) else ff x.F body.size) else atE body.size [x]) := rfl
  have HCL : Hid (carL K body.size x = if x.k = 6 then (if ff x.F body.size = 0 then (if runE (K x.n.toNat) (thrF x.F) body.size = 0 then atL body.size (ran (K x.n.toNat) (thrF x.F)) else []) else []) else atL body.size [x]) := rfl
  rw [HFF.out] at HCE HCL
  have h6 : x.k = 6 → 0 ≤ x.n ∧ x.n ≤ 5 := fun h => by rcases hx.2 with ⟨e, _⟩ | ⟨_, h⟩; omega; exact h
  clear HXC HS1 HFF HTH h8 h9 hx
  generalize x.F.getD 0 0 = y0 at *
  generalize x.F.getD 1 0 = y1 at *
  generalize x.F.getD 2 0 = y2 at *
  generalize x.F.getD 3 0 = y3 at *
  generalize x.F.getD 4 0 = y4 at *
  generalize x.F.getD 5 0 = y5 at *
  generalize x.F.getD 6 0 = y6 at *
  generalize x.F.getD 7 0 = y7 at *
  generalize x.F.getD 8 0 = y8 at *
  generalize x.F.getD 9 0 = y9 at *
  generalize hE : fault y1 y2 y3 y4 y5 y6 y7 body.size = E at *
  generalize x.k = xk at *
  generalize x.n = xn at *
  obtain ⟨W0, hW0⟩ : ∃ W0, W0 = (w.alloc (.cells #[k0, k1, k2, k3, k4, k5] 76)).alloc (.cells #[.int .i64 xk, .int .i64 xn, .int .i64 y0, .int .i64 y1, .int .i64 y2, .int .i64 y3, .int .i64 y4, .int .i64 y5, .int .i64 y6, .int .i64 y7, .int .i64 y8, .int .i64 y9, .string body] 115) := ⟨_, rfl⟩
  have kb : Below w.heap.size w W0 := by rw [hW0]; exact ((Below.refl _ w).alloc (Nat.le_refl _) _).alloc (by simp) _
  have B0 : Box W0 w.heap.size [k0, k1, k2, k3, k4, k5] := by rw [hW0]; exact (Box.new w [k0, k1, k2, k3, k4, k5] 76).alloc _
  have S0 : Box W0 (w.heap.size + 1) [.int .i64 xk, .int .i64 xn, .int .i64 y0, .int .i64 y1, .int .i64 y2, .int .i64 y3, .int .i64 y4, .int .i64 y5, .int .i64 y6, .int .i64 y7, .int .i64 y8, .int .i64 y9, .string body] := by rw [hW0]; simpa using Box.new (w.alloc (.cells #[k0, k1, k2, k3, k4, k5] 76)) [.int .i64 xk, .int .i64 xn, .int .i64 y0, .int .i64 y1, .int .i64 y2, .int .i64 y3, .int .i64 y4, .int .i64 y5, .int .i64 y6, .int .i64 y7, .int .i64 y8, .int .i64 y9, .string body] 115
  have HKB := hide B0
  have HSB := hide S0
  clear B0 S0
  replace HK := hide (HK.out.below kb)
  have HW0 : Hid ((w.alloc (.cells #[k0, k1, k2, k3, k4, k5] 76)).alloc (.cells #[.int .i64 xk, .int .i64 xn, .int .i64 y0, .int .i64 y1, .int .i64 y2, .int .i64 y3, .int .i64 y4, .int .i64 y5, .int .i64 y6, .int .i64 y7, .int .i64 y8, .int .i64 y9, .string body] 115) = W0) := hW0.symm
  clear hW0
  have c0 := HSB.out.cell 0 _ rfl
  have c1 := HSB.out.cell 1 _ rfl
  go_enter Tryz.func48, Tryz.ntmps48
  by_cases hk6 : xk = 6
  · subst hk6
    obtain ⟨n0, n1⟩ := h6 rfl
    rw [if_pos rfl] at HCE HCL
    clear HAT
    skip
    have PKR : Hid (W0.rangeAt (w.heap.size + 1) 2 [.int .i64 y0, .int .i64 y1, .int .i64 y2, .int .i64 y3, .int .i64 y4, .int .i64 y5, .int .i64 y6, .int .i64 y7, .int .i64 y8, .int .i64 y9, .string body]) := hide (fun j v hj => by have := HSB.out.range (2 + j) v (by rw [Nat.add_comm]; simpa using hj); simpa using this)
    go_wp2_with (first | rw [HW0.out] | (refine wpList_load_mid rfl 108 (.tmp 18) rfl (w.heap.size + 1) 2 rfl _ _ PKR.out Tryz.underlying108 rfl sizePkt ?_))
    by_cases hE0 : E = 0
    · subst hE0
      rw [if_pos rfl] at HCE HCL
      refine (unhide HT1 _ rfl).mono ?_
      rintro e w1 ⟨rfl, hb1⟩
      replace HKB := hide (HKB.out.below hb1)
      replace HSB := hide (HSB.out.below hb1)
      replace HK := hide (HK.out.below hb1)
      replace kb := kb.trans (hb1.mono kb.size)
      clear hb1 HT0 HT1 PKR HW0 hE c0 c1
      obtain ⟨W2, hW2⟩ : ∃ W2, W2 = w1.alloc (.cells #[.int .i64 0, .int .i64 y1, .int .i64 y2, .int .i64 y3, .int .i64 y4, .int .i64 y5, .int .i64 y6, .int .i64 y7, .int .i64 y8, .int .i64 y9, .string body] 108) := ⟨_, rfl⟩
      have hbN : Below w1.heap.size w1 W2 := by rw [hW2]; exact (Below.refl _ _).alloc (Nat.le_refl _) _
      have HPB : Hid (Box W2 w1.heap.size [.int .i64 0, .int .i64 y1, .int .i64 y2, .int .i64 y3, .int .i64 y4, .int .i64 y5, .int .i64 y6, .int .i64 y7, .int .i64 y8, .int .i64 y9, .string body]) := by rw [hW2]; exact hide (Box.new w1 [.int .i64 0, .int .i64 y1, .int .i64 y2, .int .i64 y3, .int .i64 y4, .int .i64 y5, .int .i64 y6, .int .i64 y7, .int .i64 y8, .int .i64 y9, .string body] 108)
      replace HKB := hide (HKB.out.below hbN)
      replace HSB := hide (HSB.out.below hbN)
      replace HK := hide (HK.out.below hbN)
      replace kb := kb.trans (hbN.mono kb.size)
      have HW2 := hide hW2.symm
      clear hbN hW2
      obtain ⟨m, rfl⟩ := Int.eq_ofNat_of_zero_le n0
      have hm6 : m < 6 := by omega
      simp only [Int.toNat_natCast] at HRN HRL HRO HCE HCL
      obtain ⟨kv, hkv⟩ := six_at HK.out.1 hm6
      have HF := hide (HK.out.2 m hm6 kv hkv).1
      have HLN := hide (HK.out.2 m hm6 kv hkv).2
      have ck := HKB.out.cell m kv hkv
      have c1 := HSB.out.cell 1 _ rfl
      obtain ⟨fa, fc, rfl, _⟩ := id HF.out
      have HKV := hide hkv
      clear hkv
      go_wp2_with (rw [HW2.out])
      clear HW2
      have q0 : (0 : Int) ≤ (m : Int) := by omega
      have q6 : (m : Int) < 6 := by omega
      refine wp_region_held_drew (S := (fun w' => w'.cell? ⟨w.heap.size + 1, 1, none⟩ = some (.int .i64 (m : Int)) ∧ w'.cell? ⟨w.heap.size, m, none⟩ = some (.slice fa (K m).length fc) ∧ w'.rangeAt w1.heap.size 0 [.int .i64 0, .int .i64 y1, .int .i64 y2, .int .i64 y3, .int .i64 y4, .int .i64 y5, .int .i64 y6, .int .i64 y7, .int .i64 y8, .int .i64 y9, .string body])) (by kernel_rfl) ⟨c1, ck, HPB.out.range⟩ (fun hHeld => ?_)
      refine wpAnyH_take (i := 0) (oi := ⟨some 27, _, _, _, _, _⟩) (v := ?v1) rfl (by kernel_rfl) (by kernel_rfl) (by kernel_rfl) (fun _ _ _ h => h) (Or.inl ⟨by rfl, ?h1⟩) (by assumption) ?r1
      case h1 => (intro w hSw; (try dsimp only at hSw); go_simp <;> with_reducible rfl)
      (try simp only [Act.put, List.setIfInBounds_toArray, List.set_cons_zero, List.set_cons_succ])
      refine wpAnyH_take (i := 1) (oi := ⟨some 28, _, _, _, _, _⟩) (v := ?v2) rfl (by kernel_rfl) (by kernel_rfl) (by kernel_rfl) (fun _ _ _ h => h) (Or.inl ⟨by rfl, ?h2⟩) (by assumption) ?r2
      case h2 => (intro w hSw; (try dsimp only at hSw); go_simp <;> with_reducible rfl)
      (try simp only [Act.put, List.setIfInBounds_toArray, List.set_cons_zero, List.set_cons_succ])
      refine wpAnyH_take (i := 2) (oi := ⟨some 29, _, _, _, _, _⟩) (v := ?v3) rfl (by kernel_rfl) (by kernel_rfl) (by kernel_rfl) (fun _ _ _ h => h) (Or.inl ⟨by rfl, ?h3⟩) (by assumption) ?r3
      case h3 => (intro w hSw; (try dsimp only at hSw); go_simp <;> with_reducible rfl)
      (try simp only [Act.put, List.setIfInBounds_toArray, List.set_cons_zero, List.set_cons_succ])
      refine wpAnyH_take (i := 3) (oi := ⟨some 30, _, _, _, _, _⟩) (v := ?v4) rfl (by kernel_rfl) (by kernel_rfl) (by kernel_rfl) (fun _ _ _ h => h) (Or.inl ⟨by rfl, ?h4⟩) (by assumption) ?r4
      case h4 => (intro w hSw; (try dsimp only at hSw); go_simp <;> with_reducible rfl)
      (try simp only [Act.put, List.setIfInBounds_toArray, List.set_cons_zero, List.set_cons_succ])
      refine wpAnyH_take (i := 4) (oi := ⟨some 31, _, _, _, _, _⟩) (v := .agg #[.int .i64 0, .int .i64 y1, .int .i64 y2, .int .i64 y3, .int .i64 y4, .int .i64 y5, .int .i64 y6, .int .i64 y7, .int .i64 y8, .int .i64 y9, .string body]) rfl (by kernel_rfl) (by kernel_rfl) (by kernel_rfl) (fun _ _ _ h => h) (yieldsIf_load_mid (by rfl) 108 (.tmp 6) rfl w1.heap.size 0 rfl [.int .i64 0, .int .i64 y1, .int .i64 y2, .int .i64 y3, .int .i64 y4, .int .i64 y5, .int .i64 y6, .int .i64 y7, .int .i64 y8, .int .i64 y9, .string body] _ (fun w h => h.2.2) Tryz.underlying108 rfl sizePkt) (by assumption) ?_
      (try simp only [Act.put, List.setIfInBounds_toArray, List.set_cons_zero, List.set_cons_succ])
      refine wpAnyH_ready (rs := [5]) (by kernel_rfl) (by simp) ?_
      refine AllReadyH.cons (o := ⟨some 32, _, _, _, _, _⟩) rfl (fun Kk hKk => ?_) AllReadyH.nil
      go_simp
      have hbD : Below W2.heap.size W2 W2.drew := (Below.refl _ _).drew
      refine (unhide HRN W2.drew _ (HF.out.below hbD (Nat.le_refl _)) HLN.out).mono ?_
      rintro e w3 ⟨v3, rfl, ho3, hb3⟩
      have hb23 : Below W2.heap.size W2 w3 := hbD.trans hb3
      replace kb := kb.trans (hb23.mono kb.size)
      have HO := hide ho3
      go_wp2_with fail
      refine hKk.out _ _ ⟨cell_beh c1 hb23 (Nat.le_refl _), cell_beh ck hb23 (Nat.le_refl _), range_below HPB.out.range hb23 HPB.out.lt⟩ (fun hHeld => ?_)
      clear hKk Kk ho3 hb3 hbD hb23 ck c1
      (try simp only [Act.put, List.setIfInBounds_toArray, List.set_cons_zero, List.set_cons_succ])
      refine wpAnyH_take (i := 6) (oi := ⟨some 26, _, _, _, _, _⟩) (v := ?v5) rfl (by kernel_rfl) (by kernel_rfl) (by kernel_rfl) (fun _ _ _ h => h) (Or.inl ⟨by rfl, ?h5⟩) (by assumption) ?r5
      case h5 => (intro w hSw; (try dsimp only at hSw); go_simp <;> with_reducible rfl)
      (try simp only [Act.put, List.setIfInBounds_toArray, List.set_cons_zero, List.set_cons_succ])
      refine wpAnyH_take (i := 7) (oi := ⟨some 33, _, _, _, _, _⟩) (v := ?v6) rfl (by kernel_rfl) (by kernel_rfl) (by kernel_rfl) (fun _ _ _ h => h) (Or.inl ⟨by rfl, ?h6⟩) (by assumption) ?r6
      case h6 => (intro w hSw; (try dsimp only at hSw); go_simp <;> with_reducible rfl)
      (try simp only [Act.put, List.setIfInBounds_toArray, List.set_cons_zero, List.set_cons_succ])
      refine wpAnyH_take (i := 8) (oi := ⟨some 34, _, _, _, _, _⟩) (v := ?v7) rfl (by kernel_rfl) (by kernel_rfl) (by kernel_rfl) (fun _ _ _ h => h) (Or.inl ⟨by rfl, ?h7⟩) (by assumption) ?r7
      case h7 => (intro w hSw; (try dsimp only at hSw); go_simp <;> with_reducible rfl)
      (try simp only [Act.put, List.setIfInBounds_toArray, List.set_cons_zero, List.set_cons_succ])
      refine wpAnyH_take (i := 9) (oi := ⟨some 8, _, _, _, _, _⟩) (v := ?v8) rfl (by kernel_rfl) (by kernel_rfl) (by kernel_rfl) (fun _ _ _ h => h) (Or.inl ⟨by rfl, ?h8⟩) (by assumption) ?r8
      case h8 => (intro w hSw; (try dsimp only at hSw); go_simp <;> with_reducible rfl)
      (try simp only [Act.put, List.setIfInBounds_toArray, List.set_cons_zero, List.set_cons_succ])
      refine wpAnyH_take (i := 10) (oi := ⟨some 7, _, _, _, _, _⟩) (v := ?v9) rfl (by kernel_rfl) (by kernel_rfl) (by kernel_rfl) (fun _ _ _ h => h) (Or.inl ⟨by rfl, ?h9⟩) (by assumption) ?r9
      case h9 => (intro w hSw; (try dsimp only at hSw); go_simp <;> with_reducible rfl)
      (try simp only [Act.put, List.setIfInBounds_toArray, List.set_cons_zero, List.set_cons_succ])
      refine wpAnyH_done (by kernel_rfl) ?_ _
      clear hHeld HRN
      generalize hR : runE (K m) (thrF x.F) body.size = R at *
      by_cases hR0 : R = 0
      · subst hR0
        rw [HRL.out rfl] at HO
        rw [if_pos rfl] at HCE HCL
        have HLE := hide (HRO.out rfl)
        obtain ⟨oo, oc, rfl, _⟩ := own_formA HO.out
        clear hR HRL HRO
        go_wp2_with fail
        refine (atPorts_any _ _ body _ _ HO.out hb HLE.out).mono ?_
        rintro e w4 ⟨u4, rfl, ho4, hb4⟩
        have hlt := kb.size
        replace kb := kb.trans (hb4.mono kb.size)
        go_wp2_with fail
        rw [HCE.out, HCL.out]
        go_ret2
        exact ⟨u4, rfl, own_less ho4 hlt, kb⟩
      · have hRb : (R != 0) = true := by simpa using hR0
        rw [if_neg hR0] at HCE HCL
        obtain ⟨oo, oc, rfl, _⟩ := own_formA HO.out
        go_wp2_with fail
        rw [HCE.out, HCL.out]
        go_ret2
        exact ⟨_, rfl, World.ownsRow_nil _ _ _ _, kb⟩
    · rw [if_neg hE0] at HCE HCL
      have hEb : (E != 0) = true := by simpa using hE0
      refine (unhide HT0 _ hE0).mono ?_
      rintro e w1 ⟨rfl, hb1⟩
      replace kb := kb.trans (hb1.mono kb.size)
      clear hb1 HT0 HT1 PKR HW0 hE c0 c1
      go_wp2_with fail
      rw [HCE.out, HCL.out]
      go_ret2
      exact ⟨_, rfl, World.ownsRow_nil _ _ _ _, kb.alloc kb.size _⟩
  · have hkb : (xk != 6) = true := by simpa using hk6
    rw [if_neg hk6] at HCE HCL
    clear HT0 HT1 HRN HRL HRO
    have HSR : Hid ((W0.alloc (.cells #[.int .i64 xk, .int .i64 xn, .int .i64 y0, .int .i64 y1, .int .i64 y2, .int .i64 y3, .int .i64 y4, .int .i64 y5, .int .i64 y6, .int .i64 y7, .int .i64 y8, .int .i64 y9, .string body] 115)).ownsRow w.heap.size 115 13 (.slice (some ⟨W0.heap.size, 0, none⟩) 1 1) 1 [.int .i64 xk, .int .i64 xn, .int .i64 y0, .int .i64 y1, .int .i64 y2, .int .i64 y3, .int .i64 y4, .int .i64 y5, .int .i64 y6, .int .i64 y7, .int .i64 y8, .int .i64 y9, .string body]) := hide (World.ownsRow_lit W0 _ 1 kb.size (by decide) rfl)
    go_wp2_with (first | rw [HW0.out] | (refine wpList_load_mid rfl 115 (.tmp 3) rfl (w.heap.size + 1) 0 rfl _ _ HSB.out.range Tryz.underlying115 rfl sizeSent ?_))
    refine (unhide HAT _ _ _ HSR.out).mono ?_
    rintro e w1 ⟨u1, rfl, ho1, hb1⟩
    have kb1 := (kb.alloc kb.size _).trans (hb1.mono (kb.alloc kb.size _).size)
    have hlt := (kb.alloc kb.size (.cells #[.int .i64 xk, .int .i64 xn, .int .i64 y0, .int .i64 y1, .int .i64 y2, .int .i64 y3, .int .i64 y4, .int .i64 y5, .int .i64 y6, .int .i64 y7, .int .i64 y8, .int .i64 y9, .string body] 115)).size
    go_wp2_with fail
    rw [HCE.out, HCL.out]
    go_ret2
    exact ⟨u1, rfl, own_less ho1 hlt, kb1⟩

end Go.Proofs.YtjcomoinggiedaaGreat

namespace Go.Proofs.YtjcomoinggiedaaGreat
set_option linter.unusedVariables false
set_option maxRecDepth 100000

section
variable {α : Type}

/-- Two rows merged; of equal ones those of the first come first. -/
def mrg (le : α → α → Bool) (A B : List α) : List α := List.merge A B le
theorem mrg_nil (le : α → α → Bool) (B : List α) : mrg le [] B = B := by unfold mrg; simp
theorem mrg_nil2 (le : α → α → Bool) (A : List α) : mrg le A [] = A := by unfold mrg; simp
theorem mrg_cons (le : α → α → Bool) (x y : α) (A B : List α) : mrg le (x :: A) (y :: B) = if le x y = true then x :: mrg le A (y :: B) else y :: mrg le (x :: A) B := by
  unfold mrg
  rw [List.cons_merge_cons]
theorem mrg_split (le : α → α → Bool) : ∀ (n : Nat) (A1 A2 B1 B2 : List α), A1.length + B1.length = n → (∀ x ∈ A1, ∀ y ∈ B2, le x y = true) → (∀ y ∈ B1, ∀ x ∈ A2, le x y = false) → mrg le (A1 ++ A2) (B1 ++ B2) = mrg le A1 B1 ++ mrg le A2 B2 := by
  intro n
  induction n with
  | zero =>
    intro A1 A2 B1 B2 hn _ _
    obtain rfl : A1 = [] := List.eq_nil_of_length_eq_zero (by omega)
    obtain rfl : B1 = [] := List.eq_nil_of_length_eq_zero (by omega)
    simp [mrg_nil]
  | succ n ih =>
    intro A1 A2 B1 B2 hn h1 h2
    cases A1 with
    | nil =>
      cases B1 with
      | nil => simp at hn
      | cons y ys =>
        rw [mrg_nil]
        cases A2 with
        | nil => simp [mrg_nil]
        | cons x xs =>
          have hq := ih [] (x :: xs) ys B2 (by simpa using hn) (by simp) (fun z hz => h2 z (List.mem_cons_of_mem _ hz))
          rw [mrg_nil] at hq
          simp only [List.nil_append, List.cons_append] at hq ⊢
          rw [mrg_cons, if_neg (by rw [h2 y (by simp) x (by simp)]; simp), hq]
    | cons x xs =>
      cases B1 with
      | nil =>
        rw [mrg_nil2]
        cases B2 with
        | nil => simp [mrg_nil2]
        | cons y ys =>
          have hq := ih xs A2 [] (y :: ys) (by simpa using hn) (fun z hz => h1 z (List.mem_cons_of_mem _ hz)) (by simp)
          rw [mrg_nil2] at hq
          simp only [List.nil_append, List.cons_append] at hq ⊢
          rw [mrg_cons, if_pos (h1 x (by simp) y (by simp)), hq]
      | cons y ys =>
        simp only [List.cons_append]
        rw [mrg_cons, mrg_cons]
        by_cases hle : le x y = true
        · rw [if_pos hle, if_pos hle]
          have hq := ih xs A2 (y :: ys) B2 (by simp at hn ⊢; omega) (fun z hz => h1 z (List.mem_cons_of_mem _ hz)) h2
          simp only [List.cons_append] at hq
          rw [hq]
          rfl
        · rw [if_neg hle, if_neg hle]
          have hq := ih (x :: xs) A2 ys B2 (by simp at hn ⊢; omega) h1 (fun z hz => h2 z (List.mem_cons_of_mem _ hz))
          simp only [List.cons_append] at hq
          rw [hq]
          rfl
theorem mrg_all (le : α → α → Bool) (A B : List α) (h : ∀ x ∈ A, ∀ y ∈ B, le x y = true) : mrg le A B = A ++ B := by
  have := mrg_split le _ A [] [] B rfl h (by simp)
  simpa [mrg_nil, mrg_nil2] using this
theorem mrg_none (le : α → α → Bool) (A B : List α) (h : ∀ y ∈ B, ∀ x ∈ A, le x y = false) : mrg le A B = B ++ A := by
  have := mrg_split le _ [] A B [] rfl (by simp) h
  simpa [mrg_nil, mrg_nil2] using this
/-- One ahead of a row: it comes behind all that are less. -/
theorem mrg_one (le : α → α → Bool) (x : α) (B1 B2 : List α) (h1 : ∀ y ∈ B1, le x y = false) (h2 : ∀ y ∈ B2, le x y = true) : mrg le [x] (B1 ++ B2) = B1 ++ x :: B2 := by
  have := mrg_split le _ [] [x] B1 B2 rfl (by simp) (by simpa using h1)
  simp only [List.nil_append, mrg_nil] at this
  rw [this, mrg_all le [x] B2 (by simpa using h2)]
  rfl
/-- One behind a row: it comes ahead of all that are greater. -/
theorem mrg_last (le : α → α → Bool) (y : α) (A1 A2 : List α) (h1 : ∀ x ∈ A1, le x y = true) (h2 : ∀ x ∈ A2, le x y = false) : mrg le (A1 ++ A2) [y] = A1 ++ y :: A2 := by
  have := mrg_split le _ A1 A2 [] [y] rfl (by simpa using h1) (by simp)
  simp only [List.nil_append, mrg_nil2] at this
  rw [this, mrg_none le A2 [y] (by simpa using h2)]
  rfl
theorem mrg_mem (le : α → α → Bool) (A B : List α) (z : α) : z ∈ mrg le A B ↔ z ∈ A ∨ z ∈ B := by
  unfold mrg
  exact List.mem_merge
theorem mrg_len (le : α → α → Bool) (A B : List α) : (mrg le A B).length = A.length + B.length := by
  unfold mrg
  exact List.length_merge ..
/-- In order. -/
def Asc (le : α → α → Bool) (A : List α) : Prop := A.Pairwise (fun x y => le x y = true)
theorem mrg_asc {le : α → α → Bool} (tr : ∀ x y z, le x y = true → le y z = true → le x z = true) (to : ∀ x y, le x y = true ∨ le y x = true) {A B : List α} (hA : Asc le A) (hB : Asc le B) : Asc le (mrg le A B) := by
  unfold mrg Asc at *
  exact List.pairwise_merge tr (fun x y => by rcases to x y with h | h <;> simp [h]) _ _ hA hB
theorem snoc_induct {p : List α → Prop} (h0 : p []) (h1 : ∀ A x, p A → p (A ++ [x])) (A : List α) : p A := by
  have : ∀ n, ∀ B : List α, B.length = n → p B := by
    intro n
    induction n with
    | zero => intro B hB; rw [List.eq_nil_of_length_eq_zero hB]; exact h0
    | succ n ih =>
      intro B hB
      have hne : B ≠ [] := fun e => by rw [e] at hB; simp at hB
      rw [← List.dropLast_concat_getLast hne]
      exact h1 _ _ (ih _ (by simp; omega))
  exact this _ A rfl
/-- Sorted: each one behind those of the ones ahead that are not greater. -/
def isort (le : α → α → Bool) (A : List α) : List α := A.foldl (fun acc x => mrg le acc [x]) []
theorem isort_snoc (le : α → α → Bool) (A : List α) (x : α) : isort le (A ++ [x]) = mrg le (isort le A) [x] := by
  unfold isort
  rw [List.foldl_append]
  rfl
theorem isort_asc {le : α → α → Bool} (tr : ∀ x y z, le x y = true → le y z = true → le x z = true) (to : ∀ x y, le x y = true ∨ le y x = true) (A : List α) : Asc le (isort le A) := by
  induction A using snoc_induct with
  | h0 => unfold isort Asc; simp
  | h1 A x ih =>
    rw [isort_snoc]
    exact mrg_asc tr to ih (by unfold Asc; simp)
theorem isort_len (le : α → α → Bool) (A : List α) : (isort le A).length = A.length := by
  induction A using snoc_induct with
  | h0 => rfl
  | h1 A x ih => rw [isort_snoc, mrg_len, ih]; simp
theorem isort_mem (le : α → α → Bool) (A : List α) (z : α) : z ∈ isort le A ↔ z ∈ A := by
  induction A using snoc_induct with
  | h0 => unfold isort; simp
  | h1 A x ih => rw [isort_snoc, mrg_mem, ih]; simp
/-- Two of a row, each in the other's place. -/
theorem set_swap (P1 P2 P3 : List α) (x y : α) : ((P1 ++ x :: P2 ++ y :: P3).set P1.length y).set (P1.length + 1 + P2.length) x = P1 ++ y :: P2 ++ x :: P3 := by
  have e1 : (P1 ++ x :: P2 ++ y :: P3).set P1.length y = P1 ++ y :: P2 ++ y :: P3 := by
    rw [List.append_assoc, List.set_append_right _ _ (by omega)]
    simp
  rw [e1, List.set_append_right _ _ (by simp; omega)]
  have e2 : P1.length + 1 + P2.length - (P1 ++ y :: P2).length = 0 := by simp; omega
  rw [e2]
  rfl
/-- All ahead of one that is not greater are not greater. -/
theorem asc_last {le : α → α → Bool} (tr : ∀ x y z, le x y = true → le y z = true → le x z = true) {A : List α} {x y : α} (h : Asc le (A ++ [x])) (hxy : le x y = true) : ∀ z ∈ A ++ [x], le z y = true := by
  intro z hz
  rcases List.mem_append.1 hz with hz | hz
  · have := (List.pairwise_append.1 h).2.2 z hz x (by simp)
    exact tr _ _ _ this hxy
  · obtain rfl : z = x := by simpa using hz
    exact hxy
end

end Go.Proofs.YtjcomoinggiedaaGreat

namespace Go.Proofs.YtjcomoinggiedaaGreat
open Go.RowKit
set_option linter.unusedVariables false
set_option maxRecDepth 100000

/-- The whole field is the value. -/
def isM (f v : Int) : Mt := ⟨f, 65535, v⟩
/-- So many of the highest bits of the field are those of the value. -/
def hiM (f v b : Int) : Mt := ⟨f, 65536 - 2 ^ (16 - b).toNat, v⟩
def dataMs : List Mt := [isM 3 3, ⟨6, 65280, 0⟩]
def bareMs (k : Int) : List Mt := [isM 3 k, isM 6 0, isM 7 0]
def sentMs (p : Pr) : List Mt := [isM 0 p.i, isM 8 0, isM 9 0, isM 2 p.m, isM 4 p.p]
def gotoD (n : Int) : Do := ⟨4, 0, n⟩
def toPortD (q : Pr) : List Do := [⟨1, 9, q.i⟩, ⟨6, 0, q.c⟩]
def answerD (ip mac ch : Int) : List Do := [⟨1, 3, 2⟩, ⟨2, 1, 2⟩, ⟨1, 2, mac⟩, ⟨2, 5, 4⟩, ⟨1, 4, ip⟩, ⟨2, 9, 0⟩, ⟨6, 0, ch⟩]
def routeD (p : Pr) : List Do := [⟨1, 1, p.m⟩, ⟨1, 2, 60000 + p.s⟩, ⟨3, 6, 0⟩, ⟨1, 8, p.s⟩]
def ruleMs (r : Ac) : List Mt := [hiM 4 r.src r.sb, hiM 5 r.dst r.db] ++ (if r.o = -1 then [] else [isM 7 r.o])
def isOfB (s : Int) (p : Pr) : Bool := p.s == s
def somewhereB (p : Pr) : Bool := !(p.c == -1)
def othersB (p q : Pr) : Bool := (q.s == p.s && !(q.i == p.i)) && somewhereB q
def routedB (S : List Sw) (t : Int) (p : Pr) : Bool := S.any fun s => s.i == p.s && s.t == t && !(s.g == 0)
def tunnelFl : List Fl := [⟨0, 0, dataMs ++ [isM 0 0], [gotoD 4]⟩, ⟨0, 0, bareMs 2 ++ [isM 0 0], [gotoD 5]⟩]
def portFl (P : List Pr) (p : Pr) : List Fl :=
  [⟨0, 0, sentMs p ++ dataMs, [⟨1, 8, p.s⟩, gotoD 2]⟩, ⟨0, 0, sentMs p ++ bareMs 1, [⟨1, 8, p.s⟩, gotoD 1]⟩, ⟨1, 1, [isM 0 p.i, isM 5 p.p], []⟩, ⟨3, 1, [isM 0 p.i, isM 1 p.m], []⟩,
    ⟨3, 0, [isM 0 p.i, isM 1 65535], (P.filter (othersB p)).flatMap toPortD⟩, ⟨5, 0, [isM 8 p.s, isM 9 p.i], [⟨5, 0, p.i⟩]⟩]
def ansFl (s ip mac ch : Int) : Fl := ⟨1, 0, [isM 8 s, isM 5 ip], answerD ip mac ch⟩
def askFl (P : List Pr) (s : Sw) (ch : Int) : List Fl := (if s.g = 0 then [] else [ansFl s.i s.g (60000 + s.i) ch]) ++ (P.filter (isOfB s.i)).map fun p => ansFl s.i p.p p.m ch
def ruleAt (R : List Ac) (s t n : Int) (i : Nat) : Fl := ⟨t, (R.length : Int) - i, ruleMs (R.getD i ac0) ++ [isM 8 s], if (R.getD i ac0).d then [] else [gotoD n]⟩
def ruleFl (R : List Ac) (s t n : Int) : List Fl := ⟨t, 0, [isM 8 s], [gotoD n]⟩ :: (List.range R.length).map (ruleAt R s t n)
def bridgeFl (P : List Pr) (s : Sw) : List Fl := (P.filter fun p => isOfB s.i p && somewhereB p).map fun p => ⟨3, 0, [isM 8 s.i, isM 1 p.m], toPortD p⟩
def routerMs (s : Sw) : List Mt := [isM 8 s.i, isM 1 (60000 + s.i)]
def routeFl (S : List Sw) (P : List Pr) (s : Sw) : List Fl := if s.g = 0 then [] else
  ⟨3, 1, routerMs s ++ [⟨6, 65534, 0⟩], []⟩ :: (P.filter fun p => routedB S s.t p && somewhereB p).map fun p => ⟨3, 0, routerMs s ++ [isM 5 p.p], routeD p ++ toPortD p⟩
/-- The order of rules: the greater ones first. -/
def acLe (x y : Ac) : Bool := decide (y.p ≤ x.p)
/-- Rules sorted as the library does it: two blocks, merged. -/
def acSort (R : List Ac) : List Ac := mrg acLe (isort acLe (R.take 20)) (isort acLe (R.drop 20))
def rulesB (A : List Ac) (s : Int) (inn : Bool) : List Ac := A.filter fun r => r.s == s && r.n == inn
def switchFl (S : List Sw) (P : List Pr) (A : List Ac) (s : Sw) (ch : Int) : List Fl :=
  askFl P s ch ++ ruleFl (acSort (rulesB A s.i true)) s.i 2 3 ++ bridgeFl P s ++ routeFl S P s ++ ruleFl (acSort (rulesB A s.i false)) s.i 4 5
def hereB (ch : Int) (p : Pr) : Bool := p.c == ch
def comp (S : List Sw) (P : List Pr) (A : List Ac) (ch : Int) : List Fl :=
  tunnelFl ++ (P.filter (hereB ch)).flatMap (portFl P) ++ (S.filter fun s => (P.filter (hereB ch)).any (isOfB s.i)).flatMap fun s => switchFl S P A s ch

end Go.Proofs.YtjcomoinggiedaaGreat
