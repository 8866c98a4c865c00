/- Texts joined: Xh, Xi, Xl, Xj, Rx, Mg, Mh, Mb, Xo, Kt, Ocf, Kr, Orw, Qm, Qn. -/
import Derived.Maps.AppendAt
import Derived.Deep.Slices
import Derived.SizedLaws
import Derived.Test.YtjcomoinggiedaaGreatJTopSilent5
namespace Go.Proofs.YtjcomoinggiedaaGreat
open Go.RowKit
set_option linter.unusedVariables false
set_option maxRecDepth 100000

/-- All blocks are as they were, but those of X. -/
def Keep (X : Nat → Prop) (w w' : World) : Prop := w.heap.size ≤ w'.heap.size ∧ ∀ k, ¬ X k → k < w.heap.size → w'.heap[k]? = w.heap[k]?
/-- What holds however the blocks of X are written. -/
def Kept (X : Nat → Prop) (w : World) (F : World → Prop) : Prop := ∀ w', Keep X w w' → F w'
theorem Kept.here {X : Nat → Prop} {w : World} {F : World → Prop} (h : Kept X w F) : F w := h w ⟨Nat.le_refl _, fun _ _ _ => rfl⟩
theorem Kept.on {X X' : Nat → Prop} {w w' : World} {F : World → Prop} (h : Kept X w F) (hk : Keep X w w') (hX : ∀ k, X' k → X k ∨ w.heap.size ≤ k) : Kept X' w' F := fun w2 h2 =>
  h w2 ⟨Nat.le_trans hk.1 h2.1, fun k h0 h1 => (h2.2 k (fun hx => by rcases hX k hx with h | h; exact h0 h; omega) (Nat.lt_of_lt_of_le h1 hk.1)).trans (hk.2 k h0 h1)⟩
theorem Kept.below {X : Nat → Prop} {w w' : World} {F : World → Prop} (h : Kept X w F) (hb : Below w.heap.size w w') : Kept X w' F := h.on ⟨hb.size, fun k _ h1 => hb.block k h1⟩ fun _ h => .inl h
/-- A block that is not there yet may be written, too. -/
theorem Kept.but {X X' : Nat → Prop} {w : World} {F : World → Prop} (h : Kept X w F) (hX : ∀ k, X' k → X k ∨ w.heap.size ≤ k) : Kept X' w F := h.on ⟨Nat.le_refl _, fun _ _ _ => rfl⟩ hX
theorem Kept.grown {X X' : Nat → Prop} {w w' : World} {F : World → Prop} {row : Option Nat} (h : Kept X w F) (hg : w.grownBy w' row) (hr : ∀ g, row = some g → X g) (hX : ∀ k, X' k → X k ∨ w.heap.size ≤ k) : Kept X' w' F := h.on ⟨hg.size, fun k h0 h1 => hg.block k h1 (fun e => h0 (hr k e.symm))⟩ hX
theorem setCells_block (b : Nat) : ∀ (vs : List Value) (o : Nat) (w : World) (k : Nat), k ≠ b → (w.setCells b o vs).heap[k]? = w.heap[k]?
  | [], o, w, k, _ => rfl
  | v :: vs, o, w, k, h => by
    show ((w.setCell ⟨b, o, none⟩ v).setCells b (o + 1) vs).heap[k]? = _
    rw [setCells_block b vs _ _ k h]
    unfold World.setCell
    simp only
    rw [Array.getElem?_modify, if_neg (Ne.symm h)]
theorem Kept.set {X : Nat → Prop} {w : World} {F : World → Prop} (h : Kept X w F) {b : Nat} (hb : X b) (o : Nat) (vs : List Value) : Kept X (w.setCells b o vs) F :=
  h.on ⟨by rw [setCells_size]; exact Nat.le_refl _, fun k h0 _ => setCells_block b vs o w k (fun e => h0 (e ▸ hb))⟩ fun _ h => .inl h
theorem own_keep {X : Nat → Prop} {w : World} {B e sz n : Nat} {u : Value} {xs : List Value} (h : w.ownsRow B e sz u n xs) (hX : ∀ g, u.ownBlock = some g → ¬ X g) : Kept X w fun w' => w'.ownsRow B e sz u n xs := fun w' hk => by
  refine ⟨h.1, ?_⟩
  rcases h.2 with hn | ⟨g, cap, cur, rfl, hb, hgg, rest⟩
  · exact .inl hn
  · exact .inr ⟨g, cap, cur, rfl, hb, (hk.2 g (hX g rfl) (own_in h rfl)).trans hgg, rest⟩
/-- A reply: its code, what came, the body of what came. -/
structure Rp where
  c : Int
  l : List Ar
  body : ByteArray
/-- .. and the slice of what came. -/
structure Rv where
  r : Rp
  v : Value
def rvC (x : Rv) : List Value := [.int .i64 x.r.c, x.v]
def RvIn (w : World) (B : Nat) (u : Value) (x : Rv) : Prop := w.ownsRow B 61 9 x.v x.r.l.length (AR x.r.body x.r.l) ∧ ∀ g, x.v.ownBlock = some g → u.ownBlock ≠ some g
/-- A row of replies that a call made. -/
def RR (w : World) (B : Nat) (u : Value) (rs : List Rp) : Prop := ∃ lo : List Rv, lo.map Rv.r = rs ∧ w.ownsRow B 58 2 u lo.length (lo.flatMap rvC) ∧ ∀ x ∈ lo, RvIn w B u x
theorem RR.below {w w' : World} {B : Nat} {u : Value} {rs : List Rp} (h : RR w B u rs) (hb : Below w.heap.size w w') : RR w' B u rs := by
  obtain ⟨lo, e, ho, hx⟩ := h
  exact ⟨lo, e, own_below ho hb, fun x hx' => ⟨own_below (hx x hx').1 hb, (hx x hx').2⟩⟩
theorem RR.nil (w : World) (B : Nat) : RR w B (.slice none 0 0) [] := ⟨[], rfl, World.ownsRow_nil _ _ _ _, fun x hx => by cases hx⟩
theorem RR.less {w : World} {B B' : Nat} {u : Value} {rs : List Rp} (h : RR w B u rs) (hB : B' ≤ B) : RR w B' u rs := by
  obtain ⟨lo, e, ho, hx⟩ := h
  exact ⟨lo, e, own_less ho hB, fun x hx' => ⟨own_less (hx x hx').1 hB, (hx x hx').2⟩⟩
theorem RR.slc {w : World} {B : Nat} {u : Value} {rs : List Rp} (h : RR w B u rs) : ∃ o c, u = .slice o rs.length c := by
  obtain ⟨lo, e, ho, hx⟩ := h
  obtain ⟨o, c, h⟩ := own_slc ho
  exact ⟨o, c, by rw [h, ← e, List.length_map]⟩
theorem infoRp : (Tryz.prog.info? 58).map (fun i => (i.zero, i.size, i.bytes)) = some (some (.agg #[.int .i64 0, .slice none 0 0]), 2, 32) := by kernel_rfl
/-- One more reply. -/
theorem wpList_append_rp {ops : Array Oper} {rest : List Oper} {o : Oper} {a : Act} {Q : Exit → Act → World → Prop} {w : World} (hgd : o.guard = none) (s x : Operand)
    (ho : o.op = .call { callee := .builtin .append, args := #[s, x], argTypes := #[46, 46] }) (B : Nat) (v : Value) (rs : List Rp) (hs : a.eval s = v) (hR : RR w B v rs) (g : Nat) (r : Rp) (cv : Value)
    (hx : a.eval x = .slice (some ⟨g, 0, none⟩) 1 1) (hnews : w.rangeAt g 0 [.int .i64 r.c, cv]) (hone : cv.oneCell' = true) (hcv : w.ownsRow B 61 9 cv r.l.length (AR r.body r.l)) (hne : ∀ g, cv.ownBlock = some g → v.ownBlock ≠ some g) (hlen : rs.length + 1 ≤ 1000000) (hB : B ≤ w.heap.size)
    (h : ∀ v' w', RR w' B v' (rs ++ [r]) → w.grownBy w' v.ownBlock → (v'.ownBlock = v.ownBlock ∨ v'.ownBlock = some w.heap.size) → wpList Tryz.prog ops Q rest (a.put o.dst v') w') : wpList Tryz.prog ops Q (o :: rest) a w := by
  obtain ⟨i0, hi, hz0, hz1, hz2⟩ := info_parts infoRp
  obtain ⟨lo, e, hown, hlo⟩ := hR
  have hlo' : lo.length = rs.length := by rw [← e, List.length_map]
  refine wpList_append_own_at w hgd s x 46 ho B 58 i0 _ 2 32 Tryz.underlying46 hi hz0 hz1 hz2 rfl (by decide) v lo.length _ hs hown ⟨g, 0, none⟩ 1 1 [.int .i64 r.c, cv] hx rfl (fun j u hj => by rw [addf]; have := hnews j u hj; rwa [Nat.zero_add] at this) ?_ ?_ ?_ hB ?_
  · intro u hu
    rcases List.mem_cons.1 hu with rfl | hu
    · rfl
    · obtain rfl : u = cv := by simpa using hu
      exact hone
  · unfold maxLen; omega
  · omega
  · intro v' w' ho' hg' _ hat
    have hfar : ∀ (y : Rv), RvIn w B v y → RvIn w' B v' y := fun y hy => by
      obtain ⟨h1, h2⟩ := hy
      refine ⟨h1.kept hg' ?_, fun g hg => ?_⟩
      · cases hv : y.v.ownBlock with
        | none => exact .inl rfl
        | some g => exact .inr (fun e => h2 g hv e.symm)
      · have hlt := own_in h1 hg
        rcases hat with e' | e'
        · rw [e']; exact h2 g hg
        · rw [e']; intro e2; cases e2; omega
    refine h v' w' ⟨lo ++ [⟨r, cv⟩], by simp [e], by simpa [rvC] using ho', fun y hy => ?_⟩ hg' hat
    rcases List.mem_append.1 hy with hy | hy
    · exact hfar y (hlo y hy)
    · obtain rfl : y = ⟨r, cv⟩ := by simpa using hy
      exact hfar _ ⟨hcv, hne⟩

theorem cell_same {w w' : World} {b : Nat} (h : w'.heap[b]? = w.heap[b]?) (o : Nat) : w'.cell? ⟨b, o, none⟩ = w.cell? ⟨b, o, none⟩ := by
  unfold World.cell?
  simp only [h]
theorem row_keep {α : Type} {C : α → List Value} {sz : Nat} {X : Nat → Prop} {w : World} {v : Value} {l : List α} (h : RowAt C sz w v l) (hX : ∀ g, v.ownBlock = some g → ¬ X g) : Kept X w fun w' => RowAt C sz w' v l := fun w' hk => by
  obtain ⟨a, cap, rfl, hn, hr⟩ := h
  refine ⟨a, cap, rfl, hn, ?_⟩
  rcases hr with h0 | ⟨b', off, rfl, hc, hx⟩
  · exact .inl h0
  · refine .inr ⟨b', off, rfl, hc, fun i x hi j u hj => ?_⟩
    have h := hx i x hi j u hj
    rw [cell_same (hk.2 b' (hX b' rfl) (cell_in h))]
    exact h
/-- New memory is kept, whatever is written of the old. -/
theorem cf_keep {X : Nat → Prop} {M : Nat} {w : World} {sv pv av : Value} {S : List Sw} {P : List Pr} {A : List Ac} (h : CfAt w sv pv av S P A) (hM : Hi3 M sv pv av) (hX : ∀ k, X k → k < M) : Kept X w fun w' => CfAt w' sv pv av S P A := fun w' hk =>
  ⟨row_keep h.1 (fun g hg hx => by have := hM.1 g hg; have := hX g hx; omega) w' hk, row_keep h.2.1 (fun g hg hx => by have := hM.2.1 g hg; have := hX g hx; omega) w' hk, row_keep h.2.2 (fun g hg hx => by have := hM.2.2 g hg; have := hX g hx; omega) w' hk⟩
theorem rr_keep {X : Nat → Prop} {B : Nat} {w : World} {u : Value} {rs : List Rp} (h : RR w B u rs) (hX : ∀ k, X k → k < B ∨ w.heap.size ≤ k) : Kept X w fun w' => RR w' B u rs := fun w' hk => by
  obtain ⟨lo, e, ho, hx⟩ := h
  have hno : ∀ {n : Nat} {e : TypeId} {sz : Nat} {v : Value} {xs : List Value}, w.ownsRow B e sz v n xs → ∀ g, v.ownBlock = some g → ¬ X g := fun ho g hg hxg => by
    have h1 := own_ge ho g hg
    have h2 := own_in ho hg
    rcases hX g hxg with h | h <;> omega
  exact ⟨lo, e, own_keep ho (hno ho) w' hk, fun x hx' => ⟨own_keep (hx x hx').1 (hno (hx x hx').1) w' hk, (hx x hx').2⟩⟩
theorem RR.in {w : World} {B : Nat} {u : Value} {rs : List Rp} (h : RR w B u rs) : ∀ g, u.ownBlock = some g → B ≤ g ∧ g < w.heap.size := fun g hg => by
  obtain ⟨lo, e, ho, hx⟩ := h
  exact ⟨own_ge ho g hg, own_in ho hg⟩
def axC (a : Ax) : List Value := [.int .i64 a.k, .int .i64 a.si, .int .i64 a.st, .int .i64 a.sg, .int .i64 a.pi, .int .i64 a.ps, .int .i64 a.pm, .int .i64 a.pp, .int .i64 a.pc, .int .i64 a.rs, .int .i64 a.rp, .bool a.rn, .int .i64 a.rf, .int .i64 a.rb, .int .i64 a.rt, .int .i64 a.re, .int .i64 a.ro, .bool a.rd, .int .i64 a.n, .int .i64 a.m, .int .i64 a.f0, .int .i64 a.f1, .int .i64 a.f2, .int .i64 a.f3, .int .i64 a.f4, .int .i64 a.f5, .int .i64 a.f6, .string a.body]
def ax0 : Ax := ⟨0, 0, 0, 0, 0, 0, 0, 0, 0, 0, 0, false, 0, 0, 0, 0, 0, false, 0, 0, 0, 0, 0, 0, 0, 0, 0, ⟨#[]⟩⟩
theorem row_range {α : Type} {C : α → List Value} {sz : Nat} {w : World} {v : Value} {l : List α} (d : α) (h : RowAt C sz w v l) {k : Nat} (hk : k < l.length) : ∃ b off cap, v = .slice (some ⟨b, off, none⟩) l.length cap ∧ l.length ≤ cap ∧ w.rangeAt b (off + k * sz) (C (l.getD k d)) := by
  obtain ⟨a, cap, rfl, hn, h0 | ⟨b, off, rfl, hc, hx⟩⟩ := h
  · omega
  · refine ⟨b, off, cap, rfl, hc, fun j u hj => ?_⟩
    have e : l[k]? = some (l.getD k d) := by rw [List.getD_eq_getElem?_getD, List.getElem?_eq_getElem hk]; rfl
    exact hx k _ e j u hj

end Go.Proofs.YtjcomoinggiedaaGreat

namespace Go.Proofs.YtjcomoinggiedaaGreat
open Go.RowKit
set_option linter.unusedVariables false
set_option maxRecDepth 100000

theorem Kept.set1 {X : Nat → Prop} {w : World} {F : World → Prop} (h : Kept X w F) {b : Nat} (hb : X b) (j : Nat) (v : Value) : Kept X (w.setCell ⟨b, j, none⟩ v) F := h.set hb j [v]
theorem sizeRp : (Tryz.prog.info? 58).map (·.size) = some 2 := by kernel_rfl
/-- What may be written while a run goes on: its boxes, the row of replies; .. the reply at hand. -/
def XU (w : World) (u : Value) (k : Nat) : Prop := k < w.heap.size + 3 ∨ u.ownBlock = some k
def XR (w wr : World) (u : Value) (k : Nat) : Prop := XU w u k ∨ k = wr.heap.size + 1
def XB (w wr : World) (k : Nat) : Prop := k < w.heap.size + 3 ∨ k = wr.heap.size + 1
theorem Box.grown {w w' : World} {b : Nat} {cs : List Value} {row : Option Nat} (h : Box w b cs) (hg : w.grownBy w' row) (hne : row ≠ some b) : Box w' b cs := by
  have hblk : w'.heap[b]? = w.heap[b]? := hg.block b h.1.1 (fun e => hne e.symm)
  refine ⟨⟨Nat.lt_of_lt_of_le h.1.1 hg.size, fun j v hj => ?_⟩, fun j hj => ?_⟩
  · rw [cell_same hblk]; exact h.1.2 j v hj
  · have := h.2 j hj
    unfold World.frozen? at this ⊢
    simp only [hblk]; exact this
/-- Where a run stands, k acts being behind. -/
def RunAt (I : Nat → List Sw → List Pr → List Ac → (Nat → List Fl) → List Rp → Prop) (w wr : World) (k : Nat) (u : Value) : Prop :=
  ∃ (S : List Sw) (P : List Pr) (A : List Ac) (K : Nat → List Fl) (rs : List Rp) (sv pv av : Value) (ks : List Value), (I k S P A K rs ∧ rs.length = k) ∧ RR wr (w.heap.size + 3) u rs ∧ Kept (XU w u) wr (fun W => CfAt W sv pv av S P A) ∧ Kept (XU w u) wr (fun W => KAt W ks K) ∧
    (Box wr w.heap.size [.slice none 0 0, .slice none 0 0, .slice none 0 0] ∧ Box wr (w.heap.size + 1) [sv, pv, av] ∧ Box wr (w.heap.size + 2) ks) ∧ Below w.heap.size w wr
theorem RunAt.next {I : Nat → List Sw → List Pr → List Ac → (Nat → List Fl) → List Rp → Prop} {w wr w7 w8 : World} {k : Nat} {u v : Value} {S : List Sw} {P : List Pr} {A : List Ac} {K : Nat → List Fl} {rs : List Rp} {r : Rp} {sv pv av : Value} {ks : List Value} (hI : I (k + 1) S P A K (rs ++ [r])) (hl : rs.length = k)
    (hR : RR w8 (w.heap.size + 3) v (rs ++ [r])) (hg : w7.grownBy w8 u.ownBlock) (ha : v.ownBlock = u.ownBlock ∨ v.ownBlock = some w7.heap.size) (hu : ∀ g, u.ownBlock = some g → w.heap.size + 3 ≤ g) (hC : Kept (XR w wr u) w7 fun W => CfAt W sv pv av S P A) (hK : Kept (XR w wr u) w7 fun W => KAt W ks K)
    (h0 : Box w7 w.heap.size [.slice none 0 0, .slice none 0 0, .slice none 0 0]) (h1 : Box w7 (w.heap.size + 1) [sv, pv, av]) (h2 : Box w7 (w.heap.size + 2) ks) (hb : Below w.heap.size w w7) : RunAt I w w8 (k + 1) v := by
  have hX : ∀ k, XU w v k → XR w wr u k ∨ w7.heap.size ≤ k := fun k hk => by
    rcases hk with hk | hk
    · exact .inl (.inl (.inl hk))
    · rcases ha with e | e
      · exact .inl (.inl (.inr (e ▸ hk)))
      · rw [e] at hk; cases hk; exact .inr (Nat.le_refl _)
  have hne : ∀ b, b < w.heap.size + 3 → u.ownBlock ≠ some b := fun b hb e => by have := hu b e; omega
  exact ⟨S, P, A, K, rs ++ [r], sv, pv, av, ks, ⟨hI, by simp [hl]⟩, hR, hC.grown hg (fun g e => .inl (.inr e)) hX, hK.grown hg (fun g e => .inl (.inr e)) hX, ⟨h0.grown hg (hne _ (by omega)), h1.grown hg (hne _ (by omega)), h2.grown hg (hne _ (by omega))⟩, hb.grown hg hb.size (fun g e => by have := hu g e; omega)⟩
/-- A chassis learns. -/
def SyncOk (I : Nat → List Sw → List Pr → List Ac → (Nat → List Fl) → List Rp → Prop) (k : Nat) (x : Ax) : Prop := ∀ (S : List Sw) (P : List Pr) (A : List Ac) (K : Nat → List Fl) (rs : List Rp), I k S P A K rs → ∀ (X : Nat → Prop) (W : World) (ks : List Value) (s1 p1 a1 : Option Addr) (s2 p2 a2 : Nat), (∀ k, X k → k < W.heap.size) → Kept X W (fun W => KAt W ks K) → CfAt W (.slice s1 S.length s2) (.slice p1 P.length p2) (.slice a1 A.length a2) S P A →
  Calls Tryz.prog 26 #[.agg ks.toArray, .agg #[.slice s1 S.length s2, .slice p1 P.length p2, .slice a1 A.length a2], .int .i64 x.n] W fun e w' => ∃ (ks' : List Value) (E : Int), e = .returned (.tuple #[.agg ks'.toArray, .int .i64 E]) ∧ ∃ K', Kept X w' (fun W => KAt W ks' K') ∧ I (k + 1) S P A K' (rs ++ [⟨E, [], ⟨#[]⟩⟩]) ∧ Below W.heap.size W w'
def SendOk (I : Nat → List Sw → List Pr → List Ac → (Nat → List Fl) → List Rp → Prop) (k : Nat) (x : Ax) : Prop := ∀ (S : List Sw) (P : List Pr) (A : List Ac) (K : Nat → List Fl) (rs : List Rp), I k S P A K rs → x.body.size ≤ maxLen ∧ (arrE K P x.n x.f0 x.f1 x.f2 x.f3 x.f4 x.f5 x.f6 x.body.size = 0 → SortsAr (arrL K P x.n x.f0 x.f1 x.f2 x.f3 x.f4 x.f5 x.f6 x.body.size)) ∧ ∀ l', l'.Perm (arrL K P x.n x.f0 x.f1 x.f2 x.f3 x.f4 x.f5 x.f6 x.body.size) → ByPort l' → I (k + 1) S P A K (rs ++ [⟨arrE K P x.n x.f0 x.f1 x.f2 x.f3 x.f4 x.f5 x.f6 x.body.size, l', x.body⟩])
def ElseOk (I : Nat → List Sw → List Pr → List Ac → (Nat → List Fl) → List Rp → Prop) (k : Nat) (x : Ax) : Prop := ∀ (S : List Sw) (P : List Pr) (A : List Ac) (K : Nat → List Fl) (rs : List Rp), I k S P A K rs → I (k + 1) (cS S P A x) (cP S P A x) (cA S P A x) K (rs ++ [⟨appE S P A x, [], ⟨#[]⟩⟩])

/-- What a run answers. -/
def RunPost (I : Nat → List Sw → List Pr → List Ac → (Nat → List Fl) → List Rp → Prop) (n : Nat) (w : World) (e : Ending) (w' : World) : Prop := ∃ (u su pu au : Value), e = .returned (.tuple #[u, .agg #[su, pu, au], .int .i64 0]) ∧ ∃ (S : List Sw) (P : List Pr) (A : List Ac) (K : Nat → List Fl) (rs : List Rp), (I n S P A K rs ∧ rs.length = n) ∧ RR w' w.heap.size u rs ∧ Kept (fun k => k < w.heap.size) w' (fun W => CfAt W su pu au S P A) ∧ Below w.heap.size w w'
set_option maxHeartbeats 1600000 in
theorem run_any (l : List Ax) (lv : Value) (w : World) (hL : RowAt axC 28 w lv l) (hlen : l.length ≤ 300) (I : Nat → List Sw → List Pr → List Ac → (Nat → List Fl) → List Rp → Prop) (h0 : I 0 [] [] [] (fun _ => []) [])
    (hsm : ∀ k S P A K rs, I k S P A K rs → (S.length ≤ 1000 ∧ P.length ≤ 1000 ∧ A.length ≤ 1000) ∧ ∀ p ∈ P, p.c = -1 ∨ 0 ≤ p.c ∧ p.c ≤ 5)
    (h7 : ∀ k, k < l.length → (l.getD k ax0).k = 7 → SyncOk I k (l.getD k ax0)) (h8 : ∀ k, k < l.length → (l.getD k ax0).k = 8 → SendOk I k (l.getD k ax0)) (h9 : ∀ k, k < l.length → (l.getD k ax0).k ≠ 7 → (l.getD k ax0).k ≠ 8 → ElseOk I k (l.getD k ax0)) :
    Calls Tryz.prog 31 #[lv] w (RunPost I l.length w) := by
  have HLL := hide hL
  obtain ⟨la, lc, rfl⟩ := hL.slice
  clear hL
  have HSM := hide hsm
  have H7 := hide h7
  have H8 := hide h8
  have H9 := hide h9
  have H0 := hide h0
  clear hsm h7 h8 h9 h0
  obtain ⟨W0, hW0⟩ : ∃ W0, W0 = ((w.alloc (.cells #[.slice none 0 0, .slice none 0 0, .slice none 0 0] 29)).alloc (.cells #[.slice none 0 0, .slice none 0 0, .slice none 0 0] 29)).alloc (.cells #[.slice none 0 0, .slice none 0 0, .slice none 0 0, .slice none 0 0, .slice none 0 0, .slice none 0 0] 76) := ⟨_, rfl⟩
  have kb : Below w.heap.size w W0 := by rw [hW0]; exact (((Below.refl _ w).alloc (Nat.le_refl _) _).alloc (by simp) _).alloc (by simp; omega) _
  have B0 : Box W0 w.heap.size [.slice none 0 0, .slice none 0 0, .slice none 0 0] := by rw [hW0]; exact ((Box.new w [.slice none 0 0, .slice none 0 0, .slice none 0 0] 29).alloc _).alloc _
  have B1 : Box W0 (w.heap.size + 1) [.slice none 0 0, .slice none 0 0, .slice none 0 0] := by rw [hW0]; have h := (Box.new (w.alloc (.cells #[.slice none 0 0, .slice none 0 0, .slice none 0 0] 29)) [.slice none 0 0, .slice none 0 0, .slice none 0 0] 29).alloc (.cells #[.slice none 0 0, .slice none 0 0, .slice none 0 0, .slice none 0 0, .slice none 0 0, .slice none 0 0] 76); simpa using h
  have B2 : Box W0 (w.heap.size + 2) [.slice none 0 0, .slice none 0 0, .slice none 0 0, .slice none 0 0, .slice none 0 0, .slice none 0 0] := by rw [hW0]; have h := Box.new ((w.alloc (.cells #[.slice none 0 0, .slice none 0 0, .slice none 0 0] 29)).alloc (.cells #[.slice none 0 0, .slice none 0 0, .slice none 0 0] 29)) [.slice none 0 0, .slice none 0 0, .slice none 0 0, .slice none 0 0, .slice none 0 0, .slice none 0 0] 76; simpa using h
  have HST : Hid (RunAt I w W0 0 (.slice none 0 0)) := hide ⟨[], [], [], fun _ => [], [], .slice none 0 0, .slice none 0 0, .slice none 0 0, [.slice none 0 0, .slice none 0 0, .slice none 0 0, .slice none 0 0, .slice none 0 0, .slice none 0 0], ⟨H0.out, rfl⟩, RR.nil _ _, fun w' _ => ⟨⟨none, 0, rfl, fun _ => rfl, .inl rfl⟩, ⟨none, 0, rfl, fun _ => rfl, .inl rfl⟩, ⟨none, 0, rfl, fun _ => rfl, .inl rfl⟩⟩, fun w' _ => ⟨rfl, fun i hi v hv => ⟨by
      have : v = .slice none 0 0 := by
        have h6 : i = 0 ∨ i = 1 ∨ i = 2 ∨ i = 3 ∨ i = 4 ∨ i = 5 := by omega
        rcases h6 with rfl | rfl | rfl | rfl | rfl | rfl <;> simpa using hv.symm
      rw [this]; exact ⟨none, 0, rfl, fun _ => rfl, .inl rfl⟩, by simp⟩⟩, ⟨B0, B1, B2⟩, kb⟩
  have HW0 : Hid (((w.alloc (.cells #[.slice none 0 0, .slice none 0 0, .slice none 0 0] 29)).alloc (.cells #[.slice none 0 0, .slice none 0 0, .slice none 0 0] 29)).alloc (.cells #[.slice none 0 0, .slice none 0 0, .slice none 0 0, .slice none 0 0, .slice none 0 0, .slice none 0 0] 76) = W0) := hW0.symm
  clear hW0 B0 B1 B2 H0 kb
  have q300 : ¬ ((300 : Int) < (l.length : Int)) := by omega
  go_enter Tryz.func31, Tryz.ntmps31
  go_wp2_with fail
  rw [HW0.out]
  clear HW0
  go_loopw [7, 17] (fun u i wr => ∃ k : Nat, k ≤ l.length ∧ i = .int .i64 k ∧ RunAt I w wr k u) (fun _ i _ => l.length - (intOf i).toNat)
  case atStart => exact ⟨0, by omega, rfl, HST.out⟩
  case round =>
    clear HST
    obtain ⟨k, hk, rfl, HRA⟩ := hrel
    obtain ⟨S, P, A, K, rs, sv, pv, av, ks, ⟨hI, hrl⟩, hRR, hCF, hKA, ⟨hb0, hb1, hb2⟩, hbr⟩ := HRA
    have HI := hide hI
    have HRL := hide hrl
    have HR0 := hide hRR
    have HCF := hide hCF
    have HKA := hide hKA
    have HB0 := hide hb0
    have HB1 := hide hb1
    have HB2 := hide hb2
    clear hI hrl hRR hCF hKA hb0 hb1 hb2
    obtain ⟨⟨n1, n2, n3⟩, hpc⟩ := HSM.out _ _ _ _ _ _ HI.out
    have HPC := hide hpc
    clear hpc
    obtain ⟨s1, s2, rfl⟩ := HCF.out.here.1.slice
    obtain ⟨p1, p2, rfl⟩ := HCF.out.here.2.1.slice
    obtain ⟨a1, a2, rfl⟩ := HCF.out.here.2.2.slice
    obtain ⟨j0, j1, j2, j3, j4, j5, rfl⟩ := six HKA.out.here.1
    obtain ⟨ro, rc, hru⟩ := HR0.out.slc
    subst hru
    have HUI := hide HR0.out.in
    have sr : w.heap.size + 3 ≤ wr.heap.size := HB2.out.lt
    by_cases hlt : k < l.length
    · have H7k := hide (H7.out k hlt)
      have H8k := hide (H8.out k hlt)
      have H9k := hide (H9.out k hlt)
      obtain ⟨ab, off, cap, e1, hcap, hR0⟩ := row_range ax0 (RowAt.below HLL.out hbr (Nat.le_refl _)) hlt
      have R0 := hide hR0
      clear hR0
      simp only [Value.slice.injEq, true_and] at e1
      obtain ⟨rfl, rfl⟩ := e1
      generalize l.getD k ax0 = x at *
      have HXC : Hid (axC x = [.int .i64 x.k, .int .i64 x.si, .int .i64 x.st, .int .i64 x.sg, .int .i64 x.pi, .int .i64 x.ps, .int .i64 x.pm, .int .i64 x.pp, .int .i64 x.pc, .int .i64 x.rs, .int .i64 x.rp, .bool x.rn, .int .i64 x.rf, .int .i64 x.rb, .int .i64 x.rt, .int .i64 x.re, .int .i64 x.ro, .bool x.rd, .int .i64 x.n, .int .i64 x.m, .int .i64 x.f0, .int .i64 x.f1, .int .i64 x.f2, .int .i64 x.f3, .int .i64 x.f4, .int .i64 x.f5, .int .i64 x.f6, .string x.body]) := rfl
      rw [HXC.out] at R0
      have q0 : (0 : Int) ≤ (k : Int) := by omega
      have q1 : (k : Int) < (l.length : Int) := by omega
      obtain ⟨WZ, hWZ⟩ : ∃ WZ, WZ = wr.alloc (.cells #[.int .i64 0, .int .i64 0, .int .i64 0, .int .i64 0, .int .i64 0, .int .i64 0, .int .i64 0, .int .i64 0, .int .i64 0, .int .i64 0, .int .i64 0, .bool false, .int .i64 0, .int .i64 0, .int .i64 0, .int .i64 0, .int .i64 0, .bool false, .int .i64 0, .int .i64 0, .int .i64 0, .int .i64 0, .int .i64 0, .int .i64 0, .int .i64 0, .int .i64 0, .int .i64 0, .string ⟨#[]⟩] 54) := ⟨_, rfl⟩
      have hZ : Box WZ wr.heap.size [.int .i64 0, .int .i64 0, .int .i64 0, .int .i64 0, .int .i64 0, .int .i64 0, .int .i64 0, .int .i64 0, .int .i64 0, .int .i64 0, .int .i64 0, .bool false, .int .i64 0, .int .i64 0, .int .i64 0, .int .i64 0, .int .i64 0, .bool false, .int .i64 0, .int .i64 0, .int .i64 0, .int .i64 0, .int .i64 0, .int .i64 0, .int .i64 0, .int .i64 0, .int .i64 0, .string ⟨#[]⟩] := by rw [hWZ]; exact Box.new wr [.int .i64 0, .int .i64 0, .int .i64 0, .int .i64 0, .int .i64 0, .int .i64 0, .int .i64 0, .int .i64 0, .int .i64 0, .int .i64 0, .int .i64 0, .bool false, .int .i64 0, .int .i64 0, .int .i64 0, .int .i64 0, .int .i64 0, .bool false, .int .i64 0, .int .i64 0, .int .i64 0, .int .i64 0, .int .i64 0, .int .i64 0, .int .i64 0, .int .i64 0, .int .i64 0, .string ⟨#[]⟩] 54
      have TZ := hide (hZ.fit 28 rfl)
      obtain ⟨WA, hWA⟩ : ∃ WA, WA = WZ.setCells wr.heap.size 0 [.int .i64 x.k, .int .i64 x.si, .int .i64 x.st, .int .i64 x.sg, .int .i64 x.pi, .int .i64 x.ps, .int .i64 x.pm, .int .i64 x.pp, .int .i64 x.pc, .int .i64 x.rs, .int .i64 x.rp, .bool x.rn, .int .i64 x.rf, .int .i64 x.rb, .int .i64 x.rt, .int .i64 x.re, .int .i64 x.ro, .bool x.rd, .int .i64 x.n, .int .i64 x.m, .int .i64 x.f0, .int .i64 x.f1, .int .i64 x.f2, .int .i64 x.f3, .int .i64 x.f4, .int .i64 x.f5, .int .i64 x.f6, .string x.body] := ⟨_, rfl⟩
      have hA : Box WA wr.heap.size [.int .i64 x.k, .int .i64 x.si, .int .i64 x.st, .int .i64 x.sg, .int .i64 x.pi, .int .i64 x.ps, .int .i64 x.pm, .int .i64 x.pp, .int .i64 x.pc, .int .i64 x.rs, .int .i64 x.rp, .bool x.rn, .int .i64 x.rf, .int .i64 x.rb, .int .i64 x.rt, .int .i64 x.re, .int .i64 x.ro, .bool x.rd, .int .i64 x.n, .int .i64 x.m, .int .i64 x.f0, .int .i64 x.f1, .int .i64 x.f2, .int .i64 x.f3, .int .i64 x.f4, .int .i64 x.f5, .int .i64 x.f6, .string x.body] := by rw [hWA]; exact hZ.set ([.int .i64 x.k, .int .i64 x.si, .int .i64 x.st, .int .i64 x.sg, .int .i64 x.pi, .int .i64 x.ps, .int .i64 x.pm, .int .i64 x.pp, .int .i64 x.pc, .int .i64 x.rs, .int .i64 x.rp, .bool x.rn, .int .i64 x.rf, .int .i64 x.rb, .int .i64 x.rt, .int .i64 x.re, .int .i64 x.ro, .bool x.rd, .int .i64 x.n, .int .i64 x.m, .int .i64 x.f0, .int .i64 x.f1, .int .i64 x.f2, .int .i64 x.f3, .int .i64 x.f4, .int .i64 x.f5, .int .i64 x.f6, .string x.body] : List Value) rfl
      have hsA : WA.heap.size = wr.heap.size + 1 := by rw [hWA, setCells_size, hWZ]; simp
      obtain ⟨W1, hW1⟩ : ∃ W1, W1 = WA.alloc (.cells #[.int .i64 0, .slice none 0 0] 58) := ⟨_, rfl⟩
      have hbN : Below wr.heap.size wr W1 := by rw [hW1, hWA, hWZ]; exact (setCells_below _ (Nat.le_refl _) _ _ ((Below.refl _ _).alloc (Nat.le_refl _) _)).alloc (by rw [setCells_size]; simp) _
      have HAB : Hid (Box W1 wr.heap.size [.int .i64 x.k, .int .i64 x.si, .int .i64 x.st, .int .i64 x.sg, .int .i64 x.pi, .int .i64 x.ps, .int .i64 x.pm, .int .i64 x.pp, .int .i64 x.pc, .int .i64 x.rs, .int .i64 x.rp, .bool x.rn, .int .i64 x.rf, .int .i64 x.rb, .int .i64 x.rt, .int .i64 x.re, .int .i64 x.ro, .bool x.rd, .int .i64 x.n, .int .i64 x.m, .int .i64 x.f0, .int .i64 x.f1, .int .i64 x.f2, .int .i64 x.f3, .int .i64 x.f4, .int .i64 x.f5, .int .i64 x.f6, .string x.body]) := by rw [hW1]; exact hide (hA.alloc _)
      have HPB : Hid (Box W1 (wr.heap.size + 1) [.int .i64 0, .slice none 0 0]) := by rw [hW1, ← hsA]; exact hide (Box.new WA [.int .i64 0, .slice none 0 0] 58)
      have HWZ : Hid (wr.alloc (.cells #[.int .i64 0, .int .i64 0, .int .i64 0, .int .i64 0, .int .i64 0, .int .i64 0, .int .i64 0, .int .i64 0, .int .i64 0, .int .i64 0, .int .i64 0, .bool false, .int .i64 0, .int .i64 0, .int .i64 0, .int .i64 0, .int .i64 0, .bool false, .int .i64 0, .int .i64 0, .int .i64 0, .int .i64 0, .int .i64 0, .int .i64 0, .int .i64 0, .int .i64 0, .int .i64 0, .string ⟨#[]⟩] 54) = WZ) := hWZ.symm
      have HWA : Hid (WZ.setCells wr.heap.size 0 [.int .i64 x.k, .int .i64 x.si, .int .i64 x.st, .int .i64 x.sg, .int .i64 x.pi, .int .i64 x.ps, .int .i64 x.pm, .int .i64 x.pp, .int .i64 x.pc, .int .i64 x.rs, .int .i64 x.rp, .bool x.rn, .int .i64 x.rf, .int .i64 x.rb, .int .i64 x.rt, .int .i64 x.re, .int .i64 x.ro, .bool x.rd, .int .i64 x.n, .int .i64 x.m, .int .i64 x.f0, .int .i64 x.f1, .int .i64 x.f2, .int .i64 x.f3, .int .i64 x.f4, .int .i64 x.f5, .int .i64 x.f6, .string x.body] = WA) := hWA.symm
      have HSA := hide hsA
      clear hWZ hZ hWA hA
      replace HB0 := hide (HB0.out.below hbN)
      replace HB1 := hide (HB1.out.below hbN)
      replace HB2 := hide (HB2.out.below hbN)
      replace HCF := hide ((HCF.out.but (X' := XR w wr (.slice ro rs.length rc)) (fun k hk => by rcases hk with h | h; exact .inl h; exact .inr (by omega))).below hbN)
      replace HKA := hide ((HKA.out.but (X' := XR w wr (.slice ro rs.length rc)) (fun k hk => by rcases hk with h | h; exact .inl h; exact .inr (by omega))).below hbN)
      have HRR := hide ((rr_keep (X := XB w wr) HR0.out (fun k hk => by rcases hk with h | h; exact .inl h; exact .inr (by omega))).below hbN)
      have hbw : Below w.heap.size w W1 := hbr.trans (hbN.mono (by omega))
      have HW1 := hide hW1.symm
      have sW1 : wr.heap.size + 1 < W1.heap.size := HPB.out.lt
      have HXL : Hid (∀ k, XR w wr (.slice ro rs.length rc) k → k < W1.heap.size) := hide (fun k hk => by rcases hk with (h | h) | h; omega; (have := (HUI.out k h).2; omega); omega)
      clear hbN hW1 hbr HLL HSM H7 H8 H9 HXC HR0 hsA
      have ak := HAB.out.cell 0 _ rfl
      have an := HAB.out.cell 18 _ rfl
      by_cases hx7 : x.k = 7
      · have HSY := hide (H7k.out hx7 S P A K rs HI.out)
        have hk7 : (x.k == 7) = true := by simpa using hx7
        clear hx7 H7k H8k H9k
        go_wp2_with (first | rw [HWZ.out] | rw [HW1.out] | rw [HSA.out] | (refine wpList_load_mid rfl 54 (.tmp 19) rfl ab (off + k * 28) rfl _ _ R0.out Tryz.underlying54 rfl actInfo ?_) | (refine wpList_store_mid rfl 54 (.tmp 9) (.tmp 20) rfl wr.heap.size 0 _ rfl rfl TZ.out actInfo (ones rfl) ?_; rw [show (#[.int .i64 x.k, .int .i64 x.si, .int .i64 x.st, .int .i64 x.sg, .int .i64 x.pi, .int .i64 x.ps, .int .i64 x.pm, .int .i64 x.pp, .int .i64 x.pc, .int .i64 x.rs, .int .i64 x.rp, .bool x.rn, .int .i64 x.rf, .int .i64 x.rb, .int .i64 x.rt, .int .i64 x.re, .int .i64 x.ro, .bool x.rd, .int .i64 x.n, .int .i64 x.m, .int .i64 x.f0, .int .i64 x.f1, .int .i64 x.f2, .int .i64 x.f3, .int .i64 x.f4, .int .i64 x.f5, .int .i64 x.f6, .string x.body] : Array Value).toList = [.int .i64 x.k, .int .i64 x.si, .int .i64 x.st, .int .i64 x.sg, .int .i64 x.pi, .int .i64 x.ps, .int .i64 x.pm, .int .i64 x.pp, .int .i64 x.pc, .int .i64 x.rs, .int .i64 x.rp, .bool x.rn, .int .i64 x.rf, .int .i64 x.rb, .int .i64 x.rt, .int .i64 x.re, .int .i64 x.ro, .bool x.rd, .int .i64 x.n, .int .i64 x.m, .int .i64 x.f0, .int .i64 x.f1, .int .i64 x.f2, .int .i64 x.f3, .int .i64 x.f4, .int .i64 x.f5, .int .i64 x.f6, .string x.body] from rfl, HWA.out]) | (refine wpList_load_mid rfl 76 (.tmp 6) rfl (w.heap.size + 1 + 1) 0 rfl _ _ HB2.out.range Tryz.underlying76 rfl sizeKn ?_) | (refine wpList_load_mid rfl 29 (.tmp 5) rfl (w.heap.size + 1) 0 rfl _ _ HB1.out.range Tryz.underlying29 rfl sizeConf ?_))
        refine (HSY.out _ _ _ s1 p1 a1 s2 p2 a2 HXL.out HKA.out HCF.out.here).mono ?_
        rintro e w2 ⟨ks2, E, rfl, K2, hk2, hI2, hb2⟩
        have HK2 := hide hk2
        have HI2 := hide hI2
        obtain ⟨i0, i1, i2, i3, i4, i5, rfl⟩ := six hk2.here.1
        replace HB0 := hide (HB0.out.below hb2)
        replace HB1 := hide (HB1.out.below hb2)
        replace HB2 := hide (HB2.out.below hb2)
        replace HPB := hide (HPB.out.below hb2)
        replace HRR := hide (HRR.out.below hb2)
        replace HCF := hide (HCF.out.below hb2)
        replace hbw := hbw.trans (hb2.mono hbw.size)
        have s2l := hb2.size
        have HON := hide (ones6 hk2.here)
        clear hk2 hI2 hb2 HKA HAB R0 HW1 HWZ HWA HSA TZ ak an HSY
        have HKA := HK2
        clear HK2
        obtain ⟨W3, hW3⟩ : ∃ W3, W3 = w2.setCells (w.heap.size + 1 + 1) 0 [i0, i1, i2, i3, i4, i5] := ⟨_, rfl⟩
        obtain ⟨W4, hW4⟩ : ∃ W4, W4 = W3.setCell ⟨wr.heap.size + 1, 0, none⟩ (.int .i64 E) := ⟨_, rfl⟩
        have T2 := hide (HB2.out.fit 6 rfl)
        have hP3 : Box W3 (wr.heap.size + 1) [.int .i64 0, .slice none 0 0] := by rw [hW3]; exact HPB.out.set_far (by omega) _ _
        have HPX : Hid (Box W4 (wr.heap.size + 1) [.int .i64 E, .slice none 0 0]) := by rw [hW4]; exact hide (hP3.set1 0 _ (by simp))
        have c3 := hP3.cell 0 _ rfl
        have f3 := hP3.2 0 (by simp)
        replace HB0 : Hid (Box W4 w.heap.size [.slice none 0 0, .slice none 0 0, .slice none 0 0]) := by rw [hW4, hW3]; exact hide ((HB0.out.set_far (by omega) _ _).set1_far (by omega) _ _)
        replace HB1 : Hid (Box W4 (w.heap.size + 1) [.slice s1 S.length s2, .slice p1 P.length p2, .slice a1 A.length a2]) := by rw [hW4, hW3]; exact hide ((HB1.out.set_far (by omega) _ _).set1_far (by omega) _ _)
        replace HB2 : Hid (Box W4 (w.heap.size + 1 + 1) [i0, i1, i2, i3, i4, i5]) := by rw [hW4, hW3]; exact hide ((HB2.out.set ([i0, i1, i2, i3, i4, i5] : List Value) rfl).set1_far (by omega) _ _)
        replace HRR := hide ((HRR.out.set (b := (w.heap.size + 1 + 1)) (.inl (by omega)) 0 [i0, i1, i2, i3, i4, i5]).set1 (b := wr.heap.size + 1) (.inr rfl) 0 (.int .i64 E))
        rw [← hW3, ← hW4] at HRR
        replace HCF := hide ((HCF.out.set (b := (w.heap.size + 1 + 1)) (.inl (.inl (by omega))) 0 [i0, i1, i2, i3, i4, i5]).set1 (b := wr.heap.size + 1) (.inr rfl) 0 (.int .i64 E))
        rw [← hW3, ← hW4] at HCF
        replace HKA := hide ((HKA.out.set (b := (w.heap.size + 1 + 1)) (.inl (.inl (by omega))) 0 [i0, i1, i2, i3, i4, i5]).set1 (b := wr.heap.size + 1) (.inr rfl) 0 (.int .i64 E))
        rw [← hW3, ← hW4] at HKA
        have hbw4 : Below w.heap.size w W4 := by rw [hW4, hW3]; exact (setCells_below (w.heap.size + 1 + 1) (by omega) _ 0 hbw).setCell (p := ⟨wr.heap.size + 1, 0, none⟩) (by simp only; omega) _
        clear hbw HPB hP3
        obtain ⟨W7, hW7⟩ : ∃ W7, W7 = W4.alloc (.cells #[.int .i64 E, .slice none 0 0] 58) := ⟨_, rfl⟩
        have hb7 : Below W4.heap.size W4 W7 := by rw [hW7]; exact (Below.refl _ _).alloc (Nat.le_refl _) _
        have HN7 : Hid (W7.rangeAt W4.heap.size 0 [.int .i64 E, .slice none 0 0]) := by rw [hW7]; exact hide (range_new W4 [.int .i64 E, .slice none 0 0] 58)
        replace HB0 := hide (HB0.out.below hb7)
        replace HB1 := hide (HB1.out.below hb7)
        replace HB2 := hide (HB2.out.below hb7)
        replace HRR := hide (HRR.out.below hb7)
        replace HCF := hide (HCF.out.below hb7)
        replace HKA := hide (HKA.out.below hb7)
        have hbw7 := hbw4.trans (hb7.mono hbw4.size)
        have s7 : w.heap.size + 3 ≤ W7.heap.size := HB2.out.lt
        have HW3 : Hid (w2.setCells (w.heap.size + 1 + 1) 0 [i0, i1, i2, i3, i4, i5] = W3) := hW3.symm
        have HW4 : Hid (W3.setCell ⟨wr.heap.size + 1, 0, none⟩ (.int .i64 E) = W4) := hW4.symm
        have HW7 : Hid (W4.alloc (.cells #[.int .i64 E, .slice none 0 0] 58) = W7) := hW7.symm
        clear hW3 hW4 hW7 hb7 hbw4
        go_wp2_with (first | rw [HW7.out] | rw [HW4.out] | (refine wpList_store_mid rfl 76 (.tmp 6) (.tmp 38) rfl (w.heap.size + 1 + 1) 0 _ rfl rfl T2.out sizeKn HON.out ?_; rw [show (#[i0, i1, i2, i3, i4, i5] : Array Value).toList = [i0, i1, i2, i3, i4, i5] from rfl, HW3.out]) | (refine wpList_load_mid rfl 58 (.tmp 10) rfl (wr.heap.size + 1) 0 rfl _ _ HPX.out.range Tryz.underlying58 rfl sizeRp ?_) | (at_builtin; refine wpList_append_rp rfl _ _ rfl (w.heap.size + 3) _ rs rfl HRR.out.here W4.heap.size ⟨E, [], ⟨#[]⟩⟩ _ rfl HN7.out rfl (World.ownsRow_nil _ _ _ _) (fun g e => by simp [Value.ownBlock] at e) ?b21 ?b22 ?b23))
        case b21 => rw [HRL.out]; omega
        case b22 => exact s7
        intro v8 w8 hr8 hg8 ha8
        have HNX := hide (RunAt.next HI2.out HRL.out hr8 hg8 ha8 (fun g e => (HUI.out g e).1) HCF.out HKA.out HB0.out HB1.out HB2.out hbw7)
        clear hr8 hg8 ha8 HRR HCF HKA HB0 HB1 HB2 HN7 HW3 HW4 HW7 HPX
        go_wp2_with fail
        go_roundw
        case rel => exact ⟨k + 1, by omega, by go_num, HNX.out⟩
        case measure => simp [intOf]; omega
      · by_cases hx8 : x.k = 8
        · obtain ⟨hbd, hso, hnx⟩ := H8k.out hx8 S P A K rs HI.out
          have HSO := hide hso
          have HNI := hide hnx
          have hk8 : (x.k == 8) = true := by simpa using hx8
          have hk7 : (x.k == 7) = false := by simpa using hx7
          clear hx7 hx8 hso hnx H7k H8k H9k
          have HFX : Hid (W1.rangeAt wr.heap.size 20 [.int .i64 x.f0, .int .i64 x.f1, .int .i64 x.f2, .int .i64 x.f3, .int .i64 x.f4, .int .i64 x.f5, .int .i64 x.f6, .string x.body]) := hide (fun j v hj => by have := HAB.out.range (20 + j) v (by rw [Nat.add_comm]; simpa using hj); simpa using this)
          go_wp2_with (first | rw [HWZ.out] | rw [HW1.out] | rw [HSA.out] | (refine wpList_load_mid rfl 54 (.tmp 19) rfl ab (off + k * 28) rfl _ _ R0.out Tryz.underlying54 rfl actInfo ?_) | (refine wpList_store_mid rfl 54 (.tmp 9) (.tmp 20) rfl wr.heap.size 0 _ rfl rfl TZ.out actInfo (ones rfl) ?_; rw [show (#[.int .i64 x.k, .int .i64 x.si, .int .i64 x.st, .int .i64 x.sg, .int .i64 x.pi, .int .i64 x.ps, .int .i64 x.pm, .int .i64 x.pp, .int .i64 x.pc, .int .i64 x.rs, .int .i64 x.rp, .bool x.rn, .int .i64 x.rf, .int .i64 x.rb, .int .i64 x.rt, .int .i64 x.re, .int .i64 x.ro, .bool x.rd, .int .i64 x.n, .int .i64 x.m, .int .i64 x.f0, .int .i64 x.f1, .int .i64 x.f2, .int .i64 x.f3, .int .i64 x.f4, .int .i64 x.f5, .int .i64 x.f6, .string x.body] : Array Value).toList = [.int .i64 x.k, .int .i64 x.si, .int .i64 x.st, .int .i64 x.sg, .int .i64 x.pi, .int .i64 x.ps, .int .i64 x.pm, .int .i64 x.pp, .int .i64 x.pc, .int .i64 x.rs, .int .i64 x.rp, .bool x.rn, .int .i64 x.rf, .int .i64 x.rb, .int .i64 x.rt, .int .i64 x.re, .int .i64 x.ro, .bool x.rd, .int .i64 x.n, .int .i64 x.m, .int .i64 x.f0, .int .i64 x.f1, .int .i64 x.f2, .int .i64 x.f3, .int .i64 x.f4, .int .i64 x.f5, .int .i64 x.f6, .string x.body] from rfl, HWA.out]) | (refine wpList_load_mid rfl 76 (.tmp 6) rfl (w.heap.size + 1 + 1) 0 rfl _ _ HB2.out.range Tryz.underlying76 rfl sizeKn ?_) | (refine wpList_load_mid rfl 29 (.tmp 5) rfl (w.heap.size + 1) 0 rfl _ _ HB1.out.range Tryz.underlying29 rfl sizeConf ?_) | (refine wpList_load_mid rfl 32 (.tmp 48) rfl wr.heap.size 20 rfl [.int .i64 x.f0, .int .i64 x.f1, .int .i64 x.f2, .int .i64 x.f3, .int .i64 x.f4, .int .i64 x.f5, .int .i64 x.f6, .string x.body] _ HFX.out Tryz.underlying32 rfl sizeFr ?_))
          refine (arrivals_any _ K s1 p1 a1 S.length s2 p2 A.length a2 P x.n x.f0 x.f1 x.f2 x.f3 x.f4 x.f5 x.f6 x.body _ HKA.out.here HCF.out.here.2.1 (by omega) HPC.out hbd HSO.out).mono ?_
          rintro e w2 ⟨u2, rfl, l2, ⟨hp2, hs2, ho2⟩, hb2⟩
          have HIN := hide (HNI.out l2 hp2 hs2)
          have HOC := hide (own_keep (X := XR w wr (.slice ro rs.length rc)) ho2 (fun g hg hx => by have := own_ge ho2 g hg; have := HXL.out g hx; omega))
          have HFA : Hid (∀ g, u2.ownBlock = some g → (Value.slice ro rs.length rc).ownBlock ≠ some g) := hide (fun g hg e => by have := own_ge ho2 g hg; have := (HUI.out g e).2; omega)
          obtain ⟨o1, o2, rfl⟩ := own_slc ho2
          replace HB0 := hide (HB0.out.below hb2)
          replace HB1 := hide (HB1.out.below hb2)
          replace HB2 := hide (HB2.out.below hb2)
          replace HPB := hide (HPB.out.below hb2)
          replace HRR := hide (HRR.out.below hb2)
          replace HCF := hide (HCF.out.below hb2)
          replace HKA := hide (HKA.out.below hb2)
          replace hbw := hbw.trans (hb2.mono hbw.size)
          have s2l := hb2.size
          clear hp2 hs2 ho2 hb2 HAB R0 HW1 HWZ HWA HSA TZ ak an HFX HNI HSO
          generalize arrE K P x.n x.f0 x.f1 x.f2 x.f3 x.f4 x.f5 x.f6 x.body.size = E at *
          obtain ⟨W3, hW3⟩ : ∃ W3, W3 = w2.setCell ⟨wr.heap.size + 1, 1, none⟩ (.slice o1 l2.length o2) := ⟨_, rfl⟩
          obtain ⟨W4, hW4⟩ : ∃ W4, W4 = W3.setCell ⟨wr.heap.size + 1, 0, none⟩ (.int .i64 E) := ⟨_, rfl⟩
          have c2 := HPB.out.cell 1 _ rfl
          have f2 := HPB.out.2 1 (by simp)
          have hP3 : Box W3 (wr.heap.size + 1) [.int .i64 0, .slice o1 l2.length o2] := by rw [hW3]; exact HPB.out.set1 1 _ (by simp)
          have HPX : Hid (Box W4 (wr.heap.size + 1) [.int .i64 E, .slice o1 l2.length o2]) := by rw [hW4]; exact hide (hP3.set1 0 _ (by simp))
          have c3 := hP3.cell 0 _ rfl
          have f3 := hP3.2 0 (by simp)
          replace HB0 : Hid (Box W4 w.heap.size [.slice none 0 0, .slice none 0 0, .slice none 0 0]) := by rw [hW4, hW3]; exact hide ((HB0.out.set1_far (by omega) _ _).set1_far (by omega) _ _)
          replace HB1 : Hid (Box W4 (w.heap.size + 1) [.slice s1 S.length s2, .slice p1 P.length p2, .slice a1 A.length a2]) := by rw [hW4, hW3]; exact hide ((HB1.out.set1_far (by omega) _ _).set1_far (by omega) _ _)
          replace HB2 : Hid (Box W4 (w.heap.size + 1 + 1) [j0, j1, j2, j3, j4, j5]) := by rw [hW4, hW3]; exact hide ((HB2.out.set1_far (by omega) _ _).set1_far (by omega) _ _)
          replace HRR := hide ((HRR.out.set1 (b := wr.heap.size + 1) (.inr rfl) 1 (.slice o1 l2.length o2)).set1 (b := wr.heap.size + 1) (.inr rfl) 0 (.int .i64 E))
          rw [← hW3, ← hW4] at HRR
          replace HCF := hide ((HCF.out.set1 (b := wr.heap.size + 1) (.inr rfl) 1 (.slice o1 l2.length o2)).set1 (b := wr.heap.size + 1) (.inr rfl) 0 (.int .i64 E))
          rw [← hW3, ← hW4] at HCF
          replace HKA := hide ((HKA.out.set1 (b := wr.heap.size + 1) (.inr rfl) 1 (.slice o1 l2.length o2)).set1 (b := wr.heap.size + 1) (.inr rfl) 0 (.int .i64 E))
          rw [← hW3, ← hW4] at HKA
          replace HOC := hide ((HOC.out.set1 (b := wr.heap.size + 1) (.inr rfl) 1 (.slice o1 l2.length o2)).set1 (b := wr.heap.size + 1) (.inr rfl) 0 (.int .i64 E))
          rw [← hW3, ← hW4] at HOC
          have hbw4 : Below w.heap.size w W4 := by rw [hW4, hW3]; exact (hbw.setCell (p := ⟨wr.heap.size + 1, 1, none⟩) (by simp only; omega) _).setCell (p := ⟨wr.heap.size + 1, 0, none⟩) (by simp only; omega) _
          clear hbw HPB hP3
          obtain ⟨W7, hW7⟩ : ∃ W7, W7 = W4.alloc (.cells #[.int .i64 E, .slice o1 l2.length o2] 58) := ⟨_, rfl⟩
          have hb7 : Below W4.heap.size W4 W7 := by rw [hW7]; exact (Below.refl _ _).alloc (Nat.le_refl _) _
          have HN7 : Hid (W7.rangeAt W4.heap.size 0 [.int .i64 E, .slice o1 l2.length o2]) := by rw [hW7]; exact hide (range_new W4 [.int .i64 E, .slice o1 l2.length o2] 58)
          replace HB0 := hide (HB0.out.below hb7)
          replace HB1 := hide (HB1.out.below hb7)
          replace HB2 := hide (HB2.out.below hb7)
          replace HRR := hide (HRR.out.below hb7)
          replace HCF := hide (HCF.out.below hb7)
          replace HKA := hide (HKA.out.below hb7)
          replace HOC := hide (HOC.out.below hb7)
          have hbw7 := hbw4.trans (hb7.mono hbw4.size)
          have s7 : w.heap.size + 3 ≤ W7.heap.size := HB2.out.lt
          have HW3 : Hid (w2.setCell ⟨wr.heap.size + 1, 1, none⟩ (.slice o1 l2.length o2) = W3) := hW3.symm
          have HW4 : Hid (W3.setCell ⟨wr.heap.size + 1, 0, none⟩ (.int .i64 E) = W4) := hW4.symm
          have HW7 : Hid (W4.alloc (.cells #[.int .i64 E, .slice o1 l2.length o2] 58) = W7) := hW7.symm
          clear hW3 hW4 hW7 hb7 hbw4
          have HOW := hide (own_less (B' := w.heap.size + 3) HOC.out.here (by omega))
          go_wp2_with (first | rw [HW7.out] | rw [HW4.out] | rw [HW3.out] | (refine wpList_load_mid rfl 58 (.tmp 10) rfl (wr.heap.size + 1) 0 rfl _ _ HPX.out.range Tryz.underlying58 rfl sizeRp ?_) | (at_builtin; refine wpList_append_rp rfl _ _ rfl (w.heap.size + 3) _ rs rfl HRR.out.here W4.heap.size ⟨E, l2, x.body⟩ _ rfl HN7.out rfl HOW.out HFA.out ?b31 ?b32 ?b33))
          case b31 => rw [HRL.out]; omega
          case b32 => exact s7
          intro v8 w8 hr8 hg8 ha8
          have HNX := hide (RunAt.next HIN.out HRL.out hr8 hg8 ha8 (fun g e => (HUI.out g e).1) HCF.out HKA.out HB0.out HB1.out HB2.out hbw7)
          clear hr8 hg8 ha8 HRR HCF HKA HB0 HB1 HB2 HN7 HW3 HW4 HW7 HPX
          go_wp2_with fail
          go_roundw
          case rel => exact ⟨k + 1, by omega, by go_num, HNX.out⟩
          case measure => simp [intOf]; omega
        · have HEK := hide (H9k.out hx7 hx8 S P A K rs HI.out)
          have hk7 : (x.k == 7) = false := by simpa using hx7
          have hk8 : (x.k == 8) = false := by simpa using hx8
          clear hx7 hx8 H7k H8k H9k
          go_wp2_with (first | rw [HWZ.out] | rw [HW1.out] | rw [HSA.out] | (refine wpList_load_mid rfl 54 (.tmp 19) rfl ab (off + k * 28) rfl _ _ R0.out Tryz.underlying54 rfl actInfo ?_) | (refine wpList_store_mid rfl 54 (.tmp 9) (.tmp 20) rfl wr.heap.size 0 _ rfl rfl TZ.out actInfo (ones rfl) ?_; rw [show (#[.int .i64 x.k, .int .i64 x.si, .int .i64 x.st, .int .i64 x.sg, .int .i64 x.pi, .int .i64 x.ps, .int .i64 x.pm, .int .i64 x.pp, .int .i64 x.pc, .int .i64 x.rs, .int .i64 x.rp, .bool x.rn, .int .i64 x.rf, .int .i64 x.rb, .int .i64 x.rt, .int .i64 x.re, .int .i64 x.ro, .bool x.rd, .int .i64 x.n, .int .i64 x.m, .int .i64 x.f0, .int .i64 x.f1, .int .i64 x.f2, .int .i64 x.f3, .int .i64 x.f4, .int .i64 x.f5, .int .i64 x.f6, .string x.body] : Array Value).toList = [.int .i64 x.k, .int .i64 x.si, .int .i64 x.st, .int .i64 x.sg, .int .i64 x.pi, .int .i64 x.ps, .int .i64 x.pm, .int .i64 x.pp, .int .i64 x.pc, .int .i64 x.rs, .int .i64 x.rp, .bool x.rn, .int .i64 x.rf, .int .i64 x.rb, .int .i64 x.rt, .int .i64 x.re, .int .i64 x.ro, .bool x.rd, .int .i64 x.n, .int .i64 x.m, .int .i64 x.f0, .int .i64 x.f1, .int .i64 x.f2, .int .i64 x.f3, .int .i64 x.f4, .int .i64 x.f5, .int .i64 x.f6, .string x.body] from rfl, HWA.out]) | (refine wpList_load_mid rfl 29 (.tmp 5) rfl (w.heap.size + 1) 0 rfl _ _ HB1.out.range Tryz.underlying29 rfl sizeConf ?_) | (refine wpList_load_mid rfl 54 (.tmp 9) rfl wr.heap.size 0 rfl _ _ HAB.out.range Tryz.underlying54 rfl actInfo ?_))
          refine (changedF_any s1 p1 a1 s2 p2 a2 S P A x _ HCF.out.here n1 n2 n3).mono ?_
          rintro e w2 ⟨su, pu, au, rfl, hc2, hb2, hd2⟩
          have HC2 : Hid (Kept (XR w wr (.slice ro rs.length rc)) w2 fun W => CfAt W su pu au (cS S P A x) (cP S P A x) (cA S P A x)) := by
            rcases hd2 with h | ⟨⟨e1, e2, e3⟩, rfl, rfl, rfl⟩
            · exact hide (cf_keep hc2 h HXL.out)
            · rw [e1, e2, e3]; exact hide (HCF.out.below hb2)
          obtain ⟨t1, t2, rfl⟩ := hc2.1.slice
          obtain ⟨t3, t4, rfl⟩ := hc2.2.1.slice
          obtain ⟨t5, t6, rfl⟩ := hc2.2.2.slice
          replace HB0 := hide (HB0.out.below hb2)
          replace HB1 := hide (HB1.out.below hb2)
          replace HB2 := hide (HB2.out.below hb2)
          replace HPB := hide (HPB.out.below hb2)
          replace HRR := hide (HRR.out.below hb2)
          replace HKA := hide (HKA.out.below hb2)
          replace hbw := hbw.trans (hb2.mono hbw.size)
          have s2l := hb2.size
          clear hc2 hb2 hd2 HCF HAB R0 HW1 HWZ HWA HSA TZ ak an
          have HCF := HC2
          clear HC2
          generalize appE S P A x = E at *
          obtain ⟨W3, hW3⟩ : ∃ W3, W3 = w2.setCells (w.heap.size + 1) 0 [.slice t1 (cS S P A x).length t2, .slice t3 (cP S P A x).length t4, .slice t5 (cA S P A x).length t6] := ⟨_, rfl⟩
          obtain ⟨W4, hW4⟩ : ∃ W4, W4 = W3.setCell ⟨wr.heap.size + 1, 0, none⟩ (.int .i64 E) := ⟨_, rfl⟩
          have T2 := hide (HB1.out.fit 3 rfl)
          have hP3 : Box W3 (wr.heap.size + 1) [.int .i64 0, .slice none 0 0] := by rw [hW3]; exact HPB.out.set_far (by omega) _ _
          have HPX : Hid (Box W4 (wr.heap.size + 1) [.int .i64 E, .slice none 0 0]) := by rw [hW4]; exact hide (hP3.set1 0 _ (by simp))
          have c3 := hP3.cell 0 _ rfl
          have f3 := hP3.2 0 (by simp)
          replace HB0 : Hid (Box W4 w.heap.size [.slice none 0 0, .slice none 0 0, .slice none 0 0]) := by rw [hW4, hW3]; exact hide ((HB0.out.set_far (by omega) _ _).set1_far (by omega) _ _)
          replace HB1 : Hid (Box W4 (w.heap.size + 1) [.slice t1 (cS S P A x).length t2, .slice t3 (cP S P A x).length t4, .slice t5 (cA S P A x).length t6]) := by rw [hW4, hW3]; exact hide ((HB1.out.set ([.slice t1 (cS S P A x).length t2, .slice t3 (cP S P A x).length t4, .slice t5 (cA S P A x).length t6] : List Value) rfl).set1_far (by omega) _ _)
          replace HB2 : Hid (Box W4 (w.heap.size + 1 + 1) [j0, j1, j2, j3, j4, j5]) := by rw [hW4, hW3]; exact hide ((HB2.out.set_far (by omega) _ _).set1_far (by omega) _ _)
          replace HRR := hide ((HRR.out.set (b := (w.heap.size + 1)) (.inl (by omega)) 0 [.slice t1 (cS S P A x).length t2, .slice t3 (cP S P A x).length t4, .slice t5 (cA S P A x).length t6]).set1 (b := wr.heap.size + 1) (.inr rfl) 0 (.int .i64 E))
          rw [← hW3, ← hW4] at HRR
          replace HCF := hide ((HCF.out.set (b := (w.heap.size + 1)) (.inl (.inl (by omega))) 0 [.slice t1 (cS S P A x).length t2, .slice t3 (cP S P A x).length t4, .slice t5 (cA S P A x).length t6]).set1 (b := wr.heap.size + 1) (.inr rfl) 0 (.int .i64 E))
          rw [← hW3, ← hW4] at HCF
          replace HKA := hide ((HKA.out.set (b := (w.heap.size + 1)) (.inl (.inl (by omega))) 0 [.slice t1 (cS S P A x).length t2, .slice t3 (cP S P A x).length t4, .slice t5 (cA S P A x).length t6]).set1 (b := wr.heap.size + 1) (.inr rfl) 0 (.int .i64 E))
          rw [← hW3, ← hW4] at HKA
          have hbw4 : Below w.heap.size w W4 := by rw [hW4, hW3]; exact (setCells_below (w.heap.size + 1) (by omega) _ 0 hbw).setCell (p := ⟨wr.heap.size + 1, 0, none⟩) (by simp only; omega) _
          clear hbw HPB hP3
          obtain ⟨W7, hW7⟩ : ∃ W7, W7 = W4.alloc (.cells #[.int .i64 E, .slice none 0 0] 58) := ⟨_, rfl⟩
          have hb7 : Below W4.heap.size W4 W7 := by rw [hW7]; exact (Below.refl _ _).alloc (Nat.le_refl _) _
          have HN7 : Hid (W7.rangeAt W4.heap.size 0 [.int .i64 E, .slice none 0 0]) := by rw [hW7]; exact hide (range_new W4 [.int .i64 E, .slice none 0 0] 58)
          replace HB0 := hide (HB0.out.below hb7)
          replace HB1 := hide (HB1.out.below hb7)
          replace HB2 := hide (HB2.out.below hb7)
          replace HRR := hide (HRR.out.below hb7)
          replace HCF := hide (HCF.out.below hb7)
          replace HKA := hide (HKA.out.below hb7)
          have hbw7 := hbw4.trans (hb7.mono hbw4.size)
          have s7 : w.heap.size + 3 ≤ W7.heap.size := HB2.out.lt
          have HW3 : Hid (w2.setCells (w.heap.size + 1) 0 [.slice t1 (cS S P A x).length t2, .slice t3 (cP S P A x).length t4, .slice t5 (cA S P A x).length t6] = W3) := hW3.symm
          have HW4 : Hid (W3.setCell ⟨wr.heap.size + 1, 0, none⟩ (.int .i64 E) = W4) := hW4.symm
          have HW7 : Hid (W4.alloc (.cells #[.int .i64 E, .slice none 0 0] 58) = W7) := hW7.symm
          clear hW3 hW4 hW7 hb7 hbw4
          go_wp2_with (first | rw [HW7.out] | rw [HW4.out] | (refine wpList_store_mid rfl 29 (.tmp 5) (.tmp 27) rfl (w.heap.size + 1) 0 _ rfl rfl T2.out sizeConf (ones rfl) ?_; rw [show (#[.slice t1 (cS S P A x).length t2, .slice t3 (cP S P A x).length t4, .slice t5 (cA S P A x).length t6] : Array Value).toList = [.slice t1 (cS S P A x).length t2, .slice t3 (cP S P A x).length t4, .slice t5 (cA S P A x).length t6] from rfl, HW3.out]) | (refine wpList_load_mid rfl 58 (.tmp 10) rfl (wr.heap.size + 1) 0 rfl _ _ HPX.out.range Tryz.underlying58 rfl sizeRp ?_) | (at_builtin; refine wpList_append_rp rfl _ _ rfl (w.heap.size + 3) _ rs rfl HRR.out.here W4.heap.size ⟨E, [], ⟨#[]⟩⟩ _ rfl HN7.out rfl (World.ownsRow_nil _ _ _ _) (fun g e => by simp [Value.ownBlock] at e) ?b11 ?b12 ?b13))
          case b11 => rw [HRL.out]; omega
          case b12 => exact s7
          intro v8 w8 hr8 hg8 ha8
          have HNX := hide (RunAt.next HEK.out HRL.out hr8 hg8 ha8 (fun g e => (HUI.out g e).1) HCF.out HKA.out HB0.out HB1.out HB2.out hbw7)
          clear hr8 hg8 ha8 HRR HCF HKA HB0 HB1 HB2 HN7 HW3 HW4 HW7 HPX
          go_wp2_with fail
          go_roundw
          case rel => exact ⟨k + 1, by omega, by go_num, HNX.out⟩
          case measure => simp [intOf]; omega
    · have hke : k = l.length := by omega
      subst hke
      have hkk : ¬ ((l.length : Int) < (l.length : Int)) := by omega
      go_wp2_with fail
      refine wp_region_held_drew (S := (fun w' => w'.rangeAt (w.heap.size + 1) 0 [.slice s1 S.length s2, .slice p1 P.length p2, .slice a1 A.length a2])) (by kernel_rfl) HB1.out.range (fun hHeld => ?_)
      refine wpAnyH_take (i := 0) (oi := ⟨some 60, _, _, _, _, _⟩) (v := ?v1) rfl (by kernel_rfl) (by kernel_rfl) (by kernel_rfl) (fun _ _ _ h => h) (Or.inl ⟨by rfl, ?h1⟩) (by assumption) ?r1
      case h1 => (intro w hSw; (try dsimp only at hSw); go_simp <;> with_reducible rfl)
      (try simp only [Act.put, List.setIfInBounds_toArray, List.set_cons_zero, List.set_cons_succ])
      refine wpAnyH_take (i := 1) (oi := ⟨some 61, _, _, _, _, _⟩) (v := .agg #[.slice s1 S.length s2, .slice p1 P.length p2, .slice a1 A.length a2]) rfl (by kernel_rfl) (by kernel_rfl) (by kernel_rfl) (fun _ _ _ h => h) (yieldsIf_load_mid (by rfl) 29 (.tmp 5) rfl (w.heap.size + 1) 0 rfl [.slice s1 S.length s2, .slice p1 P.length p2, .slice a1 A.length a2] _ (fun w h => h) Tryz.underlying29 rfl sizeConf) (by assumption) ?_
      (try simp only [Act.put, List.setIfInBounds_toArray, List.set_cons_zero, List.set_cons_succ])
      refine wpAnyH_take (i := 2) (oi := ⟨some 2, _, _, _, _, _⟩) (v := ?v2) rfl (by kernel_rfl) (by kernel_rfl) (by kernel_rfl) (fun _ _ _ h => h) (Or.inl ⟨by rfl, ?h2⟩) (by assumption) ?r2
      case h2 => (intro w hSw; (try dsimp only at hSw); go_simp <;> with_reducible rfl)
      (try simp only [Act.put, List.setIfInBounds_toArray, List.set_cons_zero, List.set_cons_succ])
      have hbD : Below wr.heap.size wr wr.drew := (Below.refl _ _).drew
      replace HB0 := hide (HB0.out.below hbD)
      replace HB1 := hide (HB1.out.below hbD)
      replace hbr := hbr.trans (hbD.mono hbr.size)
      replace HR0 := hide (HR0.out.below hbD)
      replace HCF := hide (HCF.out.below hbD)
      clear hbD
      generalize wr.drew = V at *
      refine wpAnyH_ready (rs := [3]) (by kernel_rfl) (by simp) ?_
      refine AllReadyH.cons (o := ⟨none, _, _, _, _, _⟩) rfl (fun Kk hKk => ?_) AllReadyH.nil
      refine wp_store_mid 29 (.tmp 3) (.tmp 61) rfl w.heap.size 0 _ rfl rfl (HB0.out.fit 3 rfl) sizeConf (ones rfl) ?_
      refine hKk.out _ _ (HB1.out.set_far (by omega) _ _).range (fun hHeld => ?_)
      clear hKk Kk
      refine wpAnyH_take (i := 4) (oi := ⟨some 4, _, _, _, _, _⟩) (v := ?v3) rfl (by kernel_rfl) (by kernel_rfl) (by kernel_rfl) (fun _ _ _ h => h) (Or.inl ⟨by rfl, ?h3⟩) (by assumption) ?r3
      case h3 => (intro w hSw; (try dsimp only at hSw); go_simp <;> with_reducible rfl)
      (try simp only [Act.put, List.setIfInBounds_toArray, List.set_cons_zero, List.set_cons_succ])
      refine wpAnyH_done (by kernel_rfl) ?_ _
      clear hHeld
      go_wp2_with fail
      refine bodyPost_ret (v := .tuple #[(.slice ro rs.length rc), .agg #[.slice s1 S.length s2, .slice p1 P.length p2, .slice a1 A.length a2], .int .i64 0]) ?_ rfl ⟨_, _, _, _, rfl, S, P, A, K, rs, ⟨HI.out, HRL.out⟩, ?_, ?_, setCells_below _ (by omega) _ _ hbr⟩
      · exact results_tct (cs := [.slice s1 S.length s2, .slice p1 P.length p2, .slice a1 A.length a2]) Tryz.results31 rfl (HB0.out.set ([.slice s1 S.length s2, .slice p1 P.length p2, .slice a1 A.length a2] : List Value) rfl).range Tryz.underlying29 rfl sizeConf
      · exact ((rr_keep (X := fun k => k < w.heap.size + 3) HR0.out (fun k hk => .inl hk)).set (b := w.heap.size) (by omega) 0 _).here.less (by omega)
      · exact (HCF.out.set (b := w.heap.size) (.inl (by omega)) 0 _).but (fun k hk => .inl (.inl (by omega)))

end Go.Proofs.YtjcomoinggiedaaGreat

namespace Go.Proofs.YtjcomoinggiedaaGreat
open Go.RowKit
set_option linter.unusedVariables false
set_option maxRecDepth 100000

set_option maxHeartbeats 1600000 in
theorem topRun_any (I : Nat → List Sw → List Pr → List Ac → (Nat → List Fl) → List Rp → Prop) (la : Option Addr) (n lc : Nat) (w : World) (hR : ∀ W, Below w.heap.size w W → Calls Tryz.prog 31 #[.slice la n lc] W (RunPost I n W)) :
    Calls Tryz.prog 14 #[.slice la n lc] w (RunPost I n w) := by
  have HR := hide hR
  clear hR
  obtain ⟨W0, hW0⟩ : ∃ W0, W0 = w.alloc (.cells #[.slice none 0 0, .slice none 0 0, .slice none 0 0] 29) := ⟨_, rfl⟩
  have kb : Below w.heap.size w W0 := by rw [hW0]; exact (Below.refl _ w).alloc (Nat.le_refl _) _
  have HB : Hid (Box W0 w.heap.size [.slice none 0 0, .slice none 0 0, .slice none 0 0]) := by rw [hW0]; exact hide (Box.new w [.slice none 0 0, .slice none 0 0, .slice none 0 0] 29)
  have HW0 := hide hW0.symm
  have sb := HB.out.lt
  clear hW0
  go_enter Tryz.func14, Tryz.ntmps14
  go_wp2_with (rw [HW0.out])
  refine (HR.out _ kb).mono ?_
  rintro e w1 ⟨u, su, pu, au, rfl, S, P, A, K, rs, ⟨hI, hl⟩, hrr, hcf, hb1⟩
  have HI := hide hI
  have HRR := hide (rr_keep (X := fun k => k < W0.heap.size) hrr (fun k hk => .inl hk))
  have HCF := hide hcf
  obtain ⟨s1, s2, rfl⟩ := hcf.here.1.slice
  obtain ⟨p1, p2, rfl⟩ := hcf.here.2.1.slice
  obtain ⟨a1, a2, rfl⟩ := hcf.here.2.2.slice
  obtain ⟨o1, o2, rfl⟩ := hrr.slc
  have HL := hide hl
  rw [hl] at HRR ⊢
  replace HB := hide (HB.out.below hb1)
  replace kb := kb.trans (hb1.mono kb.size)
  have l01 := hb1.size
  clear hI hl hrr hcf hb1 HR HW0
  obtain ⟨W2, hW2⟩ : ∃ W2, W2 = w1.alloc (.cells #[.slice s1 S.length s2, .slice p1 P.length p2, .slice a1 A.length a2] 29) := ⟨_, rfl⟩
  have hb2 : Below w1.heap.size w1 W2 := by rw [hW2]; exact (Below.refl _ _).alloc (Nat.le_refl _) _
  have HB2 : Hid (Box W2 w1.heap.size [.slice s1 S.length s2, .slice p1 P.length p2, .slice a1 A.length a2]) := by rw [hW2]; exact hide (Box.new w1 [.slice s1 S.length s2, .slice p1 P.length p2, .slice a1 A.length a2] 29)
  replace HB := hide (HB.out.below hb2)
  replace HRR := hide (HRR.out.below hb2)
  replace HCF := hide (HCF.out.below hb2)
  replace kb := kb.trans (hb2.mono kb.size)
  have HW2 := hide hW2.symm
  have HW2 := hide hW2.symm
  clear hb2 hW2
  go_wp2_with (rw [HW2.out])
  clear HW2
  refine wp_region_held_drew (S := (fun w' => w'.rangeAt w1.heap.size 0 [.slice s1 S.length s2, .slice p1 P.length p2, .slice a1 A.length a2])) (by kernel_rfl) HB2.out.range (fun hHeld => ?_)
  refine wpAnyH_take (i := 0) (oi := ⟨some 23, _, _, _, _, _⟩) (v := ?v1) rfl (by kernel_rfl) (by kernel_rfl) (by kernel_rfl) (fun _ _ _ h => h) (Or.inl ⟨by rfl, ?h1⟩) (by assumption) ?r1
  case h1 => (intro w hSw; (try dsimp only at hSw); go_simp <;> with_reducible rfl)
  (try simp only [Act.put, List.setIfInBounds_toArray, List.set_cons_zero, List.set_cons_succ])
  refine wpAnyH_take (i := 1) (oi := ⟨some 24, _, _, _, _, _⟩) (v := .agg #[.slice s1 S.length s2, .slice p1 P.length p2, .slice a1 A.length a2]) rfl (by kernel_rfl) (by kernel_rfl) (by kernel_rfl) (fun _ _ _ h => h) (yieldsIf_load_mid (by rfl) 29 (.tmp 6) rfl w1.heap.size 0 rfl [.slice s1 S.length s2, .slice p1 P.length p2, .slice a1 A.length a2] _ (fun w h => h) Tryz.underlying29 rfl sizeConf) (by assumption) ?_
  (try simp only [Act.put, List.setIfInBounds_toArray, List.set_cons_zero, List.set_cons_succ])
  refine wpAnyH_take (i := 2) (oi := ⟨some 25, _, _, _, _, _⟩) (v := ?v2) rfl (by kernel_rfl) (by kernel_rfl) (by kernel_rfl) (fun _ _ _ h => h) (Or.inl ⟨by rfl, ?h2⟩) (by assumption) ?r2
  case h2 => (intro w hSw; (try dsimp only at hSw); go_simp <;> with_reducible rfl)
  (try simp only [Act.put, List.setIfInBounds_toArray, List.set_cons_zero, List.set_cons_succ])
  refine wpAnyH_take (i := 3) (oi := ⟨some 2, _, _, _, _, _⟩) (v := ?v3) rfl (by kernel_rfl) (by kernel_rfl) (by kernel_rfl) (fun _ _ _ h => h) (Or.inl ⟨by rfl, ?h3⟩) (by assumption) ?r3
  case h3 => (intro w hSw; (try dsimp only at hSw); go_simp <;> with_reducible rfl)
  (try simp only [Act.put, List.setIfInBounds_toArray, List.set_cons_zero, List.set_cons_succ])
  have hbD : Below W2.heap.size W2 W2.drew := (Below.refl _ _).drew
  replace HB := hide (HB.out.below hbD)
  replace HB2 := hide (HB2.out.below hbD)
  replace kb := kb.trans (hbD.mono kb.size)
  replace HRR := hide (HRR.out.below hbD)
  replace HCF := hide (HCF.out.below hbD)
  clear hbD
  generalize W2.drew = V at *
  refine wpAnyH_ready (rs := [4]) (by kernel_rfl) (by simp) ?_
  refine AllReadyH.cons (o := ⟨none, _, _, _, _, _⟩) rfl (fun Kk hKk => ?_) AllReadyH.nil
  refine wp_store_mid 29 (.tmp 3) (.tmp 24) rfl w.heap.size 0 _ rfl rfl (HB.out.fit 3 rfl) sizeConf (ones rfl) ?_
  refine hKk.out _ _ (HB2.out.set_far (by omega) _ _).range (fun hHeld => ?_)
  clear hKk Kk
  refine wpAnyH_take (i := 5) (oi := ⟨some 4, _, _, _, _, _⟩) (v := ?v4) rfl (by kernel_rfl) (by kernel_rfl) (by kernel_rfl) (fun _ _ _ h => h) (Or.inl ⟨by rfl, ?h4⟩) (by assumption) ?r4
  case h4 => (intro w hSw; (try dsimp only at hSw); go_simp <;> with_reducible rfl)
  (try simp only [Act.put, List.setIfInBounds_toArray, List.set_cons_zero, List.set_cons_succ])
  refine wpAnyH_done (by kernel_rfl) ?_ _
  clear hHeld
  go_wp2_with fail
  refine bodyPost_ret (v := .tuple #[.slice o1 n o2, .agg #[.slice s1 S.length s2, .slice p1 P.length p2, .slice a1 A.length a2], .int .i64 0]) ?_ rfl ⟨_, _, _, _, rfl, S, P, A, K, rs, ⟨HI.out, HL.out⟩, ?_, ?_, setCells_below _ (by omega) _ _ kb⟩
  · exact results_tct (cs := [.slice s1 S.length s2, .slice p1 P.length p2, .slice a1 A.length a2]) Tryz.results14 rfl (HB.out.set ([.slice s1 S.length s2, .slice p1 P.length p2, .slice a1 A.length a2] : List Value) rfl).range Tryz.underlying29 rfl sizeConf
  · exact (HRR.out.set (b := w.heap.size) (by omega) 0 _).here.less (by omega)
  · exact (HCF.out.set (b := w.heap.size) (by omega) 0 _).but (fun k hk => .inl (by omega))

end Go.Proofs.YtjcomoinggiedaaGreat

namespace Go.Proofs.YtjcomoinggiedaaGreat
open Go.RowKit
set_option linter.unusedVariables false
set_option maxRecDepth 100000

def addS (x : Sw) : Ax := ⟨1, x.i, x.t, x.g, 0, 0, 0, 0, 0, 0, 0, false, 0, 0, 0, 0, 0, false, 0, 0, 0, 0, 0, 0, 0, 0, 0, ⟨#[]⟩⟩
def addP (x : Pr) : Ax := ⟨2, 0, 0, 0, x.i, x.s, x.m, x.p, x.c, 0, 0, false, 0, 0, 0, 0, 0, false, 0, 0, 0, 0, 0, 0, 0, 0, 0, ⟨#[]⟩⟩
def addA (x : Ac) : Ax := ⟨3, 0, 0, 0, 0, 0, 0, 0, 0, x.s, x.p, x.n, x.src, x.sb, x.dst, x.db, x.o, x.d, 0, 0, 0, 0, 0, 0, 0, 0, 0, ⟨#[]⟩⟩
def wantL (S : List Sw) (P : List Pr) (A : List Ac) : List Ax := S.map addS ++ P.map addP ++ A.map addA
theorem infoAct2 : (Tryz.prog.info? 54).map (fun i => (i.zero, i.size, i.bytes)) = some (some (.agg #[.int .i64 0, .int .i64 0, .int .i64 0, .int .i64 0, .int .i64 0, .int .i64 0, .int .i64 0, .int .i64 0, .int .i64 0, .int .i64 0, .int .i64 0, .bool false, .int .i64 0, .int .i64 0, .int .i64 0, .int .i64 0, .int .i64 0, .bool false, .int .i64 0, .int .i64 0, .int .i64 0, .int .i64 0, .int .i64 0, .int .i64 0, .int .i64 0, .int .i64 0, .int .i64 0, .string ByteArray.empty]), 28, 232) := by kernel_rfl
theorem ax_len (x : Ax) : (axC x).length = 28 := rfl
theorem want_next {α : Type} (f : α → Ax) (d : α) (L0 : List Ax) {l : List α} {k : Nat} (h : k < l.length) : (L0 ++ (l.take (k + 1)).map f).flatMap axC = (L0 ++ (l.take k).map f).flatMap axC ++ axC (f (l.getD k d)) := by
  rw [take_next d h, List.map_append, ← List.append_assoc, List.flatMap_append]
  simp
theorem want_len {α : Type} (f : α → Ax) (L0 : List Ax) {l : List α} {k : Nat} (h : k ≤ l.length) : (L0 ++ (l.take k).map f).length = L0.length + k := by
  rw [List.length_append, List.length_map, List.length_take]; omega
theorem sizeSwitch : (Tryz.prog.info? 42).map (·.size) = some 3 := by kernel_rfl
theorem sizePort : (Tryz.prog.info? 45).map (·.size) = some 5 := by kernel_rfl
theorem sizeAcl : (Tryz.prog.info? 52).map (·.size) = some 9 := by kernel_rfl

set_option maxHeartbeats 4000000 in
theorem wanted_any (s1 p1 a1 : Option Addr) (s2 p2 a2 : Nat) (S : List Sw) (P : List Pr) (A : List Ac) (w : World) (hC : CfAt w (.slice s1 S.length s2) (.slice p1 P.length p2) (.slice a1 A.length a2) S P A) (h1 : S.length ≤ 1000) (h2 : P.length ≤ 1000) (h3 : A.length ≤ 1000) :
    Calls Tryz.prog 16 #[.agg #[.slice s1 S.length s2, .slice p1 P.length p2, .slice a1 A.length a2]] w fun e w' => ∃ u, e = .returned u ∧ w'.ownsRow w.heap.size 54 28 u (wantL S P A).length ((wantL S P A).flatMap axC) ∧ Below w.heap.size w w' := by
  obtain ⟨i0, hi, hz0, hz1, hz2⟩ := info_parts infoAct2
  have HC := hide hC
  clear hC
  obtain ⟨W0, hW0⟩ : ∃ W0, W0 = w.alloc (.cells #[.slice s1 S.length s2, .slice p1 P.length p2, .slice a1 A.length a2] 29) := ⟨_, rfl⟩
  have kb : Below w.heap.size w W0 := by rw [hW0]; exact (Below.refl _ w).alloc (Nat.le_refl _) _
  have HB : Hid (Box W0 w.heap.size [.slice s1 S.length s2, .slice p1 P.length p2, .slice a1 A.length a2]) := by rw [hW0]; exact hide (Box.new w [.slice s1 S.length s2, .slice p1 P.length p2, .slice a1 A.length a2] 29)
  replace HC := hide (HC.out.below kb (Nat.le_refl _))
  have HW0 := hide hW0.symm
  have cx := HB.out.cell 0 _ rfl
  clear hW0
  go_enter Tryz.func16, Tryz.ntmps16
  go_wp2_with (rw [HW0.out])
  clear HW0 cx
  have s0 : w.heap.size ≤ W0.heap.size := kb.size
  have HWL : Hid (wantL S P A = S.map addS ++ P.map addP ++ A.map addA) := rfl
  go_loopw [3, 13] (fun u i wr => ∃ k : Nat, k ≤ S.length ∧ i = .int .i64 k ∧ Hid (wr.ownsRow W0.heap.size 54 28 u (([] : List Ax).length + k) ((([] : List Ax) ++ (S.take k).map addS).flatMap axC)) ∧ Below W0.heap.size W0 wr) (fun _ i _ => S.length - (intOf i).toNat)
  case atStart => exact ⟨0, by omega, rfl, hide (by simpa using World.ownsRow_nil W0 W0.heap.size 54 28), Below.refl _ _⟩
  case round =>
    obtain ⟨k, hk, rfl, HO, hbr⟩ := hrel
    have sr : W0.heap.size ≤ wr.heap.size := hbr.size
    by_cases hlt : k < S.length
    · obtain ⟨b, off, cap, e1, hcap, hR⟩ := row_range sw0 (RowAt.below HC.out.1 hbr (Nat.le_refl _)) hlt
      simp only [Value.slice.injEq, true_and] at e1
      obtain ⟨rfl, rfl⟩ := e1
      have R0 := hide hR
      clear hR
      have HN := hide (want_next addS sw0 (([] : List Ax)) hlt)
      have HXC : Hid (swC (S.getD k sw0) = [.int .i64 (S.getD k sw0).i, .int .i64 (S.getD k sw0).t, .int .i64 (S.getD k sw0).g]) := rfl
      rw [HXC.out] at R0
      have HAX : Hid (axC (addS (S.getD k sw0)) = [.int .i64 1, .int .i64 (S.getD k sw0).i, .int .i64 (S.getD k sw0).t, .int .i64 (S.getD k sw0).g, .int .i64 0, .int .i64 0, .int .i64 0, .int .i64 0, .int .i64 0, .int .i64 0, .int .i64 0, .bool false, .int .i64 0, .int .i64 0, .int .i64 0, .int .i64 0, .int .i64 0, .bool false, .int .i64 0, .int .i64 0, .int .i64 0, .int .i64 0, .int .i64 0, .int .i64 0, .int .i64 0, .int .i64 0, .int .i64 0, .string ⟨#[]⟩]) := rfl
      rw [HAX.out] at HN
      clear HXC HAX
      generalize (S.getD k sw0).i = xa0 at *
      generalize (S.getD k sw0).t = xa1 at *
      generalize (S.getD k sw0).g = xa2 at *
      have q0 : (0 : Int) ≤ (k : Int) := by omega
      have q1 : (k : Int) < (S.length : Int) := by omega
      obtain ⟨o1, o2, rfl⟩ := own_slc HO.out
      obtain ⟨N, hN⟩ : ∃ N, N = ([] : List Ax).length + k := ⟨_, rfl⟩
      rw [← hN] at HO ⊢
      have hNl : N ≤ 3000 := by rw [hN]; simp <;> omega
      have HNN := hide hN
      clear hN
      obtain ⟨xl, hxl⟩ : ∃ xl, xl = (([] : List Ax) ++ (S.take k).map addS).flatMap axC := ⟨_, rfl⟩
      rw [← hxl] at HO
      have HXL := hide hxl
      clear hxl
      obtain ⟨W1, hW1⟩ : ∃ W1, W1 = wr.alloc (.cells #[.int .i64 xa0, .int .i64 xa1, .int .i64 xa2] 42) := ⟨_, rfl⟩
      have hBX : Box W1 wr.heap.size [.int .i64 xa0, .int .i64 xa1, .int .i64 xa2] := by rw [hW1]; exact Box.new wr [.int .i64 xa0, .int .i64 xa1, .int .i64 xa2] 42
      have hb1 : Below wr.heap.size wr W1 := by rw [hW1]; exact (Below.refl _ _).alloc (Nat.le_refl _) _
      obtain ⟨W2, hW2⟩ : ∃ W2, W2 = W1.alloc (.cells #[.int .i64 1, .int .i64 xa0, .int .i64 xa1, .int .i64 xa2, .int .i64 0, .int .i64 0, .int .i64 0, .int .i64 0, .int .i64 0, .int .i64 0, .int .i64 0, .bool false, .int .i64 0, .int .i64 0, .int .i64 0, .int .i64 0, .int .i64 0, .bool false, .int .i64 0, .int .i64 0, .int .i64 0, .int .i64 0, .int .i64 0, .int .i64 0, .int .i64 0, .int .i64 0, .int .i64 0, .string ⟨#[]⟩] 54) := ⟨_, rfl⟩
      have hb2 : Below W1.heap.size W1 W2 := by rw [hW2]; exact (Below.refl _ _).alloc (Nat.le_refl _) _
      have HN2 : Hid (W2.rangeAt W1.heap.size 0 [.int .i64 1, .int .i64 xa0, .int .i64 xa1, .int .i64 xa2, .int .i64 0, .int .i64 0, .int .i64 0, .int .i64 0, .int .i64 0, .int .i64 0, .int .i64 0, .bool false, .int .i64 0, .int .i64 0, .int .i64 0, .int .i64 0, .int .i64 0, .bool false, .int .i64 0, .int .i64 0, .int .i64 0, .int .i64 0, .int .i64 0, .int .i64 0, .int .i64 0, .int .i64 0, .int .i64 0, .string ⟨#[]⟩]) := by rw [hW2]; exact hide (range_new W1 [.int .i64 1, .int .i64 xa0, .int .i64 xa1, .int .i64 xa2, .int .i64 0, .int .i64 0, .int .i64 0, .int .i64 0, .int .i64 0, .int .i64 0, .int .i64 0, .bool false, .int .i64 0, .int .i64 0, .int .i64 0, .int .i64 0, .int .i64 0, .bool false, .int .i64 0, .int .i64 0, .int .i64 0, .int .i64 0, .int .i64 0, .int .i64 0, .int .i64 0, .int .i64 0, .int .i64 0, .string ⟨#[]⟩] 54)
      have hb12 := hb1.trans (hb2.mono hb1.size)
      replace HO := hide (own_below HO.out hb12)
      have s2 : W0.heap.size ≤ W2.heap.size := Nat.le_trans sr hb12.size
      have HBX := hide hBX
      have HW1 := hide hW1.symm
      have HW2 := hide hW2.symm
      have hbw := hbr.trans (hb12.mono sr)
      clear hW1 hW2 hb1 hb2 hb12 hBX
      go_wp2_with (first | rw [HW2.out] | rw [HW1.out] | (refine wpList_load_mid rfl 42 (.tmp 15) rfl b (off + k * 3) rfl _ _ R0.out Tryz.underlying42 rfl sizeSwitch ?_) | (refine wpList_load_mid rfl 42 (.tmp 5) rfl wr.heap.size 0 rfl _ _ HBX.out.range Tryz.underlying42 rfl sizeSwitch ?_) | (at_builtin; refine wpList_append_own _ rfl _ _ 49 rfl W0.heap.size 54 i0 _ 28 232 Tryz.underlying49 hi hz0 hz1 hz2 rfl (by decide) _ _ _ rfl (unhide HO) ⟨W1.heap.size, 0, none⟩ 1 1 [.int .i64 1, .int .i64 xa0, .int .i64 xa1, .int .i64 xa2, .int .i64 0, .int .i64 0, .int .i64 0, .int .i64 0, .int .i64 0, .int .i64 0, .int .i64 0, .bool false, .int .i64 0, .int .i64 0, .int .i64 0, .int .i64 0, .int .i64 0, .bool false, .int .i64 0, .int .i64 0, .int .i64 0, .int .i64 0, .int .i64 0, .int .i64 0, .int .i64 0, .int .i64 0, .int .i64 0, .string ⟨#[]⟩] rfl rfl (fun j u hj => by rw [addf]; have := HN2.out j u hj; rwa [Nat.zero_add] at this) (all_one rfl) ?ca1 ?ca2 s2 ?ca3))
      case ca1 => unfold maxLen; omega
      case ca2 => omega
      intro v3 w3 ho3 hg3 _
      have hb3 : Below W0.heap.size W0 w3 := hbw.grown hg3 s2 (own_ge HO.out)
      have HE : Hid (w3.ownsRow W0.heap.size 54 28 v3 (([] : List Ax).length + (k + 1)) ((([] : List Ax) ++ (S.take (k + 1)).map addS).flatMap axC)) := by
        refine hide ?_
        rw [HN.out, ← Nat.add_assoc, ← HNN.out, ← HXL.out]
        exact ho3
      clear ho3 hg3 HO HN HN2 HW1 HW2 HBX R0 hbr
      go_wp2_with fail
      go_roundw
      case rel => exact ⟨k + 1, by omega, by go_num, HE, hb3⟩
      case measure => simp [intOf]; omega
    · have hke : k = S.length := by omega
      subst hke
      rw [List.take_length] at HO
      obtain ⟨o1, o2, rfl⟩ := own_slc HO.out
      have hkk : ¬ ((S.length : Int) < (S.length : Int)) := by omega
      have cx := cell_beh (HB.out.cell 1 _ rfl) hbr (Nat.le_refl _)
      go_wp2_with fail
      clear cx
      rename World => wp
      go_loopw [3, 26] (fun u i wr => ∃ k : Nat, k ≤ P.length ∧ i = .int .i64 k ∧ Hid (wr.ownsRow W0.heap.size 54 28 u ((S.map addS).length + k) (((S.map addS) ++ (P.take k).map addP).flatMap axC)) ∧ Below W0.heap.size W0 wr) (fun _ i _ => P.length - (intOf i).toNat)
      case atStart => exact ⟨0, by omega, rfl, hide (by simpa using HO.out), hbr⟩
      case round =>
        obtain ⟨k, hk, rfl, HO, hbr⟩ := hrel
        have sr : W0.heap.size ≤ wr.heap.size := hbr.size
        by_cases hlt : k < P.length
        · obtain ⟨b, off, cap, e1, hcap, hR⟩ := row_range pr0 (RowAt.below HC.out.2.1 hbr (Nat.le_refl _)) hlt
          simp only [Value.slice.injEq, true_and] at e1
          obtain ⟨rfl, rfl⟩ := e1
          have R0 := hide hR
          clear hR
          have HN := hide (want_next addP pr0 ((S.map addS)) hlt)
          have HXC : Hid (prC (P.getD k pr0) = [.int .i64 (P.getD k pr0).i, .int .i64 (P.getD k pr0).s, .int .i64 (P.getD k pr0).m, .int .i64 (P.getD k pr0).p, .int .i64 (P.getD k pr0).c]) := rfl
          rw [HXC.out] at R0
          have HAX : Hid (axC (addP (P.getD k pr0)) = [.int .i64 2, .int .i64 0, .int .i64 0, .int .i64 0, .int .i64 (P.getD k pr0).i, .int .i64 (P.getD k pr0).s, .int .i64 (P.getD k pr0).m, .int .i64 (P.getD k pr0).p, .int .i64 (P.getD k pr0).c, .int .i64 0, .int .i64 0, .bool false, .int .i64 0, .int .i64 0, .int .i64 0, .int .i64 0, .int .i64 0, .bool false, .int .i64 0, .int .i64 0, .int .i64 0, .int .i64 0, .int .i64 0, .int .i64 0, .int .i64 0, .int .i64 0, .int .i64 0, .string ⟨#[]⟩]) := rfl
          rw [HAX.out] at HN
          clear HXC HAX
          generalize (P.getD k pr0).i = xb0 at *
          generalize (P.getD k pr0).s = xb1 at *
          generalize (P.getD k pr0).m = xb2 at *
          generalize (P.getD k pr0).p = xb3 at *
          generalize (P.getD k pr0).c = xb4 at *
          have q0 : (0 : Int) ≤ (k : Int) := by omega
          have q1 : (k : Int) < (P.length : Int) := by omega
          obtain ⟨o1, o2, rfl⟩ := own_slc HO.out
          obtain ⟨N, hN⟩ : ∃ N, N = (S.map addS).length + k := ⟨_, rfl⟩
          rw [← hN] at HO ⊢
          have hNl : N ≤ 3000 := by rw [hN]; simp <;> omega
          have HNN := hide hN
          clear hN
          obtain ⟨xl, hxl⟩ : ∃ xl, xl = ((S.map addS) ++ (P.take k).map addP).flatMap axC := ⟨_, rfl⟩
          rw [← hxl] at HO
          have HXL := hide hxl
          clear hxl
          obtain ⟨W1, hW1⟩ : ∃ W1, W1 = wr.alloc (.cells #[.int .i64 xb0, .int .i64 xb1, .int .i64 xb2, .int .i64 xb3, .int .i64 xb4] 45) := ⟨_, rfl⟩
          have hBX : Box W1 wr.heap.size [.int .i64 xb0, .int .i64 xb1, .int .i64 xb2, .int .i64 xb3, .int .i64 xb4] := by rw [hW1]; exact Box.new wr [.int .i64 xb0, .int .i64 xb1, .int .i64 xb2, .int .i64 xb3, .int .i64 xb4] 45
          have hb1 : Below wr.heap.size wr W1 := by rw [hW1]; exact (Below.refl _ _).alloc (Nat.le_refl _) _
          obtain ⟨W2, hW2⟩ : ∃ W2, W2 = W1.alloc (.cells #[.int .i64 2, .int .i64 0, .int .i64 0, .int .i64 0, .int .i64 xb0, .int .i64 xb1, .int .i64 xb2, .int .i64 xb3, .int .i64 xb4, .int .i64 0, .int .i64 0, .bool false, .int .i64 0, .int .i64 0, .int .i64 0, .int .i64 0, .int .i64 0, .bool false, .int .i64 0, .int .i64 0, .int .i64 0, .int .i64 0, .int .i64 0, .int .i64 0, .int .i64 0, .int .i64 0, .int .i64 0, .string ⟨#[]⟩] 54) := ⟨_, rfl⟩
          have hb2 : Below W1.heap.size W1 W2 := by rw [hW2]; exact (Below.refl _ _).alloc (Nat.le_refl _) _
          have HN2 : Hid (W2.rangeAt W1.heap.size 0 [.int .i64 2, .int .i64 0, .int .i64 0, .int .i64 0, .int .i64 xb0, .int .i64 xb1, .int .i64 xb2, .int .i64 xb3, .int .i64 xb4, .int .i64 0, .int .i64 0, .bool false, .int .i64 0, .int .i64 0, .int .i64 0, .int .i64 0, .int .i64 0, .bool false, .int .i64 0, .int .i64 0, .int .i64 0, .int .i64 0, .int .i64 0, .int .i64 0, .int .i64 0, .int .i64 0, .int .i64 0, .string ⟨#[]⟩]) := by rw [hW2]; exact hide (range_new W1 [.int .i64 2, .int .i64 0, .int .i64 0, .int .i64 0, .int .i64 xb0, .int .i64 xb1, .int .i64 xb2, .int .i64 xb3, .int .i64 xb4, .int .i64 0, .int .i64 0, .bool false, .int .i64 0, .int .i64 0, .int .i64 0, .int .i64 0, .int .i64 0, .bool false, .int .i64 0, .int .i64 0, .int .i64 0, .int .i64 0, .int .i64 0, .int .i64 0, .int .i64 0, .int .i64 0, .int .i64 0, .string ⟨#[]⟩] 54)
          have hb12 := hb1.trans (hb2.mono hb1.size)
          replace HO := hide (own_below HO.out hb12)
          have s2 : W0.heap.size ≤ W2.heap.size := Nat.le_trans sr hb12.size
          have HBX := hide hBX
          have HW1 := hide hW1.symm
          have HW2 := hide hW2.symm
          have hbw := hbr.trans (hb12.mono sr)
          clear hW1 hW2 hb1 hb2 hb12 hBX
          go_wp2_with (first | rw [HW2.out] | rw [HW1.out] | (refine wpList_load_mid rfl 45 (.tmp 28) rfl b (off + k * 5) rfl _ _ R0.out Tryz.underlying45 rfl sizePort ?_) | (refine wpList_load_mid rfl 45 (.tmp 7) rfl wr.heap.size 0 rfl _ _ HBX.out.range Tryz.underlying45 rfl sizePort ?_) | (at_builtin; refine wpList_append_own _ rfl _ _ 49 rfl W0.heap.size 54 i0 _ 28 232 Tryz.underlying49 hi hz0 hz1 hz2 rfl (by decide) _ _ _ rfl (unhide HO) ⟨W1.heap.size, 0, none⟩ 1 1 [.int .i64 2, .int .i64 0, .int .i64 0, .int .i64 0, .int .i64 xb0, .int .i64 xb1, .int .i64 xb2, .int .i64 xb3, .int .i64 xb4, .int .i64 0, .int .i64 0, .bool false, .int .i64 0, .int .i64 0, .int .i64 0, .int .i64 0, .int .i64 0, .bool false, .int .i64 0, .int .i64 0, .int .i64 0, .int .i64 0, .int .i64 0, .int .i64 0, .int .i64 0, .int .i64 0, .int .i64 0, .string ⟨#[]⟩] rfl rfl (fun j u hj => by rw [addf]; have := HN2.out j u hj; rwa [Nat.zero_add] at this) (all_one rfl) ?cb1 ?cb2 s2 ?cb3))
          case cb1 => unfold maxLen; omega
          case cb2 => omega
          intro v3 w3 ho3 hg3 _
          have hb3 : Below W0.heap.size W0 w3 := hbw.grown hg3 s2 (own_ge HO.out)
          have HE : Hid (w3.ownsRow W0.heap.size 54 28 v3 ((S.map addS).length + (k + 1)) (((S.map addS) ++ (P.take (k + 1)).map addP).flatMap axC)) := by
            refine hide ?_
            rw [HN.out, ← Nat.add_assoc, ← HNN.out, ← HXL.out]
            exact ho3
          clear ho3 hg3 HO HN HN2 HW1 HW2 HBX R0 hbr
          go_wp2_with fail
          go_roundw
          case rel => exact ⟨k + 1, by omega, by go_num, HE, hb3⟩
          case measure => simp [intOf]; omega
        · have hke : k = P.length := by omega
          subst hke
          rw [List.take_length] at HO
          obtain ⟨o1, o2, rfl⟩ := own_slc HO.out
          have hkk : ¬ ((P.length : Int) < (P.length : Int)) := by omega
          have cx := cell_beh (HB.out.cell 2 _ rfl) hbr (Nat.le_refl _)
          go_wp2_with fail
          clear cx
          rename World => wq
          go_loopw [3, 39] (fun u i wr => ∃ k : Nat, k ≤ A.length ∧ i = .int .i64 k ∧ Hid (wr.ownsRow W0.heap.size 54 28 u ((S.map addS ++ P.map addP).length + k) (((S.map addS ++ P.map addP) ++ (A.take k).map addA).flatMap axC)) ∧ Below W0.heap.size W0 wr) (fun _ i _ => A.length - (intOf i).toNat)
          case atStart => exact ⟨0, by omega, rfl, hide (by simpa using HO.out), hbr⟩
          case round =>
            obtain ⟨k, hk, rfl, HO, hbr⟩ := hrel
            have sr : W0.heap.size ≤ wr.heap.size := hbr.size
            by_cases hlt : k < A.length
            · obtain ⟨b, off, cap, e1, hcap, hR⟩ := row_range ac0 (RowAt.below HC.out.2.2 hbr (Nat.le_refl _)) hlt
              simp only [Value.slice.injEq, true_and] at e1
              obtain ⟨rfl, rfl⟩ := e1
              have R0 := hide hR
              clear hR
              have HN := hide (want_next addA ac0 ((S.map addS ++ P.map addP)) hlt)
              have HXC : Hid (acC (A.getD k ac0) = [.int .i64 (A.getD k ac0).s, .int .i64 (A.getD k ac0).p, .bool (A.getD k ac0).n, .int .i64 (A.getD k ac0).src, .int .i64 (A.getD k ac0).sb, .int .i64 (A.getD k ac0).dst, .int .i64 (A.getD k ac0).db, .int .i64 (A.getD k ac0).o, .bool (A.getD k ac0).d]) := rfl
              rw [HXC.out] at R0
              have HAX : Hid (axC (addA (A.getD k ac0)) = [.int .i64 3, .int .i64 0, .int .i64 0, .int .i64 0, .int .i64 0, .int .i64 0, .int .i64 0, .int .i64 0, .int .i64 0, .int .i64 (A.getD k ac0).s, .int .i64 (A.getD k ac0).p, .bool (A.getD k ac0).n, .int .i64 (A.getD k ac0).src, .int .i64 (A.getD k ac0).sb, .int .i64 (A.getD k ac0).dst, .int .i64 (A.getD k ac0).db, .int .i64 (A.getD k ac0).o, .bool (A.getD k ac0).d, .int .i64 0, .int .i64 0, .int .i64 0, .int .i64 0, .int .i64 0, .int .i64 0, .int .i64 0, .int .i64 0, .int .i64 0, .string ⟨#[]⟩]) := rfl
              rw [HAX.out] at HN
              clear HXC HAX
              generalize (A.getD k ac0).s = xc0 at *
              generalize (A.getD k ac0).p = xc1 at *
              generalize (A.getD k ac0).n = xc2 at *
              generalize (A.getD k ac0).src = xc3 at *
              generalize (A.getD k ac0).sb = xc4 at *
              generalize (A.getD k ac0).dst = xc5 at *
              generalize (A.getD k ac0).db = xc6 at *
              generalize (A.getD k ac0).o = xc7 at *
              generalize (A.getD k ac0).d = xc8 at *
              have q0 : (0 : Int) ≤ (k : Int) := by omega
              have q1 : (k : Int) < (A.length : Int) := by omega
              obtain ⟨o1, o2, rfl⟩ := own_slc HO.out
              obtain ⟨N, hN⟩ : ∃ N, N = (S.map addS ++ P.map addP).length + k := ⟨_, rfl⟩
              rw [← hN] at HO ⊢
              have hNl : N ≤ 3000 := by rw [hN]; simp <;> omega
              have HNN := hide hN
              clear hN
              obtain ⟨xl, hxl⟩ : ∃ xl, xl = ((S.map addS ++ P.map addP) ++ (A.take k).map addA).flatMap axC := ⟨_, rfl⟩
              rw [← hxl] at HO
              have HXL := hide hxl
              clear hxl
              obtain ⟨W1, hW1⟩ : ∃ W1, W1 = wr.alloc (.cells #[.int .i64 xc0, .int .i64 xc1, .bool xc2, .int .i64 xc3, .int .i64 xc4, .int .i64 xc5, .int .i64 xc6, .int .i64 xc7, .bool xc8] 52) := ⟨_, rfl⟩
              have hBX : Box W1 wr.heap.size [.int .i64 xc0, .int .i64 xc1, .bool xc2, .int .i64 xc3, .int .i64 xc4, .int .i64 xc5, .int .i64 xc6, .int .i64 xc7, .bool xc8] := by rw [hW1]; exact Box.new wr [.int .i64 xc0, .int .i64 xc1, .bool xc2, .int .i64 xc3, .int .i64 xc4, .int .i64 xc5, .int .i64 xc6, .int .i64 xc7, .bool xc8] 52
              have hb1 : Below wr.heap.size wr W1 := by rw [hW1]; exact (Below.refl _ _).alloc (Nat.le_refl _) _
              obtain ⟨W2, hW2⟩ : ∃ W2, W2 = W1.alloc (.cells #[.int .i64 3, .int .i64 0, .int .i64 0, .int .i64 0, .int .i64 0, .int .i64 0, .int .i64 0, .int .i64 0, .int .i64 0, .int .i64 xc0, .int .i64 xc1, .bool xc2, .int .i64 xc3, .int .i64 xc4, .int .i64 xc5, .int .i64 xc6, .int .i64 xc7, .bool xc8, .int .i64 0, .int .i64 0, .int .i64 0, .int .i64 0, .int .i64 0, .int .i64 0, .int .i64 0, .int .i64 0, .int .i64 0, .string ⟨#[]⟩] 54) := ⟨_, rfl⟩
              have hb2 : Below W1.heap.size W1 W2 := by rw [hW2]; exact (Below.refl _ _).alloc (Nat.le_refl _) _
              have HN2 : Hid (W2.rangeAt W1.heap.size 0 [.int .i64 3, .int .i64 0, .int .i64 0, .int .i64 0, .int .i64 0, .int .i64 0, .int .i64 0, .int .i64 0, .int .i64 0, .int .i64 xc0, .int .i64 xc1, .bool xc2, .int .i64 xc3, .int .i64 xc4, .int .i64 xc5, .int .i64 xc6, .int .i64 xc7, .bool xc8, .int .i64 0, .int .i64 0, .int .i64 0, .int .i64 0, .int .i64 0, .int .i64 0, .int .i64 0, .int .i64 0, .int .i64 0, .string ⟨#[]⟩]) := by rw [hW2]; exact hide (range_new W1 [.int .i64 3, .int .i64 0, .int .i64 0, .int .i64 0, .int .i64 0, .int .i64 0, .int .i64 0, .int .i64 0, .int .i64 0, .int .i64 xc0, .int .i64 xc1, .bool xc2, .int .i64 xc3, .int .i64 xc4, .int .i64 xc5, .int .i64 xc6, .int .i64 xc7, .bool xc8, .int .i64 0, .int .i64 0, .int .i64 0, .int .i64 0, .int .i64 0, .int .i64 0, .int .i64 0, .int .i64 0, .int .i64 0, .string ⟨#[]⟩] 54)
              have hb12 := hb1.trans (hb2.mono hb1.size)
              replace HO := hide (own_below HO.out hb12)
              have s2 : W0.heap.size ≤ W2.heap.size := Nat.le_trans sr hb12.size
              have HBX := hide hBX
              have HW1 := hide hW1.symm
              have HW2 := hide hW2.symm
              have hbw := hbr.trans (hb12.mono sr)
              clear hW1 hW2 hb1 hb2 hb12 hBX
              go_wp2_with (first | rw [HW2.out] | rw [HW1.out] | (refine wpList_load_mid rfl 52 (.tmp 41) rfl b (off + k * 9) rfl _ _ R0.out Tryz.underlying52 rfl sizeAcl ?_) | (refine wpList_load_mid rfl 52 (.tmp 9) rfl wr.heap.size 0 rfl _ _ HBX.out.range Tryz.underlying52 rfl sizeAcl ?_) | (at_builtin; refine wpList_append_own _ rfl _ _ 49 rfl W0.heap.size 54 i0 _ 28 232 Tryz.underlying49 hi hz0 hz1 hz2 rfl (by decide) _ _ _ rfl (unhide HO) ⟨W1.heap.size, 0, none⟩ 1 1 [.int .i64 3, .int .i64 0, .int .i64 0, .int .i64 0, .int .i64 0, .int .i64 0, .int .i64 0, .int .i64 0, .int .i64 0, .int .i64 xc0, .int .i64 xc1, .bool xc2, .int .i64 xc3, .int .i64 xc4, .int .i64 xc5, .int .i64 xc6, .int .i64 xc7, .bool xc8, .int .i64 0, .int .i64 0, .int .i64 0, .int .i64 0, .int .i64 0, .int .i64 0, .int .i64 0, .int .i64 0, .int .i64 0, .string ⟨#[]⟩] rfl rfl (fun j u hj => by rw [addf]; have := HN2.out j u hj; rwa [Nat.zero_add] at this) (all_one rfl) ?cc1 ?cc2 s2 ?cc3))
              case cc1 => unfold maxLen; omega
              case cc2 => omega
              intro v3 w3 ho3 hg3 _
              have hb3 : Below W0.heap.size W0 w3 := hbw.grown hg3 s2 (own_ge HO.out)
              have HE : Hid (w3.ownsRow W0.heap.size 54 28 v3 ((S.map addS ++ P.map addP).length + (k + 1)) (((S.map addS ++ P.map addP) ++ (A.take (k + 1)).map addA).flatMap axC)) := by
                refine hide ?_
                rw [HN.out, ← Nat.add_assoc, ← HNN.out, ← HXL.out]
                exact ho3
              clear ho3 hg3 HO HN HN2 HW1 HW2 HBX R0 hbr
              go_wp2_with fail
              go_roundw
              case rel => exact ⟨k + 1, by omega, by go_num, HE, hb3⟩
              case measure => simp [intOf]; omega
            · have hke : k = A.length := by omega
              subst hke
              rw [List.take_length] at HO
              obtain ⟨o1, o2, rfl⟩ := own_slc HO.out
              have hkk : ¬ ((A.length : Int) < (A.length : Int)) := by omega
              have HLAST : Hid (wr.ownsRow W0.heap.size 54 28 (.slice o1 (S.length + P.length + A.length) o2) (S.map addS ++ P.map addP ++ A.map addA).length ((S.map addS ++ P.map addP ++ A.map addA).flatMap axC)) := by have := HO.out; simp only [List.length_append, List.length_map] at this ⊢; exact hide this
              go_wp2_with fail
              go_ret
              exact ⟨_, rfl, by rw [HWL.out]; exact own_less HLAST.out s0, kb.trans (hbr.mono s0)⟩

end Go.Proofs.YtjcomoinggiedaaGreat

namespace Go.Proofs.YtjcomoinggiedaaGreat
open Go.RowKit

/-- The rules that are left of the first k, but the n-th. -/
def cutA (n : Int) (A : List Ac) (k : Nat) : List Ac := if 0 ≤ n ∧ n < k then (A.take k).eraseIdx n.toNat else A.take k
theorem cutA_zero (n : Int) (A : List Ac) : cutA n A 0 = [] := by
  unfold cutA
  split <;> simp
theorem cutA_skip {n : Int} {A : List Ac} {k : Nat} (hk : k < A.length) (h : (k : Int) = n) : cutA n A (k + 1) = cutA n A k := by
  unfold cutA
  rw [if_pos (by omega), if_neg (by omega)]
  have e : n.toNat = k := by omega
  rw [e, List.take_succ_eq_append_getElem hk, List.eraseIdx_append_of_length_le (by simp; omega)]
  have e2 : k - (A.take k).length = 0 := by simp; omega
  rw [e2]
  simp
theorem cutA_step {n : Int} {A : List Ac} {k : Nat} (hk : k < A.length) (h : ¬ (k : Int) = n) : cutA n A (k + 1) = cutA n A k ++ [A.getD k ac0] := by
  unfold cutA
  have hg : A.getD k ac0 = A[k] := by simp [List.getD, List.getElem?_eq_getElem hk]
  rw [hg, List.take_succ_eq_append_getElem hk]
  by_cases h1 : 0 ≤ n ∧ n < k
  · rw [if_pos (by omega), if_pos h1, List.eraseIdx_append_of_lt_length (by simp; omega)]
  · rw [if_neg (by omega), if_neg h1]
theorem cutA_len (n : Int) (A : List Ac) (k : Nat) : (cutA n A k).length ≤ k := by
  unfold cutA
  split
  · exact Nat.le_trans (List.length_eraseIdx_le _ _) (by simp; omega)
  · simp; omega
theorem cutA_in {n : Int} {A : List Ac} (h : inB n 0 (A.length - 1) = true) : cutA n A A.length = A.eraseIdx n.toNat ∧ (cutA n A A.length).length ≠ A.length := by
  have h' : 0 ≤ n ∧ n ≤ A.length - 1 := by simpa [inB] using h
  unfold cutA
  rw [if_pos (by omega), List.take_length]
  refine ⟨rfl, ?_⟩
  rw [List.length_eraseIdx_of_lt (by omega)]
  omega
theorem cutA_out {n : Int} {A : List Ac} (h : inB n 0 (A.length - 1) = false) : (cutA n A A.length).length = A.length := by
  have h' : ¬ (0 ≤ n ∧ n ≤ A.length - 1) := by simpa [inB] using h
  unfold cutA
  rw [if_neg (by omega), List.take_length]

/-- A port bound to m, where it is the one. -/
def bnd (n m : Int) (y : Pr) : Pr := if y.i == n then ⟨y.i, y.s, y.m, y.p, m⟩ else y
theorem filter_all {P : List Pr} {n : Int} (h : ∀ y ∈ P, ¬ y.i = n) : P.filter (fun y => !(y.i == n)) = P := by
  rw [List.filter_eq_self]
  intro y hy
  simpa using h y hy
theorem bnd_all {P : List Pr} {n m : Int} (h : ∀ y ∈ P, ¬ y.i = n) : P.map (bnd n m) = P := by
  have : ∀ y ∈ P, bnd n m y = id y := fun y hy => by
    unfold bnd
    rw [if_neg (by simpa using h y hy)]
    rfl
  rw [List.map_congr_left this, List.map_id]
theorem one_at : ∀ (P : List Pr) (n m : Int), P.Pairwise (fun a b => a.i ≠ b.i) → P.any (fun y => y.i == n) = true →
    ∃ k, P.findIdx? (fun y => y.i == n) = some k ∧ k < P.length ∧ P.filter (fun y => !(y.i == n)) = P.eraseIdx k ∧ P.map (bnd n m) = P.set k ⟨(P.getD k pr0).i, (P.getD k pr0).s, (P.getD k pr0).m, (P.getD k pr0).p, m⟩
  | [], n, m, _, h => by simp at h
  | y :: r, n, m, hp, h => by
    obtain ⟨h1, h2⟩ := List.pairwise_cons.1 hp
    by_cases hy : y.i = n
    · have hn : ∀ z ∈ r, ¬ z.i = n := fun z hz e => h1 z hz (hy.trans e.symm)
      refine ⟨0, by simp [List.findIdx?_cons, hy], by simp, ?_, ?_⟩
      · rw [List.filter_cons, if_neg (by simpa using hy), filter_all hn]
        rfl
      · rw [List.map_cons, bnd_all hn]
        simp [bnd, hy]
    · have hr : r.any (fun z => z.i == n) = true := by simpa [hy] using h
      obtain ⟨k, e1, e2, e3, e4⟩ := one_at r n m h2 hr
      refine ⟨k + 1, by simp [List.findIdx?_cons, hy, e1], by simp; omega, ?_, ?_⟩
      · rw [List.filter_cons, if_pos (by simpa using hy), e3]
        rfl
      · rw [List.map_cons, e4]
        simp [bnd, hy]
theorem pat_in (P : List Pr) (n : Int) : inB (pat P n) 0 (P.length - 1) = P.any (fun y => y.i == n) := by
  have h1 := idx_any (fun y : Pr => y.i == n) P
  have h2 := idx_bd (fun y : Pr => y.i == n) P
  rw [← h1]
  unfold inB pat
  by_cases h : 0 ≤ idx (fun y : Pr => y.i == n) P
  · simp only [h, true_and, decide_true, decide_eq_true_eq]
    omega
  · simp [h]
theorem pat_some {P : List Pr} {n : Int} {k : Nat} (h : P.findIdx? (fun y => y.i == n) = some k) : (pat P n).toNat = k := by
  unfold pat idx
  rw [h]
  rfl
theorem drop_port {S : List Sw} {P : List Pr} {n : Int} (h : prsMay S P = true) (ha : P.any (fun y => y.i == n) = true) : P.filter (fun y => !(y.i == n)) = P.eraseIdx (pat P n).toNat := by
  obtain ⟨k, e1, _, e3, _⟩ := one_at P n 0 (prs_pair h) ha
  rw [pat_some e1, e3]
theorem bind_port {S : List Sw} {P : List Pr} {n m : Int} (h : prsMay S P = true) (ha : P.any (fun y => y.i == n) = true) :
    P.map (bnd n m) = P.set (pat P n).toNat ⟨(P.getD (pat P n).toNat pr0).i, (P.getD (pat P n).toNat pr0).s, (P.getD (pat P n).toNat pr0).m, (P.getD (pat P n).toNat pr0).p, m⟩ := by
  obtain ⟨k, e1, _, _, e4⟩ := one_at P n m (prs_pair h) ha
  rw [pat_some e1, e4]
theorem filter_step {P : List Pr} {k : Nat} (hk : k < P.length) (q : Pr → Bool) : (P.take (k + 1)).filter q = (P.take k).filter q ++ (if q (P.getD k pr0) = true then [P.getD k pr0] else []) := by
  have hg : P.getD k pr0 = P[k] := by simp [List.getD, List.getElem?_eq_getElem hk]
  rw [hg, List.take_succ_eq_append_getElem hk, List.filter_append]
  congr 1
  by_cases h : q P[k] = true
  · simp [h]
  · simp [h]
theorem map_step {P : List Pr} {k : Nat} (hk : k < P.length) (f : Pr → Pr) : (P.take (k + 1)).map f = (P.take k).map f ++ [f (P.getD k pr0)] := by
  have hg : P.getD k pr0 = P[k] := by simp [List.getD, List.getElem?_eq_getElem hk]
  rw [hg, List.take_succ_eq_append_getElem hk, List.map_append]
  rfl

end Go.Proofs.YtjcomoinggiedaaGreat

namespace Go.Proofs.YtjcomoinggiedaaGreat
open Go.RowKit
set_option linter.unusedVariables false
set_option maxRecDepth 100000

theorem prefix_cut {α : Type} {L0 R0 L R : List α} {x : α} (h : L0 ++ R0 = L ++ x :: R) : (∃ L1, L = L0 ++ L1 ∧ R0 = L1 ++ x :: R) ∨ ∃ L1, L0 = L ++ x :: L1 ∧ R = L1 ++ R0 := by
  rw [List.append_eq_append_iff] at h
  rcases h with ⟨a, h1, h2⟩ | ⟨a, h1, h2⟩
  · exact .inl ⟨a, h1, h2⟩
  · cases a with
    | nil => simp at h1 h2; exact .inl ⟨[], by simp [h1], by simp [h2]⟩
    | cons b c =>
      simp at h2
      obtain ⟨rfl, h2⟩ := h2
      exact .inr ⟨c, h1, h2⟩

/-- The same but for its chassis. -/
def Like (y z : Pr) : Prop := y.i = z.i ∧ y.s = z.s ∧ y.m = z.m ∧ y.p = z.p
theorem Like.refl (y : Pr) : Like y y := ⟨rfl, rfl, rfl, rfl⟩
theorem pr_mono {S : List Sw} {P P' : List Pr} {x x' : Pr} (h : prFault S P x = 0) (hx : Like x' x) (hb : prInB x' = true) (hp : ∀ y ∈ P', ∃ z ∈ P, Like y z) (hl : P'.length ≤ P.length) : prFault S P' x' = 0 := by
  rw [pr_iff] at h ⊢
  obtain ⟨h1, h2, h3, h4, h5⟩ := h
  obtain ⟨e1, e2, e3, e4⟩ := hx
  rw [e1, e2, e3, e4]
  refine ⟨hb, h2, ?_, ?_, by omega⟩
  · rw [List.any_eq_false] at h3 ⊢
    intro y hy
    obtain ⟨z, hz, f1, f2, f3, f4⟩ := hp y hy
    rw [f1, f2, f3]
    exact h3 z hz
  · unfold takenB at h4 ⊢
    rw [Bool.or_eq_false_iff] at h4 ⊢
    refine ⟨h4.1, ?_⟩
    have h6 := h4.2
    rw [List.any_eq_false] at h6 ⊢
    intro y hy
    obtain ⟨z, hz, f1, f2, f3, f4⟩ := hp y hy
    rw [f2, f4]
    exact h6 z hz
theorem prs_drop {S : List Sw} {P : List Pr} (h : prsMay S P = true) (k : Nat) : prsMay S (P.eraseIdx k) = true := by
  rcases Nat.lt_or_ge k P.length with hk | hk
  · have e : P = P.take k ++ P[k] :: P.drop (k + 1) := by
      conv => lhs; rw [← List.take_append_drop k P]
      rw [List.drop_eq_getElem_cons hk]
    rw [List.eraseIdx_eq_take_drop_succ]
    rw [prs_form] at h ⊢
    intro L x R hq
    rcases prefix_cut hq with ⟨L1, rfl, h2⟩ | ⟨L1, h1, rfl⟩
    · have h3 := h (P.take k ++ P[k] :: L1) x R (by rw [List.append_assoc, List.cons_append, ← h2]; exact e)
      refine pr_mono h3 (Like.refl x) ((pr_iff _ _ _).1 h3).1 (fun y hy => ⟨y, ?_, Like.refl y⟩) (by simp)
      simp only [List.mem_append, List.mem_cons] at hy ⊢
      rcases hy with hy | hy
      · exact .inl hy
      · exact .inr (.inr hy)
    · exact h L x (L1 ++ P[k] :: P.drop (k + 1)) (by rw [← List.cons_append, ← List.append_assoc, ← h1]; exact e)
  · rw [List.eraseIdx_of_length_le hk]
    exact h
theorem prs_bind {S : List Sw} {P : List Pr} (h : prsMay S P = true) (k : Nat) {m : Int} (hm : inB m (-1) 5 = true) : prsMay S (P.set k ⟨(P.getD k pr0).i, (P.getD k pr0).s, (P.getD k pr0).m, (P.getD k pr0).p, m⟩) = true := by
  rcases Nat.lt_or_ge k P.length with hk | hk
  · have hg : P.getD k pr0 = P[k] := by simp [List.getD, List.getElem?_eq_getElem hk]
    rw [hg]
    obtain ⟨z, hz⟩ : ∃ z : Pr, z = ⟨P[k].i, P[k].s, P[k].m, P[k].p, m⟩ := ⟨_, rfl⟩
    rw [← hz]
    have hzb : Like z P[k] := by rw [hz]; exact ⟨rfl, rfl, rfl, rfl⟩
    have hzi : prInB z = true := by
      have := (prs_mem h (List.getElem_mem hk)).1
      rw [hz]
      unfold prInB at this ⊢
      simp only [Bool.and_eq_true] at this ⊢
      exact ⟨this.1, hm⟩
    clear hz
    have e : P = P.take k ++ P[k] :: P.drop (k + 1) := by
      conv => lhs; rw [← List.take_append_drop k P]
      rw [List.drop_eq_getElem_cons hk]
    have e2 : P.set k z = P.take k ++ z :: P.drop (k + 1) := by
      rw [List.set_eq_take_append_cons_drop, if_pos hk]
    rw [e2]
    rw [prs_form] at h ⊢
    intro L x R hq
    rcases prefix_cut hq with ⟨L1, rfl, h2⟩ | ⟨L1, h1, rfl⟩
    · cases L1 with
      | nil =>
        simp at h2
        obtain ⟨rfl, rfl⟩ := h2
        have h3 := h (P.take k) P[k] _ e
        rw [List.append_nil]
        exact pr_mono h3 hzb hzi (fun y hy => ⟨y, hy, Like.refl y⟩) (Nat.le_refl _)
      | cons b c =>
        simp at h2
        obtain ⟨rfl, h2⟩ := h2
        have h3 := h (P.take k ++ P[k] :: c) x R (by rw [List.append_assoc, List.cons_append, ← h2]; exact e)
        refine pr_mono h3 (Like.refl x) ((pr_iff _ _ _).1 h3).1 (fun y hy => ?_) (by simp)
        simp only [List.mem_append, List.mem_cons] at hy
        rcases hy with hy | rfl | hy
        · exact ⟨y, by simp [hy], Like.refl y⟩
        · exact ⟨P[k], by simp, hzb⟩
        · exact ⟨y, by simp [hy], Like.refl y⟩
    · exact h L x (L1 ++ P[k] :: P.drop (k + 1)) (by rw [← List.cons_append, ← List.append_assoc, ← h1]; exact e)
  · rw [List.set_eq_of_length_le hk]
    exact h
theorem prs_add {S : List Sw} {P : List Pr} {x : Pr} (h : prsMay S P = true) (hx : prFault S P x = 0) : prsMay S (P ++ [x]) = true := by
  rw [prs_form] at h ⊢
  intro L y R hq
  rcases prefix_snoc hq with ⟨rfl, rfl⟩ | ⟨R', e⟩
  · exact hx
  · exact h L y R' e

theorem idx_snoc {S : List Sw} {s : Sw} {id : Int} (h : 0 ≤ idx (fun x => x.i == id) S) : idx (fun x => x.i == id) (S ++ [s]) = idx (fun x => x.i == id) S := by
  unfold idx at h ⊢
  rw [List.findIdx?_append]
  cases hq : S.findIdx? (fun x => x.i == id) with
  | none => rw [hq] at h; simp at h
  | some k => rfl
theorem tn_snoc {S : List Sw} {s : Sw} {id : Int} (h : 0 ≤ idx (fun x => x.i == id) S) : tn (S ++ [s]) id = tn S id := by
  unfold tn
  rw [idx_snoc h]
  have := (idx_bd (fun x : Sw => x.i == id) S).2
  simp only [List.getD]
  rw [List.getElem?_append_left (by omega)]
theorem tn_is {S : List Sw} {id : Int} (h : 0 ≤ idx (fun x => x.i == id) S) : S.any (fun s => s.i == id && s.t == tn S id) = true := by
  unfold tn
  unfold idx at h ⊢
  cases hq : S.findIdx? (fun x => x.i == id) with
  | none => rw [hq] at h; simp at h
  | some k =>
    obtain ⟨hk, hp, _⟩ := List.findIdx?_eq_some_iff_getElem.1 hq
    refine List.any_eq_true.2 ⟨S[k], List.getElem_mem hk, ?_⟩
    simp only [Int.toNat_natCast, List.getD, List.getElem?_eq_getElem hk, Option.getD_some, beq_self_eq_true, Bool.and_true]
    exact hp
theorem pr_more {S : List Sw} {P L : List Pr} {s : Sw} {x : Pr} (hs : swFault S P s = 0) (hP : prsMay S P = true) (hL : ∀ y ∈ L, y ∈ P) (hx : x ∈ P) (h : prFault S L x = 0) : prFault (S ++ [s]) L x = 0 := by
  rw [pr_iff] at h ⊢
  obtain ⟨h1, h2, h3, h4, h5⟩ := h
  rw [tn_snoc h2, idx_snoc h2]
  refine ⟨h1, h2, h3, ?_, h5⟩
  obtain ⟨⟨_, _, s1⟩, ⟨s2, s3⟩, _⟩ := swFault_nil hs
  have hip : 1 ≤ x.p := by
    unfold prInB at h1
    simp only [Bool.and_eq_true, inB, decide_eq_true_eq] at h1
    omega
  unfold takenB at h4 ⊢
  rw [Bool.or_eq_false_iff] at h4 ⊢
  obtain ⟨h6, h7⟩ := h4
  constructor
  · rw [List.any_append, h6, Bool.false_or]
    simp only [List.any_cons, List.any_nil, Bool.or_false]
    refine Bool.not_eq_true _ |>.mp fun hc => ?_
    simp only [Bool.and_eq_true, beq_iff_eq] at hc
    have hg : (s.g != 0) = true := by simp; omega
    rw [hg, Bool.true_and] at s3
    unfold takenB at s3
    rw [Bool.or_eq_false_iff] at s3
    have s4 := s3.2
    rw [List.any_eq_false] at s4
    refine s4 x hx ?_
    rw [hc.2, hc.1]
    simp only [beq_self_eq_true, Bool.true_and]
    exact tn_is h2
  · rw [List.any_eq_false] at h7 ⊢
    intro y hy hc
    refine h7 y hy ?_
    simp only [Bool.and_eq_true] at hc ⊢
    refine ⟨hc.1, ?_⟩
    have hc2 := hc.2
    rw [List.any_append, Bool.or_eq_true] at hc2
    rcases hc2 with hc2 | hc2
    · exact hc2
    · simp only [List.any_cons, List.any_nil, Bool.or_false, Bool.and_eq_true, beq_iff_eq] at hc2
      have hy2 := (prs_mem hP (hL y hy)).2
      have ha : S.any (fun q => q.i == y.s) = true := by rw [← idx_any]; simpa using hy2
      rw [← hc2.1, s2] at ha
      simp at ha
theorem prs_more {S : List Sw} {P : List Pr} {s : Sw} (hs : swFault S P s = 0) (h : prsMay S P = true) : prsMay (S ++ [s]) P = true := by
  have h' := (prs_form S P).1 h
  rw [prs_form]
  rintro L x R rfl
  exact pr_more hs h (fun y hy => by simp [hy]) (by simp) (h' L x R rfl)

theorem ac_mono {S S' : List Sw} {A A' : List Ac} {x : Ac} (h : acFault S A x = 0) (hs : ∀ y ∈ S, y ∈ S') (hl : A'.length ≤ A.length) : acFault S' A' x = 0 := by
  rw [ac_iff] at h ⊢
  refine ⟨h.1, h.2.1, ?_, by omega⟩
  have h3 := h.2.2.1
  rw [List.any_eq_true] at h3 ⊢
  obtain ⟨y, hy, e⟩ := h3
  exact ⟨y, hs y hy, e⟩
theorem acs_drop {S : List Sw} {A : List Ac} (h : acsMay S A = true) (k : Nat) : acsMay S (A.eraseIdx k) = true := by
  rcases Nat.lt_or_ge k A.length with hk | hk
  · have e : A = A.take k ++ A[k] :: A.drop (k + 1) := by
      conv => lhs; rw [← List.take_append_drop k A]
      rw [List.drop_eq_getElem_cons hk]
    rw [List.eraseIdx_eq_take_drop_succ]
    rw [acs_form] at h ⊢
    intro L x R hq
    rcases prefix_cut hq with ⟨L1, rfl, h2⟩ | ⟨L1, h1, rfl⟩
    · have h3 := h (A.take k ++ A[k] :: L1) x R (by rw [List.append_assoc, List.cons_append, ← h2]; exact e)
      exact ac_mono h3 (fun y hy => hy) (by simp)
    · exact h L x (L1 ++ A[k] :: A.drop (k + 1)) (by rw [← List.cons_append, ← List.append_assoc, ← h1]; exact e)
  · rw [List.eraseIdx_of_length_le hk]
    exact h
theorem acs_add {S : List Sw} {A : List Ac} {x : Ac} (h : acsMay S A = true) (hx : acFault S A x = 0) : acsMay S (A ++ [x]) = true := by
  rw [acs_form] at h ⊢
  intro L y R hq
  rcases prefix_snoc hq with ⟨rfl, rfl⟩ | ⟨R', e⟩
  · exact hx
  · exact h L y R' e
theorem acs_more {S : List Sw} {A : List Ac} {s : Sw} (h : acsMay S A = true) : acsMay (S ++ [s]) A = true := by
  rw [acs_form] at h ⊢
  intro L x R hq
  exact ac_mono (h L x R hq) (fun y hy => by simp [hy]) (Nat.le_refl _)
theorem sw_less {S : List Sw} {P : List Pr} {s : Sw} (h : swFault S P s = 0) : swFault S [] s = 0 := by
  obtain ⟨⟨a, b, c⟩, ⟨d, e⟩, f⟩ := swFault_nil h
  unfold swFault
  rw [a, b, c, d]
  have e' : (s.g != 0 && takenB S [] s.t s.g) = false := by
    cases hg : (s.g != 0) with
    | false => rfl
    | true =>
      rw [hg, Bool.true_and] at e
      unfold takenB at e ⊢
      rw [Bool.or_eq_false_iff] at e
      simp [e.1]
  rw [e']
  simp
  omega
theorem sws_add {S : List Sw} {P : List Pr} {s : Sw} (h : swsMay S = true) (hs : swFault S P s = 0) : swsMay (S ++ [s]) = true := by
  rw [sws_form] at h ⊢
  intro L y R hq
  rcases prefix_snoc hq with ⟨rfl, rfl⟩ | ⟨R', e⟩
  · exact sw_less hs
  · exact h L y R' e

/-- WHATEVER IS CHANGED, what is wanted stays what may be. -/
theorem may_next {S : List Sw} {P : List Pr} {A : List Ac} {a : Ax} (h : may S P A = true) (ha : actFault S P A a = 0) : may (nxS S a) (nxP P a) (nxA A a) = true := by
  obtain ⟨h1, h2, h3⟩ := may_parts h
  have go : ∀ {S' : List Sw} {P' : List Pr} {A' : List Ac}, swsMay S' = true → prsMay S' P' = true → acsMay S' A' = true → may S' P' A' = true := fun a b c => by unfold may; rw [a, b, c]; rfl
  unfold actFault at ha
  unfold nxS nxP nxA
  by_cases k1 : a.k = 1
  · rw [if_pos k1] at ha
    simp only [k1, if_pos]
    exact go (sws_add h1 ha) (prs_more ha h2) (acs_more h3)
  · rw [if_neg k1] at ha
    rw [if_neg k1]
    by_cases k2 : a.k = 2
    · rw [if_pos k2] at ha
      rw [if_pos k2, if_neg (by omega), if_neg (by omega)]
      exact go h1 (prs_add h2 ha) h3
    · rw [if_neg k2] at ha
      rw [if_neg k2]
      by_cases k3 : a.k = 3
      · rw [if_pos k3] at ha
        rw [if_neg (by omega), if_neg (by omega), if_pos k3]
        exact go h1 h2 (acs_add h3 ha)
      · rw [if_neg k3] at ha
        rw [if_neg k3]
        by_cases k4 : a.k = 4
        · rw [if_pos k4, if_neg (by omega)]
          exact go h1 (prs_drop h2 _) h3
        · rw [if_neg k4] at ha
          rw [if_neg k4]
          by_cases k6 : a.k = 6
          · rw [if_pos k6] at ha
            rw [if_pos k6, if_neg (by omega)]
            by_cases hb : inB a.m (-1) 5 = true
            · exact go h1 (prs_bind h2 _ hb) h3
            · rw [if_neg hb] at ha
              split at ha <;> omega
          · rw [if_neg k6]
            by_cases k5 : a.k = 5
            · rw [if_pos k5]
              exact go h1 h2 (acs_drop h3 _)
            · rw [if_neg k5]
              exact h

end Go.Proofs.YtjcomoinggiedaaGreat

namespace Go.Proofs.YtjcomoinggiedaaGreat
open Go.RowKit
set_option linter.unusedVariables false
set_option maxRecDepth 100000

/-- What is wanted of what the keepers change: it may be, switches have small numbers, and the first one is there. -/
def Fine (S : List Sw) (P : List Pr) (A : List Ac) : Prop := may S P A = true ∧ (∀ s ∈ S, s.i ≤ 6) ∧ S.any (fun s => s.i == 1) = true
theorem may_of {S : List Sw} {P : List Pr} {A : List Ac} {a : Ax} (h : appE S P A a = 0) : may S P A = true ∧ actFault S P A a = 0 := by
  unfold appE at h
  cases hm : may S P A with
  | true => rw [hm] at h; exact ⟨rfl, by simpa using h⟩
  | false => rw [hm] at h; simp at h
theorem fine_next {S : List Sw} {P : List Pr} {A : List Ac} {a : Ax} (h : Fine S P A) (ha : appE S P A a = 0) (hs : a.si ≤ 6) : Fine (apS S P A a) (apP S P A a) (apA S P A a) := by
  obtain ⟨h1, h2, h3⟩ := h
  unfold apS apP apA
  rw [if_pos ha, if_pos ha, if_pos ha]
  refine ⟨may_next h1 (may_of ha).2, ?_, ?_⟩
  · unfold nxS
    split
    · intro s hs'
      rcases List.mem_append.1 hs' with hs' | hs'
      · exact h2 s hs'
      · obtain rfl : s = a.s := by simpa using hs'
        exact hs
    · exact h2
  · unfold nxS
    split
    · rw [List.any_append, h3]; rfl
    · exact h3
theorem may_after {S : List Sw} {P : List Pr} {A : List Ac} {a : Ax} (h : may S P A = true) (ha : appE S P A a = 0) : may (apS S P A a) (apP S P A a) (apA S P A a) = true := by
  unfold apS apP apA
  rw [if_pos ha, if_pos ha, if_pos ha]
  exact may_next h (may_of ha).2
theorem app_kind {S : List Sw} {P : List Pr} {A : List Ac} {a : Ax} (h : may S P A = true) (ha : a.k = 7) : appE S P A a = 3 := by
  unfold appE
  rw [if_pos h]
  unfold actFault
  rw [ha]
  simp
theorem ap_none {S : List Sw} {P : List Pr} {A : List Ac} {a : Ax} (h : appE S P A a ≠ 0) : apS S P A a = [] ∧ apP S P A a = [] ∧ apA S P A a = [] := by
  unfold apS apP apA
  rw [if_neg h, if_neg h, if_neg h]
  exact ⟨rfl, rfl, rfl⟩
theorem ap_some {S : List Sw} {P : List Pr} {A : List Ac} {a : Ax} (h : appE S P A a = 0) : apS S P A a = nxS S a ∧ apP S P A a = nxP P a ∧ apA S P A a = nxA A a := by
  unfold apS apP apA
  rw [if_pos h, if_pos h, if_pos h]
  exact ⟨rfl, rfl, rfl⟩

theorem pr_seven {S : List Sw} {P : List Pr} {x : Pr} (hb : prInB x = true) (hs : 0 ≤ idx (fun s => s.i == x.s) S) (ha : P.any (fun y => y.i == x.i || y.s == x.s && y.m == x.m) = true ∨ takenB S P (tn S x.s) x.p = true) : prFault S P x = 7 := by
  unfold prFault
  rw [if_neg (by simp [hb]), if_neg (by omega)]
  by_cases h : P.any (fun y => y.i == x.i || y.s == x.s && y.m == x.m) = true
  · rw [if_pos h]
  · have h2 := ha.resolve_left h
    unfold tn at h2
    rw [if_neg h, if_pos h2]
/-- A port that is there: it does not come again, nor does its address or its number. -/
theorem port_twice {S : List Sw} {P : List Pr} {A : List Ac} {p : Pr} (h : may S P A = true) (hp : p ∈ P) (id m : Int) (hid : id = p.i ∨ 900 ≤ id ∧ id ≤ 949) (hm : m = p.m ∨ m = 5000) : prFault S P ⟨id, p.s, m, p.p, p.c⟩ = 7 := by
  obtain ⟨h1, h2, h3⟩ := may_parts h
  obtain ⟨q1, q2⟩ := prs_mem h2 hp
  refine pr_seven ?_ q2 (.inr ?_)
  · unfold prInB inB at q1 ⊢
    simp only [Bool.and_eq_true, decide_eq_true_eq] at q1 ⊢
    omega
  · unfold takenB
    rw [Bool.or_eq_true]
    right
    rw [List.any_eq_true]
    refine ⟨p, hp, ?_⟩
    simp only [beq_self_eq_true, Bool.true_and]
    exact tn_is q2
theorem app_port {S : List Sw} {P : List Pr} {A : List Ac} {a : Ax} (h : may S P A = true) (hk : a.k = 2) : appE S P A a = prFault S P a.p := by
  unfold appE
  rw [if_pos h]
  unfold actFault
  rw [hk]
  simp
theorem app_switch {S : List Sw} {P : List Pr} {A : List Ac} {a : Ax} (h : may S P A = true) (hk : a.k = 1) : appE S P A a = swFault S P a.s := by
  unfold appE
  rw [if_pos h]
  unfold actFault
  rw [hk]
  simp
theorem switch_twice {S : List Sw} {P : List Pr} {A : List Ac} {a : Ax} (h : Fine S P A) (hk : a.k = 1) (hs : a.s = ⟨1, 9, 0⟩) : appE S P A a = 7 := by
  rw [app_switch h.1 hk, hs]
  unfold swFault
  have := h.2.2
  simp [inB, this]
theorem port_nowhere {S : List Sw} {P : List Pr} {A : List Ac} {a : Ax} (h : Fine S P A) (hk : a.k = 2) (hs : a.p = ⟨999, 400, 1, 1, 0⟩) : appE S P A a = 6 := by
  rw [app_port h.1 hk, hs]
  unfold prFault
  have hn : idx (fun s : Sw => s.i == 400) S < 0 := by
    have h1 := idx_any (fun s : Sw => s.i == 400) S
    have h2 : S.any (fun s => s.i == 400) = false := by
      rw [List.any_eq_false]
      intro s hs' e
      have := h.2.1 s hs'
      have e' : s.i = 400 := by simpa using e
      omega
    rw [h2] at h1
    have : ¬ (0 ≤ idx (fun s : Sw => s.i == 400) S) := by simpa using h1
    omega
  rw [if_neg (by decide), if_pos hn]

theorem pat_self {S : List Sw} {P : List Pr} (h : prsMay S P = true) {k : Nat} (hk : k < P.length) : pat P (P.getD k pr0).i = k := by
  have hg : P.getD k pr0 = P[k] := by simp [List.getD, List.getElem?_eq_getElem hk]
  rw [hg]
  obtain ⟨j, e1, hj, _, _⟩ := one_at P P[k].i 0 (prs_pair h) (List.any_eq_true.2 ⟨P[k], List.getElem_mem hk, by simp⟩)
  have e2 : pat P P[k].i = j := by unfold pat idx; rw [e1]
  rw [e2]
  have e3 := (List.findIdx?_eq_some_iff_getElem.1 e1).2.1
  have e4 : P[j].i = P[k].i := by simpa using e3
  rcases Nat.lt_trichotomy j k with h' | h' | h'
  · exact absurd e4 (prs_lt h hk h')
  · rw [h']
  · exact absurd e4.symm (prs_lt h hj h')
theorem pat_gone {S : List Sw} {P : List Pr} (h : prsMay S P = true) {k : Nat} (hk : k < P.length) : (P.eraseIdx k).any (fun y => y.i == (P.getD k pr0).i) = false := by
  have hg : P.getD k pr0 = P[k] := by simp [List.getD, List.getElem?_eq_getElem hk]
  have ha : P.any (fun y => y.i == (P.getD k pr0).i) = true := List.any_eq_true.2 ⟨P[k], List.getElem_mem hk, by rw [hg]; simp⟩
  have := drop_port h ha
  rw [pat_self h hk] at this
  have e : ((k : Int)).toNat = k := by omega
  rw [e] at this
  rw [← this, List.any_eq_false]
  intro y hy
  simpa using (List.mem_filter.1 hy).2
theorem drop_there {S : List Sw} {P : List Pr} {A : List Ac} {a : Ax} (h : may S P A = true) {k : Nat} (hk : k < P.length) (ha : a.k = 4) (hn : a.n = (P.getD k pr0).i) : appE S P A a = 0 ∧ apS S P A a = S ∧ apP S P A a = P.eraseIdx k ∧ apA S P A a = A := by
  have e : pat P a.n = k := by rw [hn]; exact pat_self (may_parts h).2.1 hk
  have e0 : appE S P A a = 0 := by
    unfold appE
    rw [if_pos h]
    unfold actFault
    rw [ha, e]
    simp [inB]
    omega
  obtain ⟨q1, q2, q3⟩ := ap_some e0
  rw [q1, q2, q3]
  unfold nxS nxP nxA
  rw [ha, e]
  simp [e0]
theorem bind_there {S : List Sw} {P : List Pr} {A : List Ac} {a : Ax} (h : may S P A = true) {k : Nat} (hk : k < P.length) (ha : a.k = 6) (hn : a.n = (P.getD k pr0).i) (hm : -1 ≤ a.m ∧ a.m ≤ 5) :
    appE S P A a = 0 ∧ apS S P A a = S ∧ apP S P A a = P.set k ⟨(P.getD k pr0).i, (P.getD k pr0).s, (P.getD k pr0).m, (P.getD k pr0).p, a.m⟩ ∧ apA S P A a = A := by
  have e : pat P a.n = k := by rw [hn]; exact pat_self (may_parts h).2.1 hk
  have e0 : appE S P A a = 0 := by
    unfold appE
    rw [if_pos h]
    unfold actFault
    rw [ha, e]
    simp [inB]
    omega
  obtain ⟨q1, q2, q3⟩ := ap_some e0
  rw [q1, q2, q3]
  unfold nxS nxP nxA
  rw [ha, e]
  simp [e0]
theorem bind_gone {S : List Sw} {P : List Pr} {A : List Ac} {a : Ax} (h : may S P A = true) {k : Nat} (hk : k < P.length) (ha : a.k = 6) (hn : a.n = (P.getD k pr0).i) : appE S (P.eraseIdx k) A a = 6 := by
  obtain ⟨h1, h2, h3⟩ := may_parts h
  have hm : may S (P.eraseIdx k) A = true := by
    unfold may
    rw [h1, prs_drop h2 k, h3]
    rfl
  unfold appE
  rw [if_pos hm]
  unfold actFault
  rw [pat_in, hn, pat_gone h2 hk, ha]
  simp

end Go.Proofs.YtjcomoinggiedaaGreat

namespace Go.Proofs.YtjcomoinggiedaaGreat
open Go.RowKit
set_option linter.unusedVariables false
set_option maxRecDepth 100000

theorem last_form {α : Type} {l : List α} (h : l ≠ []) : l = l.dropLast ++ l.getLast h :: [] := (List.dropLast_concat_getLast h).symm
theorem sw_zero {S : List Sw} {P : List Pr} {x : Sw} (h : swFault S P x = 0) : (1 ≤ x.i ∧ x.i ≤ 500) ∧ (1 ≤ x.t ∧ x.t ≤ 9) ∧ (0 ≤ x.g ∧ x.g ≤ 65535) ∧ S.any (fun y => y.i == x.i) = false ∧ S.length < 12 := by
  unfold swFault at h
  split at h
  · omega
  · rename_i h1
    split at h
    · omega
    · rename_i h2
      split at h
      · omega
      · rename_i h3
        simp [inB] at h1 h2
        refine ⟨by omega, by omega, by omega, ?_, by omega⟩
        rw [List.any_eq_false]
        intro y hy
        simpa using h2.1 y hy
theorem sw_all {S : List Sw} (h : swsMay S = true) : S.length ≤ 12 ∧ ∀ x ∈ S, (1 ≤ x.i ∧ x.i ≤ 500) ∧ (1 ≤ x.t ∧ x.t ≤ 9) ∧ (0 ≤ x.g ∧ x.g ≤ 65535) := by
  have hf := (sws_form S).1 h
  refine ⟨?_, fun x hx => ?_⟩
  · by_cases he : S = []
    · simp [he]
    · have := (sw_zero (hf _ _ _ (last_form he))).2.2.2.2
      rw [List.length_dropLast] at this; omega
  · obtain ⟨L, R, e⟩ := List.append_of_mem hx
    have := sw_zero (hf L x R e)
    exact ⟨this.1, this.2.1, this.2.2.1⟩
theorem pr_all {S : List Sw} {P : List Pr} (hs : swsMay S = true) (h : prsMay S P = true) : P.length ≤ 40 ∧ ∀ p ∈ P, (1 ≤ p.i ∧ p.i ≤ 999) ∧ (1 ≤ p.s ∧ p.s ≤ 500) ∧ (1 ≤ p.m ∧ p.m ≤ 59999) ∧ (1 ≤ p.p ∧ p.p ≤ 65535) ∧ -1 ≤ p.c ∧ p.c ≤ 5 := by
  have hf := (prs_form S P).1 h
  refine ⟨?_, fun x hx => ?_⟩
  · by_cases he : P = []
    · simp [he]
    · have := ((pr_iff _ _ _).1 (hf _ _ _ (last_form he))).2.2.2.2
      rw [List.length_dropLast] at this; omega
  · obtain ⟨L, R, e⟩ := List.append_of_mem hx
    have := (pr_iff _ _ _).1 (hf L x R e)
    have h1 := this.1
    have h2 : S.any (fun s => s.i == x.s) = true := by rw [← idx_any]; simpa using this.2.1
    rw [List.any_eq_true] at h2
    obtain ⟨s, hsS, hse⟩ := h2
    have h3 := (sw_all hs).2 s hsS
    simp at hse
    simp [prInB, inB] at h1
    refine ⟨by omega, by omega, by omega, by omega, by omega⟩
theorem ac_all {S : List Sw} {A : List Ac} (h : acsMay S A = true) : A.length ≤ 40 ∧ ∀ r ∈ A, acInB r = true ∧ (highB r.src r.sb && highB r.dst r.db) = true ∧ S.any (fun s => s.i == r.s) = true := by
  have hf := (acs_form S A).1 h
  refine ⟨?_, fun x hx => ?_⟩
  · by_cases he : A = []
    · simp [he]
    · have := ((ac_iff _ _ _).1 (hf _ _ _ (last_form he))).2.2.2
      rw [List.length_dropLast] at this; omega
  · obtain ⟨L, R, e⟩ := List.append_of_mem hx
    have := (ac_iff _ _ _).1 (hf L x R e)
    exact ⟨this.1, this.2.1, this.2.2.1⟩
theorem ac_bits {S : List Sw} {A : List Ac} (h : acsMay S A = true) : ∀ r ∈ A, (0 ≤ r.sb ∧ r.sb ≤ 16) ∧ 0 ≤ r.db ∧ r.db ≤ 16 := fun r hr => by
  have := ((ac_all h).2 r hr).1
  simp [acInB, inB] at this
  omega

end Go.Proofs.YtjcomoinggiedaaGreat

namespace Go.Proofs.YtjcomoinggiedaaGreat
open Go.RowKit
set_option linter.unusedVariables false
set_option maxRecDepth 100000

theorem ran_nil (F : List Int) : ran [] F = [] := rfl
theorem arrL_nil (P : List Pr) (id dst src kind ips ipd ttl port : Int) (n : Nat) : arrL (fun _ => []) P id dst src kind ips ipd ttl port n = [] := by
  unfold arrL
  split
  · rw [ran_nil]; rfl
  · rfl
/-- While nobody has learnt anything: what is wanted is little, nothing has come. -/
def Sil (k : Nat) (S : List Sw) (P : List Pr) (A : List Ac) (K : Nat → List Fl) (rs : List Rp) : Prop := may S P A = true ∧ K = (fun _ => []) ∧ ∀ r ∈ rs, r.l = []
theorem may_nil : may [] [] [] = true := by decide
theorem sil_send (x : Ax) (hb : x.body.size ≤ maxLen) (k : Nat) : SendOk Sil k x := fun S P A K rs ⟨h1, h2, h3⟩ => by
  subst h2
  refine ⟨hb, fun _ => by rw [arrL_nil]; exact sortsAr_tiny (by simp), fun l' hp _ => ⟨h1, rfl, fun r hr => ?_⟩⟩
  rcases List.mem_append.1 hr with hr | hr
  · exact h3 r hr
  · obtain rfl : r = _ := by simpa using hr
    rw [arrL_nil] at hp
    exact List.Perm.eq_nil hp
theorem may_c {S : List Sw} {P : List Pr} {A : List Ac} (h : may S P A = true) (x : Ax) : may (cS S P A x) (cP S P A x) (cA S P A x) = true := by
  unfold cS cP cA
  by_cases e : appE S P A x = 0
  · rw [if_pos e, if_pos e, if_pos e]; exact may_after h e
  · rw [if_neg e, if_neg e, if_neg e]; exact h
theorem sil_else (x : Ax) (k : Nat) : ElseOk Sil k x := fun S P A K rs ⟨h1, h2, h3⟩ => by
  refine ⟨may_c h1 x, h2, fun r hr => ?_⟩
  rcases List.mem_append.1 hr with hr | hr
  · exact h3 r hr
  · obtain rfl : r = _ := by simpa using hr
    rfl
theorem sil_small {k : Nat} {S : List Sw} {P : List Pr} {A : List Ac} {K : Nat → List Fl} {rs : List Rp} (h : Sil k S P A K rs) : (S.length ≤ 1000 ∧ P.length ≤ 1000 ∧ A.length ≤ 1000) ∧ ∀ p ∈ P, p.c = -1 ∨ 0 ≤ p.c ∧ p.c ≤ 5 := by
  obtain ⟨q1, q2, q3⟩ := may_len h.1
  refine ⟨⟨by omega, by omega, by omega⟩, fun p hp => ?_⟩
  have hm := h.1
  unfold may at hm
  rw [Bool.and_eq_true, Bool.and_eq_true] at hm
  have := ((pr_all hm.1.1 hm.1.2).2 p hp).2.2.2.2
  omega
theorem want_kind {S : List Sw} {P : List Pr} {A : List Ac} {x : Ax} (h : x ∈ wantL S P A) : x.k ≠ 7 ∧ x.k ≠ 8 := by
  unfold wantL at h
  rcases List.mem_append.1 h with h | h
  · rcases List.mem_append.1 h with h | h
    · obtain ⟨y, _, rfl⟩ := List.mem_map.1 h; exact ⟨by simp [addS], by simp [addS]⟩
    · obtain ⟨y, _, rfl⟩ := List.mem_map.1 h; exact ⟨by simp [addP], by simp [addP]⟩
  · obtain ⟨y, _, rfl⟩ := List.mem_map.1 h; exact ⟨by simp [addA], by simp [addA]⟩
theorem want_length (S : List Sw) (P : List Pr) (A : List Ac) : (wantL S P A).length = S.length + P.length + A.length := by simp [wantL]; omega
def sendX (id d s k a b t o : Int) (body : ByteArray) : Ax := ⟨8, 0, 0, 0, 0, 0, 0, 0, 0, 0, 0, false, 0, 0, 0, 0, 0, false, id, 0, d, s, k, a, b, t, o, body⟩
/-- A script that makes things wanted and sends one frame: nothing comes. -/
theorem silent_run {S : List Sw} {P : List Pr} {A : List Ac} (hm : may S P A = true) (id d s k a b t o : Int) (body : ByteArray) (hb : body.size ≤ maxLen) (lv : Value) (w : World) (hL : RowAt axC 28 w lv (wantL S P A ++ [sendX id d s k a b t o body])) :
    Calls Tryz.prog 31 #[lv] w (RunPost Sil (wantL S P A ++ [sendX id d s k a b t o body]).length w) := by
  obtain ⟨q1, q2, q3⟩ := may_len hm
  have hkind : ∀ i, i < (wantL S P A ++ [sendX id d s k a b t o body]).length → (wantL S P A ++ [sendX id d s k a b t o body]).getD i ax0 ∈ wantL S P A ∨ (wantL S P A ++ [sendX id d s k a b t o body]).getD i ax0 = sendX id d s k a b t o body := fun i hi => by
    have : (wantL S P A ++ [sendX id d s k a b t o body]).getD i ax0 ∈ wantL S P A ++ [sendX id d s k a b t o body] := by rw [List.getD_eq_getElem?_getD, List.getElem?_eq_getElem hi]; exact List.getElem_mem hi
    rcases List.mem_append.1 this with h | h
    · exact .inl h
    · exact .inr (by simpa using h)
  refine run_any _ lv w hL (by rw [List.length_append, want_length]; simp; omega) Sil ⟨may_nil, rfl, fun r hr => by cases hr⟩ (fun _ _ _ _ _ _ h => sil_small h) ?_ ?_ ?_
  · intro i hi h7
    rcases hkind i hi with h | h
    · exact absurd h7 (want_kind h).1
    · rw [h] at h7; exact absurd h7 (by simp [sendX])
  · intro i hi h8
    rcases hkind i hi with h | h
    · exact absurd h8 (want_kind h).2
    · rw [h]; exact sil_send _ hb i
  · intro i hi _ _
    exact sil_else _ i

/-- What came of the last act lies where the row of replies says. -/
theorem rr_at {w : World} {B : Nat} {u : Value} {rs : List Rp} (h : RR w B u rs) {i : Nat} (hi : i < rs.length) : ∃ g cap v, u = .slice (some ⟨g, 0, none⟩) rs.length cap ∧ rs.length ≤ cap ∧ (w.cell? ⟨g, i * 2, none⟩ = some (.int .i64 (rs.getD i ⟨0, [], ⟨#[]⟩⟩).c) ∧ w.cell? ⟨g, i * 2 + 1, none⟩ = some v) ∧ w.ownsRow B 61 9 v (rs.getD i ⟨0, [], ⟨#[]⟩⟩).l.length (AR (rs.getD i ⟨0, [], ⟨#[]⟩⟩).body (rs.getD i ⟨0, [], ⟨#[]⟩⟩).l) := by
  obtain ⟨lo, e, ho, hx⟩ := h
  have hlen : lo.length = rs.length := by rw [← e, List.length_map]
  have hi' : i < lo.length := by omega
  obtain ⟨oo, oc, rfl, hoc, hg⟩ := own_formA ho
  obtain ⟨g, rfl, hgB, hgw⟩ := hg (by omega)
  have R := own_range (C := rvC) (fun _ => rfl) ⟨⟨0, [], ⟨#[]⟩⟩, undef⟩ ho hi'
  have hmem : lo.getD i ⟨⟨0, [], ⟨#[]⟩⟩, undef⟩ ∈ lo := by rw [List.getD_eq_getElem?_getD, List.getElem?_eq_getElem hi']; exact List.getElem_mem hi'
  have hr : rs.getD i ⟨0, [], ⟨#[]⟩⟩ = (lo.getD i ⟨⟨0, [], ⟨#[]⟩⟩, undef⟩).r := by
    rw [← e, List.getD_eq_getElem?_getD, List.getElem?_map, List.getElem?_eq_getElem hi', List.getD_eq_getElem?_getD, List.getElem?_eq_getElem hi']
    rfl
  rw [hr]
  exact ⟨g, oc, _, by rw [hlen], by omega, ⟨R 0 _ rfl, R 1 _ rfl⟩, (hx _ hmem).1⟩

end Go.Proofs.YtjcomoinggiedaaGreat

namespace Go.Proofs.YtjcomoinggiedaaGreat
open Go.RowKit
set_option linter.unusedVariables false
set_option maxRecDepth 100000

theorem tdiv_in (a k : Int) (hk : 1 ≤ k) (h0 : -9223372036854775808 ≤ a) (h1 : a ≤ 9223372036854775807) : -9223372036854775808 ≤ a.tdiv k ∧ a.tdiv k ≤ 9223372036854775807 := by
  rcases Int.le_total 0 a with h | h
  · rw [Int.tdiv_eq_ediv_of_nonneg h]
    have := Int.ediv_le_self k h
    have := Int.ediv_nonneg h (by omega : (0 : Int) ≤ k)
    omega
  · have e : a.tdiv k = -((-a).tdiv k) := by rw [Int.neg_tdiv]; omega
    rw [e, Int.tdiv_eq_ediv_of_nonneg (by omega)]
    have := Int.ediv_le_self k (by omega : (0 : Int) ≤ -a)
    have := Int.ediv_nonneg (by omega : (0 : Int) ≤ -a) (by omega : (0 : Int) ≤ k)
    omega

theorem wrap_i64_in (n : Int) (h0 : -9223372036854775808 ≤ n) (h1 : n ≤ 9223372036854775807) : IntKind.i64.wrap n = n := by
  simp [IntKind.wrap, IntKind.bits, IntKind.signed]
  split <;> omega

end Go.Proofs.YtjcomoinggiedaaGreat

namespace Go.Proofs.YtjcomoinggiedaaGreat
open Go.ChangeShapes Go.WideShapes Go.ChangeAt Go.RowKit
set_option linter.unusedVariables false
set_option maxRecDepth 100000

/-- An address of which a row of cells is read is plain. -/
theorem plain_at {w : World} {base n : Nat} {a : Addr} {cs : List Value} (hn : 0 < n) (h : w.cells? base (a.add 0) n = some cs) : a.spot = none := by
  obtain ⟨_, hlen, hc⟩ := World.cells?_some h
  have h0 := hc 0 hn
  have e : (a.add 0).add 0 = a := by simp [Addr.add]
  rw [e] at h0
  have hs : ∃ c, cs[0]? = some c := ⟨cs[0], by simp [List.getElem?_eq_getElem (show 0 < cs.length by omega)]⟩
  obtain ⟨c, hs⟩ := hs
  rw [hs] at h0
  exact World.cell?_spot h0

section
variable {H : Type} {enc : TypeId × Value → H} {w : World} {base : Nat} {spare : Nat → Bool} {held : Bool}

theorem open_rows {α : Type} [Inhabited α] {C : α → List Value} {sz : Nat} {t e : TypeId} {fuel : Nat} {cs : List Value} {y : DataW H × List MemPlace} (ht : Tryz.prog.underlying t = some (.slice e)) (hc : Tryz.prog.cellsOf e = sz) (hs : 0 < sz)
    (hel : ∀ n cs' z, DataW.trod enc Tryz.prog w base spare held n e cs' = some z → ∃ x : α, cs' = C x) (h : DataW.trod enc Tryz.prog w base spare held fuel t cs = some y) :
    ∃ v l, cs = [v] ∧ RowAt C sz w v l ∧ (l.length = 0 ∨ ∃ elems sp, y.1 = .slice elems sp ∧ elems.length = l.length) := by
  rcases Deep.open_slice ht h with ⟨rfl, _⟩ | ⟨a, len, cap, m, n, D, Pl, rfl, _, hl, _, hm, hd, hx⟩
  · exact ⟨_, [], rfl, RowAt.nil _ _ _, .inl rfl⟩
  · have hlm : len ≤ m := by rw [hm]; split <;> omega
    rw [hc] at hx
    by_cases hz : len = 0
    · subst hz
      exact ⟨_, [], rfl, ⟨some a, cap, rfl, fun h => by simp at h, .inl rfl⟩, .inl rfl⟩
    · obtain ⟨b, off, spot⟩ := a
      obtain ⟨cs0, hcs0, _⟩ := hx 0 (by omega)
      rw [Nat.zero_mul] at hcs0
      have hsp : spot = none := plain_at (a := ⟨b, off, spot⟩) hs hcs0
      subst hsp
      obtain ⟨F, hF⟩ := Deep.choose_lt (α := α) (n := len) (p := fun i x => ∀ j u, (C x)[j]? = some u → w.cell? ⟨b, off + i * sz + j, none⟩ = some u) (fun i hi => by
        obtain ⟨cs', hcs', htr⟩ := hx i (by omega)
        obtain ⟨x, rfl⟩ := hel _ _ _ htr
        refine ⟨x, fun j u hu => ?_⟩
        obtain ⟨_, hlen, hcell⟩ := World.cells?_some hcs'
        have hj : j < sz := by
          rcases Nat.lt_or_ge j (C x).length with h | h
          · omega
          · simp [List.getElem?_eq_none h] at hu
        have := hcell j hj
        rw [add_fl, add_fl] at this
        rw [this]
        exact hu)
      have hll : ((List.range len).map F).length = len := by simp
      refine ⟨_, (List.range len).map F, rfl, ⟨some ⟨b, off, none⟩, cap, by rw [hll], fun h => by simp at h, .inr ⟨b, off, rfl, by rw [hll]; exact hl, fun i x hx => ?_⟩⟩, .inr ⟨_, _, by rw [hd], by simp⟩⟩
      have hi : i < len := by
        rcases Nat.lt_or_ge i len with h | h
        · exact h
        · simp [List.getElem?_eq_none (show ((List.range len).map F).length ≤ i by omega)] at hx
      have : x = F i := by
        rw [List.getElem?_map, List.getElem?_range hi] at hx
        simpa using hx.symm
      subst this
      exact hF i hi

instance : Inhabited Sw := ⟨sw0⟩
instance : Inhabited Pr := ⟨pr0⟩
instance : Inhabited Ac := ⟨ac0⟩
theorem bool_cell {n i : Nat} {c : Value} {xs : List (DataW H × List MemPlace)} (hi : i < xs.length)
    (h : DataW.trod enc Tryz.prog w base spare held n 4 [c] = xs[i]?) : ∃ k, c = .bool k := by
  rw [List.getElem?_eq_getElem hi] at h
  obtain ⟨k, hc, _⟩ := DataW.trod_bool Tryz.underlying4 h
  exact ⟨k, by simpa using hc⟩

theorem list3 {α : Type} {cs : List α} (h : cs.length = 3) : ∃ c0 c1 c2, cs = [c0, c1, c2] := by
  match cs, h with
  | [c0, c1, c2], _ => exact ⟨c0, c1, c2, rfl⟩
theorem list5 {α : Type} {cs : List α} (h : cs.length = 5) : ∃ c0 c1 c2 c3 c4, cs = [c0, c1, c2, c3, c4] := by
  match cs, h with
  | [c0, c1, c2, c3, c4], _ => exact ⟨c0, c1, c2, c3, c4, rfl⟩
theorem list9 {α : Type} {cs : List α} (h : cs.length = 9) : ∃ c0 c1 c2 c3 c4 c5 c6 c7 c8, cs = [c0, c1, c2, c3, c4, c5, c6, c7, c8] := by
  match cs, h with
  | [c0, c1, c2, c3, c4, c5, c6, c7, c8], _ => exact ⟨c0, c1, c2, c3, c4, c5, c6, c7, c8, rfl⟩

theorem open_sw {n : Nat} {cs : List Value} {z : DataW H × List MemPlace} (h : DataW.trod enc Tryz.prog w base spare held n 42 cs = some z) : ∃ x : Sw, cs = swC x := by
  obtain ⟨xs, n', _, _, hcl, hlen, hf⟩ := DataW.trod_struct Tryz.underlying42 h
  rw [show Tryz.prog.cellsOf 42 = 3 by kernel_rfl] at hcl
  have h3 : xs.length = 3 := by simpa using hlen
  obtain ⟨c0, c1, c2, rfl⟩ := list3 hcl
  obtain ⟨n0, rfl, _⟩ := int_cell (i := 0) (by omega) (hf 0 _ rfl)
  obtain ⟨n1, rfl, _⟩ := int_cell (i := 1) (by omega) (hf 1 _ rfl)
  obtain ⟨n2, rfl, _⟩ := int_cell (i := 2) (by omega) (hf 2 _ rfl)
  exact ⟨⟨n0, n1, n2⟩, rfl⟩
theorem open_pr {n : Nat} {cs : List Value} {z : DataW H × List MemPlace} (h : DataW.trod enc Tryz.prog w base spare held n 45 cs = some z) : ∃ x : Pr, cs = prC x := by
  obtain ⟨xs, n', _, _, hcl, hlen, hf⟩ := DataW.trod_struct Tryz.underlying45 h
  rw [show Tryz.prog.cellsOf 45 = 5 by kernel_rfl] at hcl
  have h3 : xs.length = 5 := by simpa using hlen
  obtain ⟨c0, c1, c2, c3, c4, rfl⟩ := list5 hcl
  obtain ⟨n0, rfl, _⟩ := int_cell (i := 0) (by omega) (hf 0 _ rfl)
  obtain ⟨n1, rfl, _⟩ := int_cell (i := 1) (by omega) (hf 1 _ rfl)
  obtain ⟨n2, rfl, _⟩ := int_cell (i := 2) (by omega) (hf 2 _ rfl)
  obtain ⟨n3, rfl, _⟩ := int_cell (i := 3) (by omega) (hf 3 _ rfl)
  obtain ⟨n4, rfl, _⟩ := int_cell (i := 4) (by omega) (hf 4 _ rfl)
  exact ⟨⟨n0, n1, n2, n3, n4⟩, rfl⟩
theorem open_ac {n : Nat} {cs : List Value} {z : DataW H × List MemPlace} (h : DataW.trod enc Tryz.prog w base spare held n 52 cs = some z) : ∃ x : Ac, cs = acC x := by
  obtain ⟨xs, n', _, _, hcl, hlen, hf⟩ := DataW.trod_struct Tryz.underlying52 h
  rw [show Tryz.prog.cellsOf 52 = 9 by kernel_rfl] at hcl
  have h3 : xs.length = 9 := by simpa using hlen
  obtain ⟨c0, c1, c2, c3, c4, c5, c6, c7, c8, rfl⟩ := list9 hcl
  obtain ⟨n0, rfl, _⟩ := int_cell (i := 0) (by omega) (hf 0 _ rfl)
  obtain ⟨n1, rfl, _⟩ := int_cell (i := 1) (by omega) (hf 1 _ rfl)
  obtain ⟨n2, rfl⟩ := bool_cell (i := 2) (by omega) (hf 2 _ rfl)
  obtain ⟨n3, rfl, _⟩ := int_cell (i := 3) (by omega) (hf 3 _ rfl)
  obtain ⟨n4, rfl, _⟩ := int_cell (i := 4) (by omega) (hf 4 _ rfl)
  obtain ⟨n5, rfl, _⟩ := int_cell (i := 5) (by omega) (hf 5 _ rfl)
  obtain ⟨n6, rfl, _⟩ := int_cell (i := 6) (by omega) (hf 6 _ rfl)
  obtain ⟨n7, rfl, _⟩ := int_cell (i := 7) (by omega) (hf 7 _ rfl)
  obtain ⟨n8, rfl⟩ := bool_cell (i := 8) (by omega) (hf 8 _ rfl)
  exact ⟨⟨n0, n1, n2, n3, n4, n5, n6, n7, n8⟩, rfl⟩
end

theorem bytesSw : Tryz.prog.bytesOf 42 = 24 := by kernel_rfl
theorem bytesPr : Tryz.prog.bytesOf 45 = 40 := by kernel_rfl
theorem bytesAc : Tryz.prog.bytesOf 52 = 72 := by kernel_rfl

theorem open_conf {H : Type} {enc : TypeId × Value → H} {w : World} {base b0 : Nat} {spare : Nat → Bool} {held : Bool} {r : Reach} {v : Value} {d : DataW H} {p : List MemPlace}
    (hv : Value.okWide Tryz.prog w r b0 29 v) (h : DataW.Trod enc Tryz.prog w base spare held 29 v d p) :
    ∃ sv pv av S P A, v = .agg #[sv, pv, av] ∧ CfAt w sv pv av S P A ∧ ((d.weights Tryz.prog 29).all (· ≤ reachBytes) = true → S.length * 24 ≤ 140737488355328 ∧ P.length * 40 ≤ 140737488355328 ∧ A.length * 72 ≤ 140737488355328) := by
  obtain ⟨cs, rfl, hsz⟩ := okWide_struct Tryz.underlying29 hv
  rw [show Tryz.prog.cellsOf 29 = 3 by kernel_rfl] at hsz
  obtain ⟨l⟩ := cs
  obtain ⟨c0, c1, c2, rfl⟩ := list3 (show l.length = 3 from hsz)
  obtain ⟨fuel, hf⟩ := h
  obtain ⟨xs, n, _, hd, _, hlen, hf⟩ := DataW.trod_struct Tryz.underlying29 hf
  have h3 : xs.length = 3 := by simpa using hlen
  obtain ⟨x0, x1, x2, rfl⟩ := list3 h3
  obtain ⟨v0, S, e0, hS, bS⟩ := open_rows (C := swC) (sz := 3) Tryz.underlying25 (by kernel_rfl) (by omega) (fun n cs' z hz => open_sw hz) (cs := [c0]) (hf 0 _ rfl)
  obtain ⟨v1, P, e1, hP, bP⟩ := open_rows (C := prC) (sz := 5) Tryz.underlying26 (by kernel_rfl) (by omega) (fun n cs' z hz => open_pr hz) (cs := [c1]) (hf 1 _ rfl)
  obtain ⟨v2, A, e2, hA, bA⟩ := open_rows (C := acC) (sz := 9) Tryz.underlying27 (by kernel_rfl) (by omega) (fun n cs' z hz => open_ac hz) (cs := [c2]) (hf 2 _ rfl)
  simp at e0 e1 e2
  subst e0 e1 e2
  refine ⟨c0, c1, c2, S, P, A, rfl, ⟨hS, hP, hA⟩, fun hw => ?_⟩
  simp only [Prod.mk.injEq] at hd
  obtain ⟨rfl, _⟩ := hd
  simp only [DataW.weights, Tryz.underlying29] at hw
  refine ⟨?_, ?_, ?_⟩
  · rcases bS with h | ⟨elems, sp, he, hl⟩
    · omega
    · have := sized_slice hw (j := 0) (t := 25) (e := 42) (elems := elems) (spare := sp) rfl (by simp [he]) Tryz.underlying25
      rw [bytesSw] at this
      simp only [reachBytes] at this
      omega
  · rcases bP with h | ⟨elems, sp, he, hl⟩
    · omega
    · have := sized_slice hw (j := 1) (t := 26) (e := 45) (elems := elems) (spare := sp) rfl (by simp [he]) Tryz.underlying26
      rw [bytesPr] at this
      simp only [reachBytes] at this
      omega
  · rcases bA with h | ⟨elems, sp, he, hl⟩
    · omega
    · have := sized_slice hw (j := 2) (t := 27) (e := 52) (elems := elems) (spare := sp) rfl (by simp [he]) Tryz.underlying27
      rw [bytesAc] at this
      simp only [reachBytes] at this
      omega

/-- Of all weights those of one argument. -/
theorem weights_one {H : Type} {P : Program} {ts : List TypeId} {ds : List (DataW H)} {j : Nat} {t : TypeId} {d : DataW H} (h : (DataW.weightsEach P ts ds).all (· ≤ reachBytes) = true) (ht : ts[j]? = some t) (hd : ds[j]? = some d) : (d.weights P t).all (· ≤ reachBytes) = true :=
  List.all_eq_true.2 fun n hn => List.all_eq_true.1 h n (DataW.weights_mem_each ht hd n hn)

end Go.Proofs.YtjcomoinggiedaaGreat

namespace Go.Proofs.YtjcomoinggiedaaGreat
open Go.ChangeShapes Go.WideShapes Go.ChangeAt Go.RowKit
set_option linter.unusedVariables false
set_option maxRecDepth 100000

theorem cellsRaw : Tryz.prog.cellsOf 24 = 4 := by kernel_rfl

theorem array4' {α : Type} {cs : Array α} (h : cs.size = 4) : ∃ c0 c1 c2 c3, cs = #[c0, c1, c2, c3] := by
  obtain ⟨l⟩ := cs
  match l, h with
  | [c0, c1, c2, c3], _ => exact ⟨c0, c1, c2, c3, rfl⟩

theorem i64_in {n : Int} (h : (Lit.int .i64 n).wf = true) : -9223372036854775808 ≤ n ∧ n ≤ 9223372036854775807 := by
  simpa [Lit.wf, IntKind.min, IntKind.max, IntKind.signed, IntKind.bits] using h

theorem open_raw {H : Type} {enc : TypeId × Value → H} {w : World} {base b0 : Nat} {spare : Nat → Bool} {held : Bool} {r : Reach} {v : Value} {d : DataW H} {p : List MemPlace}
    (hv : Value.okWide Tryz.prog w r b0 24 v) (h : DataW.Trod enc Tryz.prog w base spare held 24 v d p) :
    ∃ k a b c : Int, v = .agg #[.int .i64 k, .int .i64 a, .int .i64 b, .int .i64 c] ∧ (-9223372036854775808 ≤ k ∧ k ≤ 9223372036854775807) ∧ (-9223372036854775808 ≤ a ∧ a ≤ 9223372036854775807) ∧ (-9223372036854775808 ≤ b ∧ b ≤ 9223372036854775807) ∧
      (-9223372036854775808 ≤ c ∧ c ≤ 9223372036854775807) := by
  obtain ⟨cs, rfl, hsz⟩ := okWide_struct Tryz.underlying24 hv
  obtain ⟨c0, c1, c2, c3, rfl⟩ := array4' (hsz.trans cellsRaw)
  obtain ⟨fuel, hf⟩ := h
  obtain ⟨xs, n, _, _, _, hlen, hf⟩ := DataW.trod_struct Tryz.underlying24 hf
  have h8 : xs.length = 4 := by simpa using hlen
  have g0 := hf 0 _ rfl
  have g1 := hf 1 _ rfl
  have g2 := hf 2 _ rfl
  have g3 := hf 3 _ rfl
  simp only [Value.cells] at g0 g1 g2 g3
  obtain ⟨k0, rfl, w0⟩ := int_cell (i := 0) (by omega) g0
  obtain ⟨k1, rfl, w1⟩ := int_cell (i := 1) (by omega) g1
  obtain ⟨k2, rfl, w2⟩ := int_cell (i := 2) (by omega) g2
  obtain ⟨k3, rfl, w3⟩ := int_cell (i := 3) (by omega) g3
  exact ⟨k0, k1, k2, k3, rfl, i64_in w0, i64_in w1, i64_in w2, i64_in w3⟩

end Go.Proofs.YtjcomoinggiedaaGreat

namespace Go.Proofs.YtjcomoinggiedaaGreat
open Go.ChangeShapes Go.WideShapes Go.ChangeAt Go.RowKit
set_option linter.unusedVariables false
set_option maxRecDepth 100000

/-- A word of 64 bits. -/
def W64 (n : Int) : Prop := -9223372036854775808 ≤ n ∧ n ≤ 9223372036854775807
/-- Some numbers. -/
structure Rw where
  k : Int
  a : Int
  b : Int
  c : Int
  ok : W64 k ∧ W64 a ∧ W64 b ∧ W64 c
def rw0 : Rw := ⟨0, 0, 0, 0, by simp [W64]⟩
instance : Inhabited Rw := ⟨rw0⟩
def rwC (x : Rw) : List Value := [.int .i64 x.k, .int .i64 x.a, .int .i64 x.b, .int .i64 x.c]

theorem rw_at {w : World} {v : Value} {l : List Rw} {k : Nat} (h : RowAt rwC 4 w v l) (hk : k < l.length) : ∃ b off cap, v = .slice (some ⟨b, off, none⟩) l.length cap ∧ l.length ≤ cap ∧ b < w.heap.size ∧
    w.cell? ⟨b, off + k * 4, none⟩ = some (.int .i64 (l.getD k rw0).k) ∧ w.cell? ⟨b, off + k * 4 + 1, none⟩ = some (.int .i64 (l.getD k rw0).a) ∧ w.cell? ⟨b, off + k * 4 + 2, none⟩ = some (.int .i64 (l.getD k rw0).b) ∧ w.cell? ⟨b, off + k * 4 + 3, none⟩ = some (.int .i64 (l.getD k rw0).c) := by
  obtain ⟨a, cap, e, _, h0 | ⟨b, off, rfl, hc, hx⟩⟩ := h
  · omega
  · have g := hx k _ (getD_at rw0 hk)
    have c0 := g 0 _ rfl
    exact ⟨b, off, cap, e, hc, cell_in c0, c0, g 1 _ rfl, g 2 _ rfl, g 3 _ rfl⟩

theorem open_rw {H : Type} {enc : TypeId × Value → H} {w : World} {base : Nat} {spare : Nat → Bool} {held : Bool} {n : Nat} {cs : List Value} {z : DataW H × List MemPlace} (h : DataW.trod enc Tryz.prog w base spare held n 24 cs = some z) : ∃ x : Rw, cs = rwC x := by
  obtain ⟨xs, n', _, _, hcl, hlen, hf⟩ := DataW.trod_struct Tryz.underlying24 h
  rw [show Tryz.prog.cellsOf 24 = 4 by kernel_rfl] at hcl
  have h3 : xs.length = 4 := by simpa using hlen
  obtain ⟨c0, c1, c2, c3, hcs⟩ : ∃ c0 c1 c2 c3, cs = [c0, c1, c2, c3] := by
    match cs, hcl with
    | [c0, c1, c2, c3], _ => exact ⟨c0, c1, c2, c3, rfl⟩
  subst hcs
  obtain ⟨n0, rfl, w0⟩ := int_cell (i := 0) (by omega) (hf 0 _ rfl)
  obtain ⟨n1, rfl, w1⟩ := int_cell (i := 1) (by omega) (hf 1 _ rfl)
  obtain ⟨n2, rfl, w2⟩ := int_cell (i := 2) (by omega) (hf 2 _ rfl)
  obtain ⟨n3, rfl, w3⟩ := int_cell (i := 3) (by omega) (hf 3 _ rfl)
  exact ⟨⟨n0, n1, n2, n3, i64_in w0, i64_in w1, i64_in w2, i64_in w3⟩, rfl⟩

theorem open_raws {H : Type} {enc : TypeId × Value → H} {w : World} {base b0 : Nat} {spare : Nat → Bool} {held : Bool} {r : Reach} {v : Value} {d : DataW H} {p : List MemPlace}
    (hv : Value.okWide Tryz.prog w r b0 22 v) (h : DataW.Trod enc Tryz.prog w base spare held 22 v d p) : ∃ l : List Rw, RowAt rwC 4 w v l := by
  obtain ⟨a, len, cap, rfl⟩ := okWide_slice Tryz.underlying22 hv
  obtain ⟨fuel, hf⟩ := h
  obtain ⟨v0, l, e0, hl, _⟩ := open_rows (C := rwC) (sz := 4) Tryz.underlying22 (by kernel_rfl) (by omega) (fun n cs' z hz => open_rw hz) hf
  simp [Value.cells] at e0
  subst e0
  exact ⟨l, hl⟩

end Go.Proofs.YtjcomoinggiedaaGreat

namespace Go.Proofs.YtjcomoinggiedaaGreat
open Go.RowKit
set_option linter.unusedVariables false
set_option maxRecDepth 100000

theorem mk_whole {n : Int} (h0 : 0 ≤ n) (h1 : n ≤ 65535) : mk n 65535 = n := by
  obtain ⟨a, rfl⟩ := Int.eq_ofNat_of_zero_le h0
  unfold mk
  have e : ((65535 : Int).toNat) = 2 ^ 16 - 1 := rfl
  rw [e, Int.toNat_natCast, Nat.and_two_pow_sub_one_eq_mod, Nat.mod_eq_of_lt (by omega)]
theorem and_high {v k : Nat} (hk : k ≤ 16) (hv : v < 2 ^ 16) (hd : v % 2 ^ k = 0) : v &&& (2 ^ 16 - 2 ^ k) = v := by
  have hp : 0 < 2 ^ k := Nat.two_pow_pos k
  have e : 2 ^ 16 - 2 ^ k = 2 ^ 16 - ((2 ^ k - 1) + 1) := by omega
  rw [e]
  refine Nat.eq_of_testBit_eq fun j => ?_
  have hlt : 2 ^ k - 1 < 2 ^ 16 := by
    have := Nat.pow_le_pow_right (show 0 < 2 by decide) hk
    omega
  rw [Nat.testBit_and, Nat.testBit_two_pow_sub_succ hlt, Nat.testBit_two_pow_sub_one]
  by_cases hj : j < 16
  · by_cases hjk : j < k
    · have : v.testBit j = false := by
        obtain ⟨q, rfl⟩ := Nat.dvd_of_mod_eq_zero hd
        rw [Nat.testBit_two_pow_mul]
        simp; omega
      simp [this]
    · simp [hj, hjk]
  · have : v.testBit j = false := Nat.testBit_lt_two_pow (Nat.lt_of_lt_of_le hv (Nat.pow_le_pow_right (by decide) (by omega)))
    simp [this]
theorem isM_ok {f v : Int} (h0 : 0 ≤ f) (h1 : f ≤ 9) (h2 : 0 ≤ v) (h3 : v ≤ 65535) : matchB (isM f v) = true := by
  unfold matchB isM fieldB wordB
  simp only
  rw [mk_whole h2 h3, Bool.and_eq_true, Bool.and_eq_true, Bool.and_eq_true]
  exact ⟨⟨⟨decide_eq_true (by omega), decide_eq_true (by omega)⟩, decide_eq_true (by omega)⟩, by simp⟩
theorem hiM_ok {f v b : Int} (h0 : 0 ≤ f) (h1 : f ≤ 9) (h2 : 0 ≤ v) (h3 : v ≤ 65535) (h4 : 0 ≤ b) (h5 : b ≤ 16) (h6 : highB v b = true) : matchB (hiM f v b) = true := by
  obtain ⟨n, rfl⟩ := Int.eq_ofNat_of_zero_le h4
  obtain ⟨a, rfl⟩ := Int.eq_ofNat_of_zero_le h2
  have hk : ((16 : Int) - (n : Int)).toNat = 16 - n := by omega
  have hn : n ≤ 16 := by omega
  have hpow : 2 ^ 16 = 2 ^ (16 - n) * 2 ^ n := by rw [← Nat.pow_add]; congr 1; omega
  have hd : a % 2 ^ (16 - n) = 0 := by
    have h := h6
    simp only [highB, Int.toNat_natCast, beq_iff_eq] at h
    have e : (65536 : Int) / 2 ^ n = ((2 ^ (16 - n) : Nat) : Int) := by
      have : (65536 : Int) = ((2 ^ (16 - n) * 2 ^ n : Nat) : Int) := by rw [← hpow]; rfl
      rw [this, Int.natCast_mul]
      rw [show ((2 ^ n : Nat) : Int) = (2 : Int) ^ n by simp]
      exact Int.mul_ediv_cancel _ (by have : (0 : Int) < 2 ^ n := Int.pow_pos (by decide); omega)
    rw [e] at h
    exact_mod_cast h
  have hm := and_high (v := a) (k := 16 - n) (by omega) (by omega) hd
  have hle : 2 ^ (16 - n) ≤ 2 ^ 16 := Nat.pow_le_pow_right (by decide) (by omega)
  have hpos : 0 < 2 ^ (16 - n) := Nat.two_pow_pos _
  have hmask : (65536 : Int) - 2 ^ (16 - n) = ((2 ^ 16 - 2 ^ (16 - n) : Nat) : Int) := by
    rw [Int.ofNat_sub hle]
    simp
  simp only [matchB, hiM, hk, hmask, mk, Int.toNat_natCast, hm]
  have : ((2 ^ 16 - 2 ^ (16 - n) : Nat) : Int) ≤ 65535 := by omega
  simp [fieldB, wordB]
  omega
/-- What a flow does, wherever it stands. -/
def DoAny (d : Do) : Prop := ∀ t last, doesB d.k d.a d.n t last = true
theorem put_any {a n : Int} (h0 : 0 ≤ a) (h1 : a ≤ 9) (h2 : 0 ≤ n) (h3 : n ≤ 65535) : DoAny ⟨1, a, n⟩ := fun t last => by simp [doesB]; omega
theorem copy_any' {a n : Int} (h0 : 0 ≤ a) (h1 : a ≤ 9) (h2 : 0 ≤ n) (h3 : n ≤ 9) : DoAny ⟨2, a, n⟩ := fun t last => by simp [doesB]; omega
theorem less_any {a : Int} (h0 : 0 ≤ a) (h1 : a ≤ 9) : DoAny ⟨3, a, 0⟩ := fun t last => by simp [doesB]; omega
theorem out_any {n : Int} (h2 : 0 ≤ n) (h3 : n ≤ 65535) : DoAny ⟨5, 0, n⟩ := fun t last => by simp [doesB]; omega
theorem tun_any {n : Int} (h2 : 0 ≤ n) (h3 : n ≤ 5) : DoAny ⟨6, 0, n⟩ := fun t last => by simp [doesB]; omega
theorem does_all {t : Int} {ds : List Do} (h : ∀ d ∈ ds, DoAny d) : ∀ j, j < ds.length → doB t ds j = true := fun j hj => by
  unfold doB
  refine h _ ?_ _ _
  rw [List.getD_eq_getElem?_getD, List.getElem?_eq_getElem hj]
  exact List.getElem_mem _
theorem does_goto {t n : Int} {ds : List Do} (h : ∀ d ∈ ds, DoAny d) (h0 : t < n) (h1 : n ≤ 7) : ∀ j, j < (ds ++ [gotoD n]).length → doB t (ds ++ [gotoD n]) j = true := fun j hj => by
  rw [List.length_append, List.length_singleton] at hj
  by_cases hl : j = ds.length
  · subst hl
    unfold doB
    rw [show (ds ++ [gotoD n]).getD ds.length do0 = gotoD n by simp [List.getD]]
    simp [doesB, gotoD]
    exact decide_eq_true (by omega)
  · have hj' : j < ds.length := by omega
    unfold doB
    rw [show (ds ++ [gotoD n]).getD j do0 = ds.getD j do0 by simp [List.getD, List.getElem?_append_left hj']]
    refine h _ ?_ _ _
    rw [List.getD_eq_getElem?_getD, List.getElem?_eq_getElem hj']
    exact List.getElem_mem _
theorem fl_ok {t p : Int} {ms : List Mt} {ds : List Do} (ht0 : 0 ≤ t) (ht1 : t ≤ 7) (hp0 : 0 ≤ p) (hp1 : p ≤ 2000) (hm : ms.length ≤ 12) (hd : ds.length ≤ 100) (hms : ∀ m ∈ ms, matchB m = true) (hds : ∀ j, j < ds.length → doB t ds j = true) : flFault ⟨t, p, ms, ds⟩ = 0 := by
  refine flFault_ok ?_ ?_ ?_ hds
  · simp only; omega
  · simp [tableB, prioB]; omega
  · simp only [List.all_eq_true]; exact hms

end Go.Proofs.YtjcomoinggiedaaGreat

namespace Go.Proofs.YtjcomoinggiedaaGreat
open Go.RowKit
set_option linter.unusedVariables false
set_option maxRecDepth 100000

/-- A port's numbers are in their bounds. -/
def PrIn (p : Pr) : Prop := (1 ≤ p.i ∧ p.i ≤ 999) ∧ (1 ≤ p.s ∧ p.s ≤ 500) ∧ (1 ≤ p.m ∧ p.m ≤ 59999) ∧ (1 ≤ p.p ∧ p.p ≤ 65535) ∧ -1 ≤ p.c ∧ p.c ≤ 5
theorem m_in {l : List Mt} {x : Mt} {P : Mt → Prop} (h : P x) (hl : ∀ m ∈ l, P m) : ∀ m ∈ x :: l, P m := fun m hm => by
  rcases List.mem_cons.1 hm with rfl | hm
  · exact h
  · exact hl m hm
theorem m_app {a b : List Mt} {P : Mt → Prop} (ha : ∀ m ∈ a, P m) (hb : ∀ m ∈ b, P m) : ∀ m ∈ a ++ b, P m := fun m hm => by
  rcases List.mem_append.1 hm with h | h
  · exact ha m h
  · exact hb m h
theorem m_nil {P : Mt → Prop} : ∀ m ∈ ([] : List Mt), P m := fun m hm => by cases hm
theorem d_in {l : List Do} {x : Do} {P : Do → Prop} (h : P x) (hl : ∀ m ∈ l, P m) : ∀ m ∈ x :: l, P m := fun m hm => by
  rcases List.mem_cons.1 hm with rfl | hm
  · exact h
  · exact hl m hm
theorem d_nil {P : Do → Prop} : ∀ m ∈ ([] : List Do), P m := fun m hm => by cases hm
theorem d_app {a b : List Do} {P : Do → Prop} (ha : ∀ m ∈ a, P m) (hb : ∀ m ∈ b, P m) : ∀ m ∈ a ++ b, P m := fun m hm => by
  rcases List.mem_append.1 hm with h | h
  · exact ha m h
  · exact hb m h
theorem ttl_ok {v : Int} (hv : v = 65280 ∨ v = 65534) : matchB ⟨6, v, 0⟩ = true := by
  rcases hv with rfl | rfl <;> decide
theorem dataMs_ok : ∀ m ∈ dataMs, matchB m = true := m_in (isM_ok (by decide) (by decide) (by decide) (by decide)) (m_in (ttl_ok (.inl rfl)) m_nil)
theorem bareMs_ok {k : Int} (h0 : 0 ≤ k) (h1 : k ≤ 65535) : ∀ m ∈ bareMs k, matchB m = true := m_in (isM_ok (by decide) (by decide) h0 h1) (m_in (isM_ok (by decide) (by decide) (by decide) (by decide)) (m_in (isM_ok (by decide) (by decide) (by decide) (by decide)) m_nil))
theorem sentMs_ok {p : Pr} (h : PrIn p) : ∀ m ∈ sentMs p, matchB m = true := by
  obtain ⟨⟨a0, a1⟩, ⟨b0, b1⟩, ⟨c0, c1⟩, ⟨d0, d1⟩, e0, e1⟩ := h
  exact m_in (isM_ok (by decide) (by decide) (by omega) (by omega)) (m_in (isM_ok (by decide) (by decide) (by decide) (by decide)) (m_in (isM_ok (by decide) (by decide) (by decide) (by decide)) (m_in (isM_ok (by decide) (by decide) (by omega) (by omega)) (m_in (isM_ok (by decide) (by decide) (by omega) (by omega)) m_nil))))
theorem toPort_ok {p : Pr} (h : PrIn p) (hs : somewhereB p = true) : ∀ d ∈ toPortD p, DoAny d := by
  obtain ⟨⟨a0, a1⟩, ⟨b0, b1⟩, ⟨c0, c1⟩, ⟨d0, d1⟩, e0, e1⟩ := h
  have hs' : p.c ≠ -1 := by simpa [somewhereB] using hs
  exact d_in (put_any (by decide) (by decide) (by omega) (by omega)) (d_in (tun_any (by omega) (by omega)) d_nil)
theorem tunnel_may : ∀ f ∈ tunnelFl, flFault f = 0 := by
  intro f hf
  simp only [tunnelFl, List.mem_cons, List.not_mem_nil, or_false] at hf
  rcases hf with rfl | rfl
  · exact fl_ok (by decide) (by decide) (by decide) (by decide) (by decide) (by decide) (m_app dataMs_ok (m_in (isM_ok (by decide) (by decide) (by decide) (by decide)) m_nil)) (does_goto (ds := []) d_nil (by decide) (by decide))
  · exact fl_ok (by decide) (by decide) (by decide) (by decide) (by decide) (by decide) (m_app (bareMs_ok (by decide) (by decide)) (m_in (isM_ok (by decide) (by decide) (by decide) (by decide)) m_nil)) (does_goto (ds := []) d_nil (by decide) (by decide))
theorem toPorts_len (l : List Pr) : (l.flatMap toPortD).length = 2 * l.length := by
  induction l with
  | nil => rfl
  | cons x r ih => simp [toPortD] at ih ⊢; omega
theorem port_may {P : List Pr} (hP : ∀ p ∈ P, PrIn p) (hl : P.length ≤ 40) {p : Pr} (hp : PrIn p) : ∀ f ∈ portFl P p, flFault f = 0 := by
  obtain ⟨⟨a0, a1⟩, ⟨b0, b1⟩, ⟨c0, c1⟩, ⟨d0, d1⟩, e0, e1⟩ := hp
  have hp : PrIn p := ⟨⟨a0, a1⟩, ⟨b0, b1⟩, ⟨c0, c1⟩, ⟨d0, d1⟩, e0, e1⟩
  intro f hf
  simp only [portFl, List.mem_cons, List.not_mem_nil, or_false] at hf
  rcases hf with rfl | rfl | rfl | rfl | rfl | rfl
  · exact fl_ok (by decide) (by decide) (by decide) (by decide) (by simp [sentMs, dataMs]) (by simp) (m_app (sentMs_ok hp) dataMs_ok) (does_goto (ds := [_]) (d_in (put_any (by decide) (by decide) (by omega) (by omega)) d_nil) (by decide) (by decide))
  · exact fl_ok (by decide) (by decide) (by decide) (by decide) (by simp [sentMs, bareMs]) (by simp) (m_app (sentMs_ok hp) (bareMs_ok (by decide) (by decide))) (does_goto (ds := [_]) (d_in (put_any (by decide) (by decide) (by omega) (by omega)) d_nil) (by decide) (by decide))
  · exact fl_ok (by decide) (by decide) (by decide) (by decide) (by simp) (by simp) (m_in (isM_ok (by decide) (by decide) (by omega) (by omega)) (m_in (isM_ok (by decide) (by decide) (by omega) (by omega)) m_nil)) (does_all d_nil)
  · exact fl_ok (by decide) (by decide) (by decide) (by decide) (by simp) (by simp) (m_in (isM_ok (by decide) (by decide) (by omega) (by omega)) (m_in (isM_ok (by decide) (by decide) (by omega) (by omega)) m_nil)) (does_all d_nil)
  · refine fl_ok (by decide) (by decide) (by decide) (by decide) (by simp) ?_ (m_in (isM_ok (by decide) (by decide) (by omega) (by omega)) (m_in (isM_ok (by decide) (by decide) (by decide) (by decide)) m_nil)) (does_all fun d hd => ?_)
    · rw [toPorts_len]
      have := List.length_filter_le (othersB p) P
      omega
    · obtain ⟨q, hq, hd⟩ := List.mem_flatMap.1 hd
      obtain ⟨hq1, hq2⟩ := List.mem_filter.1 hq
      exact toPort_ok (hP q hq1) (by simp only [othersB, Bool.and_eq_true] at hq2; exact hq2.2) d hd
  · exact fl_ok (by decide) (by decide) (by decide) (by decide) (by simp) (by simp) (m_in (isM_ok (by decide) (by decide) (by omega) (by omega)) (m_in (isM_ok (by decide) (by decide) (by omega) (by omega)) m_nil)) (does_all (d_in (out_any (by omega) (by omega)) d_nil))
theorem ans_may {s ip mac ch : Int} (s0 : 0 ≤ s) (s1 : s ≤ 65535) (i0 : 0 ≤ ip) (i1 : ip ≤ 65535) (m0 : 0 ≤ mac) (m1 : mac ≤ 65535) (c0 : 0 ≤ ch) (c1 : ch ≤ 5) : flFault (ansFl s ip mac ch) = 0 :=
  fl_ok (by decide) (by decide) (by decide) (by decide) (by simp) (by simp [answerD]) (m_in (isM_ok (by decide) (by decide) s0 s1) (m_in (isM_ok (by decide) (by decide) i0 i1) m_nil))
    (does_all (d_in (put_any (by decide) (by decide) (by decide) (by decide)) (d_in (copy_any' (by decide) (by decide) (by decide) (by decide)) (d_in (put_any (by decide) (by decide) m0 m1) (d_in (copy_any' (by decide) (by decide) (by decide) (by decide)) (d_in (put_any (by decide) (by decide) i0 i1) (d_in (copy_any' (by decide) (by decide) (by decide) (by decide)) (d_in (tun_any c0 c1) d_nil))))))))
theorem ruleMs_ok {r : Ac} (h1 : acInB r = true) (h2 : (highB r.src r.sb && highB r.dst r.db) = true) : ∀ m ∈ ruleMs r, matchB m = true := by
  simp only [acInB, inB, Bool.and_eq_true, decide_eq_true_eq] at h1 h2
  obtain ⟨⟨⟨⟨⟨a, b⟩, c⟩, d⟩, e⟩, f⟩ := h1
  unfold ruleMs
  refine m_app (m_in (hiM_ok (by decide) (by decide) b.1 b.2 d.1 d.2 h2.1) (m_in (hiM_ok (by decide) (by decide) c.1 c.2 e.1 e.2 h2.2) m_nil)) ?_
  split
  · exact m_nil
  · exact m_in (isM_ok (by decide) (by decide) (by omega) (by omega)) m_nil
theorem rules_may {R : List Ac} (hR : ∀ r ∈ R, acInB r = true ∧ (highB r.src r.sb && highB r.dst r.db) = true) (hl : R.length ≤ 40) {s t n : Int} (s0 : 0 ≤ s) (s1 : s ≤ 65535) (t0 : 0 ≤ t) (t1 : t < n) (n1 : n ≤ 7) : ∀ f ∈ ruleFl R s t n, flFault f = 0 := by
  intro f hf
  unfold ruleFl at hf
  have hg := does_goto (ds := []) d_nil t1 n1
  rcases List.mem_cons.1 hf with rfl | hf
  · exact fl_ok t0 (by omega) (by decide) (by decide) (by simp) (by simp) (m_in (isM_ok (by decide) (by decide) s0 s1) m_nil) hg
  · obtain ⟨i, hi, rfl⟩ := List.mem_map.1 hf
    rw [List.mem_range] at hi
    have hr := hR (R.getD i ac0) (by rw [List.getD_eq_getElem?_getD, List.getElem?_eq_getElem hi]; exact List.getElem_mem _)
    unfold ruleAt
    refine fl_ok t0 (by omega) (by omega) (by omega) ?_ ?_ (m_app (ruleMs_ok hr.1 hr.2) (m_in (isM_ok (by decide) (by decide) s0 s1) m_nil)) ?_
    · rw [List.length_append]
      unfold ruleMs
      split <;> simp
    · split <;> simp
    · split
      · exact does_all d_nil
      · exact hg
theorem bridge_may {P : List Pr} (hP : ∀ p ∈ P, PrIn p) {s : Sw} (s0 : 0 ≤ s.i) (s1 : s.i ≤ 500) : ∀ f ∈ bridgeFl P s, flFault f = 0 := by
  intro f hf
  obtain ⟨p, hp, rfl⟩ := List.mem_map.1 hf
  obtain ⟨hp1, hp2⟩ := List.mem_filter.1 hp
  have h := hP p hp1
  obtain ⟨⟨a0, a1⟩, ⟨b0, b1⟩, ⟨c0, c1⟩, ⟨d0, d1⟩, e0, e1⟩ := h
  simp only [Bool.and_eq_true] at hp2
  exact fl_ok (by decide) (by decide) (by decide) (by decide) (by simp) (by simp [toPortD]) (m_in (isM_ok (by decide) (by decide) s0 (by omega)) (m_in (isM_ok (by decide) (by decide) (by omega) (by omega)) m_nil)) (does_all (toPort_ok (hP p hp1) hp2.2))
theorem route_may {S : List Sw} {P : List Pr} (hP : ∀ p ∈ P, PrIn p) {s : Sw} (s0 : 0 ≤ s.i) (s1 : s.i ≤ 500) : ∀ f ∈ routeFl S P s, flFault f = 0 := by
  intro f hf
  unfold routeFl at hf
  have hm : ∀ m ∈ routerMs s, matchB m = true := m_in (isM_ok (by decide) (by decide) s0 (by omega)) (m_in (isM_ok (by decide) (by decide) (by omega) (by omega)) m_nil)
  split at hf
  · cases hf
  · rcases List.mem_cons.1 hf with rfl | hf
    · exact fl_ok (by decide) (by decide) (by decide) (by decide) (by simp [routerMs]) (by simp) (m_app hm (m_in (ttl_ok (.inr rfl)) m_nil)) (does_all d_nil)
    · obtain ⟨p, hp, rfl⟩ := List.mem_map.1 hf
      obtain ⟨hp1, hp2⟩ := List.mem_filter.1 hp
      have h := hP p hp1
      obtain ⟨⟨a0, a1⟩, ⟨b0, b1⟩, ⟨c0, c1⟩, ⟨d0, d1⟩, e0, e1⟩ := h
      simp only [Bool.and_eq_true] at hp2
      exact fl_ok (by decide) (by decide) (by decide) (by decide) (by simp [routerMs]) (by simp [routeD, toPortD]) (m_app hm (m_in (isM_ok (by decide) (by decide) (by omega) (by omega)) m_nil)) (does_all (d_app (d_in (put_any (by decide) (by decide) (by omega) (by omega)) (d_in (put_any (by decide) (by decide) (by omega) (by omega)) (d_in (less_any (by decide) (by decide)) (d_in (put_any (by decide) (by decide) (by omega) (by omega)) d_nil)))) (toPort_ok (hP p hp1) hp2.2)))
theorem comp_may {S : List Sw} {P : List Pr} {A : List Ac} {ch : Int} (h : may S P A = true) (c0 : 0 ≤ ch) (c1 : ch ≤ 5) : ∀ f ∈ comp S P A ch, flFault f = 0 := by
  obtain ⟨hs, hp, ha⟩ := may_parts h
  have hP : ∀ p ∈ P, PrIn p := (pr_all hs hp).2
  have hl := (pr_all hs hp).1
  have hR : ∀ b s, ∀ r ∈ acSort (rulesB A s b), acInB r = true ∧ (highB r.src r.sb && highB r.dst r.db) = true := fun b s r hr => by
    have : r ∈ rulesB A s b := by
      unfold acSort at hr
      rw [mrg_mem, isort_mem, isort_mem, ← List.mem_append, List.take_append_drop] at hr
      exact hr
    have := (ac_all ha).2 r (List.mem_filter.1 this).1
    exact ⟨this.1, this.2.1⟩
  have hRl : ∀ b s, (acSort (rulesB A s b)).length ≤ 40 := fun b s => by
    have h1 : (rulesB A s b).length ≤ A.length := List.length_filter_le _ _
    have h2 := (ac_all ha).1
    unfold acSort
    rw [mrg_len, isort_len, isort_len, List.length_take, List.length_drop]
    omega
  intro f hf
  unfold comp at hf
  rcases List.mem_append.1 hf with hf | hf
  · rcases List.mem_append.1 hf with hf | hf
    · exact tunnel_may f hf
    · obtain ⟨p, hp1, hf⟩ := List.mem_flatMap.1 hf
      exact port_may hP hl (hP p (List.mem_filter.1 hp1).1) f hf
  · obtain ⟨s, hs1, hf⟩ := List.mem_flatMap.1 hf
    have hsi := (sw_all hs).2 s (List.mem_filter.1 hs1).1
    obtain ⟨⟨i0, i1⟩, _, g0, g1⟩ := hsi
    unfold switchFl at hf
    rcases List.mem_append.1 hf with hf | hf
    · rcases List.mem_append.1 hf with hf | hf
      · rcases List.mem_append.1 hf with hf | hf
        · rcases List.mem_append.1 hf with hf | hf
          · unfold askFl at hf
            rcases List.mem_append.1 hf with hf | hf
            · split at hf
              · cases hf
              · rw [List.mem_singleton.1 hf]
                exact ans_may (by omega) (by omega) g0 g1 (by omega) (by omega) c0 c1
            · obtain ⟨p, hp1, rfl⟩ := List.mem_map.1 hf
              obtain ⟨⟨a0, a1⟩, ⟨b0, b1⟩, ⟨x0, x1⟩, ⟨d0, d1⟩, e0, e1⟩ := hP p (List.mem_filter.1 hp1).1
              exact ans_may (by omega) (by omega) (by omega) (by omega) (by omega) (by omega) c0 c1
          · exact rules_may (hR _ _) (hRl _ _) (by omega) (by omega) (by decide) (by decide) (by decide) f hf
        · exact bridge_may hP (by omega) i1 f hf
      · exact route_may hP (by omega) i1 f hf
    · exact rules_may (hR _ _) (hRl _ _) (by omega) (by omega) (by decide) (by decide) (by decide) f hf

end Go.Proofs.YtjcomoinggiedaaGreat
