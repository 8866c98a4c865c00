/- Texts joined: Xe, Al, Xf, Xt, Tw, Ea, Qs0, Xm. -/
import Derived.Laws.StructEq
import Derived.Deep.QuietTactic
import Derived.BigQuiet
import Derived.Test.YtncdininppehkaaGreatJAsksAnswered8
namespace Go.Proofs.YtncdininppehkaaGreat
open Go.RowKit
set_option linter.unusedVariables false
set_option maxRecDepth 100000
theorem wpList_append_rows {ops : Array Oper} {rest : List Oper} {o : Oper} {a : Act} {Q : Exit → Act → World → Prop} {P : Program} {w : World} (hgd : o.guard = none) (s x : Operand) (t : TypeId)
  (ho : o.op = .call { callee := .builtin .append, args := #[s, x], argTypes := #[t, t] })
  (base : Nat) (e : TypeId) (i : TypeInfo) (z : Value) (size bytes : Nat) (ht : P.underlying t = some (.slice e)) (hi : P.info? e = some i) (hz : i.zero = some z)
  (hsize : i.size = size) (hby : i.bytes = bytes) (hzs : z.cells.size = size) (hsz : 0 < size)
  (v : Value) (n : Nat) (xs : List Value) (hs : a.eval s = v) (hown : w.ownsRow base e size v n xs)
  (u : Value) (m B2 : Nat) (news : List Value) (hx : a.eval x = u) (hsrc : w.ownsRow B2 e size u m news) (h1 : ∀ u ∈ news, u.oneCell' = true)
  (h63 : n + m ≤ maxLen) (hbytes : (n + m) * bytes ≤ 140737488355328) (hbase : base ≤ w.heap.size)
  (h : ∀ v' w', w'.ownsRow base e size v' (n + m) (xs ++ news) → w.grownBy w' v.ownBlock → wpList P ops Q rest (a.put o.dst v') w') : wpList P ops Q (o :: rest) a w := by
 have hsrc' := hsrc
 obtain ⟨hl, ⟨rfl, rfl⟩ | ⟨g, cap, cur, rfl, hB, hg, hc, hm, hcs, htk⟩⟩ := hsrc
 ·obtain rfl : news = [] := List.eq_nil_of_length_eq_zero (by rw [hl]; simp)
  refine wpList_append_own_none hgd s x t ho base e i size ht hi v n xs hs hown hx ?_
  exact h v w (by simpa using hown) ⟨rfl, rfl, rfl, Nat.le_refl _, fun _ _ _ => rfl⟩
 ·refine wpList_append_own w hgd s x t ho base e i z size bytes ht hi hz hsize hby hzs hsz v n xs hs hown ⟨g, 0, none⟩ m cap news hx hl (fun j u hj => ?_) h1 h63 hbytes hbase fun v' w' h2 h3 _ => h v' w' h2 h3
  have hj' : j < m * size := by have := (List.getElem?_eq_some_iff.1 hj).1; omega
  rw [addf, hsrc'.cellAt _ hj']
  exact hj
theorem AR_one (body : ByteArray) (l : List Ar) : ∀ u ∈ AR body l, u.oneCell' = true := by
 intro u hu
 unfold AR at hu
 rw [List.mem_flatMap] at hu
 obtain ⟨x, _, hu⟩ := hu
 exact all_one (l := arC body x) rfl u hu
theorem AR_app (body : ByteArray) (a b : List Ar) : AR body (a ++ b) = AR body a ++ AR body b := by simp [AR]
def sendsB (id : Int) (p : Pr) : Bool := p.i == id && !(p.c == -1)
theorem ent_sends : Entered 95 := fun args W => by
 unfold callFunc
 simp [Tryz.func95, Tryz.f95]
set_option maxHeartbeats 2000000 in
theorem sends_any (id : Int) (b : Nat) (w : World) (hc : w.cell? ⟨b, 0, none⟩ = some (.int .i64 id)) : PicksPr w 95 #[.pointer (some ⟨b, 0, none⟩)] (sendsB id) := fun W x hW => by
 have c0 := cell_beh hc hW (Nat.le_refl _)
 have hlt := cell_in c0
 have hne : ¬ b = W.heap.size := by omega
 have HB : Hid (sendsB id x = (x.i == id && !(x.c == -1))) := rfl
 generalize x.i = x0 at *
 generalize x.s = x1 at *
 generalize x.m = x2 at *
 generalize x.p = x3 at *
 generalize x.c = x4 at *
 by_cases h0 : x0 = id
 ·subst h0
  by_cases h1 : x4 = -1
  ·subst h1
   go_enter Tryz.func95, Tryz.ntmps95
   go_wp2_with fail
   go_ret
   rw [HB.out]
   exact ⟨by simp, (Below.refl _ _).alloc (Nat.le_refl _) _⟩
  ·have h1b : (x4 != -1) = true := by simpa using h1
   go_enter Tryz.func95, Tryz.ntmps95
   go_wp2_with fail
   go_ret
   rw [HB.out]
   exact ⟨by simp [h1], (Below.refl _ _).alloc (Nat.le_refl _) _⟩
 ·have h0b : (x0 == id) = false := by simpa using h0
  go_enter Tryz.func95, Tryz.ntmps95
  go_wp2_with fail
  go_ret
  rw [HB.out]
  exact ⟨by simp [h0], (Below.refl _ _).alloc (Nat.le_refl _) _⟩
def comeB (K : Nat → List Fl) (n : Nat) (s : Sn) : Bool := !(carE K n s == 0)
def comeE (K : Nat → List Fl) (n : Nat) (l : List Sn) : Int := match l.find? (comeB K n) with
 | none => 0
 | some s => carE K n s
def comeL (K : Nat → List Fl) (n : Nat) (l : List Sn) : List Ar := l.flatMap (carL K n)
def fromP (P : List Pr) (id : Int) : Pr := P.getD (idx (sendsB id) P).toNat pr0
def arrE (K : Nat → List Fl) (P : List Pr) (id dst src kind ips ipd ttl port : Int) (n : Nat) : Int :=
 if idx (sendsB id) P < 0 then 6 else if pkE dst src kind ips ipd ttl port n id 0 0 = 0 then
  (if runE (K (fromP P id).c.toNat) [id, dst, src, kind, ips, ipd, ttl, port, 0, 0] n = 0 then comeE K n (ran (K (fromP P id).c.toNat) [id, dst, src, kind, ips, ipd, ttl, port, 0, 0]) else runE (K (fromP P id).c.toNat) [id, dst, src, kind, ips, ipd, ttl, port, 0, 0] n)
 else pkE dst src kind ips ipd ttl port n id 0 0
def arrL (K : Nat → List Fl) (P : List Pr) (id dst src kind ips ipd ttl port : Int) (n : Nat) : List Ar :=
 if arrE K P id dst src kind ips ipd ttl port n = 0 then comeL K n (ran (K (fromP P id).c.toNat) [id, dst, src, kind, ips, ipd, ttl, port, 0, 0]) else []
def ByPort (l : List Ar) : Prop := l.Pairwise fun a b => ¬ b.n < a.n
def SortsAr (l : List Ar) : Prop := ∀ (body : ByteArray) (u : Value) (B : Nat) (w : World), w.ownsRow B 56 9 u l.length (AR body l) → B ≤ w.heap.size → Calls Tryz.prog 98 #[u, .func (.func 99) #[] #[]] w fun e w' => e = .returned (.tuple #[]) ∧ ∃ l', l'.Perm l ∧ ByPort l' ∧ w'.ownsRow B 56 9 u l.length (AR body l') ∧ w.grownBy w' u.ownBlock
theorem come_next {K : Nat → List Fl} {n : Nat} {l : List Sn} {k : Nat} (h : k < l.length) : comeL K n (l.take (k + 1)) = comeL K n (l.take k) ++ carL K n (l.getD k snz) := by
 unfold comeL
 rw [take_next snz h, List.flatMap_append]; simp
theorem comeB_next {K : Nat → List Fl} {n : Nat} {l : List Sn} {k : Nat} (h : k < l.length) (h0 : (l.take k).find? (comeB K n) = none) (h1 : carE K n (l.getD k snz) = 0) : (l.take (k + 1)).find? (comeB K n) = none := by
 rw [take_next snz h, List.find?_append, h0]
 generalize l.getD k snz = x at *
 simp [comeB, h1]
theorem comeB_at {K : Nat → List Fl} {n : Nat} {l : List Sn} {k : Nat} (h : k < l.length) (h0 : (l.take k).find? (comeB K n) = none) (h1 : carE K n (l.getD k snz) ≠ 0) : comeE K n l = carE K n (l.getD k snz) := by
 have e0 : l = l.take k ++ l.getD k snz :: l.drop (k + 1) := by
  rw [← List.singleton_append, ← List.append_assoc, ← take_next snz h, List.take_append_drop]
 have e : (l.take k ++ l.getD k snz :: l.drop (k + 1)).find? (comeB K n) = some (l.getD k snz) := by
  rw [List.find?_append, h0, List.find?_cons_of_pos (by unfold comeB; simpa using h1)]; rfl
 rw [← e0] at e
 unfold comeE
 rw [e]
theorem atL_len (n : Nat) (l : List Sn) : (atL n l).length ≤ l.length := by
 unfold atL; split
 ·exact atL0_le l
 ·simp
theorem car_len {K : Nat → List Fl} {n : Nat} (s : Sn) : (carL K n s).length ≤ 1000000 := by
 unfold carL
 split
 ·split
  ·split
   ·rename_i h
    exact Nat.le_trans (atL_len _ _) (ran_out (by simp [thrF]) h).2
   ·simp
  ·simp
 ·exact Nat.le_trans (atL_len _ _) (by simp)
theorem come_len {K : Nat → List Fl} {n : Nat} : ∀ l : List Sn, (comeL K n l).length ≤ 1000000 * l.length
 | [] => by simp [comeL]
 | s :: r => by
  have h1 := come_len (K := K) (n := n) r
  have h2 := car_len (K := K) (n := n) s
  unfold comeL at h1 ⊢
  rw [List.flatMap_cons, List.length_append, List.length_cons]
  omega
end Go.Proofs.YtncdininppehkaaGreat

namespace Go.Proofs.YtncdininppehkaaGreat
open Go.RowKit
set_option linter.unusedVariables false
set_option maxRecDepth 100000
theorem word_in {n : Int} : wordB n = true ↔ 0 ≤ n ∧ n ≤ 65535 := by simp [wordB]
theorem fault_all {d s k a b t o : Int} {n : Nat} (h : fault d s k a b t o n = 0) : (1 ≤ k ∧ k ≤ 3) ∧ ((0 ≤ d ∧ d ≤ 65535) ∧ (0 ≤ s ∧ s ≤ 65535) ∧ (0 ≤ a ∧ a ≤ 65535) ∧ (0 ≤ b ∧ b ≤ 65535) ∧ (0 ≤ o ∧ o ≤ 65535) ∧ 0 ≤ t ∧ t ≤ 255) ∧ n ≤ 40 ∧ (k ≠ 3 → t = 0 ∧ o = 0 ∧ n = 0) := by
 unfold fault at h
 by_cases hk : kindB k = true
 ·rw [if_pos hk] at h
  by_cases hb : boundsB d s a b t o = true
  ·rw [if_pos hb] at h
   by_cases hn : 40 < n
   ·rw [if_pos hn] at h; omega
   ·rw [if_neg hn] at h
    have h1 : 1 ≤ k ∧ k ≤ 3 := by simpa [kindB] using hk
    simp only [boundsB, lifeB, wordB, Bool.and_eq_true, decide_eq_true_eq] at hb
    refine ⟨h1, ⟨hb.1.1.1.1.1, hb.1.1.1.1.2, hb.1.1.1.2, hb.1.1.2, hb.1.2, hb.2⟩, by omega, fun h3 => ?_⟩
    by_cases hl : loadB t o n = true
    ·rw [if_pos ⟨h3, hl⟩] at h; omega
    ·simp only [loadB, decide_eq_true_eq] at hl
     omega
  ·rw [if_neg hb] at h; omega
 ·rw [if_neg hk] at h; omega
theorem fault_is {d s k a b t o : Int} {n : Nat} (hk : 1 ≤ k ∧ k ≤ 3) (h : (0 ≤ d ∧ d ≤ 65535) ∧ (0 ≤ s ∧ s ≤ 65535) ∧ (0 ≤ a ∧ a ≤ 65535) ∧ (0 ≤ b ∧ b ≤ 65535) ∧ (0 ≤ o ∧ o ≤ 65535) ∧ 0 ≤ t ∧ t ≤ 255) (hn : n ≤ 40) (h3 : k ≠ 3 → t = 0 ∧ o = 0 ∧ n = 0) : fault d s k a b t o n = 0 := by
 unfold fault
 rw [if_pos (by simpa [kindB] using hk), if_pos (by simp only [boundsB, lifeB, wordB, Bool.and_eq_true, decide_eq_true_eq]; exact ⟨⟨⟨⟨⟨h.1, h.2.1⟩, h.2.2.1⟩, h.2.2.2.1⟩, h.2.2.2.2.1⟩, h.2.2.2.2.2⟩), if_neg (by omega), if_neg ?_]
 rintro ⟨e, hl⟩
 have := h3 e
 simp only [loadB, decide_eq_true_eq] at hl
 omega
theorem wf_pk {i d s k a b t o n u : Int} {m : Nat} (hf : fault d s k a b t o m = 0) (hi : wordB i = true) (hn : wordB n = true) (hu : wordB u = true) : WF (pkF i d s k a b t o n u) := by
 obtain ⟨h1, h2, h3, h4⟩ := fault_all hf
 rw [word_in] at hi hn hu
 refine wf_of_all rfl ?_
 simp only [pkF, List.all_cons, List.all_nil, Bool.and_true, Bool.and_eq_true, word_in]
 omega
theorem cmL_run {S : List Sw} {P : List Pr} {A : List Ac} {ch : Int} (h : cmE S P A ch = 0) : fsFault (cmL S P A ch) = 0 := by
 obtain ⟨hm, c0, c1⟩ := cmE_zero h
 have hl : (cmL S P A ch).length ≤ 5000 := by
  obtain ⟨h1, h2, h3⟩ := may_parts hm
  have a1 := (sw_all h1).1
  have a2 := (pr_all h1 h2).1
  have a3 := (ac_all h3).1
  have b1 := portsTo_len P (P.filter (hereB ch)) (P.filter (hereB ch)).length
  have b2 := List.length_filter_le (hereB ch) P
  have b3 := List.length_filter_le (fun s : Sw => (P.filter (hereB ch)).any (isOfB s.i)) S
  have b4 := switchesTo_len S P A ch (portsTo P (P.filter (hereB ch)) (P.filter (hereB ch)).length) (S.filter fun s => (P.filter (hereB ch)).any (isOfB s.i)) a2 a3 _ (Nat.le_refl _)
  have b5 := srt_length (comp S P A ch) (comp S P A ch).length
  rw [comp_to] at b5
  unfold cmL
  rw [if_pos h, comp_to]
  omega
 unfold fsFault
 rw [if_neg (by omega)]
 refine fs_all _ fun j hj => comp_may hm c0 c1 _ ?_
 have : (cmL S P A ch).getD j fl0 ∈ cmL S P A ch := by
  rw [List.getD_eq_getElem?_getD, List.getElem?_eq_getElem hj]; exact List.getElem_mem _
 unfold cmL at this ⊢
 rw [if_pos h] at this ⊢
 exact (srt_in _ _).1 this
theorem cmL_in {S : List Sw} {P : List Pr} {A : List Ac} {ch : Int} (h : cmE S P A ch = 0) (g : Fl) : g ∈ cmL S P A ch ↔ g ∈ comp S P A ch := by
 unfold cmL
 rw [if_pos h]
 exact srt_in _ _
theorem cmE_is {S : List Sw} {P : List Pr} {A : List Ac} {ch : Int} (hm : may S P A = true) (h0 : 0 ≤ ch) (h1 : ch ≤ 5) : cmE S P A ch = 0 := by
 unfold cmE
 rw [if_pos hm, if_pos ⟨h0, h1⟩]
theorem runE_zero {fs : List Fl} {F : List Int} {n : Nat} (h : fsFault fs = 0) (hF : WF F) (hn : n ≤ 40) : runE fs F n = 0 := by
 unfold runE pktFault
 rw [if_pos h, if_pos (by
  rw [List.all_eq_true]
  intro x hx
  obtain ⟨i, hi, rfl⟩ := List.getElem_of_mem hx
  have := hF.2 i
  rwa [List.getD_eq_getElem?_getD, List.getElem?_eq_getElem hi] at this), if_neg (by omega)]
def Know (S : List Sw) (P : List Pr) (A : List Ac) (K : Nat → List Fl) : Prop := ∀ i : Nat, i < 6 → K i = cmL S P A i
theorem KD_know (S : List Sw) (P : List Pr) (A : List Ac) : Know S P A (fun i => if i < 6 then cmL S P A i else []) := fun i hi => by simp only [if_pos hi]
section
variable {S : List Sw} {P : List Pr} {A : List Ac} {K : Nat → List Fl}
theorem car_led (hK : Know S P A K) (hm : may S P A = true) {i n u c d s k a b t o : Int} {m : Nat} (hc : 0 ≤ c ∧ c ≤ 5) (hi : wordB i = true) (hn : wordB n = true) (hu : wordB u = true) (hf : fault d s k a b t o m = 0) :
  carE K m (snOf i ⟨n, u, c, [d, s, k, a, b, t, o]⟩) = 0 ∧ carL K m (snOf i ⟨n, u, c, [d, s, k, a, b, t, o]⟩) = if comesB P A c k a b o n u = true then [⟨u, [d, s, k, a, b, t, o]⟩] else [] := by
 obtain ⟨c, rfl⟩ := Int.eq_ofNat_of_zero_le hc.1
 have hE := cmE_is (ch := (c : Int)) hm hc.1 hc.2
 have hKc : K c = cmL S P A c := hK c (by omega)
 have hF := wf_pk (i := 0) hf (by decide) hn hu
 obtain ⟨h1, h2, h3, h4⟩ := fault_all hf
 have hr := ran_tunnel (ch := (c : Int)) (fs := cmL S P A c) hm (cmL_in hE) hF (by omega) h2.2.2.2.2.2.2 (fun h => ⟨(h4 h).1, (h4 h).2.1⟩)
 have hz := runE_zero (cmL_run hE) hF h3
 have hff : ff [i, d, s, k, a, b, t, o, n, u] m = 0 := hf
 have hff0 : ff [0, d, s, k, a, b, t, o, n, u] m = 0 := hf
 have e1 : snOf i ⟨n, u, (c : Int), [d, s, k, a, b, t, o]⟩ = ⟨6, c, [i, d, s, k, a, b, t, o, n, u]⟩ := rfl
 have e2 : thrF [i, d, s, k, a, b, t, o, n, u] = [0, d, s, k, a, b, t, o, n, u] := rfl
 rw [e1]
 unfold carE carL
 simp only [if_true, hff, e2, Int.toNat_natCast, hKc, hz, hr]
 by_cases hcm : comesB P A c k a b o n u = true
 ·simp only [if_pos hcm]
  have hE2 : atE m [⟨5, u, [0, d, s, k, a, b, t, o, n, u]⟩] = 0 := by
   simp [atE, badB, outB, hff0]
  refine ⟨hE2, ?_⟩
  unfold atL
  rw [if_pos hE2]
  rfl
 ·simp only [if_neg hcm]
  exact ⟨rfl, rfl⟩
def GlOk (m : Nat) (g : Gl) : Prop := ∃ d s k a b t o : Int, g.f = [d, s, k, a, b, t, o] ∧ fault d s k a b t o m = 0 ∧ wordB g.n = true ∧ wordB g.u = true ∧ 0 ≤ g.c ∧ g.c ≤ 5
theorem led_ok (hm : may S P A = true) {ch i d s k a b t o : Int} {m : Nat} (hch : 0 ≤ ch ∧ ch ≤ 5) (hi : wordB i = true) (hf : fault d s k a b t o m = 0) : ∀ g ∈ led S P A ch i d s k a b t o, GlOk m g := by
 obtain ⟨hS, hP, hA⟩ := may_parts hm
 have hpr := (pr_all hS hP).2
 have hsw := (sw_all hS).2
 obtain ⟨h1, h2, h3, h4⟩ := fault_all hf
 intro g hg
 unfold led at hg
 cases hfd : P.find? (fun p => p.i == i) with
 | none => rw [hfd] at hg; cases hg
 | some p =>
  rw [hfd] at hg
  simp only at hg
  have hp := List.mem_of_find?_eq_some hfd
  have hpp := hpr p hp
  obtain ⟨hso, hsi⟩ := swOf_in hP hp
  have hss := hsw _ hso
  by_cases hq : p.c = ch ∧ s = p.m ∧ a = p.p
  ·rw [if_pos hq] at hg
   by_cases hk1 : k = 1
   ·rw [if_pos hk1] at hg
    unfold ledA at hg
    obtain ⟨mac, hmac, rfl⟩ := List.mem_map.1 hg
    have hw : 0 ≤ mac ∧ mac ≤ 65535 := by
     rcases List.mem_append.1 hmac with h | h
     ·split at h
      ·obtain rfl : mac = _ := by simpa using h
       omega
      ·cases h
     ·obtain ⟨q, hq, rfl⟩ := List.mem_map.1 h
      have := hpr q (List.mem_filter.1 hq).1
      omega
    have h0 := h4 (by omega)
    refine ⟨_, _, _, _, _, _, _, rfl, fault_is (by omega) ?_ h3 (fun _ => ⟨rfl, rfl, h0.2.2⟩), by rw [word_in]; show 0 ≤ (swOf S p.s).i ∧ (swOf S p.s).i ≤ 65535; omega, hi, hch⟩
    omega
   ·rw [if_neg hk1] at hg
    by_cases hk3 : k = 3 ∧ allowB A (swOf S p.s).i true a b o = true
    ·rw [if_pos hk3] at hg
     obtain ⟨rfl, _⟩ := hk3
     unfold ledD at hg
     rcases List.mem_append.1 hg with h | h
     ·obtain ⟨q, hq2, rfl⟩ := List.mem_map.1 h
      obtain ⟨hq3, hb⟩ := List.mem_filter.1 hq2
      have := hpr q hq3
      have hs := (Bool.and_eq_true _ _ ▸ hb : somewhereB q = true ∧ _).1
      have hs2 : ¬ q.c = -1 := by simpa [somewhereB] using hs
      exact ⟨_, _, _, _, _, _, _, rfl, hf, by rw [word_in]; show 0 ≤ (swOf S p.s).i ∧ (swOf S p.s).i ≤ 65535; omega, by rw [word_in]; show 0 ≤ q.i ∧ q.i ≤ 65535; omega, by show 0 ≤ q.c ∧ q.c ≤ 5; omega⟩
     ·obtain ⟨q, hq2, rfl⟩ := List.mem_map.1 h
      obtain ⟨hq3, hb⟩ := List.mem_filter.1 hq2
      have := hpr q hq3
      have hs := (Bool.and_eq_true _ _ ▸ hb : somewhereB q = true ∧ _)
      have hs2 : ¬ q.c = -1 := by simpa [somewhereB] using hs.1
      have ht : (swOf S p.s).g ≠ 0 ∧ d = 60000 + (swOf S p.s).i ∧ 1 < t := by
       have := (Bool.and_eq_true _ _ ▸ hs.2 : _ ∧ _).1
       simpa using this
      refine ⟨_, _, _, _, _, _, _, rfl, fault_is (by omega) ?_ h3 (fun h => absurd rfl h), by rw [word_in]; show 0 ≤ q.s ∧ q.s ≤ 65535; omega, by rw [word_in]; show 0 ≤ q.i ∧ q.i ≤ 65535; omega, by show 0 ≤ q.c ∧ q.c ≤ 5; omega⟩
      omega
    ·rw [if_neg hk3] at hg; cases hg
  ·rw [if_neg hq] at hg; cases hg
def comeG (P : List Pr) (A : List Ac) (gs : List Gl) : List Ar := gs.flatMap fun g => if comesB P A g.c (g.f.getD 2 0) (g.f.getD 3 0) (g.f.getD 4 0) (g.f.getD 6 0) g.n g.u = true then [⟨g.u, g.f⟩] else []
theorem come_led (hK : Know S P A K) (hm : may S P A = true) {i : Int} {m : Nat} (hi : wordB i = true) : ∀ gs : List Gl, (∀ g ∈ gs, GlOk m g) → comeE K m (gs.map (snOf i)) = 0 ∧ comeL K m (gs.map (snOf i)) = comeG P A gs := fun gs hg => by
 have hall : ∀ g ∈ gs, carE K m (snOf i g) = 0 ∧ carL K m (snOf i g) = if comesB P A g.c (g.f.getD 2 0) (g.f.getD 3 0) (g.f.getD 4 0) (g.f.getD 6 0) g.n g.u = true then [⟨g.u, g.f⟩] else [] := fun g h => by
  obtain ⟨d, s, k, a, b, t, o, e, hf, hn, hu, hc⟩ := hg g h
  obtain ⟨n, u, c, f⟩ := g
  subst e
  exact car_led hK hm hc hi hn hu hf
 constructor
 ·unfold comeE
  rw [List.find?_eq_none.2 (fun x hx => by
   obtain ⟨g, h, rfl⟩ := List.mem_map.1 hx
   simp [comeB, (hall g h).1])]
 ·unfold comeL comeG
  rw [List.flatMap_map]
  clear hg
  induction gs with
  | nil => rfl
  | cons g r ih =>
   rw [List.flatMap_cons, List.flatMap_cons, (hall g (by simp)).2, ih (fun x hx => hall x (by simp [hx]))]
theorem from_port (hP : prsMay S P = true) {p : Pr} (hp : p ∈ P) (hc : p.c ≠ -1) : 0 ≤ idx (sendsB p.i) P ∧ fromP P p.i = p := by
 have hs : sendsB p.i p = true := by simp [sendsB, hc]
 unfold fromP idx
 cases hf : P.findIdx? (sendsB p.i) with
 | none => 
  rw [List.findIdx?_eq_none_iff] at hf
  exact absurd (hf p hp) (by rw [hs]; simp)
 | some j =>
  obtain ⟨hj, hq, _⟩ := List.findIdx?_eq_some_iff_getElem.1 hf
  refine ⟨by simp, ?_⟩
  simp only [Int.toNat_natCast]
  rw [List.getD_eq_getElem?_getD, List.getElem?_eq_getElem hj]
  have he : P[j].i = p.i := by
   simp only [sendsB, Bool.and_eq_true, beq_iff_eq] at hq
   exact hq.1
  exact port_once hP (List.getElem_mem hj) hp he
theorem arr_led (hK : Know S P A K) (hm : may S P A = true) {p : Pr} (hp : p ∈ P) (hc : p.c ≠ -1) {d s k a b t o : Int} {m : Nat} (hf : fault d s k a b t o m = 0) :
  arrE K P p.i d s k a b t o m = 0 ∧ arrL K P p.i d s k a b t o m = comeG P A (led S P A p.c p.i d s k a b t o) := by
 obtain ⟨hS, hP, hA⟩ := may_parts hm
 have hpp := (pr_all hS hP).2 p hp
 obtain ⟨h0, he⟩ := from_port hP hp hc
 have hi : wordB p.i = true := by rw [word_in]; omega
 have hF := wf_pk (i := p.i) (n := 0) (u := 0) hf hi (by decide) (by decide)
 obtain ⟨h1, h2, h3, h4⟩ := fault_all hf
 obtain ⟨c, hcc⟩ := Int.eq_ofNat_of_zero_le (show 0 ≤ p.c by omega)
 have hE := cmE_is (ch := p.c) hm (by omega) (by omega)
 have hKc : K p.c.toNat = cmL S P A p.c := by
  have := hK c (by omega)
  rw [hcc, Int.toNat_natCast]; exact this
 have hr := ran_port (ch := p.c) (fs := cmL S P A p.c) hm (cmL_in hE) (i := p.i) (by omega) hF (by omega) h2.2.2.2.2.2.2 (fun h => ⟨(h4 h).1, (h4 h).2.1⟩)
 have hz := runE_zero (cmL_run hE) hF h3
 have hpk : pkE d s k a b t o m p.i 0 0 = 0 := by
  unfold pkE
  rw [if_pos hf]
  have := hz
  unfold runE at this
  rwa [if_pos (cmL_run hE)] at this
 obtain ⟨e1, e2⟩ := come_led hK hm hi (led S P A p.c p.i d s k a b t o) (led_ok hm ⟨by omega, by omega⟩ hi hf)
 have hA0 : arrE K P p.i d s k a b t o m = 0 := by
  unfold arrE
  rw [if_neg (by omega), if_pos hpk, he, hKc, if_pos hz, hr]
  exact e1
 refine ⟨hA0, ?_⟩
 unfold arrL
 rw [if_pos hA0, he, hKc, hr]
 exact e2
end
end Go.Proofs.YtncdininppehkaaGreat

namespace Go.Proofs.YtncdininppehkaaGreat
open Go.RowKit
set_option linter.unusedVariables false
set_option maxRecDepth 100000
theorem idx_some {α : Type} {p : α → Bool} (d : α) {l : List α} (h : 0 ≤ idx p l) : ∃ k : Nat, k < l.length ∧ idx p l = k ∧ p (l.getD k d) = true := by
 unfold idx at h ⊢
 cases hf : l.findIdx? p with
 | none => rw [hf] at h; simp at h
 | some k =>
  obtain ⟨hk, hp, _⟩ := List.findIdx?_eq_some_iff_getElem.1 hf
  exact ⟨k, hk, rfl, by rw [List.getD_eq_getElem?_getD, List.getElem?_eq_getElem hk]; exact hp⟩
set_option maxHeartbeats 8000000 in
theorem arrivals_any (ks : List Value) (K : Nat → List Fl) (s1 p1 a1 : Option Addr) (s0 s2 p2 a0 a2 : Nat) (P : List Pr) (id dst src kind ips ipd ttl port : Int) (body : ByteArray) (w : World) (hK : KAt w ks K) (hP : PrsAt w (.slice p1 P.length p2) P) (hl : P.length ≤ 100000) (hc : ∀ p ∈ P, p.c = -1 ∨ 0 ≤ p.c ∧ p.c ≤ 5) (hb : body.size ≤ maxLen)
  (hS : arrE K P id dst src kind ips ipd ttl port body.size = 0 → SortsAr (arrL K P id dst src kind ips ipd ttl port body.size)) :
  Calls Tryz.prog 48 #[.agg ks.toArray, .agg #[.slice s1 s0 s2, .slice p1 P.length p2, .slice a1 a0 a2], .int .i64 id, fr dst src kind ips ipd ttl port body] w fun e w' => ∃ u, e = .returned (.tuple #[u, .int .i64 (arrE K P id dst src kind ips ipd ttl port body.size)]) ∧ ∃ l', (l'.Perm (arrL K P id dst src kind ips ipd ttl port body.size) ∧ ByPort l' ∧ w'.ownsRow w.heap.size 56 9 u l'.length (AR body l')) ∧ Below w.heap.size w w' := by
 obtain ⟨i0, hi, hz0, hz1, hz2⟩ := info_parts infoAr
 have HK := hide hK
 obtain ⟨k0, k1, k2, k3, k4, k5, rfl⟩ := six hK.1
 have HP := hide hP
 have HC := hide hc
 have HS := hide hS
 clear hK hP hc hS
 have HAE : Hid (arrE K P id dst src kind ips ipd ttl port body.size = if idx (sendsB id) P < 0 then 6 else if pkE dst src kind ips ipd ttl port body.size id 0 0 = 0 then (if runE (K (fromP P id).c.toNat) [id, dst, src, kind, ips, ipd, ttl, port, 0, 0] body.size = 0 then comeE K body.size (ran (K (fromP P id).c.toNat) [id, dst, src, kind, ips, ipd, ttl, port, 0, 0]) else runE (K (fromP P id).c.toNat) [id, dst, src, kind, ips, ipd, ttl, port, 0, 0] body.size) else pkE dst src kind ips ipd ttl port body.size id 0 0) := rfl
 have HAL : Hid (arrL K P id dst src kind ips ipd ttl port body.size = if arrE K P id dst src kind ips ipd ttl port body.size = 0 then comeL K body.size (ran (K (fromP P id).c.toNat) [id, dst, src, kind, ips, ipd, ttl, port, 0, 0]) else []) := rfl
 obtain ⟨W0, hW0⟩ : ∃ W0, W0 = ((((w.alloc (.cells #[k0, k1, k2, k3, k4, k5] 106)).alloc (.cells #[.slice s1 s0 s2, .slice p1 P.length p2, .slice a1 a0 a2] 29)).alloc (.cells #[.int .i64 id] 3)).alloc (.cells #[.int .i64 dst, .int .i64 src, .int .i64 kind, .int .i64 ips, .int .i64 ipd, .int .i64 ttl, .int .i64 port, .string body] 37)) := ⟨_, rfl⟩
 have kb : Below w.heap.size w W0 := by rw [hW0]; exact ((((Below.refl _ w).alloc (Nat.le_refl _) _).alloc (by simp) _).alloc (by simp; omega) _).alloc (by simp; omega) _
 have HKB : Hid (Box W0 w.heap.size [k0, k1, k2, k3, k4, k5]) := by rw [hW0]; have h := (((Box.new w [k0, k1, k2, k3, k4, k5] 106).alloc (.cells #[.slice s1 s0 s2, .slice p1 P.length p2, .slice a1 a0 a2] 29)).alloc (.cells #[.int .i64 id] 3)).alloc (.cells #[.int .i64 dst, .int .i64 src, .int .i64 kind, .int .i64 ips, .int .i64 ipd, .int .i64 ttl, .int .i64 port, .string body] 37); simpa using hide h
 have HCB : Hid (Box W0 (w.heap.size + 1) [.slice s1 s0 s2, .slice p1 P.length p2, .slice a1 a0 a2]) := by rw [hW0]; have h := ((Box.new (w.alloc (.cells #[k0, k1, k2, k3, k4, k5] 106)) [.slice s1 s0 s2, .slice p1 P.length p2, .slice a1 a0 a2] 29).alloc (.cells #[.int .i64 id] 3)).alloc (.cells #[.int .i64 dst, .int .i64 src, .int .i64 kind, .int .i64 ips, .int .i64 ipd, .int .i64 ttl, .int .i64 port, .string body] 37); simpa using hide h
 have HIB : Hid (Box W0 (w.heap.size + 1 + 1) [.int .i64 id]) := by rw [hW0]; have h := (Box.new ((w.alloc (.cells #[k0, k1, k2, k3, k4, k5] 106)).alloc (.cells #[.slice s1 s0 s2, .slice p1 P.length p2, .slice a1 a0 a2] 29)) [.int .i64 id] 3).alloc (.cells #[.int .i64 dst, .int .i64 src, .int .i64 kind, .int .i64 ips, .int .i64 ipd, .int .i64 ttl, .int .i64 port, .string body] 37); simpa using hide h
 have HFB : Hid (Box W0 (w.heap.size + 1 + 1 + 1) [.int .i64 dst, .int .i64 src, .int .i64 kind, .int .i64 ips, .int .i64 ipd, .int .i64 ttl, .int .i64 port, .string body]) := by rw [hW0]; have h := Box.new (((w.alloc (.cells #[k0, k1, k2, k3, k4, k5] 106)).alloc (.cells #[.slice s1 s0 s2, .slice p1 P.length p2, .slice a1 a0 a2] 29)).alloc (.cells #[.int .i64 id] 3)) [.int .i64 dst, .int .i64 src, .int .i64 kind, .int .i64 ips, .int .i64 ipd, .int .i64 ttl, .int .i64 port, .string body] 37; simpa using hide h
 have HW0 : Hid (((((w.alloc (.cells #[k0, k1, k2, k3, k4, k5] 106)).alloc (.cells #[.slice s1 s0 s2, .slice p1 P.length p2, .slice a1 a0 a2] 29)).alloc (.cells #[.int .i64 id] 3)).alloc (.cells #[.int .i64 dst, .int .i64 src, .int .i64 kind, .int .i64 ips, .int .i64 ipd, .int .i64 ttl, .int .i64 port, .string body] 37)) = W0) := hW0.symm
 clear hW0
 replace HK := hide (HK.out.below kb)
 replace HP := hide (RowAt.below HP.out kb (Nat.le_refl _))
 have c1 := HCB.out.cell 1 _ rfl
 have ci := HIB.out.cell 0 _ rfl
 go_enter Tryz.func48, Tryz.ntmps48
 go_wp2_with (rw [HW0.out])
 refine (idxGPr_any P (sendsB id) _ _ _ _ HP.out (sends_any id _ _ ci) ent_sends (by omega)).mono ?_
 rintro e w1 ⟨rfl, hb1⟩
 clear HW0 c1 ci
 replace HKB := hide (HKB.out.below hb1)
 replace HCB := hide (HCB.out.below hb1)
 replace HIB := hide (HIB.out.below hb1)
 replace HFB := hide (HFB.out.below hb1)
 replace HK := hide (HK.out.below hb1)
 replace HP := hide (RowAt.below HP.out hb1 (Nat.le_refl _))
 replace kb := kb.trans (hb1.mono kb.size)
 clear hb1
 by_cases hix : idx (sendsB id) P < 0
 ·rw [if_pos hix] at HAE
  go_wp2_with fail
  rw [HAE.out]
  go_ret2
  exact ⟨_, rfl, [], ⟨by rw [HAL.out, HAE.out]; exact List.Perm.refl _, List.Pairwise.nil, World.ownsRow_nil _ _ _ _⟩, kb⟩
 ·rw [if_neg hix] at HAE
  obtain ⟨k, hk, hke, hks⟩ := idx_some pr0 (Int.not_lt.1 hix)
  have HFP : Hid (fromP P id = P.getD k pr0) := by unfold fromP; rw [hke]; exact hide rfl
  rw [HFP.out] at HAE HAL
  have hcc : 0 ≤ (P.getD k pr0).c ∧ (P.getD k pr0).c ≤ 5 := by
   rcases HC.out _ (show P.getD k pr0 ∈ P by rw [List.getD_eq_getElem?_getD, List.getElem?_eq_getElem hk]; exact List.getElem_mem hk) with h | h
   ·unfold sendsB at hks; rw [h] at hks; simp at hks
   ·exact h
  clear hks HC HFP
  rw [hke] at hix ⊢
  clear hke
  have q0 : (0 : Int) ≤ (k : Int) := by omega
  have q1 : (k : Int) < (P.length : Int) := by omega
  have HPK := hide (fun W => pPacket_any dst src kind ips ipd ttl port body id 0 0 W hb)
  generalize hE : pkE dst src kind ips ipd ttl port body.size id 0 0 = E at *
  have ci := HIB.out.cell 0 _ rfl
  go_wp2_with (refine wpList_load_mid rfl 37 (.tmp 7) rfl (w.heap.size + 1 + 1 + 1) 0 rfl _ _ HFB.out.range Tryz.underlying37 rfl sizeFr ?_)
  refine (unhide HPK _).mono ?_
  rintro e w2 ⟨rfl, hb2⟩
  clear ci HPK
  replace HKB := hide (HKB.out.below hb2)
  replace HCB := hide (HCB.out.below hb2)
  replace HIB := hide (HIB.out.below hb2)
  replace HFB := hide (HFB.out.below hb2)
  replace HK := hide (HK.out.below hb2)
  replace HP := hide (RowAt.below HP.out hb2 (Nat.le_refl _))
  replace kb := kb.trans (hb2.mono kb.size)
  clear hb2
  by_cases hE0 : E = 0
  ·subst hE0
   rw [if_pos rfl] at HAE ⊢
   clear hE
   obtain ⟨W3, hW3⟩ : ∃ W3, W3 = w2.alloc (.cells #[.int .i64 id, .int .i64 dst, .int .i64 src, .int .i64 kind, .int .i64 ips, .int .i64 ipd, .int .i64 ttl, .int .i64 port, .int .i64 0, .int .i64 0, .string body] 41) := ⟨_, rfl⟩
   have hbN : Below w2.heap.size w2 W3 := by rw [hW3]; exact (Below.refl _ _).alloc (Nat.le_refl _) _
   have HPB : Hid (Box W3 w2.heap.size [.int .i64 id, .int .i64 dst, .int .i64 src, .int .i64 kind, .int .i64 ips, .int .i64 ipd, .int .i64 ttl, .int .i64 port, .int .i64 0, .int .i64 0, .string body]) := by rw [hW3]; exact hide (Box.new w2 [.int .i64 id, .int .i64 dst, .int .i64 src, .int .i64 kind, .int .i64 ips, .int .i64 ipd, .int .i64 ttl, .int .i64 port, .int .i64 0, .int .i64 0, .string body] 41)
   replace HKB := hide (HKB.out.below hbN)
   replace HCB := hide (HCB.out.below hbN)
   replace HIB := hide (HIB.out.below hbN)
   replace HFB := hide (HFB.out.below hbN)
   replace HK := hide (HK.out.below hbN)
   replace HP := hide (RowAt.below HP.out hbN (Nat.le_refl _))
   replace kb := kb.trans (hbN.mono kb.size)
   have HW3 := hide hW3.symm
   clear hbN hW3
   obtain ⟨pb, off, cap, e1, hcap, -, g0, g1, g2, g3, g4⟩ := pr_at HP.out hk
   simp only [Value.slice.injEq, true_and] at e1
   obtain ⟨rfl, rfl⟩ := e1
   clear g0 g1 g2 g3
   generalize (P.getD k pr0).c = cc at *
   obtain ⟨m, rfl⟩ := Int.eq_ofNat_of_zero_le hcc.1
   have hm6 : m < 6 := by omega
   simp only [Int.toNat_natCast] at HAE HAL
   obtain ⟨kv, hkv⟩ := six_at HK.out.1 hm6
   have HF := hide (HK.out.2 m hm6 kv hkv).1
   have HLN := hide (HK.out.2 m hm6 kv hkv).2
   have ck := HKB.out.cell m kv hkv
   have c1 := HCB.out.cell 1 _ rfl
   obtain ⟨fa, fc, rfl, _⟩ := HF.out
   clear hkv
   have q2 : (0 : Int) ≤ (m : Int) := by omega
   have q3 : (m : Int) < 6 := by omega
   go_wp2_with (rw [HW3.out])
   clear HW3
   refine wp_region_held_drew (S := (fun w' => w'.cell? ⟨w.heap.size + 1, 1, none⟩ = some (.slice (some ⟨pb, off, none⟩) P.length p2) ∧ w'.cell? ⟨pb, off + k * 5 + 4, none⟩ = some (.int .i64 (m : Int)) ∧ w'.cell? ⟨w.heap.size, m, none⟩ = some (.slice fa (K m).length fc) ∧ w'.rangeAt w2.heap.size 0 [.int .i64 id, .int .i64 dst, .int .i64 src, .int .i64 kind, .int .i64 ips, .int .i64 ipd, .int .i64 ttl, .int .i64 port, .int .i64 0, .int .i64 0, .string body])) (by kernel_rfl) ⟨c1, g4, ck, HPB.out.range⟩ (fun hHeld => ?_)
   refine tk (i := 0) (d := 35) rfl (by kernel_rfl) (fun _ _ _ h => h) rfl ‹_› (by intro w h; (try dsimp only at h); go_simp <;> with_reducible rfl) ?_
   simp only [nz]
   refine tk (i := 1) (d := 36) rfl (by kernel_rfl) (fun _ _ _ h => h) rfl ‹_› (by intro w h; (try dsimp only at h); go_simp <;> with_reducible rfl) ?_
   simp only [nz]
   refine tk (i := 2) (d := 37) rfl (by kernel_rfl) (fun _ _ _ h => h) rfl ‹_› (by intro w h; (try dsimp only at h); go_simp <;> with_reducible rfl) ?_
   simp only [nz]
   refine tk (i := 3) (d := 38) rfl (by kernel_rfl) (fun _ _ _ h => h) rfl ‹_› (by intro w h; (try dsimp only at h); go_simp <;> with_reducible rfl) ?_
   simp only [nz]
   refine tk (i := 4) (d := 39) rfl (by kernel_rfl) (fun _ _ _ h => h) rfl ‹_› (by intro w h; (try dsimp only at h); go_simp <;> with_reducible rfl) ?_
   simp only [nz]
   refine tk (i := 5) (d := 40) rfl (by kernel_rfl) (fun _ _ _ h => h) rfl ‹_› (by intro w h; (try dsimp only at h); go_simp <;> with_reducible rfl) ?_
   simp only [nz]
   refine tk (i := 6) (d := 41) rfl (by kernel_rfl) (fun _ _ _ h => h) rfl ‹_› (by intro w h; (try dsimp only at h); go_simp <;> with_reducible rfl) ?_
   simp only [nz]
   refine tk (i := 7) (d := 42) rfl (by kernel_rfl) (fun _ _ _ h => h) rfl ‹_› (by intro w h; (try dsimp only at h); go_simp <;> with_reducible rfl) ?_
   simp only [nz]
   refine wpAnyH_take (i := 8) (oi := ⟨some 43, _, _, _, _, _⟩) (v := .agg #[.int .i64 id, .int .i64 dst, .int .i64 src, .int .i64 kind, .int .i64 ips, .int .i64 ipd, .int .i64 ttl, .int .i64 port, .int .i64 0, .int .i64 0, .string body]) rfl (by kernel_rfl) (by kernel_rfl) (by kernel_rfl) (fun _ _ _ h => h) (yieldsIf_load_mid (by rfl) 41 (.tmp 11) rfl w2.heap.size 0 rfl [.int .i64 id, .int .i64 dst, .int .i64 src, .int .i64 kind, .int .i64 ips, .int .i64 ipd, .int .i64 ttl, .int .i64 port, .int .i64 0, .int .i64 0, .string body] _ (fun w h => h.2.2.2) Tryz.underlying41 rfl sizePkt) (by assumption) ?_
   (try simp only [nz])
   refine rd (i := 9) (o := ⟨some 44, _, _, _, _, _⟩) (by kernel_rfl) rfl (fun Kk hKk => ?_)
   go_simp
   have hbD : Below W3.heap.size W3 W3.drew := (Below.refl _ _).drew
   refine (fRun_any id dst src kind ips ipd ttl port 0 0 body _ (K m) W3.drew (HF.out.below hbD (Nat.le_refl _)) hb HLN.out).mono ?_
   rintro e w4 ⟨v4, rfl, ho4, hb4⟩
   have hb34 : Below W3.heap.size W3 w4 := hbD.trans hb4
   have HO := hide ho4
   have sN : w.heap.size ≤ W3.drew.heap.size := kb.size
   go_wp2_with fail
   refine hKk.out _ _ ⟨cell_beh c1 hb34 (Nat.le_refl _), cell_beh g4 hb34 (Nat.le_refl _), cell_beh ck hb34 (Nat.le_refl _), range_below HPB.out.range hb34 HPB.out.lt⟩ (fun hHeld => ?_)
   clear hKk Kk
   (try simp only [nz])
   refine tk (i := 10) (d := 34) rfl (by kernel_rfl) (fun _ _ _ h => h) rfl ‹_› (by intro w h; (try dsimp only at h); go_simp <;> with_reducible rfl) ?_
   simp only [nz]
   refine tk (i := 11) (d := 45) rfl (by kernel_rfl) (fun _ _ _ h => h) rfl ‹_› (by intro w h; (try dsimp only at h); go_simp <;> with_reducible rfl) ?_
   simp only [nz]
   refine tk (i := 12) (d := 46) rfl (by kernel_rfl) (fun _ _ _ h => h) rfl ‹_› (by intro w h; (try dsimp only at h); go_simp <;> with_reducible rfl) ?_
   simp only [nz]
   refine tk (i := 13) (d := 13) rfl (by kernel_rfl) (fun _ _ _ h => h) rfl ‹_› (by intro w h; (try dsimp only at h); go_simp <;> with_reducible rfl) ?_
   simp only [nz]
   refine tk (i := 14) (d := 12) rfl (by kernel_rfl) (fun _ _ _ h => h) rfl ‹_› (by intro w h; (try dsimp only at h); go_simp <;> with_reducible rfl) ?_
   simp only [nz]
   refine wpAnyH_done (by kernel_rfl) ?_ _
   replace HKB := hide (HKB.out.below hb34)
   replace HCB := hide (HCB.out.below hb34)
   replace HIB := hide (HIB.out.below hb34)
   replace HFB := hide (HFB.out.below hb34)
   replace HK := hide (HK.out.below hb34)
   replace HP := hide (RowAt.below HP.out hb34 (Nat.le_refl _))
   replace kb := kb.trans (hb34.mono kb.size)
   clear hHeld ho4 hb4 hbD hb34 ck c1 g4 HPB HF HLN
   have HRL : Hid (runE (K m) [id, dst, src, kind, ips, ipd, ttl, port, 0, 0] body.size = 0 → runL (K m) [id, dst, src, kind, ips, ipd, ttl, port, 0, 0] body.size = ran (K m) [id, dst, src, kind, ips, ipd, ttl, port, 0, 0]) := fun h => by unfold runL; rw [if_pos h]
   have HRO : Hid (runE (K m) [id, dst, src, kind, ips, ipd, ttl, port, 0, 0] body.size = 0 → OutOk (ran (K m) [id, dst, src, kind, ips, ipd, ttl, port, 0, 0]) ∧ (ran (K m) [id, dst, src, kind, ips, ipd, ttl, port, 0, 0]).length ≤ 1000000) := fun h => ran_out rfl h
   generalize hR : runE (K m) [id, dst, src, kind, ips, ipd, ttl, port, 0, 0] body.size = R at *
   by_cases hR0 : R = 0
   ·subst hR0
    rw [HRL.out rfl] at HO
    rw [if_pos rfl] at HAE
    obtain ⟨HOK, hll⟩ := HRO.out rfl
    replace HOK := hide HOK
    clear hR HRL HRO
    generalize ran (K m) [id, dst, src, kind, ips, ipd, ttl, port, 0, 0] = l at *
    have hs4 := kb.size
    replace HO := hide (own_less HO.out sN)
    have HL := HO
    obtain ⟨oo, oc, rfl, hoc, hg⟩ := own_formA HO.out
    clear HO
    have hle : comeE K body.size l = 0 → (comeL K body.size l).length ≤ 1000000 * l.length := fun _ => come_len l
    clear hle
    go_wp2_with fail
    go_loopw [14, 52] (fun u i wr => ∃ j : Nat, j ≤ l.length ∧ i = .int .i64 j ∧ Hid (wr.ownsRow w4.heap.size 56 9 u (comeL K body.size (l.take j)).length (AR body (comeL K body.size (l.take j)))) ∧ Hid ((l.take j).find? (comeB K body.size) = none) ∧ Below w4.heap.size w4 wr) (fun _ i _ => l.length - (intOf i).toNat)
    case atStart => exact ⟨0, by omega, rfl, hide (by simpa [comeL, AR] using World.ownsRow_nil w4 w4.heap.size 56 9), hide rfl, Below.refl _ _⟩
    case round =>
     obtain ⟨j, hj, rfl, HO, HBAD, hbr⟩ := hrel
     have sr : w4.heap.size ≤ wr.heap.size := hbr.size
     by_cases hlt : j < l.length
     ·obtain ⟨g, rfl, hgB, hgw⟩ := hg (by omega)
      have R0 := hide (range_below (own_range (C := snC body) (fun _ => rfl) snz HL.out hlt) hbr hgw)
      have HN := hide (come_next (K := K) (n := body.size) hlt)
      have HB1 := hide (comeB_next (K := K) (n := body.size) hlt HBAD.out)
      have HB2 := hide (comeB_at (K := K) (n := body.size) hlt HBAD.out)
      have hlen := come_len (K := K) (n := body.size) (l.take j)
      have hlt2 : (l.take j).length ≤ 1000000 := by rw [List.length_take]; omega
      have hcl := car_len (K := K) (n := body.size) (l.getD j snz)
      have HOX : Hid (SnOk (l.getD j snz)) := HOK.out _ (by rw [List.getD_eq_getElem?_getD, List.getElem?_eq_getElem hlt]; exact List.getElem_mem hlt)
      obtain ⟨o1, o2, rfl⟩ := own_slc HO.out
      obtain ⟨N, hN⟩ : ∃ N, N = (comeL K body.size (l.take j)).length := ⟨_, rfl⟩
      rw [← hN] at HO hlen ⊢
      have HNN := hide hN
      clear hN HBAD
      generalize l.getD j snz = x at *
      have q4 : (0 : Int) ≤ (j : Int) := by omega
      have q5 : (j : Int) < (l.length : Int) := by omega
      have HCR := hide (fun W (h : KAt W [k0, k1, k2, k3, k4, k5] K) => carried_any [k0, k1, k2, k3, k4, k5] K x body W h HOX.out hb)
      have HXC : Hid (snC body x = [.int .i64 x.k, .int .i64 x.n, .int .i64 (x.F.getD 0 0), .int .i64 (x.F.getD 1 0), .int .i64 (x.F.getD 2 0), .int .i64 (x.F.getD 3 0), .int .i64 (x.F.getD 4 0), .int .i64 (x.F.getD 5 0), .int .i64 (x.F.getD 6 0), .int .i64 (x.F.getD 7 0), .int .i64 (x.F.getD 8 0), .int .i64 (x.F.getD 9 0), .string body]) := rfl
      rw [HXC.out] at R0 HCR
      clear HXC HOX
      generalize x.F.getD 0 0 = y0 at *
      generalize x.F.getD 1 0 = y1 at *
      generalize x.F.getD 2 0 = y2 at *
      generalize x.F.getD 3 0 = y3 at *
      generalize x.F.getD 4 0 = y4 at *
      generalize x.F.getD 5 0 = y5 at *
      generalize x.F.getD 6 0 = y6 at *
      generalize x.F.getD 7 0 = y7 at *
      generalize x.F.getD 8 0 = y8 at *
      generalize x.F.getD 9 0 = y9 at *
      generalize x.n = xn at *
      generalize x.k = xk at *
      obtain ⟨W5, hW5⟩ : ∃ W5, W5 = wr.alloc (.cells #[.int .i64 xk, .int .i64 xn, .int .i64 y0, .int .i64 y1, .int .i64 y2, .int .i64 y3, .int .i64 y4, .int .i64 y5, .int .i64 y6, .int .i64 y7, .int .i64 y8, .int .i64 y9, .string body] 145) := ⟨_, rfl⟩
      have hb5 : Below wr.heap.size wr W5 := by rw [hW5]; exact (Below.refl _ _).alloc (Nat.le_refl _) _
      have HSB : Hid (Box W5 wr.heap.size [.int .i64 xk, .int .i64 xn, .int .i64 y0, .int .i64 y1, .int .i64 y2, .int .i64 y3, .int .i64 y4, .int .i64 y5, .int .i64 y6, .int .i64 y7, .int .i64 y8, .int .i64 y9, .string body]) := by rw [hW5]; exact hide (Box.new wr [.int .i64 xk, .int .i64 xn, .int .i64 y0, .int .i64 y1, .int .i64 y2, .int .i64 y3, .int .i64 y4, .int .i64 y5, .int .i64 y6, .int .i64 y7, .int .i64 y8, .int .i64 y9, .string body] 145)
      have hb45 : Below w4.heap.size w4 W5 := hbr.trans (hb5.mono sr)
      have HKB5 := hide (HKB.out.below hb45)
      have HK5 := hide (HK.out.below hb45)
      replace HO := zO HO hb5
      have HW5 := hide hW5.symm
      clear hW5 hb5
      go_wp2_with (first | rw [HW5.out] | (refine wpList_load_mid rfl 145 (.tmp 54) rfl g (j * 13) rfl _ _ R0.out Tryz.underlying145 rfl sizeSent ?_) | (refine wpList_load_mid rfl 145 (.tmp 16) rfl wr.heap.size 0 rfl _ _ HSB.out.range Tryz.underlying145 rfl sizeSent ?_) | (refine wpList_load_mid rfl 106 (.tmp 4) rfl w.heap.size 0 rfl _ _ HKB5.out.range Tryz.underlying106 rfl sizeKn ?_))
      refine (unhide HCR _ HK5.out).mono ?_
      rintro e w6 ⟨u6, rfl, ho6, hb6⟩
      have HO6 := hide ho6
      replace HO := zO HO hb6
      have hb46 : Below w4.heap.size w4 w6 := hb45.trans (hb6.mono hb45.size)
      have s46 : w4.heap.size ≤ w6.heap.size := hb46.size
      clear ho6 hb6 hb45 HCR R0 HSB HKB5 HK5 HW5 hbr
      obtain ⟨o3, o4, rfl, _⟩ := own_formA HO6.out
      generalize hCE : carE K body.size x = CE at *
      by_cases hC0 : CE = 0
      ·subst hC0
       have HBD := HB1
       clear HB1 HB2 hCE
       go_wp2_with (at_builtin; refine wpList_append_rows rfl _ _ 51 rfl w4.heap.size 56 i0 _ 9 80 Tryz.underlying51 hi hz0 hz1 hz2 rfl (by decide) _ _ _ rfl HO.out _ _ _ _ rfl HO6.out (AR_one _ _) ?a1 ?a2 s46 ?_)
       case a1 => unfold maxLen; omega
       case a2 => omega
       intro v7 w7 ho7 hg7
       have hb7 : Below w4.heap.size w4 w7 := hb46.grown hg7 s46 (own_ge HO.out)
       have HE7 : Hid (w7.ownsRow w4.heap.size 56 9 v7 (comeL K body.size (l.take (j + 1))).length (AR body (comeL K body.size (l.take (j + 1))))) := by
        refine hide ?_
        rw [HN.out, List.length_append, ← HNN.out, AR_app]
        exact ho7
       clear ho7 hg7 HO HO6
       go_wp2_with fail
       go_roundw
       case rel => exact ⟨j + 1, by omega, by go_num, HE7, HBD.out trivial, hb7⟩
       case measure => simp [intOf]; omega
      ·have hCb : (CE != 0) = true := by simpa using hC0
       have HCE := hide (HB2.out hC0)
       clear HB1 HB2
       rw [HCE.out] at HAE
       have hAL : arrL K P id dst src kind ips ipd ttl port body.size = [] := by rw [HAL.out, HAE.out, if_neg hC0]
       have HAL2 := hide hAL
       clear hAL
       go_wp2_with fail
       rw [HAE.out]
       go_ret2
       exact ⟨_, rfl, [], ⟨by rw [HAL2.out], List.Pairwise.nil, World.ownsRow_nil _ _ _ _⟩, kb.trans (hb46.mono hs4)⟩
     ·have hje : j = l.length := by omega
      subst hje
      rw [List.take_length] at HO HBAD
      have hE0 : comeE K body.size l = 0 := by unfold comeE; rw [HBAD.out]
      rw [hE0] at HAE
      have HAL2 : Hid (arrL K P id dst src kind ips ipd ttl port body.size = comeL K body.size l) := by rw [HAL.out, if_pos HAE.out]; exact hide rfl
      have HSS := hide (HS.out HAE.out)
      rw [HAL2.out] at HSS
      clear HS HBAD hE0
      obtain ⟨o1, o2, rfl⟩ := own_slc HO.out
      have hkk : ¬ ((l.length : Int) < (l.length : Int)) := by omega
      go_wp2_with fail
      refine (HSS.out body _ _ _ HO.out sr).mono ?_
      rintro e w8 ⟨rfl, l8, hp8, hs8, ho8, hg8⟩
      have HP8 := hide hp8
      have HS8 := hide hs8
      have HO8 := hide ho8
      have kb8 : Below w.heap.size w w8 := (kb.trans (hbr.mono hs4)).grown hg8 (by omega) (fun k hk => Nat.le_trans hs4 (own_ge HO.out k hk))
      clear hp8 hs8 ho8 hg8
      go_wp2_with fail
      rw [HAE.out, HAL2.out]
      go_ret2
      exact ⟨_, rfl, l8, ⟨HP8.out, HS8.out, by rw [HP8.out.length_eq]; exact own_less HO8.out hs4⟩, kb8⟩
   ·rw [if_neg hR0] at HAE
    have hRb : (R != 0) = true := by simpa using hR0
    obtain ⟨oo, oc, rfl, _⟩ := own_formA HO.out
    go_wp2_with fail
    rw [HAE.out]
    go_ret2
    exact ⟨_, rfl, [], ⟨by rw [HAL.out, HAE.out, if_neg hR0], List.Pairwise.nil, World.ownsRow_nil _ _ _ _⟩, kb⟩
  ·rw [if_neg hE0] at HAE ⊢
   have hEb : (E != 0) = true := by simpa using hE0
   go_wp2_with fail
   rw [HAE.out]
   go_ret2
   exact ⟨_, rfl, [], ⟨by rw [HAL.out, HAE.out, if_neg hE0], List.Pairwise.nil, World.ownsRow_nil _ _ _ _⟩, kb.alloc kb.size _⟩
end Go.Proofs.YtncdininppehkaaGreat

namespace Go.Proofs.YtncdininppehkaaGreat
open Go.RowKit
set_option linter.unusedVariables false
set_option maxRecDepth 100000
def KD (S : List Sw) (P : List Pr) (A : List Ac) (k : Nat) (i : Nat) : List Fl := if i < k then cmL S P A i else []
def delE (S : List Sw) (P : List Pr) (A : List Ac) (id dst src kind ips ipd ttl port : Int) (n : Nat) : Int := if may S P A = true then arrE (KD S P A 6) P id dst src kind ips ipd ttl port n else 8
def delL (S : List Sw) (P : List Pr) (A : List Ac) (id dst src kind ips ipd ttl port : Int) (n : Nat) : List Ar := if may S P A = true then arrL (KD S P A 6) P id dst src kind ips ipd ttl port n else []
theorem KD_next {S : List Sw} {P : List Pr} {A : List Ac} {k : Nat} (h : cmE S P A k = 0) : synK S P A (KD S P A k) k = KD S P A (k + 1) := by
 unfold synK
 rw [if_pos h]
 funext i
 unfold KD
 by_cases e : i = k
 ·subst e; simp
 ·by_cases l : i < k
  ·rw [if_neg (by simpa using e), if_pos l, if_pos (by omega)]
  ·rw [if_neg (by simpa using e), if_neg l, if_neg (by omega)]
theorem KD_ok {S : List Sw} {P : List Pr} {A : List Ac} {k : Nat} (h : k = 0 ∨ may S P A = true) (hk : k ≤ 6) : Kok (KD S P A k) := by
 intro i
 unfold KD
 by_cases l : i < k
 ·rw [if_pos l]
  have hm : may S P A = true := by rcases h with h | h; omega; exact h
  exact cmL_ok (by unfold cmE; rw [if_pos hm, if_pos (by omega)])
 ·rw [if_neg l]; exact ⟨⟨List.Pairwise.nil, by simp⟩, by simp, by simp⟩
set_option maxHeartbeats 4000000 in
theorem deliver_any (S : List Sw) (P : List Pr) (A : List Ac) (s1 p1 a1 : Option Addr) (s2 p2 a2 : Nat) (id dst src kind ips ipd ttl port : Int) (body : ByteArray) (w : World) (hC : CfAt w (.slice s1 S.length s2) (.slice p1 P.length p2) (.slice a1 A.length a2) S P A) (h1 : S.length ≤ 1000) (h2 : P.length ≤ 1000) (h3 : A.length ≤ 1000) (hSA : ∀ s b, SortsAc (rulesB A s b)) (hb : body.size ≤ maxLen)
  (hS : may S P A = true → arrE (KD S P A 6) P id dst src kind ips ipd ttl port body.size = 0 → SortsAr (arrL (KD S P A 6) P id dst src kind ips ipd ttl port body.size)) :
  Calls Tryz.prog 18 #[.agg #[.slice s1 S.length s2, .slice p1 P.length p2, .slice a1 A.length a2], .int .i64 id, fr dst src kind ips ipd ttl port body] w fun e w' => ∃ u, e = .returned (.tuple #[u, .int .i64 (delE S P A id dst src kind ips ipd ttl port body.size)]) ∧ ∃ l', (l'.Perm (delL S P A id dst src kind ips ipd ttl port body.size) ∧ ByPort l' ∧ w'.ownsRow w.heap.size 56 9 u l'.length (AR body l')) ∧ Below w.heap.size w w' := by
 have HSA := hide hSA
 have HS := hide hS
 have HDE : Hid (delE S P A id dst src kind ips ipd ttl port body.size = if may S P A = true then arrE (KD S P A 6) P id dst src kind ips ipd ttl port body.size else 8) := rfl
 have HDL : Hid (delL S P A id dst src kind ips ipd ttl port body.size = if may S P A = true then arrL (KD S P A 6) P id dst src kind ips ipd ttl port body.size else []) := rfl
 obtain ⟨W0, hW0⟩ : ∃ W0, W0 = ((w.alloc (.cells #[.slice s1 S.length s2, .slice p1 P.length p2, .slice a1 A.length a2] 29)).alloc (.cells #[.int .i64 dst, .int .i64 src, .int .i64 kind, .int .i64 ips, .int .i64 ipd, .int .i64 ttl, .int .i64 port, .string body] 37)).alloc (.cells #[.slice none 0 0, .slice none 0 0, .slice none 0 0, .slice none 0 0, .slice none 0 0, .slice none 0 0] 106) := ⟨_, rfl⟩
 have kb : Below w.heap.size w W0 := by rw [hW0]; exact (((Below.refl _ w).alloc (Nat.le_refl _) _).alloc (by simp) _).alloc (by simp; omega) _
 have HB0 : Hid (Box W0 w.heap.size [.slice s1 S.length s2, .slice p1 P.length p2, .slice a1 A.length a2]) := by rw [hW0]; exact hide (((Box.new w [.slice s1 S.length s2, .slice p1 P.length p2, .slice a1 A.length a2] 29).alloc _).alloc _)
 have HB1 : Hid (Box W0 (w.heap.size + 1) [.int .i64 dst, .int .i64 src, .int .i64 kind, .int .i64 ips, .int .i64 ipd, .int .i64 ttl, .int .i64 port, .string body]) := by rw [hW0]; have h := (Box.new (w.alloc (.cells #[.slice s1 S.length s2, .slice p1 P.length p2, .slice a1 A.length a2] 29)) [.int .i64 dst, .int .i64 src, .int .i64 kind, .int .i64 ips, .int .i64 ipd, .int .i64 ttl, .int .i64 port, .string body] 37).alloc (.cells #[.slice none 0 0, .slice none 0 0, .slice none 0 0, .slice none 0 0, .slice none 0 0, .slice none 0 0] 106); simpa using hide h
 have HB2 : Hid (Box W0 (w.heap.size + 1 + 1) [.slice none 0 0, .slice none 0 0, .slice none 0 0, .slice none 0 0, .slice none 0 0, .slice none 0 0]) := by rw [hW0]; have h := Box.new ((w.alloc (.cells #[.slice s1 S.length s2, .slice p1 P.length p2, .slice a1 A.length a2] 29)).alloc (.cells #[.int .i64 dst, .int .i64 src, .int .i64 kind, .int .i64 ips, .int .i64 ipd, .int .i64 ttl, .int .i64 port, .string body] 37)) [.slice none 0 0, .slice none 0 0, .slice none 0 0, .slice none 0 0, .slice none 0 0, .slice none 0 0] 106; simpa using hide h
 have HW0 : Hid (((w.alloc (.cells #[.slice s1 S.length s2, .slice p1 P.length p2, .slice a1 A.length a2] 29)).alloc (.cells #[.int .i64 dst, .int .i64 src, .int .i64 kind, .int .i64 ips, .int .i64 ipd, .int .i64 ttl, .int .i64 port, .string body] 37)).alloc (.cells #[.slice none 0 0, .slice none 0 0, .slice none 0 0, .slice none 0 0, .slice none 0 0, .slice none 0 0] 106) = W0) := hW0.symm
 clear hW0
 have HKA : Hid (Kept (fun k => k < w.heap.size + 3) W0 fun W => KAt W [.slice none 0 0, .slice none 0 0, .slice none 0 0, .slice none 0 0, .slice none 0 0, .slice none 0 0] (KD S P A 0)) := hide (fun w' _ => ⟨rfl, fun i hi v hv => ⟨by
   have : v = .slice none 0 0 := by
    have h6 : i = 0 ∨ i = 1 ∨ i = 2 ∨ i = 3 ∨ i = 4 ∨ i = 5 := by omega
    rcases h6 with rfl | rfl | rfl | rfl | rfl | rfl <;> simpa using hv.symm
   rw [this]; exact ⟨none, 0, rfl, fun _ => rfl, .inl rfl⟩, by simp [KD]⟩⟩)
 have HC := hide hC
 clear hC hSA hS
 go_enter Tryz.func18, Tryz.ntmps18
 go_wp2_with fail
 rw [HW0.out]
 clear HW0
 go_loopw [11] (fun i wr => ∃ k : Nat, k ≤ 6 ∧ i = .int .i64 k ∧ Hid (k = 0 ∨ may S P A = true) ∧ (∃ ks, Hid (Kept (fun k => k < w.heap.size + 3) wr fun W => KAt W ks (KD S P A k)) ∧ Hid (Box wr (w.heap.size + 1 + 1) ks)) ∧ Hid (Box wr w.heap.size [.slice s1 S.length s2, .slice p1 P.length p2, .slice a1 A.length a2]) ∧ Hid (Box wr (w.heap.size + 1) [.int .i64 dst, .int .i64 src, .int .i64 kind, .int .i64 ips, .int .i64 ipd, .int .i64 ttl, .int .i64 port, .string body]) ∧ Below w.heap.size w wr) (fun i _ => 6 - (intOf i).toNat)
 case atStart => exact ⟨0, by omega, rfl, hide (.inl rfl), ⟨_, HKA, HB2⟩, HB0, HB1, kb⟩
 case round =>
  clear HKA HB0 HB1 HB2 kb
  obtain ⟨k, hk, rfl, HM, ⟨ks, HKA, HB2⟩, HB0, HB1, kb⟩ := hrel
  have hsz := HB2.out.lt
  have HL : Hid (ks.length = 6) := hide HKA.out.here.1
  replace HC := hide (HC.out.below kb (Nat.le_refl _))
  by_cases hlt : k < 6
  ·have q6 : (k : Int) < 6 := by omega
   have HSY := hide (synced_any S P A s1 p1 a1 s2 p2 a2 (KD S P A k) ks k (fun k => k < w.heap.size + 3) wr (fun k h => by omega) HKA.out HC.out h1 h2 h3 HSA.out (KD_ok HM.out hk))
   go_wp2_with (first | (refine wpList_load_mid rfl 106 (.tmp 8) rfl (w.heap.size + 1 + 1) 0 rfl _ _ HB2.out.range Tryz.underlying106 rfl (by rw [HL.out]; exact sizeKn) ?_) | (refine wpList_load_mid rfl 29 (.tmp 3) rfl w.heap.size 0 rfl _ _ HB0.out.range Tryz.underlying29 rfl sizeConf ?_))
   refine (unhide HSY).mono ?_
   rintro e w1 ⟨kn, rfl, hkn, hb1⟩
   replace HB0 := hide (HB0.out.below hb1)
   replace HB1 := hide (HB1.out.below hb1)
   replace HB2 := hide (HB2.out.below hb1)
   have hs1 := hb1.size
   replace kb := kb.trans (hb1.mono kb.size)
   have HKN := hide hkn
   have HKL : Hid (kn.length = 6) := hide hkn.here.1
   have HKO := hide (ones6 hkn.here)
   clear hkn hb1 HSY HKA
   obtain ⟨W2, hW2⟩ : ∃ W2, W2 = w1.setCells (w.heap.size + 1 + 1) 0 kn := ⟨_, rfl⟩
   have HN2 : Hid (Box W2 (w.heap.size + 1 + 1) kn) := by rw [hW2]; exact hide (HB2.out.set kn (by rw [HKL.out, HL.out]))
   have HN0 : Hid (Box W2 w.heap.size [.slice s1 S.length s2, .slice p1 P.length p2, .slice a1 A.length a2]) := by rw [hW2]; exact hide (HB0.out.set_far (by omega) 0 kn)
   have HN1 : Hid (Box W2 (w.heap.size + 1) [.int .i64 dst, .int .i64 src, .int .i64 kind, .int .i64 ips, .int .i64 ipd, .int .i64 ttl, .int .i64 port, .string body]) := by rw [hW2]; exact hide (HB1.out.set_far (by omega) 0 kn)
   replace HKN : Hid (Kept (fun k => k < w.heap.size + 3) W2 fun W => KAt W kn (synK S P A (KD S P A k) k)) := by rw [hW2]; exact hide (HKN.out.set (b := w.heap.size + 1 + 1) (show _ < _ by omega) 0 kn)
   have kb2 : Below w.heap.size w W2 := by rw [hW2]; exact setCells_below _ (by omega) _ _ kb
   have HW2 : Hid (w1.setCells (w.heap.size + 1 + 1) 0 kn.toArray.toList = W2) := hW2.symm
   have HFT : Hid (w1.there (w.heap.size + 1 + 1) 0 kn.toArray.size) := by show Hid (World.there _ _ _ kn.length); rw [HKL.out]; exact hide (HB2.out.fit 6 HL.out)
   clear hW2 HB0 HB1 HB2 kb
   by_cases hm : may S P A = true
   ·have HE : Hid (cmE S P A k = 0) := by refine hide ?_; unfold cmE; rw [if_pos hm, if_pos (by omega)]
    rw [KD_next HE.out] at HKN
    rw [HE.out]
    have HM2 := hide (Or.inr (a := k + 1 = 0) hm)
    clear hm
    go_wp2_with (refine wpList_store_mid rfl 106 (.tmp 8) (.tmp 19) rfl (w.heap.size + 1 + 1) 0 _ rfl rfl HFT.out (by show _ = some kn.length; rw [HKL.out]; exact sizeKn) HKO.out ?_; rw [HW2.out])
    go_roundw
    case rel => exact ⟨k + 1, by omega, by go_num, HM2, ⟨kn, HKN, HN2⟩, HN0, HN1, kb2⟩
    case measure => simp [intOf]; omega
   ·have HE : Hid (cmE S P A k = 8) := by refine hide ?_; unfold cmE; rw [if_neg hm]
    rw [HE.out]
    rw [if_neg hm] at HDE HDL
    clear hm
    go_wp2_with (refine wpList_store_mid rfl 106 (.tmp 8) (.tmp 19) rfl (w.heap.size + 1 + 1) 0 _ rfl rfl HFT.out (by show _ = some kn.length; rw [HKL.out]; exact sizeKn) HKO.out ?_; rw [HW2.out])
    rw [HDE.out, HDL.out]
    go_ret2
    exact ⟨_, rfl, [], ⟨List.Perm.refl _, List.Pairwise.nil, World.ownsRow_nil _ _ _ _⟩, kb2⟩
  ·obtain rfl : k = 6 := by omega
   have hm : may S P A = true := by rcases HM.out with h | h; omega; exact h
   rw [if_pos hm] at HDE HDL
   have HAR := hide (arrivals_any ks (KD S P A 6) s1 p1 a1 S.length s2 p2 A.length a2 P id dst src kind ips ipd ttl port body wr HKA.out.here HC.out.2.1 (by omega) (fun p hp => by have := (pr_all (may_parts hm).1 (may_parts hm).2.1).2 p hp; omega) hb (HS.out hm))
   clear hm HM HS
   go_wp2_with (first | (refine wpList_load_mid rfl 106 (.tmp 8) rfl (w.heap.size + 1 + 1) 0 rfl _ _ HB2.out.range Tryz.underlying106 rfl (by rw [HL.out]; exact sizeKn) ?_) | (refine wpList_load_mid rfl 29 (.tmp 3) rfl w.heap.size 0 rfl _ _ HB0.out.range Tryz.underlying29 rfl sizeConf ?_) | (refine wpList_load_mid rfl 37 (.tmp 5) rfl (w.heap.size + 1) 0 rfl _ _ HB1.out.range Tryz.underlying37 rfl sizeFr ?_))
   refine (unhide HAR).mono ?_
   rintro e w1 ⟨u, rfl, l', ⟨hp, hs, ho⟩, hb1⟩
   have HP := hide hp
   have HQ := hide hs
   have HO := hide (own_less ho kb.size)
   have kb2 := kb.trans (hb1.mono kb.size)
   clear hp hs ho hb1 HAR
   go_wp2_with fail
   rw [HDE.out, HDL.out]
   go_ret2
   exact ⟨_, rfl, l', ⟨HP.out, HQ.out, HO.out⟩, kb2⟩
end Go.Proofs.YtncdininppehkaaGreat

namespace Go.Proofs.YtncdininppehkaaGreat
open Go.RowKit
set_option linter.unusedVariables false
set_option maxRecDepth 100000
theorem tw_may {a b : Int} (ha : 0 ≤ a ∧ a ≤ 5) (hb : -1 ≤ b ∧ b ≤ 5) : may (twS 1 60) (twP a b) [] = true ∧ may (twS 2 60) (twP a b) [] = true ∧ may (twS 1 0) (twP a b) [] = true := by
 rcases in6 ha with rfl | rfl | rfl | rfl | rfl | rfl <;> rcases in7 hb with rfl | rfl | rfl | rfl | rfl | rfl | rfl <;> exact ⟨rfl, rfl, rfl⟩
theorem tw_del {S : List Sw} {A : List Ac} {a b : Int} (hm : may S (twP a b) A = true) (ha : 0 ≤ a ∧ a ≤ 5) {d s k x y t o : Int} {m : Nat} (hf : fault d s k x y t o m = 0) :
  delE S (twP a b) A 1 d s k x y t o m = 0 ∧ delL S (twP a b) A 1 d s k x y t o m = comeG (twP a b) A (led S (twP a b) A a 1 d s k x y t o) := by
 unfold delE delL
 rw [if_pos hm, if_pos hm]
 exact arr_led (p := ⟨1, 1, 11, 51, a⟩) (KD_know S (twP a b) A) hm (by simp [twP]) (by show a ≠ -1; omega) hf
theorem tw_asks {a b : Int} (ha : 0 ≤ a ∧ a ≤ 5) (hb : -1 ≤ b ∧ b ≤ 5) :
  comeG (twP a b) [] (led (twS 1 60) (twP a b) [] a 1 65535 11 1 51 52 0 0) = [⟨1, [11, 12, 2, 52, 51, 0, 0]⟩] ∧ comeG (twP a b) [] (led (twS 1 60) (twP a b) [] a 1 65535 11 1 51 50 0 0) = [⟨1, [11, 60001, 2, 50, 51, 0, 0]⟩] ∧
  comeG (twP a b) [] (led (twS 1 60) (twP a b) [] a 1 65535 11 1 51 51 0 0) = [] ∧ comeG (twP a b) [] (led (twS 1 60) (twP a b) [] a 1 65535 11 1 51 61 0 0) = [] ∧ comeG (twP a b) [] (led (twS 1 60) (twP a b) [] a 1 65535 11 1 51 60 0 0) = [] := by
 rcases in6 ha with rfl | rfl | rfl | rfl | rfl | rfl <;> rcases in7 hb with rfl | rfl | rfl | rfl | rfl | rfl | rfl <;> exact ⟨rfl, rfl, rfl, rfl, rfl⟩
theorem tw_talk {a b : Int} (ha : 0 ≤ a ∧ a ≤ 5) (hb : 0 ≤ b ∧ b ≤ 5) :
  comeG (twP a b) [] (led (twS 1 60) (twP a b) [] a 1 12 11 3 51 52 0 0) = [⟨2, [12, 11, 3, 51, 52, 0, 0]⟩] ∧ comeG (twP a b) [] (led (twS 1 60) (twP a b) [] a 1 12 12 3 51 52 0 0) = [] ∧ comeG (twP a b) [] (led (twS 1 60) (twP a b) [] a 1 12 11 3 52 52 0 0) = [] ∧
  comeG (twP a b) [] (led (twS 1 60) (twP a b) [] a 1 65535 11 3 51 52 0 0) = [⟨2, [65535, 11, 3, 51, 52, 0, 0]⟩] ∧ comeG (twP a b) [] (led (twS 1 60) (twP a b) [] a 1 11 11 3 51 52 0 0) = [] := by
 rcases in6 ha with rfl | rfl | rfl | rfl | rfl | rfl <;> rcases in6 hb with rfl | rfl | rfl | rfl | rfl | rfl <;> exact ⟨rfl, rfl, rfl, rfl, rfl⟩
theorem tw_leads {a b t : Int} (ha : 0 ≤ a ∧ a ≤ 5) (hb : 0 ≤ b ∧ b ≤ 5) (ht : 1 < t) :
  led (twS 1 60) (twP a b) [] a 1 60001 11 3 51 61 t 7 = [⟨2, 3, b, [11, 60002, 3, 51, 61, t - 1, 7]⟩] := by
 have h : ∀ q, rtB (twS 1 60) ⟨1, 1, 50⟩ 60001 61 t q = rtB (twS 1 60) ⟨1, 1, 50⟩ 60001 61 2 q := fun q => by
  unfold rtB
  have : decide ((50 : Int) ≠ 0 ∧ (60001 : Int) = 60000 + 1 ∧ 1 < t) = decide ((50 : Int) ≠ 0 ∧ (60001 : Int) = 60000 + 1 ∧ (1 : Int) < 2) := by simp [ht]
  simp only [this]
 have e : led (twS 1 60) (twP a b) [] a 1 60001 11 3 51 61 t 7 = (if (a : Int) = a ∧ (11 : Int) = 11 ∧ (51 : Int) = 51 then ((twP a b).filter (brB ⟨1, 1, 50⟩ 1 60001)).map (brG ⟨1, 1, 50⟩ [60001, 11, 3, 51, 61, t, 7]) ++ ((twP a b).filter (rtB (twS 1 60) ⟨1, 1, 50⟩ 60001 61 t)).map (rtG 51 61 t 7) else []) := rfl
 rw [e, if_pos ⟨rfl, rfl, rfl⟩, funext h]
 clear e h
 rcases in6 ha with rfl | rfl | rfl | rfl | rfl | rfl <;> rcases in6 hb with rfl | rfl | rfl | rfl | rfl | rfl <;> rfl
theorem tw_comes {a b t : Int} (ha : 0 ≤ a ∧ a ≤ 5) (hb : 0 ≤ b ∧ b ≤ 5) : comeG (twP a b) [] [⟨2, 3, b, [11, 60002, 3, 51, 61, t - 1, 7]⟩] = [⟨3, [11, 60002, 3, 51, 61, t - 1, 7]⟩] := by
 rcases in6 ha with rfl | rfl | rfl | rfl | rfl | rfl <;> rcases in6 hb with rfl | rfl | rfl | rfl | rfl | rfl <;> rfl
theorem tw_not {a b t : Int} (ha : 0 ≤ a ∧ a ≤ 5) (hb : 0 ≤ b ∧ b ≤ 5) :
  (t ≤ 1 → led (twS 1 60) (twP a b) [] a 1 60001 11 3 51 61 t 7 = []) ∧ led (twS 2 60) (twP a b) [] a 1 60001 11 3 51 61 t 7 = [] ∧ led (twS 1 0) (twP a b) [] a 1 60001 11 3 51 61 t 7 = [] := by
 have e : ∀ S, swOf S 1 = ⟨1, 1, 50⟩ → led S (twP a b) [] a 1 60001 11 3 51 61 t 7 = ((twP a b).filter (brB ⟨1, 1, 50⟩ 1 60001)).map (brG ⟨1, 1, 50⟩ [60001, 11, 3, 51, 61, t, 7]) ++ ((twP a b).filter (rtB S ⟨1, 1, 50⟩ 60001 61 t)).map (rtG 51 61 t 7) := fun S hS => by
  have : led S (twP a b) [] a 1 60001 11 3 51 61 t 7 = (if (a : Int) = a ∧ (11 : Int) = 11 ∧ (51 : Int) = 51 then (if (3 : Int) = 3 ∧ allowB [] (swOf S 1).i true 51 61 7 = true then ledD S (twP a b) (swOf S 1) 1 60001 11 51 61 t 7 else []) else []) := rfl
  rw [this, if_pos ⟨rfl, rfl, rfl⟩, hS, if_pos ⟨rfl, rfl⟩]
  rfl
 have h0 : ((twP a b).filter (brB ⟨1, 1, 50⟩ 1 60001)) = [] := by
  clear e
  rcases in6 ha with rfl | rfl | rfl | rfl | rfl | rfl <;> rcases in6 hb with rfl | rfl | rfl | rfl | rfl | rfl <;> rfl
 have hz : ∀ S : List Sw, (∀ q ∈ twP a b, rtB S ⟨1, 1, 50⟩ 60001 61 t q = false) → (twP a b).filter (rtB S ⟨1, 1, 50⟩ 60001 61 t) = [] := fun S h => List.filter_eq_nil_iff.2 fun q hq => by rw [h q hq]; simp
 refine ⟨fun ht => ?_, ?_, ?_⟩
 ·rw [e _ rfl, h0, hz _ fun q _ => ?_]
  ·rfl
  ·unfold rtB
   have : decide ((50 : Int) ≠ 0 ∧ (60001 : Int) = 60000 + 1 ∧ 1 < t) = false := by simp; omega
   simp only [this, Bool.false_and, Bool.and_false]
 ·rw [e _ rfl, h0, hz _ fun q hq => ?_]
  ·rfl
  ·have : (routedB (twS 2 60) 1 q && q.p == 61) = false := by
    simp only [twP, List.mem_cons, List.not_mem_nil, or_false] at hq
    rcases hq with rfl | rfl | rfl <;> rfl
   unfold rtB
   rw [this]; simp
 ·rw [e _ rfl, h0, hz _ fun q hq => ?_]
  ·rfl
  ·have : (routedB (twS 1 0) 1 q && q.p == 61) = false := by
    simp only [twP, List.mem_cons, List.not_mem_nil, or_false] at hq
    rcases hq with rfl | rfl | rfl <;> rfl
   unfold rtB
   rw [this]; simp
end Go.Proofs.YtncdininppehkaaGreat

namespace Go.Proofs.YtncdininppehkaaGreat
open Go.RowKit
set_option linter.unusedVariables false
set_option maxRecDepth 100000
theorem eqFrm (f0 f1 f2 f3 f4 f5 f6 : Int) (body : ByteArray) (w : World) : (Op.equalIn 9999 37 (.agg #[.int .i64 f0, .int .i64 f1, .int .i64 f2, .int .i64 f3, .int .i64 f4, .int .i64 f5, .int .i64 f6, .string body]) (.agg #[.int .i64 f0, .int .i64 f1, .int .i64 f2, .int .i64 f3, .int .i64 f4, .int .i64 f5, .int .i64 f6, .string body])).run Tryz.prog w = .ok true w := by
 have hS : Tryz.prog.underlying 37 = some (.struct (Tryz.prog.fieldsOf 37)) := by kernel_rfl
 have hp : Tryz.prog.stoodInHeld 37 = false := by kernel_rfl
 rw [show (9999 : Nat) = 9998 + 1 from rfl, run_equalIn_agg w 9998 37 _ _ hS hp]
 simp only [Program.fieldsOf, Tryz.underlying37]
 go_simp
theorem eqArv (x0 f0 f1 f2 f3 f4 f5 f6 : Int) (body : ByteArray) (w : World) : (Op.equalIn 10000 56 (.agg #[.int .i64 x0, .int .i64 f0, .int .i64 f1, .int .i64 f2, .int .i64 f3, .int .i64 f4, .int .i64 f5, .int .i64 f6, .string body]) (.agg #[.int .i64 x0, .int .i64 f0, .int .i64 f1, .int .i64 f2, .int .i64 f3, .int .i64 f4, .int .i64 f5, .int .i64 f6, .string body])).run Tryz.prog w = .ok true w := by
 have hS : Tryz.prog.underlying 56 = some (.struct (Tryz.prog.fieldsOf 56)) := by kernel_rfl
 have hp : Tryz.prog.stoodInHeld 56 = false := by kernel_rfl
 have ha := eqFrm f0 f1 f2 f3 f4 f5 f6 body
 rw [show (10000 : Nat) = 9999 + 1 from rfl, run_equalIn_agg w 9999 56 _ _ hS hp]
 simp only [Program.fieldsOf, Tryz.underlying56]
 go_simp
theorem guardArv : Tryz.prog.eqGuardType Tryz.prog.depth 56 = false := by kernel_rfl
set_option maxHeartbeats 4000000 in
theorem equalAr_any (u v : Value) (l : List Ar) (body : ByteArray) (w : World) (hu : RowAt (arC body) 9 w u l) (hv : RowAt (arC body) 9 w v l) (hl : l.length ≤ 2000000) :
  Calls Tryz.prog 19 #[u, v] w fun e w' => e = .returned (.bool true) ∧ Below w.heap.size w w' := by
 have HU := hide hu
 have HV := hide hv
 obtain ⟨ua, uc, rfl⟩ := hu.slice
 obtain ⟨va, vc, rfl⟩ := hv.slice
 clear hu hv
 go_enter Tryz.func19, Tryz.ntmps19
 go_wp2_with fail
 go_loopw [13] (fun i wr => ∃ k : Nat, k ≤ l.length ∧ i = .int .i64 k ∧ Below w.heap.size w wr) (fun i _ => l.length - (intOf i).toNat)
 case atStart => exact ⟨0, by omega, rfl, Below.refl _ _⟩
 case round =>
  obtain ⟨k, hk, rfl, k0⟩ := hrel
  by_cases hlt : k < l.length
  ·obtain ⟨b, off, c1, e1, hcap, hR⟩ := row_range ar0 (RowAt.below HU.out k0 (Nat.le_refl _)) hlt
   obtain ⟨b2, off2, c2, e2, hcap2, hR2⟩ := row_range ar0 (RowAt.below HV.out k0 (Nat.le_refl _)) hlt
   simp only [Value.slice.injEq, true_and] at e1 e2
   obtain ⟨rfl, rfl⟩ := e1
   obtain ⟨rfl, rfl⟩ := e2
   clear HU HV
   generalize l.getD k ar0 = x at *
   have g0 : wr.cell? ⟨b, off + k * 9, none⟩ = some (.int .i64 x.n) := hR 0 _ rfl
   have h0 : wr.cell? ⟨b2, off2 + k * 9, none⟩ = some (.int .i64 x.n) := hR2 0 _ rfl
   have g1 : wr.cell? ⟨b, off + k * 9 + 1, none⟩ = some (.int .i64 (x.f.getD 0 0)) := hR 1 _ rfl
   have h1 : wr.cell? ⟨b2, off2 + k * 9 + 1, none⟩ = some (.int .i64 (x.f.getD 0 0)) := hR2 1 _ rfl
   have g2 : wr.cell? ⟨b, off + k * 9 + 2, none⟩ = some (.int .i64 (x.f.getD 1 0)) := hR 2 _ rfl
   have h2 : wr.cell? ⟨b2, off2 + k * 9 + 2, none⟩ = some (.int .i64 (x.f.getD 1 0)) := hR2 2 _ rfl
   have g3 : wr.cell? ⟨b, off + k * 9 + 3, none⟩ = some (.int .i64 (x.f.getD 2 0)) := hR 3 _ rfl
   have h3 : wr.cell? ⟨b2, off2 + k * 9 + 3, none⟩ = some (.int .i64 (x.f.getD 2 0)) := hR2 3 _ rfl
   have g4 : wr.cell? ⟨b, off + k * 9 + 4, none⟩ = some (.int .i64 (x.f.getD 3 0)) := hR 4 _ rfl
   have h4 : wr.cell? ⟨b2, off2 + k * 9 + 4, none⟩ = some (.int .i64 (x.f.getD 3 0)) := hR2 4 _ rfl
   have g5 : wr.cell? ⟨b, off + k * 9 + 5, none⟩ = some (.int .i64 (x.f.getD 4 0)) := hR 5 _ rfl
   have h5 : wr.cell? ⟨b2, off2 + k * 9 + 5, none⟩ = some (.int .i64 (x.f.getD 4 0)) := hR2 5 _ rfl
   have g6 : wr.cell? ⟨b, off + k * 9 + 6, none⟩ = some (.int .i64 (x.f.getD 5 0)) := hR 6 _ rfl
   have h6 : wr.cell? ⟨b2, off2 + k * 9 + 6, none⟩ = some (.int .i64 (x.f.getD 5 0)) := hR2 6 _ rfl
   have g7 : wr.cell? ⟨b, off + k * 9 + 7, none⟩ = some (.int .i64 (x.f.getD 6 0)) := hR 7 _ rfl
   have h7 : wr.cell? ⟨b2, off2 + k * 9 + 7, none⟩ = some (.int .i64 (x.f.getD 6 0)) := hR2 7 _ rfl
   have g8 : wr.cell? ⟨b, off + k * 9 + 8, none⟩ = some (.string body) := hR 8 _ rfl
   have h8 : wr.cell? ⟨b2, off2 + k * 9 + 8, none⟩ = some (.string body) := hR2 8 _ rfl
   clear hR hR2
   generalize x.f.getD 0 0 = f0 at *
   generalize x.f.getD 1 0 = f1 at *
   generalize x.f.getD 2 0 = f2 at *
   generalize x.f.getD 3 0 = f3 at *
   generalize x.f.getD 4 0 = f4 at *
   generalize x.f.getD 5 0 = f5 at *
   generalize x.f.getD 6 0 = f6 at *
   generalize x.n = x0 at *
   have heq := eqArv x0 f0 f1 f2 f3 f4 f5 f6 body
   have hgd := guardArv
   have q3 : (0 : Int) ≤ (k : Int) := by omega
   have q4 : (k : Int) < (l.length : Int) := by omega
   go_wp2_with fail
   go_quiet (fail)
   go_wp2
   go_roundw
   case rel => exact ⟨k + 1, by omega, by go_num, ⟨k0.os, k0.tape, k0.output, k0.size, k0.block⟩⟩
   case measure => simp [intOf]; omega
  ·clear HU HV
   go_wp2_with fail
   go_ret
   exact ⟨rfl, k0⟩
end Go.Proofs.YtncdininppehkaaGreat

namespace Go.Proofs.YtncdininppehkaaGreat
open Go.RowKit
set_option linter.unusedVariables false
set_option maxRecDepth 100000
set_option maxHeartbeats 1000000 in
theorem insertNone_any (o : Option Addr) (c : Nat) (fv : Value) (w : World) : Calls Tryz.prog 191 #[.slice o 0 c, .int .i64 0, .int .i64 0, fv] w fun e w' => e = .returned (.tuple #[]) ∧ w' = w := by
 go_enter Tryz.func191, Tryz.ntmps191
 go_wp2_with fail
 refine wp_loop_rounds 1 ?_
 rw [rounds_succ]
 go_wp2_with fail
 go_end0
 exact ⟨rfl, rfl⟩
set_option maxHeartbeats 1000000 in
theorem stableNone_any (o : Option Addr) (c : Nat) (fv : Value) (w : World) : Calls Tryz.prog 157 #[.slice o 0 c, .int .i64 0, fv] w fun e w' => e = .returned (.tuple #[]) ∧ w' = w := by
 go_enter Tryz.func157, Tryz.ntmps157
 go_wp2_with fail
 refine wp_loop_rounds 1 ?_
 rw [rounds_succ]
 go_wp2_with fail
 refine (insertNone_any _ _ _ _).mono ?_
 rintro e w1 ⟨rfl, rfl⟩
 go_wp2_with fail
 refine wp_loop_rounds 1 ?_
 rw [rounds_succ]
 go_wp2_with fail
 go_end0
 exact ⟨rfl, rfl⟩
set_option maxHeartbeats 1000000 in
theorem sorts_nil : SortsAc [] := fun u B w ho hB => by
 obtain ⟨o, c, rfl⟩ := own_slc ho
 have HO := hide ho
 clear ho
 go_enter Tryz.func120, Tryz.ntmps120
 go_wp2_with fail
 refine (stableNone_any _ _ _ _).mono ?_
 rintro e w1 ⟨rfl, rfl⟩
 go_wp2_with fail
 go_end0
 have e : acSort [] = [] := by simp [acSort, mrg, isort]
 exact ⟨rfl, by rw [e]; exact HO.out, ⟨rfl, rfl, rfl, Nat.le_refl _, fun _ _ _ => rfl⟩⟩
end Go.Proofs.YtncdininppehkaaGreat

namespace Go.Proofs.YtncdininppehkaaGreat
open Go.RowKit
set_option linter.unusedVariables false
set_option maxRecDepth 100000
set_option maxHeartbeats 1000000 in
theorem insertionA_tiny (p : Option Addr) (n cap : Nat) (fv : Value) (w : World) (hn : n ≤ 1) :
  Calls Tryz.prog 179 #[.slice p n cap, .int .i64 0, .int .i64 n, fv] w fun e w' => e = .returned (.tuple #[]) ∧ w' = w := by
 go_enter Tryz.func179, Tryz.ntmps179
 go_wp2_with fail
 refine wp_loop_rounds 1 ?_
 rw [rounds_succ]
 go_wp2_with fail
 go_end0
 exact ⟨rfl, rfl⟩
set_option maxHeartbeats 1000000 in
theorem bitsLenA_tiny (n : Nat) (w : World) (hn : n ≤ 1) :
  Calls Tryz.prog 136 #[.int .u64 n] w fun e w' => (∃ r : Int, e = .returned (.int .i64 r)) ∧ w' = w := by
 have hn' : n = 0 ∨ n = 1 := by omega
 have h64 : Hid (∀ W : World, Calls Tryz.prog 172 #[.int .u64 n] W fun e w' => (∃ r : Int, e = .returned (.int .i64 r)) ∧ w' = W) := by
  intro W
  rcases hn' with rfl | rfl
  ·go_enter Tryz.func172, Tryz.ntmps172
   go_wp2
   go_ret
   exact ⟨⟨_, rfl⟩, rfl⟩
  ·go_enter Tryz.func172, Tryz.ntmps172
   go_wp2
   go_ret
   exact ⟨⟨_, rfl⟩, rfl⟩
 rcases hn' with rfl | rfl
 all_goals
  go_enter Tryz.func136, Tryz.ntmps136
  go_wp2_with fail
  refine (unhide h64 _).mono ?_
  rintro e w1 ⟨⟨r, rfl⟩, rfl⟩
  go_wp2_with fail
  go_ret
  exact ⟨⟨_, rfl⟩, rfl⟩
set_option maxHeartbeats 1000000 in
theorem pdqA_tiny (p : Option Addr) (n cap : Nat) (lim : Int) (fv : Value) (w : World) (hn : n ≤ 1) :
  Calls Tryz.prog 142 #[.slice p n cap, .int .i64 0, .int .i64 n, .int .i64 lim, fv] w fun e w' => e = .returned (.tuple #[]) ∧ w' = w := by
 go_enter Tryz.func142, Tryz.ntmps142
 go_wp2_with fail
 refine wp_loop_rounds 1 ?_
 rw [rounds_succ]
 go_wp2_with fail
 refine (insertionA_tiny _ _ _ _ _ hn).mono ?_
 rintro e w1 ⟨rfl, rfl⟩
 go_wp2_with fail
 (try simp only [Exit.inBlock, Exit.then]); refine bodyPost_ret (results_none rfl _ _ _) rfl ?_
 exact ⟨rfl, rfl⟩
set_option maxHeartbeats 1000000 in
theorem sortFuncA_tiny (p : Option Addr) (n cap : Nat) (fv : Value) (w : World) (hn : n ≤ 1) :
  Calls Tryz.prog 98 #[.slice p n cap, fv] w fun e w' => e = .returned (.tuple #[]) ∧ w' = w := by
 go_enter Tryz.func98, Tryz.ntmps98
 go_wp2_with fail
 refine (bitsLenA_tiny n _ hn).mono ?_
 rintro e w1 ⟨⟨r, rfl⟩, rfl⟩
 go_wp2_with fail
 refine (pdqA_tiny _ _ _ _ _ _ hn).mono ?_
 rintro e w1 ⟨rfl, rfl⟩
 go_wp2_with fail
 go_end0
 exact ⟨rfl, rfl⟩
theorem sortsAr_tiny {l : List Ar} (hl : l.length ≤ 1) : SortsAr l := fun body u B w ho hB => by
 obtain ⟨o, c, rfl⟩ := own_slc ho
 refine (sortFuncA_tiny o l.length c _ w hl).mono ?_
 rintro e w1 ⟨rfl, rfl⟩
 refine ⟨rfl, l, List.Perm.refl _, ?_, ho, ⟨rfl, rfl, rfl, Nat.le_refl _, fun _ _ _ => rfl⟩⟩
 match l, hl with
 | [], _ => exact List.Pairwise.nil
 | [x], _ => exact List.pairwise_singleton _ _
end Go.Proofs.YtncdininppehkaaGreat
