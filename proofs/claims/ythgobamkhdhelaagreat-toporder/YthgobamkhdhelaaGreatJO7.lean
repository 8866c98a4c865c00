/- Texts joined: Cy, Ch, Ch2, Cap2, Cap3, Xg, Xh, Xi, Xl, Xj, Rx, Mg, Mh, Xo, Yr, Pxa, Ya, Yo, To, Lay3, Lay4. -/
import Derived.Laws.AppendOwnNone
import Derived.Deep.RegionHeld3
import Derived.Deep.QuietTactic
import Derived.BigQuiet
import Derived.Deep.RegionLaw
import Derived.Deep.AppendLies
import Derived.Maps.AppendAt
import Derived.Deep.MidRow
import Derived.Test.YthgobamkhdhelaaGreatRows
import Derived.Shelf.SlicesQ.Reverse
import Derived.Test.YthgobamkhdhelaaGreatJO6
namespace Go.Proofs.YthgobamkhdhelaaGreat
open Go.RowKit
set_option linter.unusedVariables false
set_option maxRecDepth 100000
set_option maxHeartbeats 16000000
theorem sP (v:Value) (l:List Sw) (w:World) (hM:eH w v l) (hl:l.length*24≤140737488355328):
  Calls Tryz.prog 28 #[v] w fun e w'=>∃u,e= .returned u∧w'.ownsRow w.heap.size 45 3 u l.length (l.flatMap swC)∧Below w.heap.size w w':=by
 obtain⟨i0,hi,hz0,hz1,hz2⟩:=info_parts tg;have HM:=aa hM;obtain⟨a,cap,rfl,hn,hL⟩:=hM;cases a with
 | none=>
  obtain rfl:=hn rfl;have h0:l.length=0:=by
   rcases hL with h |⟨_,_,h,_⟩
   ·exact h
   ·simp at h
  obtain rfl:l= []:=List.eq_nil_of_length_eq_zero h0;clear hL hn HM h0 hl;go_enter Tryz.func28,Tryz.ntmps28;go_wp2;go_ret;exact⟨_,rfl,World.ownsRow_nil _ _ _ _,Below.refl _ _⟩
 | some ad=>
  have HN:=aa (RowAt.news dE HM.out);have H1:=aa (Bj l);clear hL hn;go_enter Tryz.func28,Tryz.ntmps28;go_wp2_with (at_builtin;refine wpList_append_own _ rfl _ _ 28 rfl w.heap.size 45 i0 _ 3 24 Tryz.underlying28 hi hz0 hz1 hz2 rfl (by decide) _ _ _ rfl (World.ownsRow_nil w w.heap.size 45 3) ad l.length cap (l.flatMap swC) rfl ?a0 HN.out H1.out ?a1 ?a2 ?a3 ?_)
  case a0=>rw [ce dE]
  case a1=>unfold maxLen;omega
  case a2=>omega
  case a3=>exact Nat.le_refl _
  intro v1 w1 ho1 hg1 _;have hb1:Below w.heap.size w w1:=(Below.refl _ w).grown hg1 (by simp) (ay (World.ownsRow_nil w w.heap.size 45 3));have HO:Hid (w1.ownsRow w.heap.size 45 3 v1 l.length (l.flatMap swC)):=aa ho1;clear ho1 hg1;go_wp2;go_ret;exact⟨v1,rfl,HO.out,hb1⟩
theorem qE (v:Value) (l:List Pr) (w:World) (hM:eZ w v l) (hl:l.length*40≤140737488355328):
  Calls Tryz.prog 29 #[v] w fun e w'=>∃u,e= .returned u∧w'.ownsRow w.heap.size 47 5 u l.length (l.flatMap prC)∧Below w.heap.size w w':=by
 obtain⟨i0,hi,hz0,hz1,hz2⟩:=info_parts qs;have HM:=aa hM;obtain⟨a,cap,rfl,hn,hL⟩:=hM;cases a with
 | none=>
  obtain rfl:=hn rfl;have h0:l.length=0:=by
   rcases hL with h |⟨_,_,h,_⟩
   ·exact h
   ·simp at h
  obtain rfl:l= []:=List.eq_nil_of_length_eq_zero h0;clear hL hn HM h0 hl;go_enter Tryz.func29,Tryz.ntmps29;go_wp2;go_ret;exact⟨_,rfl,World.ownsRow_nil _ _ _ _,Below.refl _ _⟩
 | some ad=>
  have HN:=aa (RowAt.news bw HM.out);have H1:=aa (vI l);clear hL hn;go_enter Tryz.func29,Tryz.ntmps29;go_wp2_with (at_builtin;refine wpList_append_own _ rfl _ _ 29 rfl w.heap.size 47 i0 _ 5 40 Tryz.underlying29 hi hz0 hz1 hz2 rfl (by decide) _ _ _ rfl (World.ownsRow_nil w w.heap.size 47 5) ad l.length cap (l.flatMap prC) rfl ?a0 HN.out H1.out ?a1 ?a2 ?a3 ?_)
  case a0=>rw [ce bw]
  case a1=>unfold maxLen;omega
  case a2=>omega
  case a3=>exact Nat.le_refl _
  intro v1 w1 ho1 hg1 _;have hb1:Below w.heap.size w w1:=(Below.refl _ w).grown hg1 (by simp) (ay (World.ownsRow_nil w w.heap.size 47 5));have HO:Hid (w1.ownsRow w.heap.size 47 5 v1 l.length (l.flatMap prC)):=aa ho1;clear ho1 hg1;go_wp2;go_ret;exact⟨v1,rfl,HO.out,hb1⟩
theorem qT (v:Value) (l:List Ac) (w:World) (hM:vE w v l) (hl:l.length*72≤140737488355328):
  Calls Tryz.prog 30 #[v] w fun e w'=>∃u,e= .returned u∧w'.ownsRow w.heap.size 49 9 u l.length (l.flatMap acC)∧Below w.heap.size w w':=by
 obtain⟨i0,hi,hz0,hz1,hz2⟩:=info_parts qg;have HM:=aa hM;obtain⟨a,cap,rfl,hn,hL⟩:=hM;cases a with
 | none=>
  obtain rfl:=hn rfl;have h0:l.length=0:=by
   rcases hL with h |⟨_,_,h,_⟩
   ·exact h
   ·simp at h
  obtain rfl:l= []:=List.eq_nil_of_length_eq_zero h0;clear hL hn HM h0 hl;go_enter Tryz.func30,Tryz.ntmps30;go_wp2;go_ret;exact⟨_,rfl,World.ownsRow_nil _ _ _ _,Below.refl _ _⟩
 | some ad=>
  have HN:=aa (RowAt.news cE HM.out);have H1:=aa (vh l);clear hL hn;go_enter Tryz.func30,Tryz.ntmps30;go_wp2_with (at_builtin;refine wpList_append_own _ rfl _ _ 30 rfl w.heap.size 49 i0 _ 9 72 Tryz.underlying30 hi hz0 hz1 hz2 rfl (by decide) _ _ _ rfl (World.ownsRow_nil w w.heap.size 49 9) ad l.length cap (l.flatMap acC) rfl ?a0 HN.out H1.out ?a1 ?a2 ?a3 ?_)
  case a0=>rw [ce cE]
  case a1=>unfold maxLen;omega
  case a2=>omega
  case a3=>exact Nat.le_refl _
  intro v1 w1 ho1 hg1 _;have hb1:Below w.heap.size w w1:=(Below.refl _ w).grown hg1 (by simp) (ay (World.ownsRow_nil w w.heap.size 49 9));have HO:Hid (w1.ownsRow w.heap.size 49 9 v1 l.length (l.flatMap acC)):=aa ho1;clear ho1 hg1;go_wp2;go_ret;exact⟨v1,rfl,HO.out,hb1⟩
structure Own3 (w:World) (B:Nat) (sv pv av:Value) (S:List Sw) (P:List Pr) (A:List Ac):Prop where
 s:w.ownsRow B 45 3 sv S.length (S.flatMap swC)
 p:w.ownsRow B 47 5 pv P.length (P.flatMap prC)
 a:w.ownsRow B 49 9 av A.length (A.flatMap acC)
 sp:sv.ownBlock=none∨sv.ownBlock≠pv.ownBlock
 sa:sv.ownBlock=none∨sv.ownBlock≠av.ownBlock
 pa:pv.ownBlock=none∨pv.ownBlock≠av.ownBlock
theorem Own3.cf {w:World} {B:Nat} {sv pv av:Value} {S:List Sw} {P:List Pr} {A:List Ac} (h:Own3 w B sv pv av S P A):CfAt w sv pv av S P A:=
 ⟨RowAt.of_own dE (by omega) h.s,RowAt.of_own bw (by omega) h.p,RowAt.of_own cE (by omega) h.a⟩
theorem sQ (sv pv av:Value) (S:List Sw) (P:List Pr) (A:List Ac) (w:World) (hC:CfAt w sv pv av S P A) (h1:S.length*24≤140737488355328) (h2:P.length*40≤140737488355328) (h3:A.length*72≤140737488355328):
  Calls Tryz.prog 14 #[.agg #[sv,pv,av]] w fun e w'=>∃su pu au,e= .returned (.agg #[su,pu,au])∧Own3 w' w.heap.size su pu au S P A∧Below w.heap.size w w':=by
 have HC:=aa hC;have HS:Hid (∀W:World,Below w.heap.size w W→Calls Tryz.prog 28 #[sv] W fun e w'=>∃u,e= .returned u∧w'.ownsRow W.heap.size 45 3 u S.length (S.flatMap swC)∧Below W.heap.size W w'):=fun W hW=>sP sv S W (RowAt.below HC.out.1 hW zr) h1;have HP:Hid (∀W:World,Below w.heap.size w W→Calls Tryz.prog 29 #[pv] W fun e w'=>∃u,e= .returned u∧w'.ownsRow W.heap.size 47 5 u P.length (P.flatMap prC)∧Below W.heap.size W w'):=fun W hW=>qE pv P W (RowAt.below HC.out.2.1 hW zr) h2;have HA:Hid (∀W:World,Below w.heap.size w W→Calls Tryz.prog 30 #[av] W fun e w'=>∃u,e= .returned u∧w'.ownsRow W.heap.size 49 9 u A.length (A.flatMap acC)∧Below W.heap.size W w'):=fun W hW=>qT av A W (RowAt.below HC.out.2.2 hW zr) h3;obtain⟨s1,s2,rfl⟩:=hC.1.slice;obtain⟨p1,p2,rfl⟩:=hC.2.1.slice;obtain⟨a1,a2,rfl⟩:=hC.2.2.slice;clear hC HC;go_enter Tryz.func14,Tryz.ntmps14;go_wp2_with fail
 obtain⟨W0,hW0⟩:∃W0,W0=(w.alloc (.cells #[.slice s1 S.length s2,.slice p1 P.length p2,.slice a1 A.length a2] 32)).alloc (.cells #[.slice none 0 0,.slice none 0 0,.slice none 0 0] 32):=⟨_,rfl⟩;have hb0:Below w.heap.size w W0:=by rw [hW0];exact((Below.refl _ _).alloc zr _).alloc (by simp) _
 have hz0:w.heap.size+2≤W0.heap.size:=by rw [hW0];simp
 have c0:W0.cell? ⟨w.heap.size,0,none⟩=some (.slice s1 S.length s2):=by rw [hW0];simp
 have c1:W0.cell? ⟨w.heap.size,1,none⟩=some (.slice p1 P.length p2):=by rw [hW0];simp
 have c2:W0.cell? ⟨w.heap.size,2,none⟩=some (.slice a1 A.length a2):=by rw [hW0];simp
 have r0:W0.cell? ⟨w.heap.size+1,0,none⟩=some (.slice none 0 0):=by rw [hW0];simp
 have r1:W0.cell? ⟨w.heap.size+1,1,none⟩=some (.slice none 0 0):=by rw [hW0];simp
 have r2:W0.cell? ⟨w.heap.size+1,2,none⟩=some (.slice none 0 0):=by rw [hW0];simp
 have f0:W0.frozen? ⟨w.heap.size+1,0,none⟩=false:=by rw [hW0];simp
 have f1:W0.frozen? ⟨w.heap.size+1,1,none⟩=false:=by rw [hW0];simp
 have f2:W0.frozen? ⟨w.heap.size+1,2,none⟩=false:=by rw [hW0];simp
 rw [←hW0];clear hW0 h1 h2 h3;have e0:Below (w.heap.size+2) W0 W0.drew:=(Below.refl _ _).drew;go_region_held3 (fun w'=>w'.cell? ⟨w.heap.size,0,none⟩=some (.slice s1 S.length s2)∧w'.cell? ⟨w.heap.size,1,none⟩=some (.slice p1 P.length p2)∧w'.cell? ⟨w.heap.size,2,none⟩=some (.slice a1 A.length a2)) (go_keep)
  (first |(go_at_call 28;refine(ag HS _ hb0.drew).mono ?_;rintro e w1 ⟨u1,rfl,ho1,hb1⟩;obtain⟨o1,m1,rfl⟩:=aq ho1;have HO1:=aa ho1;clear ho1;have g1:Below (w.heap.size+2) W0 w1:=e0.trans (hb1.mono hz0);have k1:Below w.heap.size w w1:=hb0.trans (g1.mono (by omega));have y0:=(g1.cell (p:=⟨w.heap.size,0,none⟩) (by simp)).trans c0;have y1:=(g1.cell (p:=⟨w.heap.size,1,none⟩) (by simp)).trans c1;have y2:=(g1.cell (p:=⟨w.heap.size,2,none⟩) (by simp)).trans c2)
               |(go_at_call 29;refine(ag HP _ k1).mono ?_;rintro e w2 ⟨u2,rfl,ho2,hb2⟩;obtain⟨o2,m2,rfl⟩:=aq ho2;have HO2:=aa ho2;clear ho2;have g2:Below (w.heap.size+2) W0 w2:=g1.trans (hb2.mono (Nat.le_trans hz0 g1.size));have k2:Below w.heap.size w w2:=hb0.trans (g2.mono (by omega));have x0:=(g2.cell (p:=⟨w.heap.size,0,none⟩) (by simp)).trans c0;have x1:=(g2.cell (p:=⟨w.heap.size,1,none⟩) (by simp)).trans c1;have x2:=(g2.cell (p:=⟨w.heap.size,2,none⟩) (by simp)).trans c2)
               |(go_at_call 30;refine(ag HA _ k2).mono ?_;rintro e w3 ⟨u3,rfl,ho3,hb3⟩;obtain⟨o3,m3,rfl⟩:=aq ho3;have HO3:=aa ho3;clear ho3;have g3:Below (w.heap.size+2) W0 w3:=g2.trans (hb3.mono (Nat.le_trans hz0 g2.size));have k3:Below w.heap.size w w3:=hb0.trans (g3.mono (by omega));have v0:=(g3.cell (p:=⟨w.heap.size,0,none⟩) (by simp)).trans c0;have v1:=(g3.cell (p:=⟨w.heap.size,1,none⟩) (by simp)).trans c1;have v2:=(g3.cell (p:=⟨w.heap.size,2,none⟩) (by simp)).trans c2;have t0:=(g3.cell (p:=⟨w.heap.size+1,0,none⟩) (by simp)).trans r0;have t1:=(g3.cell (p:=⟨w.heap.size+1,1,none⟩) (by simp)).trans r1;have t2:=(g3.cell (p:=⟨w.heap.size+1,2,none⟩) (by simp)).trans r2;have l0:=(g3.frozen (p:=⟨w.heap.size+1,0,none⟩) (by simp)).trans f0;have l1:=(g3.frozen (p:=⟨w.heap.size+1,1,none⟩) (by simp)).trans f1;have l2:=(g3.frozen (p:=⟨w.heap.size+1,2,none⟩) (by simp)).trans f2))
 have N1:w.heap.size+1<W0.drew.heap.size:=by have:=hz0;simp;omega
 have N2:w.heap.size+1<w1.heap.size:=Nat.lt_of_lt_of_le N1 hb1.size;have N3:w.heap.size+1<w2.heap.size:=Nat.lt_of_lt_of_le N2 hb2.size;have O1:=aa (aw (aw HO1.out hb2) hb3);have O2:=aa (aw HO2.out hb3);have A12:=aa (lj HO1.out HO2.out zr);have A13:=aa (lj (aw HO1.out hb2) HO3.out zr);have A23:=aa (lj HO2.out HO3.out zr);clear HO1 HO2 y0 y1 y2 x0 x1 x2 v0 v1 v2 g1 g2 g3 k1 k2 l0 l1 l2 hb2 hb3 hb1 c0 c1 c2 r0 r1 r2 f0 f1 f2 e0 HS HP HA;obtain⟨q0,q1,q2⟩:=zP t0 t1 t2 (.slice o1 S.length m1) (.slice o2 P.length m2) (.slice o3 A.length m3);have HB:Hid (Below w.heap.size w (((w3.setCell ⟨w.heap.size+1,0,none⟩ (.slice o1 S.length m1)).setCell ⟨w.heap.size+1,1,none⟩ (.slice o2 P.length m2)).setCell ⟨w.heap.size+1,2,none⟩ (.slice o3 A.length m3))):=((k3.setCell (Nat.le_succ _) _).setCell (Nat.le_succ _) _).setCell (Nat.le_succ _) _;have R1:=aa (aI (ownsRow_setCell_below (ownsRow_setCell_below (ownsRow_setCell_below O1.out (a:=⟨w.heap.size+1,0,none⟩) N1 (.slice o1 S.length m1)) (a:=⟨w.heap.size+1,1,none⟩) N1 (.slice o2 P.length m2)) (a:=⟨w.heap.size+1,2,none⟩) N1 (.slice o3 A.length m3)) (show w.heap.size≤W0.drew.heap.size by omega));have R2:=aa (aI (ownsRow_setCell_below (ownsRow_setCell_below (ownsRow_setCell_below O2.out (a:=⟨w.heap.size+1,0,none⟩) N2 (.slice o1 S.length m1)) (a:=⟨w.heap.size+1,1,none⟩) N2 (.slice o2 P.length m2)) (a:=⟨w.heap.size+1,2,none⟩) N2 (.slice o3 A.length m3)) (show w.heap.size≤w1.heap.size by omega));have R3:=aa (aI (ownsRow_setCell_below (ownsRow_setCell_below (ownsRow_setCell_below HO3.out (a:=⟨w.heap.size+1,0,none⟩) N3 (.slice o1 S.length m1)) (a:=⟨w.heap.size+1,1,none⟩) N3 (.slice o2 P.length m2)) (a:=⟨w.heap.size+1,2,none⟩) N3 (.slice o3 A.length m3)) (show w.heap.size≤w2.heap.size by omega));clear O1 O2 HO3 k3 t0 t1 t2 N1 N2 N3;generalize (((w3.setCell ⟨w.heap.size+1,0,none⟩ (.slice o1 S.length m1)).setCell ⟨w.heap.size+1,1,none⟩ (.slice o2 P.length m2)).setCell ⟨w.heap.size+1,2,none⟩ (.slice o3 A.length m3))=W at*;go_wp2_with fail
 refine bodyPost_ret (v:=.agg #[.slice o1 S.length m1,.slice o2 P.length m2,.slice o3 A.length m3]) ?_ rfl ⟨_,_,_,rfl,⟨R1.out,R2.out,R3.out,A12.out,A13.out,A23.out⟩,HB.out⟩;simp [results,Tryz.results14,go_sem,q0,q1,q2]
def nxS (S:List Sw) (a:Ax):List Sw:=if a.k=1 then S++ [a.s]else S
def nxP (P:List Pr) (a:Ax):List Pr:=if a.k=2 then P++ [a.p]else if a.k=4 then P.eraseIdx (pat P a.n).toNat else if a.k=6 then P.set (pat P a.n).toNat ⟨(P.getD (pat P a.n).toNat pr0).i,(P.getD (pat P a.n).toNat pr0).s,(P.getD (pat P a.n).toNat pr0).m,(P.getD (pat P a.n).toNat pr0).p,a.m⟩else P
def nxA (A:List Ac) (a:Ax):List Ac:=if a.k=3 then A++ [a.r]else if a.k=5 then A.eraseIdx a.n.toNat else A
theorem RowAt.set_far {α:Type} {C:α→List Value} {sz:Nat} {w:World} {v:Value} {l:List α} (h:RowAt C sz w v l) {b:Nat} (hne:v.ownBlock≠some b) (o:Nat) (x:Value):RowAt C sz (w.setCell ⟨b,o,none⟩ x) v l:=by
 obtain⟨a,cap,rfl,hn,h0 |⟨b',off,rfl,hc,hL⟩⟩:=h
 ·exact⟨a,cap,rfl,hn,.inl h0⟩
 ·refine⟨_,cap,rfl,hn,.inr ⟨b',off,rfl,hc,fun i y hy j u hu=>?_⟩⟩;rw [World.cell?_setCell_other _ _ _ _ (fun e=>hne (by simp only [Addr.mk.injEq]at e;simp [Value.ownBlock,e.1]))];exact hL i y hy j u hu
theorem CfAt.set_far {w:World} {sv pv av:Value} {S:List Sw} {P:List Pr} {A:List Ac} (h:CfAt w sv pv av S P A) {b:Nat} (h1:sv.ownBlock≠some b) (h2:pv.ownBlock≠some b) (h3:av.ownBlock≠some b) (o:Nat) (x:Value):CfAt (w.setCell ⟨b,o,none⟩ x) sv pv av S P A:=
 ⟨RowAt.set_far h.1 h1 o x,RowAt.set_far h.2.1 h2 o x,RowAt.set_far h.2.2 h3 o x⟩
theorem gG {u v:Value} (h:u.ownBlock=none∨u.ownBlock≠v.ownBlock):v.ownBlock=none∨v.ownBlock≠u.ownBlock:=by
 rcases h with h | h
 ·rw [h];cases v.ownBlock
  ·exact .inl rfl
  ·exact .inr (by simp)
 ·exact .inr fun e=>h e.symm
theorem ix {w:World} {B e size n:Nat} {v:Value} {xs:List Value} (h:w.ownsRow B e size v n xs) {b:Nat} (hb:w.heap.size≤b):v.ownBlock≠some b:=fun e=>by
 have:=cK h e;omega
theorem As {w w':World} {row:Option Nat} (hg:w.grownBy w' row) {b o:Nat} (hb:b<w.heap.size) (h:w.frozen? ⟨b,o,none⟩=false) (hne:some b≠row):w'.frozen? ⟨b,o,none⟩=false:=
 (World.frozen?_of_block (w:=w) (hg.block b hb hne)).trans h
theorem lB {α:Type} (C:α→List Value) (l:List α) (x:α):l.flatMap C++C x=(l++ [x]).flatMap C:=by simp
theorem rB:∀(l:List Pr) (k:Nat) (m:Int),k<l.length→(l.flatMap prC).set (k*5+4) (.int .i64 m)=(l.set k ⟨(l.getD k pr0).i,(l.getD k pr0).s,(l.getD k pr0).m,(l.getD k pr0).p,m⟩).flatMap prC
 | [],k,m,h=>by simp at h
 | y::r,0,m,_=>by simp [prC]
 | y::r,k+1,m,h=>by
  have ih:=rB r k m (by simpa using h);have e:(k+1)*5+4=(k*5+4)+5:=(by omega);simp only [List.flatMap_cons,List.set_cons_succ,List.getD_cons_succ]at ih⊢;rw [e, ←ih];simp [prC]
def Hi3 (B:Nat) (x y z:Value):Prop:=(∀g,x.ownBlock=some g→B≤g)∧(∀g,y.ownBlock=some g→B≤g)∧(∀g,z.ownBlock=some g→B≤g)
theorem Box.grownC {w w':World} {b:Nat} {cs:List Value} {row:Option Nat} (h:Box w b cs) (hg:w.grownBy w' row) (hne:some b≠row):Box w' b cs:=
 ⟨⟨Nat.lt_of_lt_of_le h.1.1 hg.size,fun j v hj=>hg.cell (h.1.2 j v hj) hne⟩,fun j hj=>As hg h.1.1 (h.2 j hj) hne⟩
theorem lH:(Tryz.prog.info? 32).map (·.size)=some 3:=by kernel_rfl
def Th (w W:World) (s p a:Value):Prop:=Box W w.heap.size [s,p,a]∧Box W (w.heap.size+1+1) [.slice none 0 0,.slice none 0 0,.slice none 0 0]
theorem Th.new (w:World) (s p a:Value) (x:Obj):Th w (((w.alloc (.cells #[s,p,a] 32)).alloc x).alloc (.cells #[.slice none 0 0,.slice none 0 0,.slice none 0 0] 32)) s p a:=by
 have h:=Box.new ((w.alloc (.cells #[s,p,a] 32)).alloc x) [.slice none 0 0,.slice none 0 0,.slice none 0 0] 32;rw [show((w.alloc (.cells #[s,p,a] 32)).alloc x).heap.size=w.heap.size+1+1 by simp]at h;exact⟨((Box.new w [s,p,a] 32).alloc x).alloc _,h⟩
theorem Th.below {w W V:World} {s p a:Value} (h:Th w W s p a) (hb:Below W.heap.size W V):Th w V s p a:=⟨h.1.below hb,h.2.below hb⟩
theorem Th.alloc {w W:World} {s p a:Value} (h:Th w W s p a) (x:Obj):Th w (W.alloc x) s p a:=⟨h.1.alloc x,h.2.alloc x⟩
theorem Th.grown {w W V:World} {s p a:Value} {row:Option Nat} (h:Th w W s p a) (hg:W.grownBy V row) (hn:∀b,w.heap.size≤b→some b≠row):Th w V s p a:=⟨h.1.grownC hg (hn _ zr),h.2.grownC hg (hn _ (by omega))⟩
theorem Th.get {w W:World} {s p a:Value} (h:Th w W s p a):W.cell? ⟨w.heap.size,0,none⟩=some s∧W.cell? ⟨w.heap.size,1,none⟩=some p∧W.cell? ⟨w.heap.size,2,none⟩=some a∧
  W.cell? ⟨w.heap.size+1+1,0,none⟩=some (.slice none 0 0)∧W.cell? ⟨w.heap.size+1+1,1,none⟩=some (.slice none 0 0)∧W.cell? ⟨w.heap.size+1+1,2,none⟩=some (.slice none 0 0)∧
  W.frozen? ⟨w.heap.size,0,none⟩=false∧W.frozen? ⟨w.heap.size,1,none⟩=false∧W.frozen? ⟨w.heap.size,2,none⟩=false∧
  W.frozen? ⟨w.heap.size+1+1,0,none⟩=false∧W.frozen? ⟨w.heap.size+1+1,1,none⟩=false∧W.frozen? ⟨w.heap.size+1+1,2,none⟩=false:=
 ⟨h.1.cell 0 _ rfl,h.1.cell 1 _ rfl,h.1.cell 2 _ rfl,h.2.cell 0 _ rfl,h.2.cell 1 _ rfl,h.2.cell 2 _ rfl,h.1.2 0 (by simp),h.1.2 1 (by simp),h.1.2 2 (by simp),h.2.2 0 (by simp),h.2.2 1 (by simp),h.2.2 2 (by simp)⟩
def Nwb (w:World) (x:Value):Prop:=∀b,w.heap.size≤b→b<w.heap.size+1+1+1+1→x.ownBlock≠some b
def Cz (w:World) (B:Nat) (x y z:Value) (S:List Sw) (P:List Pr) (A:List Ac) (V:World):Prop:=V.rangeAt (w.heap.size+1+1) 0 [x,y,z]∧CfAt V x y z S P A∧Below B w V
theorem CK {w W:World} {B:Nat} {x y z t u v:Value} {S:List Sw} {P:List Pr} {A:List Ac} (hB:B≤w.heap.size) (hC:CfAt W x y z S P A) (hL:Below B w W) (hx:Nwb w x) (hy:Nwb w y) (hz:Nwb w z)
  (t0:W.cell? ⟨w.heap.size+1+1,0,none⟩=some t) (t1:W.cell? ⟨w.heap.size+1+1,1,none⟩=some u) (t2:W.cell? ⟨w.heap.size+1+1,2,none⟩=some v):
  Cz w B x y z S P A (((W.setCell ⟨w.heap.size+1+1,0,none⟩ x).setCell ⟨w.heap.size+1+1,1,none⟩ y).setCell ⟨w.heap.size+1+1,2,none⟩ z):=by
 obtain⟨u0,u1,u2⟩:=zP t0 t1 t2 x y z;have hx':=hx (w.heap.size+1+1) (by omega) (by omega);have hy':=hy (w.heap.size+1+1) (by omega) (by omega);have hz':=hz (w.heap.size+1+1) (by omega) (by omega);have hB':B≤w.heap.size+1+1:=by omega
 refine⟨fun j v hj=>?_,((hC.set_far hx' hy' hz' 0 x).set_far hx' hy' hz' 1 y).set_far hx' hy' hz' 2 z,((hL.setCell (p:=⟨w.heap.size+1+1,0,none⟩) hB' x).setCell (p:=⟨w.heap.size+1+1,1,none⟩) hB' y).setCell (p:=⟨w.heap.size+1+1,2,none⟩) hB' z⟩;have h3:j<3:=by
  have:=(List.getElem?_eq_some_iff.1 hj).1;simpa using this
 rw [Nat.zero_add];rcases(by omega:j=0∨j=1∨j=2)with rfl | rfl | rfl
 ·exact u0.trans hj
 ·exact u1.trans hj
 ·exact u2.trans hj
theorem Ab {w W:World} {B:Nat} {s p a x y z:Value} {S:List Sw} {P:List Pr} {A:List Ac} (hT:Th w W s p a) (hB:B≤w.heap.size) (hC:CfAt W x y z S P A) (hL:Below B w W) (hx:Nwb w x) (hy:Nwb w y) (hz:Nwb w z) (i:Nat) (v:Value):
  Cz w B x y z S P A ((((W.setCell ⟨w.heap.size,i,none⟩ v).setCell ⟨w.heap.size+1+1,0,none⟩ x).setCell ⟨w.heap.size+1+1,1,none⟩ y).setCell ⟨w.heap.size+1+1,2,none⟩ z):=by
 obtain⟨-, -, -,q0,q1,q2, -⟩:=hT.get;refine CK hB (hC.set_far (hx _ zr (by omega)) (hy _ zr (by omega)) (hz _ zr (by omega)) i v) (hL.setCell (p:=⟨w.heap.size,i,none⟩) hB v) hx hy hz ((World.cell?_setCell_other _ _ _ _ ?_).trans q0) ((World.cell?_setCell_other _ _ _ _ ?_).trans q1) ((World.cell?_setCell_other _ _ _ _ ?_).trans q2)
 all_goals
  intro h;simp at h <;>omega
theorem rl (B:Nat) (sv pv av:Value) (S:List Sw) (P:List Pr) (A:List Ac) (a:Ax) (w:World) (ho:Own3 w B sv pv av S P A) (hB:B≤w.heap.size) (l1:S.length≤12) (l2:P.length≤40) (l3:A.length≤40)
  (hp:a.k=4∨a.k=6→0≤pat P a.n) (hn:a.k=5→0≤a.n∧a.n<A.length):
  Calls Tryz.prog 33 #[.agg #[sv,pv,av],eM a] w fun e w'=>∃su pu au,e= .returned (.agg #[su,pu,au])∧CfAt w' su pu au (nxS S a) (nxP P a) (nxA A a)∧Below B w w'∧Hi3 B su pu au:=by
 obtain⟨iS,hiS,zS0,zS1,zS2⟩:=info_parts tg;obtain⟨iP,hiP,zP0,zP1,zP2⟩:=info_parts qs;obtain⟨iA,hiA,zA0,zA1,zA2⟩:=info_parts qg;have HO:=aa ho;obtain⟨s1,s2,rfl⟩:=aq ho.s;obtain⟨p1,p2,rfl⟩:=aq ho.p;obtain⟨a1,a2,rfl⟩:=aq ho.a;clear ho;have HAT:=aa (fun W (hW:Below w.heap.size w W)=>j8 _ _ _ S P A a.n W (HO.out.cf.below hW zr) (by omega));have HNS:Hid (Nwb w (.slice s1 S.length s2)):=fun b hb _=>ix HO.out.s hb;have HNP:Hid (Nwb w (.slice p1 P.length p2)):=fun b hb _=>ix HO.out.p hb;have HNA:Hid (Nwb w (.slice a1 A.length a2)):=fun b hb _=>ix HO.out.a hb;obtain⟨k,si,st,sg,pi,ps,pm,pp,pc,rs,rp,rn,rf,rb,rt,re,ro,rd,n,m,f0,f1,f2,f3,f4,f5,f6,body⟩:=a;simp only at hp hn HAT⊢;have hcase:k=1∨k=2∨k=3∨k=4∨k=5∨k=6∨(¬k=1∧¬k=2∧¬k=3∧¬k=4∧¬k=5∧¬k=6):=by omega
 have nn1:w.heap.size≠w.heap.size+1+1:=by omega
 go_enter Tryz.func33,Tryz.ntmps33;rcases hcase with rfl | rfl | rfl | rfl | rfl | rfl |⟨k1,k2,k3,k4,k5,k6⟩
 ·go_wp2_with (at_builtin;refine wpList_append_own_at _ rfl _ _ 28 rfl B 45 iS _ 3 24 Tryz.underlying28 hiS zS0 zS1 zS2 rfl (by decide) _ _ _ rfl ((((HO.out.s.alloc _).alloc _).alloc _).alloc _) ⟨w.heap.size+1+1+1,0,none⟩ 1 1 [.int .i64 si,.int .i64 st,.int .i64 sg] rfl rfl ?a2 (cT rfl) ?a3 ?a4 ?a5 ?_)
  case a2=>
   intro j u hj;rw [gW,Nat.zero_add];exact ah _ _ (by simp) #[.int .i64 si,.int .i64 st,.int .i64 sg] _ j u (by simpa using hj)
  case a3=>unfold maxLen;omega
  case a4=>omega
  case a5=>simp;omega
  intro v1 w1 ho1 hg1 _ hat;have HT:=aa (((Th.new w _ _ _ _).alloc _).grown hg1 (fun b hb e=>ix HO.out.s hb e.symm));have Kp:=aa (World.ownsRow.kept ((((HO.out.p.alloc _).alloc _).alloc _).alloc _) hg1 (gG HO.out.sp));have Ka:=aa (World.ownsRow.kept ((((HO.out.a.alloc _).alloc _).alloc _).alloc _) hg1 (gG HO.out.sa));have Ks:Hid (w1.ownsRow B 45 3 v1 (S++ [(⟨si,st,sg⟩:Sw)]).length ((S++ [(⟨si,st,sg⟩:Sw)]).flatMap swC)):=by
   show World.ownsRow _ _ _ _ _ _ _;rw [List.length_append, ←lB];exact ho1
  have HN:Hid (Nwb w v1):=fun b hb hb2 e=>by
   rcases hat with h | h
   ·exact ix HO.out.s hb (h.symm.trans e)
   ·rw [h]at e;simp at e;omega
  obtain⟨o1,m1,rfl⟩:=aq ho1;have HCF:=aa (show CfAt w1 _ _ _ _ _ _ from⟨RowAt.of_own dE (by omega) Ks.out,RowAt.of_own bw (by omega) Kp.out,RowAt.of_own cE (by omega) Ka.out⟩);have HI3:=aa (And.intro (ay Ks.out) (And.intro (ay Kp.out) (ay Ka.out)));have HBE:=aa ((((((Below.refl _ w).alloc hB _).alloc (by simp;omega) _).alloc (by simp;omega) _).alloc (by simp;omega) _).grown hg1 (by simp;omega) (ay HO.out.s));clear hat ho1 hg1 HAT Ks Kp Ka;obtain⟨d0,d1,d2,q0,q1,q2,y0,y1,y2,f0,f1,f2⟩:=HT.out.get;go_wp2_with fail
  have F:=aa (Ab HT.out hB HCF.out HBE.out HN.out HNP.out HNA.out 0 (.slice o1 (S.length+1) m1));refine bodyPost_ret (v:=.agg #[.slice o1 (S.length+1) m1,.slice p1 P.length p2,.slice a1 A.length a2]) (ek (cs:=[.slice o1 (S.length+1) m1,.slice p1 P.length p2,.slice a1 A.length a2]) Tryz.results33 rfl F.out.1 Tryz.underlying32 rfl lH) rfl ⟨_,_,_,rfl,by simpa [nxS,nxP,nxA,Ax.s,Ax.p,Ax.r] using F.out.2.1,F.out.2.2,HI3.out⟩
 ·go_wp2_with (at_builtin;refine wpList_append_own_at _ rfl _ _ 29 rfl B 47 iP _ 5 40 Tryz.underlying29 hiP zP0 zP1 zP2 rfl (by decide) _ _ _ rfl ((((HO.out.p.alloc _).alloc _).alloc _).alloc _) ⟨w.heap.size+1+1+1,0,none⟩ 1 1 [.int .i64 pi,.int .i64 ps,.int .i64 pm,.int .i64 pp,.int .i64 pc] rfl rfl ?a2 (cT rfl) ?a3 ?a4 ?a5 ?_)
  case a2=>
   intro j u hj;rw [gW,Nat.zero_add];exact ah _ _ (by simp) #[.int .i64 pi,.int .i64 ps,.int .i64 pm,.int .i64 pp,.int .i64 pc] _ j u (by simpa using hj)
  case a3=>unfold maxLen;omega
  case a4=>omega
  case a5=>simp;omega
  intro v1 w1 ho1 hg1 _ hat;have HT:=aa (((Th.new w _ _ _ _).alloc _).grown hg1 (fun b hb e=>ix HO.out.p hb e.symm));have Ks:=aa (World.ownsRow.kept ((((HO.out.s.alloc _).alloc _).alloc _).alloc _) hg1 HO.out.sp);have Ka:=aa (World.ownsRow.kept ((((HO.out.a.alloc _).alloc _).alloc _).alloc _) hg1 (gG HO.out.pa));have Kp:Hid (w1.ownsRow B 47 5 v1 (P++ [(⟨pi,ps,pm,pp,pc⟩:Pr)]).length ((P++ [(⟨pi,ps,pm,pp,pc⟩:Pr)]).flatMap prC)):=by
   show World.ownsRow _ _ _ _ _ _ _;rw [List.length_append, ←lB];exact ho1
  have HN:Hid (Nwb w v1):=fun b hb hb2 e=>by
   rcases hat with h | h
   ·exact ix HO.out.p hb (h.symm.trans e)
   ·rw [h]at e;simp at e;omega
  obtain⟨o1,m1,rfl⟩:=aq ho1;have HCF:=aa (show CfAt w1 _ _ _ _ _ _ from⟨RowAt.of_own dE (by omega) Ks.out,RowAt.of_own bw (by omega) Kp.out,RowAt.of_own cE (by omega) Ka.out⟩);have HI3:=aa (And.intro (ay Ks.out) (And.intro (ay Kp.out) (ay Ka.out)));have HBE:=aa ((((((Below.refl _ w).alloc hB _).alloc (by simp;omega) _).alloc (by simp;omega) _).alloc (by simp;omega) _).grown hg1 (by simp;omega) (ay HO.out.p));clear hat ho1 hg1 HAT Ks Kp Ka;obtain⟨d0,d1,d2,q0,q1,q2,y0,y1,y2,f0,f1,f2⟩:=HT.out.get;go_wp2_with fail
  have F:=aa (Ab HT.out hB HCF.out HBE.out HNS.out HN.out HNA.out 1 (.slice o1 (P.length+1) m1));refine bodyPost_ret (v:=.agg #[.slice s1 S.length s2,.slice o1 (P.length+1) m1,.slice a1 A.length a2]) (ek (cs:=[.slice s1 S.length s2,.slice o1 (P.length+1) m1,.slice a1 A.length a2]) Tryz.results33 rfl F.out.1 Tryz.underlying32 rfl lH) rfl ⟨_,_,_,rfl,by simpa [nxS,nxP,nxA,Ax.s,Ax.p,Ax.r] using F.out.2.1,F.out.2.2,HI3.out⟩
 ·go_wp2_with (at_builtin;refine wpList_append_own_at _ rfl _ _ 30 rfl B 49 iA _ 9 72 Tryz.underlying30 hiA zA0 zA1 zA2 rfl (by decide) _ _ _ rfl ((((HO.out.a.alloc _).alloc _).alloc _).alloc _) ⟨w.heap.size+1+1+1,0,none⟩ 1 1 [.int .i64 rs,.int .i64 rp,.bool rn,.int .i64 rf,.int .i64 rb,.int .i64 rt,.int .i64 re,.int .i64 ro,.bool rd] rfl rfl ?a2 (cT rfl) ?a3 ?a4 ?a5 ?_)
  case a2=>
   intro j u hj;rw [gW,Nat.zero_add];exact ah _ _ (by simp) #[.int .i64 rs,.int .i64 rp,.bool rn,.int .i64 rf,.int .i64 rb,.int .i64 rt,.int .i64 re,.int .i64 ro,.bool rd] _ j u (by simpa using hj)
  case a3=>unfold maxLen;omega
  case a4=>omega
  case a5=>simp;omega
  intro v1 w1 ho1 hg1 _ hat;have HT:=aa (((Th.new w _ _ _ _).alloc _).grown hg1 (fun b hb e=>ix HO.out.a hb e.symm));have Ks:=aa (World.ownsRow.kept ((((HO.out.s.alloc _).alloc _).alloc _).alloc _) hg1 HO.out.sa);have Kp:=aa (World.ownsRow.kept ((((HO.out.p.alloc _).alloc _).alloc _).alloc _) hg1 HO.out.pa);have Ka:Hid (w1.ownsRow B 49 9 v1 (A++ [(⟨rs,rp,rn,rf,rb,rt,re,ro,rd⟩:Ac)]).length ((A++ [(⟨rs,rp,rn,rf,rb,rt,re,ro,rd⟩:Ac)]).flatMap acC)):=by
   show World.ownsRow _ _ _ _ _ _ _;rw [List.length_append, ←lB];exact ho1
  have HN:Hid (Nwb w v1):=fun b hb hb2 e=>by
   rcases hat with h | h
   ·exact ix HO.out.a hb (h.symm.trans e)
   ·rw [h]at e;simp at e;omega
  obtain⟨o1,m1,rfl⟩:=aq ho1;have HCF:=aa (show CfAt w1 _ _ _ _ _ _ from⟨RowAt.of_own dE (by omega) Ks.out,RowAt.of_own bw (by omega) Kp.out,RowAt.of_own cE (by omega) Ka.out⟩);have HI3:=aa (And.intro (ay Ks.out) (And.intro (ay Kp.out) (ay Ka.out)));have HBE:=aa ((((((Below.refl _ w).alloc hB _).alloc (by simp;omega) _).alloc (by simp;omega) _).alloc (by simp;omega) _).grown hg1 (by simp;omega) (ay HO.out.a));clear hat ho1 hg1 HAT Ks Kp Ka;obtain⟨d0,d1,d2,q0,q1,q2,y0,y1,y2,f0,f1,f2⟩:=HT.out.get;go_wp2_with fail
  have F:=aa (Ab HT.out hB HCF.out HBE.out HNS.out HNP.out HN.out 2 (.slice o1 (A.length+1) m1));refine bodyPost_ret (v:=.agg #[.slice s1 S.length s2,.slice p1 P.length p2,.slice o1 (A.length+1) m1]) (ek (cs:=[.slice s1 S.length s2,.slice p1 P.length p2,.slice o1 (A.length+1) m1]) Tryz.results33 rfl F.out.1 Tryz.underlying32 rfl lH) rfl ⟨_,_,_,rfl,by simpa [nxS,nxP,nxA,Ax.s,Ax.p,Ax.r] using F.out.2.1,F.out.2.2,HI3.out⟩
 ·have hpp:=hp (.inl rfl);have hbd:=qt (fun x:Pr=>x.i==n) P;obtain⟨kk,hkk⟩:∃kk:Nat,pat P n=(kk:Int):=⟨(pat P n).toNat,by omega⟩;have hkl:kk<P.length:=by have:pat P n<P.length:=hbd.2;omega
  rw [hkk]at HAT;have HKK:=aa hkk;clear hkk hbd hpp hp hn;obtain⟨g,cap,hform, -, -⟩:=HO.out.p.form (by omega);simp only [Value.slice.injEq,true_and]at hform;obtain⟨rfl,rfl⟩:=hform;have hgw:g<w.heap.size:=cK HO.out.p rfl;go_wp2_with fail
  obtain⟨W0,hW0⟩:∃W0,W0=(((w.alloc (.cells #[.slice s1 S.length s2,.slice (some ⟨g,0,none⟩) P.length p2,.slice a1 A.length a2] 32)).alloc (.cells #[.int .i64 4,.int .i64 si,.int .i64 st,.int .i64 sg,.int .i64 pi,.int .i64 ps,.int .i64 pm,.int .i64 pp,.int .i64 pc,.int .i64 rs,.int .i64 rp,.bool rn,.int .i64 rf,.int .i64 rb,.int .i64 rt,.int .i64 re,.int .i64 ro,.bool rd,.int .i64 n,.int .i64 m,.int .i64 f0,.int .i64 f1,.int .i64 f2,.int .i64 f3,.int .i64 f4,.int .i64 f5,.int .i64 f6,.string body] 51)).alloc (.cells #[.slice none 0 0,.slice none 0 0,.slice none 0 0] 32)):=⟨_,rfl⟩;have hb0:Below w.heap.size w W0:=by rw [hW0];exact(((Below.refl _ w).alloc zr _).alloc (by simp) _).alloc (by simp;omega) _
  have hz0:W0.heap.size=w.heap.size+3:=by rw [hW0];simp
  have HT:Hid (Th w W0 (.slice s1 S.length s2) (.slice (some ⟨g,0,none⟩) P.length p2) (.slice a1 A.length a2)):=by rw [hW0];exact Th.new w _ _ _ _
  rw [←hW0];clear hW0;refine(ag HAT _ hb0).mono ?_;rintro e w1 ⟨rfl,hb1⟩;have k1:=hb0.trans (hb1.mono hb0.size);replace HT:=aa (HT.out.below hb1);obtain⟨d0,d1,d2,q0,q1,q2,y0,y1,y2,f0,f1,f2⟩:=HT.out.get;have Os:=aa (aw HO.out.s k1);have Op:=aa (aw HO.out.p k1);have Oa:=aa (aw HO.out.a k1);clear HAT hb0 hb1;go_wp2_with fail
  clear d0 d1 d2 q0 q1 q2 y0 y1 y2 f0 f1 f2;refine(qo P B g p2 kk w1 Op.out hkl (by omega)).mono ?_;rintro e w2 ⟨rfl,ho2,hg2⟩;replace HT:=aa (HT.out.grown hg2 (fun b hb e=>by simp at e;omega));have Ks:=aa (World.ownsRow.kept Os.out hg2 HO.out.sp);have Ka:=aa (World.ownsRow.kept Oa.out hg2 (gG HO.out.pa));have HCF:Hid (CfAt w2 (.slice s1 S.length s2) (.slice (some ⟨g,0,none⟩) (P.length-1) p2) (.slice a1 A.length a2) S (P.eraseIdx kk) A):=⟨RowAt.of_own dE (by omega) Ks.out,RowAt.of_own bw (by omega) (by rw [List.length_eraseIdx_of_lt hkl];exact ho2),RowAt.of_own cE (by omega) Ka.out⟩;have HI3:=aa (And.intro (ay Ks.out) (And.intro (ay ho2) (ay Ka.out)));have HBE:Hid (Below B w w2):=(k1.mono hB).grown hg2 (Nat.le_trans hB k1.size) (fun b e=>by simp at e;subst e;exact ay HO.out.p _ rfl);clear ho2 hg2 Ks Ka Os Op Oa k1;obtain⟨d0,d1,d2,q0,q1,q2,y0,y1,y2,f0,f1,f2⟩:=HT.out.get;go_wp2_with fail
  have F:=aa (Ab HT.out hB HCF.out HBE.out HNS.out HNP.out HNA.out 1 (.slice (some ⟨g,0,none⟩) (P.length-1) p2));refine bodyPost_ret (v:=.agg #[.slice s1 S.length s2,.slice (some ⟨g,0,none⟩) (P.length-1) p2,.slice a1 A.length a2]) (ek (cs:=[.slice s1 S.length s2,.slice (some ⟨g,0,none⟩) (P.length-1) p2,.slice a1 A.length a2]) Tryz.results33 rfl F.out.1 Tryz.underlying32 rfl lH) rfl ⟨_,_,_,rfl,by simpa [nxS,nxP,nxA,HKK.out] using F.out.2.1,F.out.2.2,HI3.out⟩
 ·obtain⟨hn0,hn1⟩:=hn rfl;obtain⟨kk,rfl⟩:=Int.eq_ofNat_of_zero_le hn0;have hkl:kk<A.length:=(by omega);clear hn0 hn1 hp hn HAT;obtain⟨g,cap,hform, -, -⟩:=HO.out.a.form (by omega);simp only [Value.slice.injEq,true_and]at hform;obtain⟨rfl,rfl⟩:=hform;have hgw:g<w.heap.size:=cK HO.out.a rfl;go_wp2_with fail
  obtain⟨W0,hW0⟩:∃W0,W0=(((w.alloc (.cells #[.slice s1 S.length s2,.slice p1 P.length p2,.slice (some ⟨g,0,none⟩) A.length a2] 32)).alloc (.cells #[.int .i64 5,.int .i64 si,.int .i64 st,.int .i64 sg,.int .i64 pi,.int .i64 ps,.int .i64 pm,.int .i64 pp,.int .i64 pc,.int .i64 rs,.int .i64 rp,.bool rn,.int .i64 rf,.int .i64 rb,.int .i64 rt,.int .i64 re,.int .i64 ro,.bool rd,.int .i64 (kk:Int),.int .i64 m,.int .i64 f0,.int .i64 f1,.int .i64 f2,.int .i64 f3,.int .i64 f4,.int .i64 f5,.int .i64 f6,.string body] 51)).alloc (.cells #[.slice none 0 0,.slice none 0 0,.slice none 0 0] 32)):=⟨_,rfl⟩;have hb0:Below w.heap.size w W0:=by rw [hW0];exact(((Below.refl _ w).alloc zr _).alloc (by simp) _).alloc (by simp;omega) _
  have hz0:W0.heap.size=w.heap.size+3:=by rw [hW0];simp
  have HT:Hid (Th w W0 (.slice s1 S.length s2) (.slice p1 P.length p2) (.slice (some ⟨g,0,none⟩) A.length a2)):=by rw [hW0];exact Th.new w _ _ _ _
  rw [←hW0];clear hW0;have k1:=hb0;have Os:=aa (aw HO.out.s k1);have Op:=aa (aw HO.out.p k1);have Oa:=aa (aw HO.out.a k1);clear hb0;refine(qA A B g a2 kk W0 Oa.out hkl (by omega)).mono ?_;rintro e w2 ⟨rfl,ho2,hg2⟩;replace HT:=aa (HT.out.grown hg2 (fun b hb e=>by simp at e;omega));have Ks:=aa (World.ownsRow.kept Os.out hg2 HO.out.sa);have Kp:=aa (World.ownsRow.kept Op.out hg2 HO.out.pa);have HCF:Hid (CfAt w2 (.slice s1 S.length s2) (.slice p1 P.length p2) (.slice (some ⟨g,0,none⟩) (A.length-1) a2) S P (A.eraseIdx kk)):=⟨RowAt.of_own dE (by omega) Ks.out,RowAt.of_own bw (by omega) Kp.out,RowAt.of_own cE (by omega) (by rw [List.length_eraseIdx_of_lt hkl];exact ho2)⟩;have HI3:=aa (And.intro (ay Ks.out) (And.intro (ay Kp.out) (ay ho2)));have HBE:Hid (Below B w w2):=(k1.mono hB).grown hg2 (Nat.le_trans hB k1.size) (fun b e=>by simp at e;subst e;exact ay HO.out.a _ rfl);clear ho2 hg2 Ks Kp Os Op Oa k1;obtain⟨d0,d1,d2,q0,q1,q2,y0,y1,y2,f0,f1,f2⟩:=HT.out.get;go_wp2_with fail
  have F:=aa (Ab HT.out hB HCF.out HBE.out HNS.out HNP.out HNA.out 2 (.slice (some ⟨g,0,none⟩) (A.length-1) a2));refine bodyPost_ret (v:=.agg #[.slice s1 S.length s2,.slice p1 P.length p2,.slice (some ⟨g,0,none⟩) (A.length-1) a2]) (ek (cs:=[.slice s1 S.length s2,.slice p1 P.length p2,.slice (some ⟨g,0,none⟩) (A.length-1) a2]) Tryz.results33 rfl F.out.1 Tryz.underlying32 rfl lH) rfl ⟨_,_,_,rfl,by simpa [nxS,nxP,nxA,Int.toNat_natCast] using F.out.2.1,F.out.2.2,HI3.out⟩
 ·have hpp:=hp (.inr rfl);have hbd:=qt (fun x:Pr=>x.i==n) P;obtain⟨kk,hkk⟩:∃kk:Nat,pat P n=(kk:Int):=⟨(pat P n).toNat,by omega⟩;have hkl:kk<P.length:=by have:pat P n<P.length:=hbd.2;omega
  rw [hkk]at HAT;have HKK:=aa hkk;clear hkk hbd hpp hp hn;obtain⟨g,cap,hform, -, -⟩:=HO.out.p.form (by omega);simp only [Value.slice.injEq,true_and]at hform;obtain⟨rfl,rfl⟩:=hform;have hgw:g<w.heap.size:=cK HO.out.p rfl;have q3:(0:Int)≤(kk:Int):=(by omega);have q4:(kk:Int)<(P.length:Int):=(by omega);go_wp2_with fail
  obtain⟨W0,hW0⟩:∃W0,W0=(((w.alloc (.cells #[.slice s1 S.length s2,.slice (some ⟨g,0,none⟩) P.length p2,.slice a1 A.length a2] 32)).alloc (.cells #[.int .i64 6,.int .i64 si,.int .i64 st,.int .i64 sg,.int .i64 pi,.int .i64 ps,.int .i64 pm,.int .i64 pp,.int .i64 pc,.int .i64 rs,.int .i64 rp,.bool rn,.int .i64 rf,.int .i64 rb,.int .i64 rt,.int .i64 re,.int .i64 ro,.bool rd,.int .i64 n,.int .i64 m,.int .i64 f0,.int .i64 f1,.int .i64 f2,.int .i64 f3,.int .i64 f4,.int .i64 f5,.int .i64 f6,.string body] 51)).alloc (.cells #[.slice none 0 0,.slice none 0 0,.slice none 0 0] 32)):=⟨_,rfl⟩;have hb0:Below w.heap.size w W0:=by rw [hW0];exact(((Below.refl _ w).alloc zr _).alloc (by simp) _).alloc (by simp;omega) _
  have hz0:W0.heap.size=w.heap.size+3:=by rw [hW0];simp
  have HT:Hid (Th w W0 (.slice s1 S.length s2) (.slice (some ⟨g,0,none⟩) P.length p2) (.slice a1 A.length a2)):=by rw [hW0];exact Th.new w _ _ _ _
  have xn:W0.cell? ⟨w.heap.size+1,18,none⟩=some (.int .i64 n):=by rw [hW0];exact aH (ah _ _ (by simp) _ _ _ _ rfl) _
  have xm:W0.cell? ⟨w.heap.size+1,19,none⟩=some (.int .i64 m):=by rw [hW0];exact aH (ah _ _ (by simp) _ _ _ _ rfl) _
  rw [←hW0];clear hW0;obtain⟨c0,c1,c2, -⟩:=HT.out.get;have O1:=aa (aw HO.out.p hb0);have hrow:=(O1.out.cellAt (kk*5+4) (by omega)).trans (qk bw P kk _ (cH pr0 hkl) 4 _ rfl);have hrf:=O1.out.frozenAt (kk*5+4);have hg1:g≠w.heap.size:=(by omega);have hg2:g≠w.heap.size+1:=(by omega);have hgW:g<W0.heap.size:=(by omega);go_region_held3 (fun w'=>w'.cell? ⟨w.heap.size,0,none⟩=some (.slice s1 S.length s2)∧w'.cell? ⟨w.heap.size,1,none⟩=some (.slice (some ⟨g,0,none⟩) P.length p2)∧w'.cell? ⟨w.heap.size,2,none⟩=some (.slice a1 A.length a2)∧w'.cell? ⟨w.heap.size+1,18,none⟩=some (.int .i64 n)∧w'.cell? ⟨w.heap.size+1,19,none⟩=some (.int .i64 m)) (go_keep)
   (first |(go_at_call 53;refine(ag HAT _ hb0.drew).mono ?_;rintro e w1 ⟨rfl,hc1⟩;have g1:Below W0.heap.size W0 w1:=((Below.refl _ W0).drew).trans hc1;have v0:=zC c0 g1;have v1:=zC c1 g1;have v2:=zC c2 g1;have v3:=zC xn g1;have v4:=zC xm g1;have vr:=zC hrow g1;have vf:=(g1.frozen (p:=⟨g,kk*5+4,none⟩) hgW).trans hrf))
  have k1:=hb0.trans (g1.mono hb0.size);replace HT:=aa ((HT.out.below g1).grown (gC (j:=kk*5+4) (v:=.int .i64 m) (ez w1 (some g))) (fun b hb e=>by simp at e;omega));have K1:=lG (aw HO.out.p k1) (kk*5+4) (.int .i64 m);rw [rB P kk m hkl]at K1;have K0:=World.ownsRow.kept (aw HO.out.s k1) (gC (j:=kk*5+4) (v:=.int .i64 m) (ez w1 (some g))) HO.out.sp;have K2:=World.ownsRow.kept (aw HO.out.a k1) (gC (j:=kk*5+4) (v:=.int .i64 m) (ez w1 (some g))) (gG HO.out.pa);have HCF:Hid (CfAt (w1.setCell ⟨g,kk*5+4,none⟩ (.int .i64 m)) (.slice s1 S.length s2) (.slice (some ⟨g,0,none⟩) P.length p2) (.slice a1 A.length a2) S (P.set kk ⟨(P.getD kk pr0).i,(P.getD kk pr0).s,(P.getD kk pr0).m,(P.getD kk pr0).p,m⟩) A):=⟨RowAt.of_own dE (by omega) K0,RowAt.of_own bw (by omega) (by rw [List.length_set];exact K1),RowAt.of_own cE (by omega) K2⟩;have HI3:=aa (And.intro (ay (K0)) (And.intro (ay (K1)) (ay (K2))));have HBE:Hid (Below B w (w1.setCell ⟨g,kk*5+4,none⟩ (.int .i64 m))):=(k1.mono hB).setCell (p:=⟨g,kk*5+4,none⟩) (ay HO.out.p _ rfl) _;clear K0 K1 K2 O1 k1 g1 hc1 hb0 v0 v1 v2 v3 v4 vr vf hrow hrf HAT c0 c1 c2 xn xm;generalize (w1.setCell ⟨g,kk*5+4,none⟩ (.int .i64 m))=w2 at*;obtain⟨d0,d1,d2,q0,q1,q2, -, -, -,f0,f1,f2⟩:=HT.out.get;go_wp2_with fail
  have F:=aa (CK hB HCF.out HBE.out HNS.out HNP.out HNA.out q0 q1 q2);refine bodyPost_ret (v:=.agg #[.slice s1 S.length s2,.slice (some ⟨g,0,none⟩) P.length p2,.slice a1 A.length a2]) (ek (cs:=[.slice s1 S.length s2,.slice (some ⟨g,0,none⟩) P.length p2,.slice a1 A.length a2]) Tryz.results33 rfl F.out.1 Tryz.underlying32 rfl lH) rfl ⟨_,_,_,rfl,by simpa [nxS,nxP,nxA,HKK.out] using F.out.2.1,F.out.2.2,HI3.out⟩
 ·clear HAT;obtain⟨W0,hW0⟩:∃W0,W0=(((w.alloc (.cells #[.slice s1 S.length s2,.slice p1 P.length p2,.slice a1 A.length a2] 32)).alloc (.cells #[.int .i64 k,.int .i64 si,.int .i64 st,.int .i64 sg,.int .i64 pi,.int .i64 ps,.int .i64 pm,.int .i64 pp,.int .i64 pc,.int .i64 rs,.int .i64 rp,.bool rn,.int .i64 rf,.int .i64 rb,.int .i64 rt,.int .i64 re,.int .i64 ro,.bool rd,.int .i64 n,.int .i64 m,.int .i64 f0,.int .i64 f1,.int .i64 f2,.int .i64 f3,.int .i64 f4,.int .i64 f5,.int .i64 f6,.string body] 51)).alloc (.cells #[.slice s1 S.length s2,.slice p1 P.length p2,.slice a1 A.length a2] 32)):=⟨_,rfl⟩;have hb0:Below w.heap.size w W0:=by rw [hW0];exact(((Below.refl _ w).alloc zr _).alloc (by simp) _).alloc (by simp;omega) _
  have q0:W0.cell? ⟨w.heap.size+1+1,0,none⟩=some (.slice s1 S.length s2):=by rw [hW0];exact ah _ _ (by simp) _ _ _ _ rfl
  have q1:W0.cell? ⟨w.heap.size+1+1,1,none⟩=some (.slice p1 P.length p2):=by rw [hW0];exact ah _ _ (by simp) _ _ _ _ rfl
  have q2:W0.cell? ⟨w.heap.size+1+1,2,none⟩=some (.slice a1 A.length a2):=by rw [hW0];exact ah _ _ (by simp) _ _ _ _ rfl
  have HCF:=aa (HO.out.cf.below hb0 zr);have HI3:=aa (And.intro (ay HO.out.s) (And.intro (ay HO.out.p) (ay HO.out.a)));have HBE:=aa (hb0.mono hB);go_wp2_with fail
  rw [←hW0];clear hW0;refine bodyPost_ret (v:=.agg #[.slice s1 S.length s2,.slice p1 P.length p2,.slice a1 A.length a2]) ?_ rfl ⟨_,_,_,rfl,by simpa [nxS,nxP,nxA,k1,k2,k3,k4,k5,k6] using HCF.out,HBE.out,HI3.out⟩;simp [results,Tryz.results33,go_sem,q0,q1,q2]
def BT:Value→Bool
 | .slice _ _ _=>false
 | _=>true
theorem RowAt.set_box {α:Type} {C:α→List Value} {sz:Nat} (hC:∀x,(C x).all BT=true) {w:World} {v:Value} {l:List α} (h:RowAt C sz w v l) {b o:Nat} {x:Option Addr} {y z:Nat} (hp:w.cell? ⟨b,o,none⟩=some (.slice x y z)) (u:Value):RowAt C sz (w.setCell ⟨b,o,none⟩ u) v l:=by
 obtain⟨a,cap,rfl,hn,h0 |⟨b',off,rfl,hc,hL⟩⟩:=h
 ·exact⟨a,cap,rfl,hn,.inl h0⟩
 ·refine⟨_,cap,rfl,hn,.inr ⟨b',off,rfl,hc,fun i r hr j q hq=>?_⟩⟩;have h1:=hL i r hr j q hq;rw [World.cell?_setCell_other _ _ _ _ (fun e=>?_)]
  ·exact h1
  ·rw [←e,hp]at h1;simp at h1;have:=List.all_eq_true.1 (hC r) q (List.mem_of_getElem? hq);rw [←h1]at this;simp [BT]at this
theorem CfAt.set_box {w:World} {sv pv av:Value} {S:List Sw} {P:List Pr} {A:List Ac} (h:CfAt w sv pv av S P A) {b o:Nat} {x:Option Addr} {y z:Nat} (hp:w.cell? ⟨b,o,none⟩=some (.slice x y z)) (u:Value):CfAt (w.setCell ⟨b,o,none⟩ u) sv pv av S P A:=
 ⟨RowAt.set_box (fun _=>rfl) h.1 hp u,RowAt.set_box (fun _=>rfl) h.2.1 hp u,RowAt.set_box (fun _=>rfl) h.2.2 hp u⟩
theorem fi {w w':World} {B b o:Nat} {cs:List Value} (h:w.rangeAt b o cs) (hb:Below B w w') (hB:w.heap.size≤B):w'.rangeAt b o cs:=fun j v hv=>dI (h j v hv) hb hB
theorem jd {w:World} {b o b' o':Nat} {cs:List Value} {x:Value} (h:w.rangeAt b o cs) (hne:b'≠b):(w.setCell ⟨b',o',none⟩ x).rangeAt b o cs:=fun j v hv=>
 (World.cell?_setCell_other _ _ _ _ (fun e=>hne (by simpa using congrArg Addr.block e))).trans (h j v hv)
theorem bW:(Tryz.prog.info? 51).map (·.size)=some 28:=by kernel_rfl
def dd (S:List Sw) (P:List Pr) (A:List Ac) (a:Ax):Int:=if may S P A=true then bR S P A a else 8
def apS (S:List Sw) (P:List Pr) (A:List Ac) (a:Ax):List Sw:=if dd S P A a=0 then nxS S a else []
def apP (S:List Sw) (P:List Pr) (A:List Ac) (a:Ax):List Pr:=if dd S P A a=0 then nxP P a else []
def apA (S:List Sw) (P:List Pr) (A:List Ac) (a:Ax):List Ac:=if dd S P A a=0 then nxA A a else []
theorem Ai {S:List Sw} {P:List Pr} {A:List Ac} {a:Ax} (h:bR S P A a=0) (hk:a.k=4∨a.k=6):0≤pat P a.n:=by
 unfold bR at h;by_cases hb:inB (pat P a.n) 0 ((P.length:Int)-1)=true
 ·simp [inB]at hb;omega
 ·rcases hk with hk | hk
  ·rw [if_neg (by omega),if_neg (by omega),if_neg (by omega),if_pos hk,if_neg hb]at h;omega
  ·rw [if_neg (by omega),if_neg (by omega),if_neg (by omega),if_neg (by omega),if_pos hk,if_neg hb]at h;omega
theorem Bm {S:List Sw} {P:List Pr} {A:List Ac} {a:Ax} (h:bR S P A a=0) (hk:a.k=5):0≤a.n∧a.n<A.length:=by
 unfold bR at h;rw [if_neg (by omega),if_neg (by omega),if_neg (by omega),if_neg (by omega),if_neg (by omega),if_pos hk]at h;by_cases hb:inB a.n 0 ((A.length:Int)-1)=true
 ·simp [inB]at hb;omega
 ·rw [if_neg hb]at h;omega
theorem Hi3.none (B:Nat):Hi3 B (.slice none 0 0) (.slice none 0 0) (.slice none 0 0):=⟨fun g h=>by simp [Value.ownBlock]at h,fun g h=>by simp [Value.ownBlock]at h,fun g h=>by simp [Value.ownBlock]at h⟩
theorem Hi3.mono {B B':Nat} {x y z:Value} (h:Hi3 B x y z) (hb:B'≤B):Hi3 B' x y z:=⟨fun g e=>Nat.le_trans hb (h.1 g e),fun g e=>Nat.le_trans hb (h.2.1 g e),fun g e=>Nat.le_trans hb (h.2.2 g e)⟩
theorem oR (sv pv av:Value) (S:List Sw) (P:List Pr) (A:List Ac) (a:Ax) (w:World) (hC:CfAt w sv pv av S P A) (h1:S.length*24≤140737488355328) (h2:P.length*40≤140737488355328) (h3:A.length*72≤140737488355328):
  Calls Tryz.prog 20 #[.agg #[sv,pv,av],eM a] w fun e w'=>∃su pu au,e= .returned (.tuple #[.agg #[su,pu,au],.int .i64 (dd S P A a)])∧CfAt w' su pu au (apS S P A a) (apP S P A a) (apA S P A a)∧Below w.heap.size w w'∧Hi3 w.heap.size su pu au:=by
 have HCK:=aa (fun W (hW:Below w.heap.size w W)=>jG sv pv av S P A W (hC.below hW zr) h1 h2 h3);have HCA:=aa (fun W (hW:Below w.heap.size w W)=>qa sv pv av S P A a W (hC.below hW zr) h1 h2 h3);have HCY:=aa (fun W (hW:Below w.heap.size w W)=>sQ sv pv av S P A W (hC.below hW zr) h1 h2 h3);have HCH:Hid (∀(W:World) (B:Nat) (x y z:Value),may S P A=true→bR S P A a=0→Own3 W B x y z S P A→B≤W.heap.size→Calls Tryz.prog 33 #[.agg #[x,y,z],eM a] W fun e w'=>∃su pu au,e= .returned (.agg #[su,pu,au])∧CfAt w' su pu au (nxS S a) (nxP P a) (nxA A a)∧Below B W w'∧Hi3 B su pu au):=fun W B x y z hm hf ho hB=>
  rl B x y z S P A a W ho hB (gr hm).1 (gr hm).2.1 (gr hm).2.2 (Ai hf) (Bm hf)
 have HE0:Hid (may S P A=false→dd S P A a=8∧apS S P A a= []∧apP S P A a= []∧apA S P A a= []):=fun h=>by
  have e:dd S P A a=8:=by unfold dd;rw [h];rfl
  exact⟨e,by unfold apS;rw [e];rfl,by unfold apP;rw [e];rfl,by unfold apA;rw [e];rfl⟩
 have HE1:Hid (may S P A=true→bR S P A a≠0→dd S P A a=bR S P A a∧apS S P A a= []∧apP S P A a= []∧apA S P A a= []):=fun h hn=>by
  have e:dd S P A a=bR S P A a:=by unfold dd;rw [if_pos h]
  exact⟨e,by unfold apS;rw [e,if_neg hn],by unfold apP;rw [e,if_neg hn],by unfold apA;rw [e,if_neg hn]⟩
 have HE2:Hid (may S P A=true→bR S P A a=0→dd S P A a=0∧apS S P A a=nxS S a∧apP S P A a=nxP P a∧apA S P A a=nxA A a):=fun h hn=>by
  have e:dd S P A a=0:=by unfold dd;rw [if_pos h,hn]
  exact⟨e,by unfold apS;rw [if_pos e],by unfold apP;rw [if_pos e],by unfold apA;rw [if_pos e]⟩
 obtain⟨E,hE⟩:∃E:Int,E=if may S P A=true then 0 else 8:=⟨_,rfl⟩;rw [←hE]at HCK;have HE:=aa hE;clear hE;generalize may S P A=M at*;generalize bR S P A a=G at*;generalize dd S P A a=EE at*;generalize apS S P A a=LS at*;generalize apP S P A a=LP at*;generalize apA S P A a=LA at*;generalize nxS S a=NS at*;generalize nxP P a=NP at*;generalize nxA A a=NA at*;obtain⟨s1,s2,rfl⟩:=hC.1.slice;obtain⟨p1,p2,rfl⟩:=hC.2.1.slice;obtain⟨a1,a2,rfl⟩:=hC.2.2.slice;clear hC;obtain⟨k,si,st,sg,pi,ps,pm,pp,pc,rs,rp,rn,rf,rb,rt,re,ro,rd,n,m,f0,f1,f2,f3,f4,f5,f6,body⟩:=a;go_enter Tryz.func20,Tryz.ntmps20;go_wp2_with fail
 obtain⟨W0,hW0⟩:∃W0,W0=((w.alloc (.cells #[.slice s1 S.length s2,.slice p1 P.length p2,.slice a1 A.length a2] 32)).alloc (.cells #[.int .i64 k,.int .i64 si,.int .i64 st,.int .i64 sg,.int .i64 pi,.int .i64 ps,.int .i64 pm,.int .i64 pp,.int .i64 pc,.int .i64 rs,.int .i64 rp,.bool rn,.int .i64 rf,.int .i64 rb,.int .i64 rt,.int .i64 re,.int .i64 ro,.bool rd,.int .i64 n,.int .i64 m,.int .i64 f0,.int .i64 f1,.int .i64 f2,.int .i64 f3,.int .i64 f4,.int .i64 f5,.int .i64 f6,.string body] 51)).alloc (.cells #[.slice none 0 0,.slice none 0 0,.slice none 0 0] 32):=⟨_,rfl⟩;have hb0:Below w.heap.size w W0:=by rw [hW0];exact(((Below.refl _ w).alloc zr _).alloc (by simp) _).alloc (by simp;omega) _
 have hz0:W0.heap.size=w.heap.size+3:=by rw [hW0];simp
 have c0:W0.cell? ⟨w.heap.size,0,none⟩=some (.slice s1 S.length s2):=by rw [hW0];exact aH (aH (ah w _ rfl _ _ _ _ rfl) _) _
 have c1:W0.cell? ⟨w.heap.size,1,none⟩=some (.slice p1 P.length p2):=by rw [hW0];exact aH (aH (ah w _ rfl _ _ _ _ rfl) _) _
 have c2:W0.cell? ⟨w.heap.size,2,none⟩=some (.slice a1 A.length a2):=by rw [hW0];exact aH (aH (ah w _ rfl _ _ _ _ rfl) _) _
 have X:Hid (W0.rangeAt (w.heap.size+1) 0 [Value.int .i64 k,.int .i64 si,.int .i64 st,.int .i64 sg,.int .i64 pi,.int .i64 ps,.int .i64 pm,.int .i64 pp,.int .i64 pc,.int .i64 rs,.int .i64 rp,.bool rn,.int .i64 rf,.int .i64 rb,.int .i64 rt,.int .i64 re,.int .i64 ro,.bool rd,.int .i64 n,.int .i64 m,.int .i64 f0,.int .i64 f1,.int .i64 f2,.int .i64 f3,.int .i64 f4,.int .i64 f5,.int .i64 f6,.string body]):=by
  rw [hW0];intro j v hj;rw [Nat.zero_add];exact aH (ah _ _ (by simp) #[.int .i64 k,.int .i64 si,.int .i64 st,.int .i64 sg,.int .i64 pi,.int .i64 ps,.int .i64 pm,.int .i64 pp,.int .i64 pc,.int .i64 rs,.int .i64 rp,.bool rn,.int .i64 rf,.int .i64 rb,.int .i64 rt,.int .i64 re,.int .i64 ro,.bool rd,.int .i64 n,.int .i64 m,.int .i64 f0,.int .i64 f1,.int .i64 f2,.int .i64 f3,.int .i64 f4,.int .i64 f5,.int .i64 f6,.string body] _ j v (by simpa using hj)) _
 have r0:W0.cell? ⟨w.heap.size+1+1,0,none⟩=some (.slice none 0 0):=by rw [hW0];exact ah _ _ (by simp) _ _ _ _ rfl
 have r1:W0.cell? ⟨w.heap.size+1+1,1,none⟩=some (.slice none 0 0):=by rw [hW0];exact ah _ _ (by simp) _ _ _ _ rfl
 have r2:W0.cell? ⟨w.heap.size+1+1,2,none⟩=some (.slice none 0 0):=by rw [hW0];exact ah _ _ (by simp) _ _ _ _ rfl
 have z0:W0.frozen? ⟨w.heap.size+1+1,0,none⟩=false:=by rw [hW0];exact bJ _ _ (by simp) _ _ _
 have z1:W0.frozen? ⟨w.heap.size+1+1,1,none⟩=false:=by rw [hW0];exact bJ _ _ (by simp) _ _ _
 have z2:W0.frozen? ⟨w.heap.size+1+1,2,none⟩=false:=by rw [hW0];exact bJ _ _ (by simp) _ _ _
 have hRlt:w.heap.size+1+1<W0.heap.size:=by omega
 rw [←hW0];clear hW0 hz0;refine(ag HCK _ hb0).mono ?_;rintro e w1 ⟨rfl,hb1⟩;have k1:=hb0.trans (hb1.mono hb0.size);have ac0:=zC c0 hb1;have ac1:=zC c1 hb1;have ac2:=zC c2 hb1;have aX:=aa (fi X.out hb1 zr);have ar0:=zC r0 hb1;have ar1:=zC r1 hb1;have ar2:=zC r2 hb1;have az0:=(hb1.frozen (p:=⟨w.heap.size+1+1,0,none⟩) (by show _<W0.heap.size;exact hRlt)).trans z0;have az1:=(hb1.frozen (p:=⟨w.heap.size+1+1,1,none⟩) (by show _<W0.heap.size;exact hRlt)).trans z1;have az2:=(hb1.frozen (p:=⟨w.heap.size+1+1,2,none⟩) (by show _<W0.heap.size;exact hRlt)).trans z2;clear c0 c1 c2 r0 r1 r2 z0 z1 z2 X;have hR1:w.heap.size+1+1<w1.heap.size:=Nat.lt_of_lt_of_le hRlt hb1.size;clear hb0 hb1 HCK hRlt;cases M
 ·obtain rfl:E=8:=HE.out;obtain⟨rfl,rfl,rfl,rfl⟩:=HE0.out rfl;clear HCA HCY HCH HE HE0 HE1 HE2 ac0 ac1 ac2 aX;go_wp2_with fail
  obtain⟨u0,u1,u2⟩:=zP ar0 ar1 ar2 (.slice none 0 0) (.slice none 0 0) (.slice none 0 0);have HBE:=aa ((((k1).setCell (p:=⟨w.heap.size+1+1,0,none⟩) (by show w.heap.size≤w.heap.size+1+1;omega) (.slice none 0 0)).setCell (p:=⟨w.heap.size+1+1,1,none⟩) (by show w.heap.size≤w.heap.size+1+1;omega) (.slice none 0 0)).setCell (p:=⟨w.heap.size+1+1,2,none⟩) (by show w.heap.size≤w.heap.size+1+1;omega) (.slice none 0 0));have HCF:=aa ((⟨RowAt.nil _ _ _,RowAt.nil _ _ _,RowAt.nil _ _ _⟩:CfAt (((w1.setCell ⟨w.heap.size+1+1,0,none⟩ (.slice none 0 0)).setCell ⟨w.heap.size+1+1,1,none⟩ (.slice none 0 0)).setCell ⟨w.heap.size+1+1,2,none⟩ (.slice none 0 0)) (.slice none 0 0) (.slice none 0 0) (.slice none 0 0) [] [] []));refine bodyPost_ret (v:=.tuple #[.agg #[.slice none 0 0,.slice none 0 0,.slice none 0 0],.int .i64 8]) ?_ rfl ⟨_,_,_,rfl,HCF.out,HBE.out,Hi3.none _⟩;clear HCF HBE ar0 az0 ar1 az1 ar2 az2;generalize (((w1.setCell ⟨w.heap.size+1+1,0,none⟩ (.slice none 0 0)).setCell ⟨w.heap.size+1+1,1,none⟩ (.slice none 0 0)).setCell ⟨w.heap.size+1+1,2,none⟩ (.slice none 0 0))=W at*;simp [results,Tryz.results20,go_sem,u0,u1,u2]
 ·obtain rfl:E=0:=HE.out;have HF1:=aa (HE1.out rfl);have HF2:=aa (HE2.out rfl);have HCH1:=aa (fun W B x y z=>HCH.out W B x y z rfl);clear HE HE0 HE1 HE2 HCH;go_wp2_with (refine wpList_load_mid rfl 51 (.tmp 3) rfl (w.heap.size+1) 0 rfl [Value.int .i64 k,.int .i64 si,.int .i64 st,.int .i64 sg,.int .i64 pi,.int .i64 ps,.int .i64 pm,.int .i64 pp,.int .i64 pc,.int .i64 rs,.int .i64 rp,.bool rn,.int .i64 rf,.int .i64 rb,.int .i64 rt,.int .i64 re,.int .i64 ro,.bool rd,.int .i64 n,.int .i64 m,.int .i64 f0,.int .i64 f1,.int .i64 f2,.int .i64 f3,.int .i64 f4,.int .i64 f5,.int .i64 f6,.string body] _ aX.out Tryz.underlying51 rfl bW ?_)
  refine(ag HCA _ k1).mono ?_;rintro e w2 ⟨rfl,hb2⟩;have k2:=k1.trans (hb2.mono k1.size);have bc0:=zC ac0 hb2;have bc1:=zC ac1 hb2;have bc2:=zC ac2 hb2;have bX:=aa (fi aX.out hb2 zr);have br0:=zC ar0 hb2;have br1:=zC ar1 hb2;have br2:=zC ar2 hb2;have bz0:=(hb2.frozen (p:=⟨w.heap.size+1+1,0,none⟩) (by show _<w1.heap.size;exact hR1)).trans az0;have bz1:=(hb2.frozen (p:=⟨w.heap.size+1+1,1,none⟩) (by show _<w1.heap.size;exact hR1)).trans az1;have bz2:=(hb2.frozen (p:=⟨w.heap.size+1+1,2,none⟩) (by show _<w1.heap.size;exact hR1)).trans az2;clear ac0 ac1 ac2 ar0 ar1 ar2 az0 az1 az2 aX;have hR2:w.heap.size+1+1<w2.heap.size:=Nat.lt_of_lt_of_le hR1 hb2.size;clear k1 hb2 HCA hR1;by_cases hG:G=0
  ·subst hG;obtain⟨rfl,rfl,rfl,rfl⟩:=HF2.out rfl;have HCH2:=aa (fun W B x y z=>HCH1.out W B x y z rfl);clear HF1 HF2 HCH1;go_wp2_with fail
   refine wp_region_held_drew (S:=(fun w'=>w'.cell? ⟨w.heap.size,0,none⟩=some (.slice s1 S.length s2)∧w'.cell? ⟨w.heap.size,1,none⟩=some (.slice p1 P.length p2)∧w'.cell? ⟨w.heap.size,2,none⟩=some (.slice a1 A.length a2)∧w'.rangeAt (w.heap.size+1) 0 [Value.int .i64 k,.int .i64 si,.int .i64 st,.int .i64 sg,.int .i64 pi,.int .i64 ps,.int .i64 pm,.int .i64 pp,.int .i64 pc,.int .i64 rs,.int .i64 rp,.bool rn,.int .i64 rf,.int .i64 rb,.int .i64 rt,.int .i64 re,.int .i64 ro,.bool rd,.int .i64 n,.int .i64 m,.int .i64 f0,.int .i64 f1,.int .i64 f2,.int .i64 f3,.int .i64 f4,.int .i64 f5,.int .i64 f6,.string body])) (by kernel_rfl) ⟨bc0,bc1,bc2,bX.out⟩ (fun hHeld=>?_);refine tq 0 21 rfl (by kernel_rfl) (fun _ _ _ h=>h) rfl ‹_› (by intro w h;go_simp <;>with_reducible rfl) ?_;simp only [nz];refine wpAnyH_take (i:=2) (oi:=⟨some 23,_,_,_,_,_⟩) (v:=.agg #[.int .i64 k,.int .i64 si,.int .i64 st,.int .i64 sg,.int .i64 pi,.int .i64 ps,.int .i64 pm,.int .i64 pp,.int .i64 pc,.int .i64 rs,.int .i64 rp,.bool rn,.int .i64 rf,.int .i64 rb,.int .i64 rt,.int .i64 re,.int .i64 ro,.bool rd,.int .i64 n,.int .i64 m,.int .i64 f0,.int .i64 f1,.int .i64 f2,.int .i64 f3,.int .i64 f4,.int .i64 f5,.int .i64 f6,.string body]) rfl (by kernel_rfl) (by kernel_rfl) (by kernel_rfl) (fun _ _ _ h=>h) (yieldsIf_load_mid (by rfl) 51 (.tmp 3) rfl (w.heap.size+1) 0 rfl [Value.int .i64 k,.int .i64 si,.int .i64 st,.int .i64 sg,.int .i64 pi,.int .i64 ps,.int .i64 pm,.int .i64 pp,.int .i64 pc,.int .i64 rs,.int .i64 rp,.bool rn,.int .i64 rf,.int .i64 rb,.int .i64 rt,.int .i64 re,.int .i64 ro,.bool rd,.int .i64 n,.int .i64 m,.int .i64 f0,.int .i64 f1,.int .i64 f2,.int .i64 f3,.int .i64 f4,.int .i64 f5,.int .i64 f6,.string body] _ (fun w h=>h.2.2.2) Tryz.underlying51 rfl bW) (by assumption) ?_;(try simp only [nz]);refine rsq 1 22 (by kernel_rfl) rfl (fun K hK=>?_);go_simp;refine(ag HCY _ k2.drew).mono ?_;rintro e w3 ⟨y1,y2,y3,rfl,ho3,hb3⟩;obtain⟨o1,m1,hv1⟩:=aq ho3.s;obtain⟨o2,m2,hv2⟩:=aq ho3.p;obtain⟨o3,m3,hv3⟩:=aq ho3.a;subst hv1 hv2 hv3;have HO3:=aa ho3;clear ho3;have g3:Below w2.heap.size w2 w3:=((Below.refl _ w2).drew).trans hb3;have k3:=k2.trans (g3.mono k2.size);go_wp2_with fail
   refine hK.out _ _ ⟨zC bc0 g3,zC bc1 g3,zC bc2 g3,fi bX.out g3 zr⟩ (fun hHeld=>?_);clear hK K;(try simp only [nz]);refine rsq 3 24 (by kernel_rfl) rfl (fun K hK=>?_);go_simp;refine(ag HCH2 _ _ _ _ _ HO3.out (show w2.drew.heap.size≤w3.heap.size from g3.size)).mono ?_;rintro e w4 ⟨z1,z2,z3,rfl,hcf4,hb4,hi4⟩;have HI4:=aa hi4;clear hi4;have HC4:=aa hcf4;obtain⟨v1,n1,hv1⟩:=hcf4.1.slice;obtain⟨v2,n2,hv2⟩:=hcf4.2.1.slice;obtain⟨v3,n3,hv3⟩:=hcf4.2.2.slice;subst hv1 hv2 hv3;clear hcf4;have g4:Below w2.heap.size w2 w4:=g3.trans hb4;have HI5:=aa (HI4.out.mono (show w.heap.size≤w2.drew.heap.size from k2.size));clear HI4;have k4:=k2.trans (g4.mono k2.size);go_wp2_with fail
   refine hK.out _ _ ⟨zC bc0 g4,zC bc1 g4,zC bc2 g4,fi bX.out g4 zr⟩ (fun hHeld=>?_);clear hK K;(try simp only [nz]);have dr0:=zC br0 g4;have dr1:=zC br1 g4;have dr2:=zC br2 g4;have dz0:=(g4.frozen (p:=⟨w.heap.size+1+1,0,none⟩) hR2).trans bz0;have dz1:=(g4.frozen (p:=⟨w.heap.size+1+1,1,none⟩) hR2).trans bz1;have dz2:=(g4.frozen (p:=⟨w.heap.size+1+1,2,none⟩) hR2).trans bz2;have e0:=zC bc0 g4;have e1:=zC bc1 g4;have e2:=zC bc2 g4;have HXX:=aa (fi bX.out g4 zr);refine rnq 4 (by kernel_rfl) rfl (fun K hK=>?_);go_simp;refine hK.out _ _ ⟨(World.cell?_setCell_other _ _ _ _ (by simp <;>omega)).trans ((World.cell?_setCell_other _ _ _ _ (by simp <;>omega)).trans ((World.cell?_setCell_other _ _ _ _ (by simp <;>omega)).trans e0)),(World.cell?_setCell_other _ _ _ _ (by simp <;>omega)).trans ((World.cell?_setCell_other _ _ _ _ (by simp <;>omega)).trans ((World.cell?_setCell_other _ _ _ _ (by simp <;>omega)).trans e1)),(World.cell?_setCell_other _ _ _ _ (by simp <;>omega)).trans ((World.cell?_setCell_other _ _ _ _ (by simp <;>omega)).trans ((World.cell?_setCell_other _ _ _ _ (by simp <;>omega)).trans e2)),jd (jd (jd HXX.out (by omega)) (by omega)) (by omega)⟩ (fun hHeld=>?_);clear hK K;(try simp only [nz]);refine tq 5 5 rfl (by kernel_rfl) (fun _ _ _ h=>h) rfl ‹_› (by intro w h;go_simp <;>with_reducible rfl) ?_;simp only [nz];refine wpAnyH_done (by kernel_rfl) ?_ _;clear hHeld bc0 bc1 bc2 br0 br1 br2 bz0 bz1 bz2 bX e0 e1 e2 HXX HCY HCH2 HO3 hb3 hb4 g3 k3;obtain⟨u0,u1,u2⟩:=zP dr0 dr1 dr2 (.slice v1 LS.length n1) (.slice v2 LP.length n2) (.slice v3 LA.length n3);have HCF:=aa (((HC4.out.set_box dr0 (.slice v1 LS.length n1)).set_box ((World.cell?_setCell_other _ _ _ _ (by simp)).trans dr1) (.slice v2 LP.length n2)).set_box ((World.cell?_setCell_other _ _ _ _ (by simp)).trans ((World.cell?_setCell_other _ _ _ _ (by simp)).trans dr2)) (.slice v3 LA.length n3));have HBE:=aa ((((k4).setCell (p:=⟨w.heap.size+1+1,0,none⟩) (by show w.heap.size≤w.heap.size+1+1;omega) (.slice v1 LS.length n1)).setCell (p:=⟨w.heap.size+1+1,1,none⟩) (by show w.heap.size≤w.heap.size+1+1;omega) (.slice v2 LP.length n2)).setCell (p:=⟨w.heap.size+1+1,2,none⟩) (by show w.heap.size≤w.heap.size+1+1;omega) (.slice v3 LA.length n3));clear HC4 k4 g4 dr0 dr1 dr2 dz0 dz1 dz2;generalize (((w4.setCell ⟨w.heap.size+1+1,0,none⟩ (.slice v1 LS.length n1)).setCell ⟨w.heap.size+1+1,1,none⟩ (.slice v2 LP.length n2)).setCell ⟨w.heap.size+1+1,2,none⟩ (.slice v3 LA.length n3))=W at*;go_wp2_with fail
   refine bodyPost_ret (v:=.tuple #[.agg #[.slice v1 LS.length n1,.slice v2 LP.length n2,.slice v3 LA.length n3],.int .i64 0]) ?_ rfl ⟨_,_,_,rfl,HCF.out,HBE.out,HI5.out⟩;clear HCF HBE;simp [results,Tryz.results20,go_sem,u0,u1,u2]
  ·obtain⟨rfl,rfl,rfl,rfl⟩:=HF1.out hG;clear HF1 HF2 HCH1 HCY bc0 bc1 bc2 bX;go_wp2_with fail
   obtain⟨u0,u1,u2⟩:=zP br0 br1 br2 (.slice none 0 0) (.slice none 0 0) (.slice none 0 0);have HBE:=aa ((((k2).setCell (p:=⟨w.heap.size+1+1,0,none⟩) (by show w.heap.size≤w.heap.size+1+1;omega) (.slice none 0 0)).setCell (p:=⟨w.heap.size+1+1,1,none⟩) (by show w.heap.size≤w.heap.size+1+1;omega) (.slice none 0 0)).setCell (p:=⟨w.heap.size+1+1,2,none⟩) (by show w.heap.size≤w.heap.size+1+1;omega) (.slice none 0 0));have HCF:=aa ((⟨RowAt.nil _ _ _,RowAt.nil _ _ _,RowAt.nil _ _ _⟩:CfAt (((w2.setCell ⟨w.heap.size+1+1,0,none⟩ (.slice none 0 0)).setCell ⟨w.heap.size+1+1,1,none⟩ (.slice none 0 0)).setCell ⟨w.heap.size+1+1,2,none⟩ (.slice none 0 0)) (.slice none 0 0) (.slice none 0 0) (.slice none 0 0) [] [] []));refine bodyPost_ret (v:=.tuple #[.agg #[.slice none 0 0,.slice none 0 0,.slice none 0 0],.int .i64 EE]) ?_ rfl ⟨_,_,_,rfl,HCF.out,HBE.out,Hi3.none _⟩;clear HCF HBE br0 bz0 br1 bz1 br2 bz2;generalize (((w2.setCell ⟨w.heap.size+1+1,0,none⟩ (.slice none 0 0)).setCell ⟨w.heap.size+1+1,1,none⟩ (.slice none 0 0)).setCell ⟨w.heap.size+1+1,2,none⟩ (.slice none 0 0))=W at*;simp [results,Tryz.results20,go_sem,u0,u1,u2]
theorem wh (sv pv av:Value) (S:List Sw) (P:List Pr) (A:List Ac) (a:Ax) (w:World) (hC:CfAt w sv pv av S P A) (h1:S.length*24≤140737488355328) (h2:P.length*40≤140737488355328) (h3:A.length*72≤140737488355328):
  Calls Tryz.prog 20 #[.agg #[sv,pv,av],eM a] w fun e w'=>∃su pu au,e= .returned (.tuple #[.agg #[su,pu,au],.int .i64 (dd S P A a)])∧CfAt w' su pu au (apS S P A a) (apP S P A a) (apA S P A a)∧Below w.heap.size w w':=
 (oR sv pv av S P A a w hC h1 h2 h3).mono fun e w' h=>by
  obtain⟨su,pu,au,he,hc,hb,_⟩:=h;exact⟨su,pu,au,he,hc,hb⟩

def cS (S:List Sw) (P:List Pr) (A:List Ac) (a:Ax):List Sw:=if dd S P A a=0 then apS S P A a else S
def cP (S:List Sw) (P:List Pr) (A:List Ac) (a:Ax):List Pr:=if dd S P A a=0 then apP S P A a else P
def cA (S:List Sw) (P:List Pr) (A:List Ac) (a:Ax):List Ac:=if dd S P A a=0 then apA S P A a else A
theorem qj {α:Type} {C:α→List Value} {sz:Nat} {w:World} {v:Value} {l:List α} (h:RowAt C sz w v l) (b o:Nat) {vs:List Value} (hne:l.length=0∨∀g,v.ownBlock=some g→g≠b):RowAt C sz (w.setCells b o vs) v l:=by
 obtain⟨a,cap,rfl,hn,hr⟩:=h;refine⟨a,cap,rfl,hn,?_⟩;rcases hr with h0 |⟨b',off,rfl,hc,hx⟩
 ·exact .inl h0
 ·rcases hne with h0 | hne
  ·exact .inl h0
  ·refine .inr ⟨b',off,rfl,hc,fun i x hi j u hj=>?_⟩;rw [World.cell?_setCells_out b vs o w _ (fun hb _=>absurd hb (hne b' rfl))];exact hx i x hi j u hj
theorem t8 {α:Type} {C:α→List Value} {sz:Nat} {w:World} {v:Value} {l:List α} (hC:∀x,C x≠ []) (h:RowAt C sz w v l):l.length=0∨∀g,v.ownBlock=some g→g<w.heap.size:=by
 obtain⟨a,cap,rfl,hn,hr⟩:=h;rcases hr with h0 |⟨b',off,rfl,hc,hx⟩
 ·exact .inl h0
 ·by_cases h0:l.length=0
  ·exact .inl h0
  ·refine .inr fun g hg=>?_;obtain rfl:b'=g:=(by simpa [Value.ownBlock] using hg);have hl:0<l.length:=(by omega);have hc0:0<(C l[0]).length:=List.length_pos_iff.2 (hC _);exact ap (hx 0 l[0] (List.getElem?_eq_getElem hl) 0 _ (List.getElem?_eq_getElem hc0))
theorem xW {w:World} {sv pv av:Value} {S:List Sw} {P:List Pr} {A:List Ac} (h:CfAt w sv pv av S P A) (b o:Nat) {vs:List Value} (h1:S.length=0∨∀g,sv.ownBlock=some g→g≠b) (h2:P.length=0∨∀g,pv.ownBlock=some g→g≠b) (h3:A.length=0∨∀g,av.ownBlock=some g→g≠b):CfAt (w.setCells b o vs) sv pv av S P A:=
 ⟨qj h.1 b o h1,qj h.2.1 b o h2,qj h.2.2 b o h3⟩
theorem pT (s1 p1 a1:Option Addr) (s2 p2 a2:Nat) (S:List Sw) (P:List Pr) (A:List Ac) (a:Ax) (w:World) (hC:CfAt w (.slice s1 S.length s2) (.slice p1 P.length p2) (.slice a1 A.length a2) S P A) (h1:S.length≤1000) (h2:P.length≤1000) (h3:A.length≤1000):
  Calls Tryz.prog 34 #[.agg #[.slice s1 S.length s2,.slice p1 P.length p2,.slice a1 A.length a2],eM a] w fun e w'=>∃su pu au,e= .returned (.tuple #[.agg #[su,pu,au],.int .i64 (dd S P A a)])∧CfAt w' su pu au (cS S P A a) (cP S P A a) (cA S P A a)∧Below w.heap.size w w'∧(Hi3 w.heap.size su pu au∨((cS S P A a=S∧cP S P A a=P∧cA S P A a=A)∧su= .slice s1 S.length s2∧pu= .slice p1 P.length p2∧au= .slice a1 A.length a2)):=by
 have HC:=aa hC;have HCW:=aa hC;have HAP:=aa (fun W (h:CfAt W (.slice s1 S.length s2) (.slice p1 P.length p2) (.slice a1 A.length a2) S P A)=>oR _ _ _ S P A a W h (by omega) (by omega) (by omega));clear hC;have HS:Hid (cS S P A a=if dd S P A a=0 then apS S P A a else S):=rfl;have HPP:Hid (cP S P A a=if dd S P A a=0 then apP S P A a else P):=rfl;have HAA:Hid (cA S P A a=if dd S P A a=0 then apA S P A a else A):=rfl;rw [HS.out,HPP.out,HAA.out];clear HS HPP HAA;generalize apS S P A a=S2 at*;generalize apP S P A a=P2 at*;generalize apA S P A a=A2 at*;generalize dd S P A a=E at*;obtain⟨W0,hW0⟩:∃W0,W0=(((w.alloc (.cells #[.slice s1 S.length s2,.slice p1 P.length p2,.slice a1 A.length a2] 32)).alloc (.cells #[.int .i64 a.k,.int .i64 a.si,.int .i64 a.st,.int .i64 a.sg,.int .i64 a.pi,.int .i64 a.ps,.int .i64 a.pm,.int .i64 a.pp,.int .i64 a.pc,.int .i64 a.rs,.int .i64 a.rp,.bool a.rn,.int .i64 a.rf,.int .i64 a.rb,.int .i64 a.rt,.int .i64 a.re,.int .i64 a.ro,.bool a.rd,.int .i64 a.n,.int .i64 a.m,.int .i64 a.f0,.int .i64 a.f1,.int .i64 a.f2,.int .i64 a.f3,.int .i64 a.f4,.int .i64 a.f5,.int .i64 a.f6,.string a.body] 51)).alloc (.cells #[.slice none 0 0,.slice none 0 0,.slice none 0 0] 32)):=⟨_,rfl⟩;have kb:Below w.heap.size w W0:=by rw [hW0];exact(((Below.refl _ w).alloc zr _).alloc (by simp) _).alloc (by simp;omega) _
 have HCB:Hid (Box W0 w.heap.size [.slice s1 S.length s2,.slice p1 P.length p2,.slice a1 A.length a2]):=by rw [hW0];have h:=((Box.new w [.slice s1 S.length s2,.slice p1 P.length p2,.slice a1 A.length a2] 32).alloc (.cells #[.int .i64 a.k,.int .i64 a.si,.int .i64 a.st,.int .i64 a.sg,.int .i64 a.pi,.int .i64 a.ps,.int .i64 a.pm,.int .i64 a.pp,.int .i64 a.pc,.int .i64 a.rs,.int .i64 a.rp,.bool a.rn,.int .i64 a.rf,.int .i64 a.rb,.int .i64 a.rt,.int .i64 a.re,.int .i64 a.ro,.bool a.rd,.int .i64 a.n,.int .i64 a.m,.int .i64 a.f0,.int .i64 a.f1,.int .i64 a.f2,.int .i64 a.f3,.int .i64 a.f4,.int .i64 a.f5,.int .i64 a.f6,.string a.body] 51)).alloc (.cells #[.slice none 0 0,.slice none 0 0,.slice none 0 0] 32);simpa using aa h
 have HAB:Hid (Box W0 (w.heap.size+1) [.int .i64 a.k,.int .i64 a.si,.int .i64 a.st,.int .i64 a.sg,.int .i64 a.pi,.int .i64 a.ps,.int .i64 a.pm,.int .i64 a.pp,.int .i64 a.pc,.int .i64 a.rs,.int .i64 a.rp,.bool a.rn,.int .i64 a.rf,.int .i64 a.rb,.int .i64 a.rt,.int .i64 a.re,.int .i64 a.ro,.bool a.rd,.int .i64 a.n,.int .i64 a.m,.int .i64 a.f0,.int .i64 a.f1,.int .i64 a.f2,.int .i64 a.f3,.int .i64 a.f4,.int .i64 a.f5,.int .i64 a.f6,.string a.body]):=by rw [hW0];have h:=(Box.new (w.alloc (.cells #[.slice s1 S.length s2,.slice p1 P.length p2,.slice a1 A.length a2] 32)) [.int .i64 a.k,.int .i64 a.si,.int .i64 a.st,.int .i64 a.sg,.int .i64 a.pi,.int .i64 a.ps,.int .i64 a.pm,.int .i64 a.pp,.int .i64 a.pc,.int .i64 a.rs,.int .i64 a.rp,.bool a.rn,.int .i64 a.rf,.int .i64 a.rb,.int .i64 a.rt,.int .i64 a.re,.int .i64 a.ro,.bool a.rd,.int .i64 a.n,.int .i64 a.m,.int .i64 a.f0,.int .i64 a.f1,.int .i64 a.f2,.int .i64 a.f3,.int .i64 a.f4,.int .i64 a.f5,.int .i64 a.f6,.string a.body] 51).alloc (.cells #[.slice none 0 0,.slice none 0 0,.slice none 0 0] 32);simpa using aa h
 have HRB:Hid (Box W0 (w.heap.size+1+1) [.slice none 0 0,.slice none 0 0,.slice none 0 0]):=by rw [hW0];have h:=Box.new ((w.alloc (.cells #[.slice s1 S.length s2,.slice p1 P.length p2,.slice a1 A.length a2] 32)).alloc (.cells #[.int .i64 a.k,.int .i64 a.si,.int .i64 a.st,.int .i64 a.sg,.int .i64 a.pi,.int .i64 a.ps,.int .i64 a.pm,.int .i64 a.pp,.int .i64 a.pc,.int .i64 a.rs,.int .i64 a.rp,.bool a.rn,.int .i64 a.rf,.int .i64 a.rb,.int .i64 a.rt,.int .i64 a.re,.int .i64 a.ro,.bool a.rd,.int .i64 a.n,.int .i64 a.m,.int .i64 a.f0,.int .i64 a.f1,.int .i64 a.f2,.int .i64 a.f3,.int .i64 a.f4,.int .i64 a.f5,.int .i64 a.f6,.string a.body] 51)) [.slice none 0 0,.slice none 0 0,.slice none 0 0] 32;simpa using aa h
 have HW0:Hid ((((w.alloc (.cells #[.slice s1 S.length s2,.slice p1 P.length p2,.slice a1 A.length a2] 32)).alloc (.cells #[.int .i64 a.k,.int .i64 a.si,.int .i64 a.st,.int .i64 a.sg,.int .i64 a.pi,.int .i64 a.ps,.int .i64 a.pm,.int .i64 a.pp,.int .i64 a.pc,.int .i64 a.rs,.int .i64 a.rp,.bool a.rn,.int .i64 a.rf,.int .i64 a.rb,.int .i64 a.rt,.int .i64 a.re,.int .i64 a.ro,.bool a.rd,.int .i64 a.n,.int .i64 a.m,.int .i64 a.f0,.int .i64 a.f1,.int .i64 a.f2,.int .i64 a.f3,.int .i64 a.f4,.int .i64 a.f5,.int .i64 a.f6,.string a.body] 51)).alloc (.cells #[.slice none 0 0,.slice none 0 0,.slice none 0 0] 32))=W0):=hW0.symm;clear hW0;replace HC:=aa (HC.out.below kb zr);go_enter Tryz.func34,Tryz.ntmps34;go_wp2_with (first | rw [HW0.out] |(refine wpList_load_mid rfl 32 (.tmp 2) rfl w.heap.size 0 rfl _ _ HCB.out.range Tryz.underlying32 rfl aJ ?_) |(refine wpList_load_mid rfl 51 (.tmp 3) rfl (w.heap.size+1) 0 rfl _ _ HAB.out.range Tryz.underlying51 rfl bW ?_))
 refine(ag HAP _ HC.out).mono ?_;rintro e w1 ⟨su,pu,au,rfl,hc1,hb1,hh1⟩;have HC1:=aa hc1;have HH:=aa hh1;have sz0:=HRB.out.lt;obtain⟨t1,t2,rfl⟩:=hc1.1.slice;obtain⟨t3,t4,rfl⟩:=hc1.2.1.slice;obtain⟨t5,t6,rfl⟩:=hc1.2.2.slice;clear hc1 hh1;replace HCB:=aa (HCB.out.below hb1);replace HRB:=aa (HRB.out.below hb1);replace HC:=aa (HC.out.below hb1 zr);replace kb:=kb.trans (hb1.mono kb.size);clear hb1 HAP HAB HW0;obtain⟨W2,hW2⟩:∃W2,W2=w1.alloc (.cells #[.slice t1 S2.length t2,.slice t3 P2.length t4,.slice t5 A2.length t6] 32):=⟨_,rfl⟩;have hbN:Below w1.heap.size w1 W2:=by rw [hW2];exact(Below.refl _ _).alloc zr _
 have HNB:Hid (Box W2 w1.heap.size [.slice t1 S2.length t2,.slice t3 P2.length t4,.slice t5 A2.length t6]):=by rw [hW2];exact aa (Box.new w1 [.slice t1 S2.length t2,.slice t3 P2.length t4,.slice t5 A2.length t6] 32)
 replace HCB:=aa (HCB.out.below hbN);replace HRB:=aa (HRB.out.below hbN);replace HC:=aa (HC.out.below hbN zr);replace HC1:=aa (HC1.out.below hbN zr);replace kb:=kb.trans (hbN.mono kb.size);have HW2:=aa hW2.symm;clear hbN hW2;by_cases hE:E=0
 ·subst hE;go_wp2_with (first | rw [HW2.out] |(refine wpList_load_mid rfl 32 (.tmp 6) rfl w1.heap.size 0 rfl _ _ HNB.out.range Tryz.underlying32 rfl aJ ?_) |(refine wpList_store_mid rfl 32 (.tmp 4) (.tmp 18) rfl (w.heap.size+1+1) 0 _ rfl rfl (HRB.out.fit 3 rfl) aJ (cZ rfl) ?_))
  refine bodyPost_ret (v:=.tuple #[.agg #[.slice t1 S2.length t2,.slice t3 P2.length t4,.slice t5 A2.length t6],.int .i64 0]) ?_ rfl ⟨_,_,_,rfl,?_,ar _ (by omega) _ _ kb,.inl (HH.out.mono (by omega))⟩
  ·exact di (cs:=[.slice t1 S2.length t2,.slice t3 P2.length t4,.slice t5 A2.length t6]) Tryz.results34 rfl (HRB.out.set ([.slice t1 S2.length t2,.slice t3 P2.length t4,.slice t5 A2.length t6]:List Value) rfl).range Tryz.underlying32 rfl aJ
  ·exact xW HC1.out _ _ (.inr fun g hg=>by have:=HH.out.1 g hg;omega) (.inr fun g hg=>by have:=HH.out.2.1 g hg;omega) (.inr fun g hg=>by have:=HH.out.2.2 g hg;omega)
 ·have hEb:(E != 0)=true:=(by simpa using hE);go_wp2_with (first | rw [HW2.out] |(refine wpList_load_mid rfl 32 (.tmp 2) rfl w.heap.size 0 rfl _ _ HCB.out.range Tryz.underlying32 rfl aJ ?_) |(refine wpList_store_mid rfl 32 (.tmp 4) (.tmp 16) rfl (w.heap.size+1+1) 0 _ rfl rfl (HRB.out.fit 3 rfl) aJ (cZ rfl) ?_))
  refine bodyPost_ret (v:=.tuple #[.agg #[.slice s1 S.length s2,.slice p1 P.length p2,.slice a1 A.length a2],.int .i64 E]) ?_ rfl ⟨_,_,_,rfl,?_,ar _ (by omega) _ _ kb,.inr (by simp)⟩
  ·exact di (cs:=[.slice s1 S.length s2,.slice p1 P.length p2,.slice a1 A.length a2]) Tryz.results34 rfl (HRB.out.set ([.slice s1 S.length s2,.slice p1 P.length p2,.slice a1 A.length a2]:List Value) rfl).range Tryz.underlying32 rfl aJ
  ·exact xW HC.out _ _ ((t8 (C:=swC) (fun _=>by simp [swC]) HCW.out.1).imp id fun h g hg=>by have:=h g hg;omega) ((t8 (C:=prC) (fun _=>by simp [prC]) HCW.out.2.1).imp id fun h g hg=>by have:=h g hg;omega) ((t8 (C:=acC) (fun _=>by simp [acC]) HCW.out.2.2).imp id fun h g hg=>by have:=h g hg;omega)
structure Rp where
 c:Int
 l:List Ar
 body:ByteArray
structure Rv where
 r:Rp
 v:Value
def rvC (x:Rv):List Value:=[.int .i64 x.r.c,x.v]
def BZ (w:World) (B:Nat) (u:Value) (x:Rv):Prop:=w.ownsRow B 58 9 x.v x.r.l.length (AR x.r.body x.r.l)∧∀g,x.v.ownBlock=some g→u.ownBlock≠some g
def RR (w:World) (B:Nat) (u:Value) (rs:List Rp):Prop:=∃lo:List Rv,lo.map Rv.r=rs∧w.ownsRow B 55 2 u lo.length (lo.flatMap rvC)∧∀x∈lo,BZ w B u x
theorem RR.below {w w':World} {B:Nat} {u:Value} {rs:List Rp} (h:RR w B u rs) (hb:Below w.heap.size w w'):RR w' B u rs:=by
 obtain⟨lo,e,ho,hx⟩:=h;exact⟨lo,e,aw ho hb,fun x hx'=>⟨aw (hx x hx').1 hb,(hx x hx').2⟩⟩
theorem RR.nil (w:World) (B:Nat):RR w B (.slice none 0 0) []:=⟨[],rfl,World.ownsRow_nil _ _ _ _,fun x hx=>by cases hx⟩
theorem RR.less {w:World} {B B':Nat} {u:Value} {rs:List Rp} (h:RR w B u rs) (hB:B'≤B):RR w B' u rs:=by
 obtain⟨lo,e,ho,hx⟩:=h;exact⟨lo,e,aI ho hB,fun x hx'=>⟨aI (hx x hx').1 hB,(hx x hx').2⟩⟩
theorem RR.slc {w:World} {B:Nat} {u:Value} {rs:List Rp} (h:RR w B u rs):∃o c,u= .slice o rs.length c:=by
 obtain⟨lo,e,ho,hx⟩:=h;obtain⟨o,c,h⟩:=aq ho;exact⟨o,c,by rw [h, ←e,List.length_map]⟩
theorem BY:(Tryz.prog.info? 55).map (fun i=>(i.zero,i.size,i.bytes))=some (some (.agg #[.int .i64 0,.slice none 0 0]),2,32):=by kernel_rfl
theorem eK {ops:Array Oper} {rest:List Oper} {o:Oper} {a:Act} {Q:Exit→Act→World→Prop} {w:World} (hgd:o.guard=none) (s x:Operand)
  (ho:o.op= .call {callee:=.builtin .append,args:= #[s,x],argTypes:= #[27,27]}) (B:Nat) (v:Value) (rs:List Rp) (hs:a.eval s=v) (hR:RR w B v rs) (g:Nat) (r:Rp) (cv:Value)
  (hx:a.eval x= .slice (some ⟨g,0,none⟩) 1 1) (hnews:w.rangeAt g 0 [.int .i64 r.c,cv]) (hone:cv.oneCell'=true) (hcv:w.ownsRow B 58 9 cv r.l.length (AR r.body r.l)) (hne:∀g,cv.ownBlock=some g→v.ownBlock≠some g) (hlen:rs.length+1≤1000000) (hB:B≤w.heap.size)
  (h:∀v' w',RR w' B v' (rs++ [r])→w.grownBy w' v.ownBlock→(v'.ownBlock=v.ownBlock∨v'.ownBlock=some w.heap.size)→wpList Tryz.prog ops Q rest (a.put o.dst v') w'):wpList Tryz.prog ops Q (o::rest) a w:=by
 obtain⟨i0,hi,hz0,hz1,hz2⟩:=info_parts BY;obtain⟨lo,e,hown,hlo⟩:=hR;have hlo':lo.length=rs.length:=by rw [←e,List.length_map]
 refine wpList_append_own_at w hgd s x 27 ho B 55 i0 _ 2 32 Tryz.underlying27 hi hz0 hz1 hz2 rfl (by decide) v lo.length _ hs hown ⟨g,0,none⟩ 1 1 [.int .i64 r.c,cv] hx rfl (fun j u hj=>by rw [ol];have:=hnews j u hj;rwa [Nat.zero_add]at this) ?_ ?_ ?_ hB ?_
 ·intro u hu;rcases List.mem_cons.1 hu with rfl | hu
  ·rfl
  ·obtain rfl:u=cv:=(by simpa using hu);exact hone
 ·unfold maxLen;omega
 ·omega
 ·intro v' w' ho' hg' _ hat;have hfar:∀(y:Rv),BZ w B v y→BZ w' B v' y:=fun y hy=>by
   obtain⟨h1,h2⟩:=hy;refine⟨h1.kept hg' ?_,fun g hg=>?_⟩
   ·cases hv:y.v.ownBlock with
    | none=>exact .inl rfl
    | some g=>exact .inr (fun e=>h2 g hv e.symm)
   ·have hlt:=cK h1 hg;rcases hat with e' | e'
    ·rw [e'];exact h2 g hg
    ·rw [e'];intro e2;cases e2;omega
  refine h v' w' ⟨lo++ [⟨r,cv⟩],by simp [e],by simpa [rvC] using ho',fun y hy=>?_⟩ hg' hat;rcases List.mem_append.1 hy with hy | hy
  ·exact hfar y (hlo y hy)
  ·obtain rfl:y=⟨r,cv⟩:=(by simpa using hy);exact hfar _ ⟨hcv,hne⟩
theorem By {X:Nat→Prop} {M:Nat} {w:World} {sv pv av:Value} {S:List Sw} {P:List Pr} {A:List Ac} (h:CfAt w sv pv av S P A) (hM:Hi3 M sv pv av) (hX:∀k,X k→k<M):Kept X w fun w'=>CfAt w' sv pv av S P A:=fun w' hk=>
 ⟨mY h.1 (fun g hg hx=>by have:=hM.1 g hg;have:=hX g hx;omega) w' hk,mY h.2.1 (fun g hg hx=>by have:=hM.2.1 g hg;have:=hX g hx;omega) w' hk,mY h.2.2 (fun g hg hx=>by have:=hM.2.2 g hg;have:=hX g hx;omega) w' hk⟩
theorem kD {X:Nat→Prop} {B:Nat} {w:World} {u:Value} {rs:List Rp} (h:RR w B u rs) (hX:∀k,X k→k<B∨w.heap.size≤k):Kept X w fun w'=>RR w' B u rs:=fun w' hk=>by
 obtain⟨lo,e,ho,hx⟩:=h;have hno:∀{n:Nat} {e:TypeId} {sz:Nat} {v:Value} {xs:List Value},w.ownsRow B e sz v n xs→∀g,v.ownBlock=some g→¬X g:=fun ho g hg hxg=>by
  have h1:=ay ho g hg;have h2:=cK ho hg;rcases hX g hxg with h | h <;>omega
 exact⟨lo,e,k9 ho (hno ho) w' hk,fun x hx'=>⟨k9 (hx x hx').1 (hno (hx x hx').1) w' hk,(hx x hx').2⟩⟩
theorem RR.in {w:World} {B:Nat} {u:Value} {rs:List Rp} (h:RR w B u rs):∀g,u.ownBlock=some g→B≤g∧g<w.heap.size:=fun g hg=>by
 obtain⟨lo,e,ho,hx⟩:=h;exact⟨ay ho g hg,cK ho hg⟩
def axC (a:Ax):List Value:=[.int .i64 a.k,.int .i64 a.si,.int .i64 a.st,.int .i64 a.sg,.int .i64 a.pi,.int .i64 a.ps,.int .i64 a.pm,.int .i64 a.pp,.int .i64 a.pc,.int .i64 a.rs,.int .i64 a.rp,.bool a.rn,.int .i64 a.rf,.int .i64 a.rb,.int .i64 a.rt,.int .i64 a.re,.int .i64 a.ro,.bool a.rd,.int .i64 a.n,.int .i64 a.m,.int .i64 a.f0,.int .i64 a.f1,.int .i64 a.f2,.int .i64 a.f3,.int .i64 a.f4,.int .i64 a.f5,.int .i64 a.f6,.string a.body]
def ax0:Ax:=⟨0,0,0,0,0,0,0,0,0,0,0,false,0,0,0,0,0,false,0,0,0,0,0,0,0,0,0,⟨#[]⟩⟩
theorem Kept.set1 {X:Nat→Prop} {w:World} {F:World→Prop} (h:Kept X w F) {b:Nat} (hb:X b) (j:Nat) (v:Value):Kept X (w.setCell ⟨b,j,none⟩ v) F:=h.set hb j [v]
theorem pW:(Tryz.prog.info? 55).map (·.size)=some 2:=by kernel_rfl
def XU (w:World) (u:Value) (k:Nat):Prop:=k<w.heap.size+3∨u.ownBlock=some k
def XR (w wr:World) (u:Value) (k:Nat):Prop:=XU w u k∨k=wr.heap.size+1
def XB (w wr:World) (k:Nat):Prop:=k<w.heap.size+3∨k=wr.heap.size+1
theorem Box.grown {w w':World} {b:Nat} {cs:List Value} {row:Option Nat} (h:Box w b cs) (hg:w.grownBy w' row) (hne:row≠some b):Box w' b cs:=by
 have hblk:w'.heap[b]? =w.heap[b]?:=hg.block b h.1.1 (fun e=>hne e.symm);refine⟨⟨Nat.lt_of_lt_of_le h.1.1 hg.size,fun j v hj=>?_⟩,fun j hj=>?_⟩
 ·rw [dZ hblk];exact h.1.2 j v hj
 ·have:=h.2 j hj;unfold World.frozen? at this⊢;simp only [hblk];exact this
def RunAt (I:Nat→List Sw→List Pr→List Ac→(Nat→List Fl)→List Rp→Prop) (w wr:World) (k:Nat) (u:Value):Prop:=
 ∃(S:List Sw) (P:List Pr) (A:List Ac) (K:Nat→List Fl) (rs:List Rp) (sv pv av:Value) (ks:List Value),(I k S P A K rs∧rs.length=k)∧RR wr (w.heap.size+3) u rs∧Kept (XU w u) wr (fun W=>CfAt W sv pv av S P A)∧Kept (XU w u) wr (fun W=>KAt W ks K)∧
  (Box wr w.heap.size [.slice none 0 0,.slice none 0 0,.slice none 0 0]∧Box wr (w.heap.size+1) [sv,pv,av]∧Box wr (w.heap.size+2) ks)∧Below w.heap.size w wr
theorem RunAt.next {I:Nat→List Sw→List Pr→List Ac→(Nat→List Fl)→List Rp→Prop} {w wr w7 w8:World} {k:Nat} {u v:Value} {S:List Sw} {P:List Pr} {A:List Ac} {K:Nat→List Fl} {rs:List Rp} {r:Rp} {sv pv av:Value} {ks:List Value} (hI:I (k+1) S P A K (rs++ [r])) (hl:rs.length=k)
  (hR:RR w8 (w.heap.size+3) v (rs++ [r])) (hg:w7.grownBy w8 u.ownBlock) (ha:v.ownBlock=u.ownBlock∨v.ownBlock=some w7.heap.size) (hu:∀g,u.ownBlock=some g→w.heap.size+3≤g) (hC:Kept (XR w wr u) w7 fun W=>CfAt W sv pv av S P A) (hK:Kept (XR w wr u) w7 fun W=>KAt W ks K)
  (h0:Box w7 w.heap.size [.slice none 0 0,.slice none 0 0,.slice none 0 0]) (h1:Box w7 (w.heap.size+1) [sv,pv,av]) (h2:Box w7 (w.heap.size+2) ks) (hb:Below w.heap.size w w7):RunAt I w w8 (k+1) v:=by
 have hX:∀k,XU w v k→XR w wr u k∨w7.heap.size≤k:=fun k hk=>by
  rcases hk with hk | hk
  ·exact .inl (.inl (.inl hk))
  ·rcases ha with e | e
   ·exact .inl (.inl (.inr (e ▸ hk)))
   ·rw [e]at hk;cases hk;exact .inr zr
 have hne:∀b,b<w.heap.size+3→u.ownBlock≠some b:=fun b hb e=>by have:=hu b e;omega
 exact⟨S,P,A,K,rs++ [r],sv,pv,av,ks,⟨hI,by simp [hl]⟩,hR,hC.grown hg (fun g e=>.inl (.inr e)) hX,hK.grown hg (fun g e=>.inl (.inr e)) hX,⟨h0.grown hg (hne _ (by omega)),h1.grown hg (hne _ (by omega)),h2.grown hg (hne _ (by omega))⟩,hb.grown hg hb.size (fun g e=>by have:=hu g e;omega)⟩
def Ci (I:Nat→List Sw→List Pr→List Ac→(Nat→List Fl)→List Rp→Prop) (k:Nat) (x:Ax):Prop:=∀(S:List Sw) (P:List Pr) (A:List Ac) (K:Nat→List Fl) (rs:List Rp),I k S P A K rs→∀(X:Nat→Prop) (W:World) (ks:List Value) (s1 p1 a1:Option Addr) (s2 p2 a2:Nat),(∀k,X k→k<W.heap.size)→Kept X W (fun W=>KAt W ks K)→CfAt W (.slice s1 S.length s2) (.slice p1 P.length p2) (.slice a1 A.length a2) S P A→
 Calls Tryz.prog 22 #[.agg ks.toArray,.agg #[.slice s1 S.length s2,.slice p1 P.length p2,.slice a1 A.length a2],.int .i64 x.n] W fun e w'=>∃(ks':List Value) (E:Int),e= .returned (.tuple #[.agg ks'.toArray,.int .i64 E])∧∃K',Kept X w' (fun W=>KAt W ks' K')∧I (k+1) S P A K' (rs++ [⟨E,[],⟨#[]⟩⟩])∧Below W.heap.size W w'
def Ct (I:Nat→List Sw→List Pr→List Ac→(Nat→List Fl)→List Rp→Prop) (k:Nat) (x:Ax):Prop:=∀(S:List Sw) (P:List Pr) (A:List Ac) (K:Nat→List Fl) (rs:List Rp),I k S P A K rs→x.body.size≤maxLen∧(fK K P x.n x.f0 x.f1 x.f2 x.f3 x.f4 x.f5 x.f6 x.body.size=0→ko (fp K P x.n x.f0 x.f1 x.f2 x.f3 x.f4 x.f5 x.f6 x.body.size))∧∀l',l'.Perm (fp K P x.n x.f0 x.f1 x.f2 x.f3 x.f4 x.f5 x.f6 x.body.size)→eq l'→I (k+1) S P A K (rs++ [⟨fK K P x.n x.f0 x.f1 x.f2 x.f3 x.f4 x.f5 x.f6 x.body.size,l',x.body⟩])
def Cs (I:Nat→List Sw→List Pr→List Ac→(Nat→List Fl)→List Rp→Prop) (k:Nat) (x:Ax):Prop:=∀(S:List Sw) (P:List Pr) (A:List Ac) (K:Nat→List Fl) (rs:List Rp),I k S P A K rs→I (k+1) (cS S P A x) (cP S P A x) (cA S P A x) K (rs++ [⟨dd S P A x,[],⟨#[]⟩⟩])
def kJ (I:Nat→List Sw→List Pr→List Ac→(Nat→List Fl)→List Rp→Prop) (n:Nat) (w:World) (e:Ending) (w':World):Prop:=∃(u su pu au:Value),e= .returned (.tuple #[u,.agg #[su,pu,au],.int .i64 0])∧∃(S:List Sw) (P:List Pr) (A:List Ac) (K:Nat→List Fl) (rs:List Rp),(I n S P A K rs∧rs.length=n)∧RR w' w.heap.size u rs∧Kept (fun k=>k<w.heap.size) w' (fun W=>CfAt W su pu au S P A)∧Below w.heap.size w w'
theorem Bu (l:List Ax) (lv:Value) (w:World) (hL:RowAt axC 28 w lv l) (hlen:l.length≤300) (I:Nat→List Sw→List Pr→List Ac→(Nat→List Fl)→List Rp→Prop) (h0:I 0 [] [] [] (fun _=>[]) [])
  (hsm:∀k S P A K rs,I k S P A K rs→(S.length≤1000∧P.length≤1000∧A.length≤1000)∧∀p∈P,p.c= -1∨0≤p.c∧p.c≤5)
  (h7:∀k,k<l.length→(l.getD k ax0).k=7→Ci I k (l.getD k ax0)) (h8:∀k,k<l.length→(l.getD k ax0).k=8→Ct I k (l.getD k ax0)) (h9:∀k,k<l.length→(l.getD k ax0).k≠7→(l.getD k ax0).k≠8→Cs I k (l.getD k ax0)):
  Calls Tryz.prog 21 #[lv] w (kJ I l.length w):=by
 have HLL:=aa hL;obtain⟨la,lc,rfl⟩:=hL.slice;clear hL;have HSM:=aa hsm;have H7:=aa h7;have H8:=aa h8;have H9:=aa h9;have H0:=aa h0;clear hsm h7 h8 h9 h0;obtain⟨W0,hW0⟩:∃W0,W0=((w.alloc (.cells #[.slice none 0 0,.slice none 0 0,.slice none 0 0] 32)).alloc (.cells #[.slice none 0 0,.slice none 0 0,.slice none 0 0] 32)).alloc (.cells #[.slice none 0 0,.slice none 0 0,.slice none 0 0,.slice none 0 0,.slice none 0 0,.slice none 0 0] 71):=⟨_,rfl⟩;have kb:Below w.heap.size w W0:=by rw [hW0];exact(((Below.refl _ w).alloc zr _).alloc (by simp) _).alloc (by simp;omega) _
 have B0:Box W0 w.heap.size [.slice none 0 0,.slice none 0 0,.slice none 0 0]:=by rw [hW0];exact((Box.new w [.slice none 0 0,.slice none 0 0,.slice none 0 0] 32).alloc _).alloc _
 have B1:Box W0 (w.heap.size+1) [.slice none 0 0,.slice none 0 0,.slice none 0 0]:=by rw [hW0];have h:=(Box.new (w.alloc (.cells #[.slice none 0 0,.slice none 0 0,.slice none 0 0] 32)) [.slice none 0 0,.slice none 0 0,.slice none 0 0] 32).alloc (.cells #[.slice none 0 0,.slice none 0 0,.slice none 0 0,.slice none 0 0,.slice none 0 0,.slice none 0 0] 71);simpa using h
 have B2:Box W0 (w.heap.size+2) [.slice none 0 0,.slice none 0 0,.slice none 0 0,.slice none 0 0,.slice none 0 0,.slice none 0 0]:=by rw [hW0];have h:=Box.new ((w.alloc (.cells #[.slice none 0 0,.slice none 0 0,.slice none 0 0] 32)).alloc (.cells #[.slice none 0 0,.slice none 0 0,.slice none 0 0] 32)) [.slice none 0 0,.slice none 0 0,.slice none 0 0,.slice none 0 0,.slice none 0 0,.slice none 0 0] 71;simpa using h
 have HST:Hid (RunAt I w W0 0 (.slice none 0 0)):=aa ⟨[],[],[],fun _=>[],[],.slice none 0 0,.slice none 0 0,.slice none 0 0,[.slice none 0 0,.slice none 0 0,.slice none 0 0,.slice none 0 0,.slice none 0 0,.slice none 0 0],⟨H0.out,rfl⟩,RR.nil _ _,fun w' _=>⟨⟨none,0,rfl,fun _=>rfl,.inl rfl⟩,⟨none,0,rfl,fun _=>rfl,.inl rfl⟩,⟨none,0,rfl,fun _=>rfl,.inl rfl⟩⟩,fun w' _=>⟨rfl,fun i hi v hv=>⟨by
   have:v= .slice none 0 0:=by
    have h6:i=0∨i=1∨i=2∨i=3∨i=4∨i=5:=(by omega);rcases h6 with rfl | rfl | rfl | rfl | rfl | rfl <;>simpa using hv.symm
   rw [this];exact⟨none,0,rfl,fun _=>rfl,.inl rfl⟩,by simp⟩⟩,⟨B0,B1,B2⟩,kb⟩
 have HW0:Hid (((w.alloc (.cells #[.slice none 0 0,.slice none 0 0,.slice none 0 0] 32)).alloc (.cells #[.slice none 0 0,.slice none 0 0,.slice none 0 0] 32)).alloc (.cells #[.slice none 0 0,.slice none 0 0,.slice none 0 0,.slice none 0 0,.slice none 0 0,.slice none 0 0] 71)=W0):=hW0.symm;clear hW0 B0 B1 B2 H0 kb;have q300:¬((300:Int)<(l.length:Int)):=by omega
 go_enter Tryz.func21,Tryz.ntmps21;go_wp2_with fail
 rw [HW0.out];clear HW0;go_loopw [7,17] (fun u i wr=>∃k:Nat,k≤l.length∧i= .int .i64 k∧RunAt I w wr k u) (fun _ i _=>l.length-(intOf i).toNat)
 case atStart=>exact⟨0,by omega,rfl,HST.out⟩
 case round=>
  clear HST;obtain⟨k,hk,rfl,HRA⟩:=hrel;obtain⟨S,P,A,K,rs,sv,pv,av,ks,⟨hI,hrl⟩,hRR,hCF,hKA,⟨hb0,hb1,hb2⟩,hbr⟩:=HRA;have HI:=aa hI;have HRL:=aa hrl;have HR0:=aa hRR;have HCF:=aa hCF;have HKA:=aa hKA;have HB0:=aa hb0;have HB1:=aa hb1;have HB2:=aa hb2;clear hI hrl hRR hCF hKA hb0 hb1 hb2;obtain⟨⟨n1,n2,n3⟩,hpc⟩:=HSM.out _ _ _ _ _ _ HI.out;have HPC:=aa hpc;clear hpc;obtain⟨s1,s2,rfl⟩:=HCF.out.here.1.slice;obtain⟨p1,p2,rfl⟩:=HCF.out.here.2.1.slice;obtain⟨a1,a2,rfl⟩:=HCF.out.here.2.2.slice;obtain⟨j0,j1,j2,j3,j4,j5,rfl⟩:=six HKA.out.here.1;obtain⟨ro,rc,hru⟩:=HR0.out.slc;subst hru;have HUI:=aa HR0.out.in;have sr:w.heap.size+3≤wr.heap.size:=HB2.out.lt;by_cases hlt:k<l.length
  ·have H7k:=aa (H7.out k hlt);have H8k:=aa (H8.out k hlt);have H9k:=aa (H9.out k hlt);obtain⟨ab,off,cap,e1,hcap,hR0⟩:=eh ax0 (RowAt.below HLL.out hbr zr) hlt;have R0:=aa hR0;clear hR0;simp only [Value.slice.injEq,true_and]at e1;obtain⟨rfl,rfl⟩:=e1;generalize l.getD k ax0=x at*;have HXC:Hid (axC x= [.int .i64 x.k,.int .i64 x.si,.int .i64 x.st,.int .i64 x.sg,.int .i64 x.pi,.int .i64 x.ps,.int .i64 x.pm,.int .i64 x.pp,.int .i64 x.pc,.int .i64 x.rs,.int .i64 x.rp,.bool x.rn,.int .i64 x.rf,.int .i64 x.rb,.int .i64 x.rt,.int .i64 x.re,.int .i64 x.ro,.bool x.rd,.int .i64 x.n,.int .i64 x.m,.int .i64 x.f0,.int .i64 x.f1,.int .i64 x.f2,.int .i64 x.f3,.int .i64 x.f4,.int .i64 x.f5,.int .i64 x.f6,.string x.body]):=rfl;rw [HXC.out]at R0;have q0:(0:Int)≤(k:Int):=(by omega);have q1:(k:Int)<(l.length:Int):=(by omega);obtain⟨WZ,hWZ⟩:∃WZ,WZ=wr.alloc (.cells #[.int .i64 0,.int .i64 0,.int .i64 0,.int .i64 0,.int .i64 0,.int .i64 0,.int .i64 0,.int .i64 0,.int .i64 0,.int .i64 0,.int .i64 0,.bool false,.int .i64 0,.int .i64 0,.int .i64 0,.int .i64 0,.int .i64 0,.bool false,.int .i64 0,.int .i64 0,.int .i64 0,.int .i64 0,.int .i64 0,.int .i64 0,.int .i64 0,.int .i64 0,.int .i64 0,.string ⟨#[]⟩] 51):=⟨_,rfl⟩;have hZ:Box WZ wr.heap.size [.int .i64 0,.int .i64 0,.int .i64 0,.int .i64 0,.int .i64 0,.int .i64 0,.int .i64 0,.int .i64 0,.int .i64 0,.int .i64 0,.int .i64 0,.bool false,.int .i64 0,.int .i64 0,.int .i64 0,.int .i64 0,.int .i64 0,.bool false,.int .i64 0,.int .i64 0,.int .i64 0,.int .i64 0,.int .i64 0,.int .i64 0,.int .i64 0,.int .i64 0,.int .i64 0,.string ⟨#[]⟩]:=by rw [hWZ];exact Box.new wr [.int .i64 0,.int .i64 0,.int .i64 0,.int .i64 0,.int .i64 0,.int .i64 0,.int .i64 0,.int .i64 0,.int .i64 0,.int .i64 0,.int .i64 0,.bool false,.int .i64 0,.int .i64 0,.int .i64 0,.int .i64 0,.int .i64 0,.bool false,.int .i64 0,.int .i64 0,.int .i64 0,.int .i64 0,.int .i64 0,.int .i64 0,.int .i64 0,.int .i64 0,.int .i64 0,.string ⟨#[]⟩] 51
   have TZ:=aa (hZ.fit 28 rfl);obtain⟨WA,hWA⟩:∃WA,WA=WZ.setCells wr.heap.size 0 [.int .i64 x.k,.int .i64 x.si,.int .i64 x.st,.int .i64 x.sg,.int .i64 x.pi,.int .i64 x.ps,.int .i64 x.pm,.int .i64 x.pp,.int .i64 x.pc,.int .i64 x.rs,.int .i64 x.rp,.bool x.rn,.int .i64 x.rf,.int .i64 x.rb,.int .i64 x.rt,.int .i64 x.re,.int .i64 x.ro,.bool x.rd,.int .i64 x.n,.int .i64 x.m,.int .i64 x.f0,.int .i64 x.f1,.int .i64 x.f2,.int .i64 x.f3,.int .i64 x.f4,.int .i64 x.f5,.int .i64 x.f6,.string x.body]:=⟨_,rfl⟩;have hA:Box WA wr.heap.size [.int .i64 x.k,.int .i64 x.si,.int .i64 x.st,.int .i64 x.sg,.int .i64 x.pi,.int .i64 x.ps,.int .i64 x.pm,.int .i64 x.pp,.int .i64 x.pc,.int .i64 x.rs,.int .i64 x.rp,.bool x.rn,.int .i64 x.rf,.int .i64 x.rb,.int .i64 x.rt,.int .i64 x.re,.int .i64 x.ro,.bool x.rd,.int .i64 x.n,.int .i64 x.m,.int .i64 x.f0,.int .i64 x.f1,.int .i64 x.f2,.int .i64 x.f3,.int .i64 x.f4,.int .i64 x.f5,.int .i64 x.f6,.string x.body]:=by rw [hWA];exact hZ.set ([.int .i64 x.k,.int .i64 x.si,.int .i64 x.st,.int .i64 x.sg,.int .i64 x.pi,.int .i64 x.ps,.int .i64 x.pm,.int .i64 x.pp,.int .i64 x.pc,.int .i64 x.rs,.int .i64 x.rp,.bool x.rn,.int .i64 x.rf,.int .i64 x.rb,.int .i64 x.rt,.int .i64 x.re,.int .i64 x.ro,.bool x.rd,.int .i64 x.n,.int .i64 x.m,.int .i64 x.f0,.int .i64 x.f1,.int .i64 x.f2,.int .i64 x.f3,.int .i64 x.f4,.int .i64 x.f5,.int .i64 x.f6,.string x.body]:List Value) rfl
   have hsA:WA.heap.size=wr.heap.size+1:=by rw [hWA,cU,hWZ];simp
   obtain⟨W1,hW1⟩:∃W1,W1=WA.alloc (.cells #[.int .i64 0,.slice none 0 0] 55):=⟨_,rfl⟩;have hbN:Below wr.heap.size wr W1:=by rw [hW1,hWA,hWZ];exact(ar _ zr _ _ ((Below.refl _ _).alloc zr _)).alloc (by rw [cU];simp) _
   have HAB:Hid (Box W1 wr.heap.size [.int .i64 x.k,.int .i64 x.si,.int .i64 x.st,.int .i64 x.sg,.int .i64 x.pi,.int .i64 x.ps,.int .i64 x.pm,.int .i64 x.pp,.int .i64 x.pc,.int .i64 x.rs,.int .i64 x.rp,.bool x.rn,.int .i64 x.rf,.int .i64 x.rb,.int .i64 x.rt,.int .i64 x.re,.int .i64 x.ro,.bool x.rd,.int .i64 x.n,.int .i64 x.m,.int .i64 x.f0,.int .i64 x.f1,.int .i64 x.f2,.int .i64 x.f3,.int .i64 x.f4,.int .i64 x.f5,.int .i64 x.f6,.string x.body]):=by rw [hW1];exact aa (hA.alloc _)
   have HPB:Hid (Box W1 (wr.heap.size+1) [.int .i64 0,.slice none 0 0]):=by rw [hW1, ←hsA];exact aa (Box.new WA [.int .i64 0,.slice none 0 0] 55)
   have HWZ:Hid (wr.alloc (.cells #[.int .i64 0,.int .i64 0,.int .i64 0,.int .i64 0,.int .i64 0,.int .i64 0,.int .i64 0,.int .i64 0,.int .i64 0,.int .i64 0,.int .i64 0,.bool false,.int .i64 0,.int .i64 0,.int .i64 0,.int .i64 0,.int .i64 0,.bool false,.int .i64 0,.int .i64 0,.int .i64 0,.int .i64 0,.int .i64 0,.int .i64 0,.int .i64 0,.int .i64 0,.int .i64 0,.string ⟨#[]⟩] 51)=WZ):=hWZ.symm;have HWA:Hid (WZ.setCells wr.heap.size 0 [.int .i64 x.k,.int .i64 x.si,.int .i64 x.st,.int .i64 x.sg,.int .i64 x.pi,.int .i64 x.ps,.int .i64 x.pm,.int .i64 x.pp,.int .i64 x.pc,.int .i64 x.rs,.int .i64 x.rp,.bool x.rn,.int .i64 x.rf,.int .i64 x.rb,.int .i64 x.rt,.int .i64 x.re,.int .i64 x.ro,.bool x.rd,.int .i64 x.n,.int .i64 x.m,.int .i64 x.f0,.int .i64 x.f1,.int .i64 x.f2,.int .i64 x.f3,.int .i64 x.f4,.int .i64 x.f5,.int .i64 x.f6,.string x.body]=WA):=hWA.symm;have HSA:=aa hsA;clear hWZ hZ hWA hA;replace HB0:=aa (HB0.out.below hbN);replace HB1:=aa (HB1.out.below hbN);replace HB2:=aa (HB2.out.below hbN);replace HCF:=aa ((HCF.out.but (X':=XR w wr (.slice ro rs.length rc)) (fun k hk=>by rcases hk with h | h;exact .inl h;exact .inr (by omega))).below hbN);replace HKA:=aa ((HKA.out.but (X':=XR w wr (.slice ro rs.length rc)) (fun k hk=>by rcases hk with h | h;exact .inl h;exact .inr (by omega))).below hbN);have HRR:=aa ((kD (X:=XB w wr) HR0.out (fun k hk=>by rcases hk with h | h;exact .inl h;exact .inr (by omega))).below hbN);have hbw:Below w.heap.size w W1:=hbr.trans (hbN.mono (by omega));have HW1:=aa hW1.symm;have sW1:wr.heap.size+1<W1.heap.size:=HPB.out.lt;have HXL:Hid (∀k,XR w wr (.slice ro rs.length rc) k→k<W1.heap.size):=aa (fun k hk=>by rcases hk with(h | h) | h;omega;(have:=(HUI.out k h).2;omega);omega);clear hbN hW1 hbr HLL HSM H7 H8 H9 HXC HR0 hsA;have ak:=HAB.out.cell 0 _ rfl;have an:=HAB.out.cell 18 _ rfl;by_cases hx7:x.k=7
   ·have HSY:=aa (H7k.out hx7 S P A K rs HI.out);have hk7:(x.k==7)=true:=(by simpa using hx7);clear hx7 H7k H8k H9k;go_wp2_with (first | rw [HWZ.out] | rw [HW1.out] | rw [HSA.out] |(refine wpList_load_mid rfl 51 (.tmp 19) rfl ab (off+k*28) rfl _ _ R0.out Tryz.underlying51 rfl bW ?_) |(refine wpList_store_mid rfl 51 (.tmp 9) (.tmp 20) rfl wr.heap.size 0 _ rfl rfl TZ.out bW (cZ rfl) ?_;rw [show(#[.int .i64 x.k,.int .i64 x.si,.int .i64 x.st,.int .i64 x.sg,.int .i64 x.pi,.int .i64 x.ps,.int .i64 x.pm,.int .i64 x.pp,.int .i64 x.pc,.int .i64 x.rs,.int .i64 x.rp,.bool x.rn,.int .i64 x.rf,.int .i64 x.rb,.int .i64 x.rt,.int .i64 x.re,.int .i64 x.ro,.bool x.rd,.int .i64 x.n,.int .i64 x.m,.int .i64 x.f0,.int .i64 x.f1,.int .i64 x.f2,.int .i64 x.f3,.int .i64 x.f4,.int .i64 x.f5,.int .i64 x.f6,.string x.body]:Array Value).toList= [.int .i64 x.k,.int .i64 x.si,.int .i64 x.st,.int .i64 x.sg,.int .i64 x.pi,.int .i64 x.ps,.int .i64 x.pm,.int .i64 x.pp,.int .i64 x.pc,.int .i64 x.rs,.int .i64 x.rp,.bool x.rn,.int .i64 x.rf,.int .i64 x.rb,.int .i64 x.rt,.int .i64 x.re,.int .i64 x.ro,.bool x.rd,.int .i64 x.n,.int .i64 x.m,.int .i64 x.f0,.int .i64 x.f1,.int .i64 x.f2,.int .i64 x.f3,.int .i64 x.f4,.int .i64 x.f5,.int .i64 x.f6,.string x.body]from rfl,HWA.out]) |(refine wpList_load_mid rfl 71 (.tmp 6) rfl (w.heap.size+1+1) 0 rfl _ _ HB2.out.range Tryz.underlying71 rfl ew ?_) |(refine wpList_load_mid rfl 32 (.tmp 5) rfl (w.heap.size+1) 0 rfl _ _ HB1.out.range Tryz.underlying32 rfl aJ ?_))
    refine(HSY.out _ _ _ s1 p1 a1 s2 p2 a2 HXL.out HKA.out HCF.out.here).mono ?_;rintro e w2 ⟨ks2,E,rfl,K2,hk2,hI2,hb2⟩;have HK2:=aa hk2;have HI2:=aa hI2;obtain⟨i0,i1,i2,i3,i4,i5,rfl⟩:=six hk2.here.1;replace HB0:=aa (HB0.out.below hb2);replace HB1:=aa (HB1.out.below hb2);replace HB2:=aa (HB2.out.below hb2);replace HPB:=aa (HPB.out.below hb2);replace HRR:=aa (HRR.out.below hb2);replace HCF:=aa (HCF.out.below hb2);replace hbw:=hbw.trans (hb2.mono hbw.size);have s2l:=hb2.size;have HON:=aa (vd hk2.here);clear hk2 hI2 hb2 HKA HAB R0 HW1 HWZ HWA HSA TZ ak an HSY;have HKA:=HK2;clear HK2;obtain⟨W3,hW3⟩:∃W3,W3=w2.setCells (w.heap.size+1+1) 0 [i0,i1,i2,i3,i4,i5]:=⟨_,rfl⟩;obtain⟨W4,hW4⟩:∃W4,W4=W3.setCell ⟨wr.heap.size+1,0,none⟩ (.int .i64 E):=⟨_,rfl⟩;have T2:=aa (HB2.out.fit 6 rfl);have hP3:Box W3 (wr.heap.size+1) [.int .i64 0,.slice none 0 0]:=by rw [hW3];exact HPB.out.set_far (by omega) _ _
    have HPX:Hid (Box W4 (wr.heap.size+1) [.int .i64 E,.slice none 0 0]):=by rw [hW4];exact aa (hP3.set1 0 _ (by simp))
    have c3:=hP3.cell 0 _ rfl;have f3:=hP3.2 0 (by simp);replace HB0:Hid (Box W4 w.heap.size [.slice none 0 0,.slice none 0 0,.slice none 0 0]):=by rw [hW4,hW3];exact aa ((HB0.out.set_far (by omega) _ _).set1_far (by omega) _ _)
    replace HB1:Hid (Box W4 (w.heap.size+1) [.slice s1 S.length s2,.slice p1 P.length p2,.slice a1 A.length a2]):=by rw [hW4,hW3];exact aa ((HB1.out.set_far (by omega) _ _).set1_far (by omega) _ _)
    replace HB2:Hid (Box W4 (w.heap.size+1+1) [i0,i1,i2,i3,i4,i5]):=by rw [hW4,hW3];exact aa ((HB2.out.set ([i0,i1,i2,i3,i4,i5]:List Value) rfl).set1_far (by omega) _ _)
    replace HRR:=aa ((HRR.out.set (b:=(w.heap.size+1+1)) (.inl (by omega)) 0 [i0,i1,i2,i3,i4,i5]).set1 (b:=wr.heap.size+1) (.inr rfl) 0 (.int .i64 E));rw [←hW3, ←hW4]at HRR;replace HCF:=aa ((HCF.out.set (b:=(w.heap.size+1+1)) (.inl (.inl (by omega))) 0 [i0,i1,i2,i3,i4,i5]).set1 (b:=wr.heap.size+1) (.inr rfl) 0 (.int .i64 E));rw [←hW3, ←hW4]at HCF;replace HKA:=aa ((HKA.out.set (b:=(w.heap.size+1+1)) (.inl (.inl (by omega))) 0 [i0,i1,i2,i3,i4,i5]).set1 (b:=wr.heap.size+1) (.inr rfl) 0 (.int .i64 E));rw [←hW3, ←hW4]at HKA;have hbw4:Below w.heap.size w W4:=by rw [hW4,hW3];exact(ar (w.heap.size+1+1) (by omega) _ 0 hbw).setCell (p:=⟨wr.heap.size+1,0,none⟩) (by simp only;omega) _
    clear hbw HPB hP3;obtain⟨W7,hW7⟩:∃W7,W7=W4.alloc (.cells #[.int .i64 E,.slice none 0 0] 55):=⟨_,rfl⟩;have hb7:Below W4.heap.size W4 W7:=by rw [hW7];exact(Below.refl _ _).alloc zr _
    have HN7:Hid (W7.rangeAt W4.heap.size 0 [.int .i64 E,.slice none 0 0]):=by rw [hW7];exact aa (dJ W4 [.int .i64 E,.slice none 0 0] 55)
    replace HB0:=aa (HB0.out.below hb7);replace HB1:=aa (HB1.out.below hb7);replace HB2:=aa (HB2.out.below hb7);replace HRR:=aa (HRR.out.below hb7);replace HCF:=aa (HCF.out.below hb7);replace HKA:=aa (HKA.out.below hb7);have hbw7:=hbw4.trans (hb7.mono hbw4.size);have s7:w.heap.size+3≤W7.heap.size:=HB2.out.lt;have HW3:Hid (w2.setCells (w.heap.size+1+1) 0 [i0,i1,i2,i3,i4,i5]=W3):=hW3.symm;have HW4:Hid (W3.setCell ⟨wr.heap.size+1,0,none⟩ (.int .i64 E)=W4):=hW4.symm;have HW7:Hid (W4.alloc (.cells #[.int .i64 E,.slice none 0 0] 55)=W7):=hW7.symm;clear hW3 hW4 hW7 hb7 hbw4;go_wp2_with (first | rw [HW7.out] | rw [HW4.out] |(refine wpList_store_mid rfl 71 (.tmp 6) (.tmp 38) rfl (w.heap.size+1+1) 0 _ rfl rfl T2.out ew HON.out ?_;rw [show(#[i0,i1,i2,i3,i4,i5]:Array Value).toList= [i0,i1,i2,i3,i4,i5]from rfl,HW3.out]) |(refine wpList_load_mid rfl 55 (.tmp 10) rfl (wr.heap.size+1) 0 rfl _ _ HPX.out.range Tryz.underlying55 rfl pW ?_) |(at_builtin;refine eK rfl _ _ rfl (w.heap.size+3) _ rs rfl HRR.out.here W4.heap.size ⟨E,[],⟨#[]⟩⟩ _ rfl HN7.out rfl (World.ownsRow_nil _ _ _ _) (fun g e=>by simp [Value.ownBlock]at e) ?b21 ?b22 ?b23))
    case b21=>rw [HRL.out];omega
    case b22=>exact s7
    intro v8 w8 hr8 hg8 ha8;have HNX:=aa (RunAt.next HI2.out HRL.out hr8 hg8 ha8 (fun g e=>(HUI.out g e).1) HCF.out HKA.out HB0.out HB1.out HB2.out hbw7);clear hr8 hg8 ha8 HRR HCF HKA HB0 HB1 HB2 HN7 HW3 HW4 HW7 HPX;go_wp2_with fail
    go_roundw
    case rel=>exact⟨k+1,by omega,by go_num,HNX.out⟩
    case measure=>simp [intOf];omega
   ·by_cases hx8:x.k=8
    ·obtain⟨hbd,hso,hnx⟩:=H8k.out hx8 S P A K rs HI.out;have HSO:=aa hso;have HNI:=aa hnx;have hk8:(x.k==8)=true:=(by simpa using hx8);have hk7:(x.k==7)=false:=(by simpa using hx7);clear hx7 hx8 hso hnx H7k H8k H9k;have HFX:Hid (W1.rangeAt wr.heap.size 20 [.int .i64 x.f0,.int .i64 x.f1,.int .i64 x.f2,.int .i64 x.f3,.int .i64 x.f4,.int .i64 x.f5,.int .i64 x.f6,.string x.body]):=aa (fun j v hj=>by have:=HAB.out.range (20+j) v (by rw [Nat.add_comm];simpa using hj);simpa using this);go_wp2_with (first | rw [HWZ.out] | rw [HW1.out] | rw [HSA.out] |(refine wpList_load_mid rfl 51 (.tmp 19) rfl ab (off+k*28) rfl _ _ R0.out Tryz.underlying51 rfl bW ?_) |(refine wpList_store_mid rfl 51 (.tmp 9) (.tmp 20) rfl wr.heap.size 0 _ rfl rfl TZ.out bW (cZ rfl) ?_;rw [show(#[.int .i64 x.k,.int .i64 x.si,.int .i64 x.st,.int .i64 x.sg,.int .i64 x.pi,.int .i64 x.ps,.int .i64 x.pm,.int .i64 x.pp,.int .i64 x.pc,.int .i64 x.rs,.int .i64 x.rp,.bool x.rn,.int .i64 x.rf,.int .i64 x.rb,.int .i64 x.rt,.int .i64 x.re,.int .i64 x.ro,.bool x.rd,.int .i64 x.n,.int .i64 x.m,.int .i64 x.f0,.int .i64 x.f1,.int .i64 x.f2,.int .i64 x.f3,.int .i64 x.f4,.int .i64 x.f5,.int .i64 x.f6,.string x.body]:Array Value).toList= [.int .i64 x.k,.int .i64 x.si,.int .i64 x.st,.int .i64 x.sg,.int .i64 x.pi,.int .i64 x.ps,.int .i64 x.pm,.int .i64 x.pp,.int .i64 x.pc,.int .i64 x.rs,.int .i64 x.rp,.bool x.rn,.int .i64 x.rf,.int .i64 x.rb,.int .i64 x.rt,.int .i64 x.re,.int .i64 x.ro,.bool x.rd,.int .i64 x.n,.int .i64 x.m,.int .i64 x.f0,.int .i64 x.f1,.int .i64 x.f2,.int .i64 x.f3,.int .i64 x.f4,.int .i64 x.f5,.int .i64 x.f6,.string x.body]from rfl,HWA.out]) |(refine wpList_load_mid rfl 71 (.tmp 6) rfl (w.heap.size+1+1) 0 rfl _ _ HB2.out.range Tryz.underlying71 rfl ew ?_) |(refine wpList_load_mid rfl 32 (.tmp 5) rfl (w.heap.size+1) 0 rfl _ _ HB1.out.range Tryz.underlying32 rfl aJ ?_) |(refine wpList_load_mid rfl 37 (.tmp 48) rfl wr.heap.size 20 rfl [.int .i64 x.f0,.int .i64 x.f1,.int .i64 x.f2,.int .i64 x.f3,.int .i64 x.f4,.int .i64 x.f5,.int .i64 x.f6,.string x.body] _ HFX.out Tryz.underlying37 rfl gX ?_))
     refine(kf _ K s1 p1 a1 S.length s2 p2 A.length a2 P x.n x.f0 x.f1 x.f2 x.f3 x.f4 x.f5 x.f6 x.body _ HKA.out.here HCF.out.here.2.1 (by omega) HPC.out hbd HSO.out).mono ?_;rintro e w2 ⟨u2,rfl,l2,⟨hp2,hs2,ho2⟩,hb2⟩;have HIN:=aa (HNI.out l2 hp2 hs2);have HOC:=aa (k9 (X:=XR w wr (.slice ro rs.length rc)) ho2 (fun g hg hx=>by have:=ay ho2 g hg;have:=HXL.out g hx;omega));have HFA:Hid (∀g,u2.ownBlock=some g→(Value.slice ro rs.length rc).ownBlock≠some g):=aa (fun g hg e=>by have:=ay ho2 g hg;have:=(HUI.out g e).2;omega);obtain⟨o1,o2,rfl⟩:=aq ho2;replace HB0:=aa (HB0.out.below hb2);replace HB1:=aa (HB1.out.below hb2);replace HB2:=aa (HB2.out.below hb2);replace HPB:=aa (HPB.out.below hb2);replace HRR:=aa (HRR.out.below hb2);replace HCF:=aa (HCF.out.below hb2);replace HKA:=aa (HKA.out.below hb2);replace hbw:=hbw.trans (hb2.mono hbw.size);have s2l:=hb2.size;clear hp2 hs2 ho2 hb2 HAB R0 HW1 HWZ HWA HSA TZ ak an HFX HNI HSO;generalize fK K P x.n x.f0 x.f1 x.f2 x.f3 x.f4 x.f5 x.f6 x.body.size=E at*;obtain⟨W3,hW3⟩:∃W3,W3=w2.setCell ⟨wr.heap.size+1,1,none⟩ (.slice o1 l2.length o2):=⟨_,rfl⟩;obtain⟨W4,hW4⟩:∃W4,W4=W3.setCell ⟨wr.heap.size+1,0,none⟩ (.int .i64 E):=⟨_,rfl⟩;have c2:=HPB.out.cell 1 _ rfl;have f2:=HPB.out.2 1 (by simp);have hP3:Box W3 (wr.heap.size+1) [.int .i64 0,.slice o1 l2.length o2]:=by rw [hW3];exact HPB.out.set1 1 _ (by simp)
     have HPX:Hid (Box W4 (wr.heap.size+1) [.int .i64 E,.slice o1 l2.length o2]):=by rw [hW4];exact aa (hP3.set1 0 _ (by simp))
     have c3:=hP3.cell 0 _ rfl;have f3:=hP3.2 0 (by simp);replace HB0:Hid (Box W4 w.heap.size [.slice none 0 0,.slice none 0 0,.slice none 0 0]):=by rw [hW4,hW3];exact aa ((HB0.out.set1_far (by omega) _ _).set1_far (by omega) _ _)
     replace HB1:Hid (Box W4 (w.heap.size+1) [.slice s1 S.length s2,.slice p1 P.length p2,.slice a1 A.length a2]):=by rw [hW4,hW3];exact aa ((HB1.out.set1_far (by omega) _ _).set1_far (by omega) _ _)
     replace HB2:Hid (Box W4 (w.heap.size+1+1) [j0,j1,j2,j3,j4,j5]):=by rw [hW4,hW3];exact aa ((HB2.out.set1_far (by omega) _ _).set1_far (by omega) _ _)
     replace HRR:=aa ((HRR.out.set1 (b:=wr.heap.size+1) (.inr rfl) 1 (.slice o1 l2.length o2)).set1 (b:=wr.heap.size+1) (.inr rfl) 0 (.int .i64 E));rw [←hW3, ←hW4]at HRR;replace HCF:=aa ((HCF.out.set1 (b:=wr.heap.size+1) (.inr rfl) 1 (.slice o1 l2.length o2)).set1 (b:=wr.heap.size+1) (.inr rfl) 0 (.int .i64 E));rw [←hW3, ←hW4]at HCF;replace HKA:=aa ((HKA.out.set1 (b:=wr.heap.size+1) (.inr rfl) 1 (.slice o1 l2.length o2)).set1 (b:=wr.heap.size+1) (.inr rfl) 0 (.int .i64 E));rw [←hW3, ←hW4]at HKA;replace HOC:=aa ((HOC.out.set1 (b:=wr.heap.size+1) (.inr rfl) 1 (.slice o1 l2.length o2)).set1 (b:=wr.heap.size+1) (.inr rfl) 0 (.int .i64 E));rw [←hW3, ←hW4]at HOC;have hbw4:Below w.heap.size w W4:=by rw [hW4,hW3];exact(hbw.setCell (p:=⟨wr.heap.size+1,1,none⟩) (by simp only;omega) _).setCell (p:=⟨wr.heap.size+1,0,none⟩) (by simp only;omega) _
     clear hbw HPB hP3;obtain⟨W7,hW7⟩:∃W7,W7=W4.alloc (.cells #[.int .i64 E,.slice o1 l2.length o2] 55):=⟨_,rfl⟩;have hb7:Below W4.heap.size W4 W7:=by rw [hW7];exact(Below.refl _ _).alloc zr _
     have HN7:Hid (W7.rangeAt W4.heap.size 0 [.int .i64 E,.slice o1 l2.length o2]):=by rw [hW7];exact aa (dJ W4 [.int .i64 E,.slice o1 l2.length o2] 55)
     replace HB0:=aa (HB0.out.below hb7);replace HB1:=aa (HB1.out.below hb7);replace HB2:=aa (HB2.out.below hb7);replace HRR:=aa (HRR.out.below hb7);replace HCF:=aa (HCF.out.below hb7);replace HKA:=aa (HKA.out.below hb7);replace HOC:=aa (HOC.out.below hb7);have hbw7:=hbw4.trans (hb7.mono hbw4.size);have s7:w.heap.size+3≤W7.heap.size:=HB2.out.lt;have HW3:Hid (w2.setCell ⟨wr.heap.size+1,1,none⟩ (.slice o1 l2.length o2)=W3):=hW3.symm;have HW4:Hid (W3.setCell ⟨wr.heap.size+1,0,none⟩ (.int .i64 E)=W4):=hW4.symm;have HW7:Hid (W4.alloc (.cells #[.int .i64 E,.slice o1 l2.length o2] 55)=W7):=hW7.symm;clear hW3 hW4 hW7 hb7 hbw4;have HOW:=aa (aI (B':=w.heap.size+3) HOC.out.here (by omega));go_wp2_with (first | rw [HW7.out] | rw [HW4.out] | rw [HW3.out] |(refine wpList_load_mid rfl 55 (.tmp 10) rfl (wr.heap.size+1) 0 rfl _ _ HPX.out.range Tryz.underlying55 rfl pW ?_) |(at_builtin;refine eK rfl _ _ rfl (w.heap.size+3) _ rs rfl HRR.out.here W4.heap.size ⟨E,l2,x.body⟩ _ rfl HN7.out rfl HOW.out HFA.out ?b31 ?b32 ?b33))
     case b31=>rw [HRL.out];omega
     case b32=>exact s7
     intro v8 w8 hr8 hg8 ha8;have HNX:=aa (RunAt.next HIN.out HRL.out hr8 hg8 ha8 (fun g e=>(HUI.out g e).1) HCF.out HKA.out HB0.out HB1.out HB2.out hbw7);clear hr8 hg8 ha8 HRR HCF HKA HB0 HB1 HB2 HN7 HW3 HW4 HW7 HPX;go_wp2_with fail
     go_roundw
     case rel=>exact⟨k+1,by omega,by go_num,HNX.out⟩
     case measure=>simp [intOf];omega
    ·have HEK:=aa (H9k.out hx7 hx8 S P A K rs HI.out);have hk7:(x.k==7)=false:=(by simpa using hx7);have hk8:(x.k==8)=false:=(by simpa using hx8);clear hx7 hx8 H7k H8k H9k;go_wp2_with (first | rw [HWZ.out] | rw [HW1.out] | rw [HSA.out] |(refine wpList_load_mid rfl 51 (.tmp 19) rfl ab (off+k*28) rfl _ _ R0.out Tryz.underlying51 rfl bW ?_) |(refine wpList_store_mid rfl 51 (.tmp 9) (.tmp 20) rfl wr.heap.size 0 _ rfl rfl TZ.out bW (cZ rfl) ?_;rw [show(#[.int .i64 x.k,.int .i64 x.si,.int .i64 x.st,.int .i64 x.sg,.int .i64 x.pi,.int .i64 x.ps,.int .i64 x.pm,.int .i64 x.pp,.int .i64 x.pc,.int .i64 x.rs,.int .i64 x.rp,.bool x.rn,.int .i64 x.rf,.int .i64 x.rb,.int .i64 x.rt,.int .i64 x.re,.int .i64 x.ro,.bool x.rd,.int .i64 x.n,.int .i64 x.m,.int .i64 x.f0,.int .i64 x.f1,.int .i64 x.f2,.int .i64 x.f3,.int .i64 x.f4,.int .i64 x.f5,.int .i64 x.f6,.string x.body]:Array Value).toList= [.int .i64 x.k,.int .i64 x.si,.int .i64 x.st,.int .i64 x.sg,.int .i64 x.pi,.int .i64 x.ps,.int .i64 x.pm,.int .i64 x.pp,.int .i64 x.pc,.int .i64 x.rs,.int .i64 x.rp,.bool x.rn,.int .i64 x.rf,.int .i64 x.rb,.int .i64 x.rt,.int .i64 x.re,.int .i64 x.ro,.bool x.rd,.int .i64 x.n,.int .i64 x.m,.int .i64 x.f0,.int .i64 x.f1,.int .i64 x.f2,.int .i64 x.f3,.int .i64 x.f4,.int .i64 x.f5,.int .i64 x.f6,.string x.body]from rfl,HWA.out]) |(refine wpList_load_mid rfl 32 (.tmp 5) rfl (w.heap.size+1) 0 rfl _ _ HB1.out.range Tryz.underlying32 rfl aJ ?_) |(refine wpList_load_mid rfl 51 (.tmp 9) rfl wr.heap.size 0 rfl _ _ HAB.out.range Tryz.underlying51 rfl bW ?_))
     refine(pT s1 p1 a1 s2 p2 a2 S P A x _ HCF.out.here n1 n2 n3).mono ?_;rintro e w2 ⟨su,pu,au,rfl,hc2,hb2,hd2⟩;have HC2:Hid (Kept (XR w wr (.slice ro rs.length rc)) w2 fun W=>CfAt W su pu au (cS S P A x) (cP S P A x) (cA S P A x)):=by
      rcases hd2 with h |⟨⟨e1,e2,e3⟩,rfl,rfl,rfl⟩
      ·exact aa (By hc2 h HXL.out)
      ·rw [e1,e2,e3];exact aa (HCF.out.below hb2)
     obtain⟨t1,t2,rfl⟩:=hc2.1.slice;obtain⟨t3,t4,rfl⟩:=hc2.2.1.slice;obtain⟨t5,t6,rfl⟩:=hc2.2.2.slice;replace HB0:=aa (HB0.out.below hb2);replace HB1:=aa (HB1.out.below hb2);replace HB2:=aa (HB2.out.below hb2);replace HPB:=aa (HPB.out.below hb2);replace HRR:=aa (HRR.out.below hb2);replace HKA:=aa (HKA.out.below hb2);replace hbw:=hbw.trans (hb2.mono hbw.size);have s2l:=hb2.size;clear hc2 hb2 hd2 HCF HAB R0 HW1 HWZ HWA HSA TZ ak an;have HCF:=HC2;clear HC2;generalize dd S P A x=E at*;obtain⟨W3,hW3⟩:∃W3,W3=w2.setCells (w.heap.size+1) 0 [.slice t1 (cS S P A x).length t2,.slice t3 (cP S P A x).length t4,.slice t5 (cA S P A x).length t6]:=⟨_,rfl⟩;obtain⟨W4,hW4⟩:∃W4,W4=W3.setCell ⟨wr.heap.size+1,0,none⟩ (.int .i64 E):=⟨_,rfl⟩;have T2:=aa (HB1.out.fit 3 rfl);have hP3:Box W3 (wr.heap.size+1) [.int .i64 0,.slice none 0 0]:=by rw [hW3];exact HPB.out.set_far (by omega) _ _
     have HPX:Hid (Box W4 (wr.heap.size+1) [.int .i64 E,.slice none 0 0]):=by rw [hW4];exact aa (hP3.set1 0 _ (by simp))
     have c3:=hP3.cell 0 _ rfl;have f3:=hP3.2 0 (by simp);replace HB0:Hid (Box W4 w.heap.size [.slice none 0 0,.slice none 0 0,.slice none 0 0]):=by rw [hW4,hW3];exact aa ((HB0.out.set_far (by omega) _ _).set1_far (by omega) _ _)
     replace HB1:Hid (Box W4 (w.heap.size+1) [.slice t1 (cS S P A x).length t2,.slice t3 (cP S P A x).length t4,.slice t5 (cA S P A x).length t6]):=by rw [hW4,hW3];exact aa ((HB1.out.set ([.slice t1 (cS S P A x).length t2,.slice t3 (cP S P A x).length t4,.slice t5 (cA S P A x).length t6]:List Value) rfl).set1_far (by omega) _ _)
     replace HB2:Hid (Box W4 (w.heap.size+1+1) [j0,j1,j2,j3,j4,j5]):=by rw [hW4,hW3];exact aa ((HB2.out.set_far (by omega) _ _).set1_far (by omega) _ _)
     replace HRR:=aa ((HRR.out.set (b:=(w.heap.size+1)) (.inl (by omega)) 0 [.slice t1 (cS S P A x).length t2,.slice t3 (cP S P A x).length t4,.slice t5 (cA S P A x).length t6]).set1 (b:=wr.heap.size+1) (.inr rfl) 0 (.int .i64 E));rw [←hW3, ←hW4]at HRR;replace HCF:=aa ((HCF.out.set (b:=(w.heap.size+1)) (.inl (.inl (by omega))) 0 [.slice t1 (cS S P A x).length t2,.slice t3 (cP S P A x).length t4,.slice t5 (cA S P A x).length t6]).set1 (b:=wr.heap.size+1) (.inr rfl) 0 (.int .i64 E));rw [←hW3, ←hW4]at HCF;replace HKA:=aa ((HKA.out.set (b:=(w.heap.size+1)) (.inl (.inl (by omega))) 0 [.slice t1 (cS S P A x).length t2,.slice t3 (cP S P A x).length t4,.slice t5 (cA S P A x).length t6]).set1 (b:=wr.heap.size+1) (.inr rfl) 0 (.int .i64 E));rw [←hW3, ←hW4]at HKA;have hbw4:Below w.heap.size w W4:=by rw [hW4,hW3];exact(ar (w.heap.size+1) (by omega) _ 0 hbw).setCell (p:=⟨wr.heap.size+1,0,none⟩) (by simp only;omega) _
     clear hbw HPB hP3;obtain⟨W7,hW7⟩:∃W7,W7=W4.alloc (.cells #[.int .i64 E,.slice none 0 0] 55):=⟨_,rfl⟩;have hb7:Below W4.heap.size W4 W7:=by rw [hW7];exact(Below.refl _ _).alloc zr _
     have HN7:Hid (W7.rangeAt W4.heap.size 0 [.int .i64 E,.slice none 0 0]):=by rw [hW7];exact aa (dJ W4 [.int .i64 E,.slice none 0 0] 55)
     replace HB0:=aa (HB0.out.below hb7);replace HB1:=aa (HB1.out.below hb7);replace HB2:=aa (HB2.out.below hb7);replace HRR:=aa (HRR.out.below hb7);replace HCF:=aa (HCF.out.below hb7);replace HKA:=aa (HKA.out.below hb7);have hbw7:=hbw4.trans (hb7.mono hbw4.size);have s7:w.heap.size+3≤W7.heap.size:=HB2.out.lt;have HW3:Hid (w2.setCells (w.heap.size+1) 0 [.slice t1 (cS S P A x).length t2,.slice t3 (cP S P A x).length t4,.slice t5 (cA S P A x).length t6]=W3):=hW3.symm;have HW4:Hid (W3.setCell ⟨wr.heap.size+1,0,none⟩ (.int .i64 E)=W4):=hW4.symm;have HW7:Hid (W4.alloc (.cells #[.int .i64 E,.slice none 0 0] 55)=W7):=hW7.symm;clear hW3 hW4 hW7 hb7 hbw4;go_wp2_with (first | rw [HW7.out] | rw [HW4.out] |(refine wpList_store_mid rfl 32 (.tmp 5) (.tmp 27) rfl (w.heap.size+1) 0 _ rfl rfl T2.out aJ (cZ rfl) ?_;rw [show(#[.slice t1 (cS S P A x).length t2,.slice t3 (cP S P A x).length t4,.slice t5 (cA S P A x).length t6]:Array Value).toList= [.slice t1 (cS S P A x).length t2,.slice t3 (cP S P A x).length t4,.slice t5 (cA S P A x).length t6]from rfl,HW3.out]) |(refine wpList_load_mid rfl 55 (.tmp 10) rfl (wr.heap.size+1) 0 rfl _ _ HPX.out.range Tryz.underlying55 rfl pW ?_) |(at_builtin;refine eK rfl _ _ rfl (w.heap.size+3) _ rs rfl HRR.out.here W4.heap.size ⟨E,[],⟨#[]⟩⟩ _ rfl HN7.out rfl (World.ownsRow_nil _ _ _ _) (fun g e=>by simp [Value.ownBlock]at e) ?b11 ?b12 ?b13))
     case b11=>rw [HRL.out];omega
     case b12=>exact s7
     intro v8 w8 hr8 hg8 ha8;have HNX:=aa (RunAt.next HEK.out HRL.out hr8 hg8 ha8 (fun g e=>(HUI.out g e).1) HCF.out HKA.out HB0.out HB1.out HB2.out hbw7);clear hr8 hg8 ha8 HRR HCF HKA HB0 HB1 HB2 HN7 HW3 HW4 HW7 HPX;go_wp2_with fail
     go_roundw
     case rel=>exact⟨k+1,by omega,by go_num,HNX.out⟩
     case measure=>simp [intOf];omega
  ·have hke:k=l.length:=(by omega);subst hke;have hkk:¬((l.length:Int)<(l.length:Int)):=(by omega);go_wp2_with fail
   refine wp_region_held_drew (S:=(fun w'=>w'.rangeAt (w.heap.size+1) 0 [.slice s1 S.length s2,.slice p1 P.length p2,.slice a1 A.length a2])) (by kernel_rfl) HB1.out.range (fun hHeld=>?_);refine tq 0 60 rfl (by kernel_rfl) (fun _ _ _ h=>h) rfl ‹_› (by intro w h;go_simp <;>with_reducible rfl) ?_;simp only [nz];refine wpAnyH_take (i:=1) (oi:=⟨some 61,_,_,_,_,_⟩) (v:=.agg #[.slice s1 S.length s2,.slice p1 P.length p2,.slice a1 A.length a2]) rfl (by kernel_rfl) (by kernel_rfl) (by kernel_rfl) (fun _ _ _ h=>h) (yieldsIf_load_mid (by rfl) 32 (.tmp 5) rfl (w.heap.size+1) 0 rfl [.slice s1 S.length s2,.slice p1 P.length p2,.slice a1 A.length a2] _ (fun w h=>h) Tryz.underlying32 rfl aJ) (by assumption) ?_;(try simp only [nz]);refine tq 2 2 rfl (by kernel_rfl) (fun _ _ _ h=>h) rfl ‹_› (by intro w h;go_simp <;>with_reducible rfl) ?_;simp only [nz];have hbD:Below wr.heap.size wr wr.drew:=(Below.refl _ _).drew;replace HB0:=aa (HB0.out.below hbD);replace HB1:=aa (HB1.out.below hbD);replace hbr:=hbr.trans (hbD.mono hbr.size);replace HR0:=aa (HR0.out.below hbD);replace HCF:=aa (HCF.out.below hbD);clear hbD;generalize wr.drew=V at*;refine rnq 3 (by kernel_rfl) rfl (fun Kk hKk=>?_);refine wp_store_mid 32 (.tmp 3) (.tmp 61) rfl w.heap.size 0 _ rfl rfl (HB0.out.fit 3 rfl) aJ (cZ rfl) ?_;refine hKk.out _ _ (HB1.out.set_far (by omega) _ _).range (fun hHeld=>?_);clear hKk Kk;refine tq 4 4 rfl (by kernel_rfl) (fun _ _ _ h=>h) rfl ‹_› (by intro w h;go_simp <;>with_reducible rfl) ?_;simp only [nz];refine wpAnyH_done (by kernel_rfl) ?_ _;clear hHeld;go_wp2_with fail
   refine bodyPost_ret (v:=.tuple #[(.slice ro rs.length rc),.agg #[.slice s1 S.length s2,.slice p1 P.length p2,.slice a1 A.length a2],.int .i64 0]) ?_ rfl ⟨_,_,_,_,rfl,S,P,A,K,rs,⟨HI.out,HRL.out⟩,?_,?_,ar _ (by omega) _ _ hbr⟩
   ·exact lL (cs:=[.slice s1 S.length s2,.slice p1 P.length p2,.slice a1 A.length a2]) Tryz.results21 rfl (HB0.out.set ([.slice s1 S.length s2,.slice p1 P.length p2,.slice a1 A.length a2]:List Value) rfl).range Tryz.underlying32 rfl aJ
   ·exact((kD (X:=fun k=>k<w.heap.size+3) HR0.out (fun k hk=>.inl hk)).set (b:=w.heap.size) (by omega) 0 _).here.less (by omega)
   ·exact(HCF.out.set (b:=w.heap.size) (.inl (by omega)) 0 _).but (fun k hk=>.inl (.inl (by omega)))
theorem tI (I:Nat→List Sw→List Pr→List Ac→(Nat→List Fl)→List Rp→Prop) (la:Option Addr) (n lc:Nat) (w:World) (hR:∀W,Below w.heap.size w W→Calls Tryz.prog 21 #[.slice la n lc] W (kJ I n W)):
  Calls Tryz.prog 6 #[.slice la n lc] w (kJ I n w):=by
 have HR:=aa hR;clear hR;obtain⟨W0,hW0⟩:∃W0,W0=w.alloc (.cells #[.slice none 0 0,.slice none 0 0,.slice none 0 0] 32):=⟨_,rfl⟩;have kb:Below w.heap.size w W0:=by rw [hW0];exact(Below.refl _ w).alloc zr _
 have HB:Hid (Box W0 w.heap.size [.slice none 0 0,.slice none 0 0,.slice none 0 0]):=by rw [hW0];exact aa (Box.new w [.slice none 0 0,.slice none 0 0,.slice none 0 0] 32)
 have HW0:=aa hW0.symm;have sb:=HB.out.lt;clear hW0;go_enter Tryz.func6,Tryz.ntmps6;go_wp2_with (rw [HW0.out])
 refine(HR.out _ kb).mono ?_;rintro e w1 ⟨u,su,pu,au,rfl,S,P,A,K,rs,⟨hI,hl⟩,hrr,hcf,hb1⟩;have HI:=aa hI;have HRR:=aa (kD (X:=fun k=>k<W0.heap.size) hrr (fun k hk=>.inl hk));have HCF:=aa hcf;obtain⟨s1,s2,rfl⟩:=hcf.here.1.slice;obtain⟨p1,p2,rfl⟩:=hcf.here.2.1.slice;obtain⟨a1,a2,rfl⟩:=hcf.here.2.2.slice;obtain⟨o1,o2,rfl⟩:=hrr.slc;have HL:=aa hl;rw [hl]at HRR⊢;replace HB:=aa (HB.out.below hb1);replace kb:=kb.trans (hb1.mono kb.size);have l01:=hb1.size;clear hI hl hrr hcf hb1 HR HW0;obtain⟨W2,hW2⟩:∃W2,W2=w1.alloc (.cells #[.slice s1 S.length s2,.slice p1 P.length p2,.slice a1 A.length a2] 32):=⟨_,rfl⟩;have hb2:Below w1.heap.size w1 W2:=by rw [hW2];exact(Below.refl _ _).alloc zr _
 have HB2:Hid (Box W2 w1.heap.size [.slice s1 S.length s2,.slice p1 P.length p2,.slice a1 A.length a2]):=by rw [hW2];exact aa (Box.new w1 [.slice s1 S.length s2,.slice p1 P.length p2,.slice a1 A.length a2] 32)
 replace HB:=aa (HB.out.below hb2);replace HRR:=aa (HRR.out.below hb2);replace HCF:=aa (HCF.out.below hb2);replace kb:=kb.trans (hb2.mono kb.size);have HW2:=aa hW2.symm;have HW2:=aa hW2.symm;clear hb2 hW2;go_wp2_with (rw [HW2.out])
 clear HW2;refine wp_region_held_drew (S:=(fun w'=>w'.rangeAt w1.heap.size 0 [.slice s1 S.length s2,.slice p1 P.length p2,.slice a1 A.length a2])) (by kernel_rfl) HB2.out.range (fun hHeld=>?_);refine tq 0 23 rfl (by kernel_rfl) (fun _ _ _ h=>h) rfl ‹_› (by intro w h;go_simp <;>with_reducible rfl) ?_;simp only [nz];refine wpAnyH_take (i:=1) (oi:=⟨some 24,_,_,_,_,_⟩) (v:=.agg #[.slice s1 S.length s2,.slice p1 P.length p2,.slice a1 A.length a2]) rfl (by kernel_rfl) (by kernel_rfl) (by kernel_rfl) (fun _ _ _ h=>h) (yieldsIf_load_mid (by rfl) 32 (.tmp 6) rfl w1.heap.size 0 rfl [.slice s1 S.length s2,.slice p1 P.length p2,.slice a1 A.length a2] _ (fun w h=>h) Tryz.underlying32 rfl aJ) (by assumption) ?_;(try simp only [nz]);refine sqA [(2,25),(3,2)] ?_;(iterate 2 (refine sqN rfl (by kernel_rfl) (fun _ _ _ h=>h) rfl ‹_› (by intro w h;go_simp <;>with_reducible rfl) ?_;simp only [nz]));refine sqZ ?_;have hbD:Below W2.heap.size W2 W2.drew:=(Below.refl _ _).drew;replace HB:=aa (HB.out.below hbD);replace HB2:=aa (HB2.out.below hbD);replace kb:=kb.trans (hbD.mono kb.size);replace HRR:=aa (HRR.out.below hbD);replace HCF:=aa (HCF.out.below hbD);clear hbD;generalize W2.drew=V at*;refine rnq 4 (by kernel_rfl) rfl (fun Kk hKk=>?_);refine wp_store_mid 32 (.tmp 3) (.tmp 24) rfl w.heap.size 0 _ rfl rfl (HB.out.fit 3 rfl) aJ (cZ rfl) ?_;refine hKk.out _ _ (HB2.out.set_far (by omega) _ _).range (fun hHeld=>?_);clear hKk Kk;refine tq 5 4 rfl (by kernel_rfl) (fun _ _ _ h=>h) rfl ‹_› (by intro w h;go_simp <;>with_reducible rfl) ?_;simp only [nz];refine wpAnyH_done (by kernel_rfl) ?_ _;clear hHeld;go_wp2_with fail
 refine bodyPost_ret (v:=.tuple #[.slice o1 n o2,.agg #[.slice s1 S.length s2,.slice p1 P.length p2,.slice a1 A.length a2],.int .i64 0]) ?_ rfl ⟨_,_,_,_,rfl,S,P,A,K,rs,⟨HI.out,HL.out⟩,?_,?_,ar _ (by omega) _ _ kb⟩
 ·exact lL (cs:=[.slice s1 S.length s2,.slice p1 P.length p2,.slice a1 A.length a2]) Tryz.results6 rfl (HB.out.set ([.slice s1 S.length s2,.slice p1 P.length p2,.slice a1 A.length a2]:List Value) rfl).range Tryz.underlying32 rfl aJ
 ·exact(HRR.out.set (b:=w.heap.size) (by omega) 0 _).here.less (by omega)
 ·exact(HCF.out.set (b:=w.heap.size) (by omega) 0 _).but (fun k hk=>.inl (by omega))
def dW (x:Sw):Ax:=⟨1,x.i,x.t,x.g,0,0,0,0,0,0,0,false,0,0,0,0,0,false,0,0,0,0,0,0,0,0,0,⟨#[]⟩⟩
def fA (x:Pr):Ax:=⟨2,0,0,0,x.i,x.s,x.m,x.p,x.c,0,0,false,0,0,0,0,0,false,0,0,0,0,0,0,0,0,0,⟨#[]⟩⟩
def jb (x:Ac):Ax:=⟨3,0,0,0,0,0,0,0,0,x.s,x.p,x.n,x.src,x.sb,x.dst,x.db,x.o,x.d,0,0,0,0,0,0,0,0,0,⟨#[]⟩⟩
def eF (S:List Sw) (P:List Pr) (A:List Ac):List Ax:=S.map dW++P.map fA++A.map jb
theorem kI:(Tryz.prog.info? 51).map (fun i=>(i.zero,i.size,i.bytes))=some (some (.agg #[.int .i64 0,.int .i64 0,.int .i64 0,.int .i64 0,.int .i64 0,.int .i64 0,.int .i64 0,.int .i64 0,.int .i64 0,.int .i64 0,.int .i64 0,.bool false,.int .i64 0,.int .i64 0,.int .i64 0,.int .i64 0,.int .i64 0,.bool false,.int .i64 0,.int .i64 0,.int .i64 0,.int .i64 0,.int .i64 0,.int .i64 0,.int .i64 0,.int .i64 0,.int .i64 0,.string ByteArray.empty]),28,232):=by kernel_rfl
theorem Ch (x:Ax):(axC x).length=28:=rfl
theorem lw {α:Type} (f:α→Ax) (d:α) (L0:List Ax) {l:List α} {k:Nat} (h:k<l.length):(L0++(l.take (k+1)).map f).flatMap axC=(L0++(l.take k).map f).flatMap axC++axC (f (l.getD k d)):=by
 rw [eQ d h,List.map_append, ←List.append_assoc,List.flatMap_append];simp
theorem n8:(Tryz.prog.info? 45).map (·.size)=some 3:=by kernel_rfl
theorem rP:(Tryz.prog.info? 47).map (·.size)=some 5:=by kernel_rfl
theorem tS (s1 p1 a1:Option Addr) (s2 p2 a2:Nat) (S:List Sw) (P:List Pr) (A:List Ac) (w:World) (hC:CfAt w (.slice s1 S.length s2) (.slice p1 P.length p2) (.slice a1 A.length a2) S P A) (h1:S.length≤1000) (h2:P.length≤1000) (h3:A.length≤1000):
  Calls Tryz.prog 17 #[.agg #[.slice s1 S.length s2,.slice p1 P.length p2,.slice a1 A.length a2]] w fun e w'=>∃u,e= .returned u∧w'.ownsRow w.heap.size 51 28 u (eF S P A).length ((eF S P A).flatMap axC)∧Below w.heap.size w w':=by
 obtain⟨i0,hi,hz0,hz1,hz2⟩:=info_parts kI;have HC:=aa hC;clear hC;obtain⟨W0,hW0⟩:∃W0,W0=w.alloc (.cells #[.slice s1 S.length s2,.slice p1 P.length p2,.slice a1 A.length a2] 32):=⟨_,rfl⟩;have kb:Below w.heap.size w W0:=by rw [hW0];exact(Below.refl _ w).alloc zr _
 have HB:Hid (Box W0 w.heap.size [.slice s1 S.length s2,.slice p1 P.length p2,.slice a1 A.length a2]):=by rw [hW0];exact aa (Box.new w [.slice s1 S.length s2,.slice p1 P.length p2,.slice a1 A.length a2] 32)
 replace HC:=aa (HC.out.below kb zr);have HW0:=aa hW0.symm;have cx:=HB.out.cell 0 _ rfl;clear hW0;go_enter Tryz.func17,Tryz.ntmps17;go_wp2_with (rw [HW0.out])
 clear HW0 cx;have s0:w.heap.size≤W0.heap.size:=kb.size;have HWL:Hid (eF S P A=S.map dW++P.map fA++A.map jb):=rfl;go_loopw [3,13] (fun u i wr=>∃k:Nat,k≤S.length∧i= .int .i64 k∧Hid (wr.ownsRow W0.heap.size 51 28 u (([]:List Ax).length+k) ((([]:List Ax)++(S.take k).map dW).flatMap axC))∧Below W0.heap.size W0 wr) (fun _ i _=>S.length-(intOf i).toNat)
 case atStart=>exact⟨0,by omega,rfl,aa (by simpa using World.ownsRow_nil W0 W0.heap.size 51 28),Below.refl _ _⟩
 case round=>
  obtain⟨k,hk,rfl,HO,hbr⟩:=hrel;have sr:W0.heap.size≤wr.heap.size:=hbr.size;by_cases hlt:k<S.length
  ·obtain⟨b,off,cap,e1,hcap,hR⟩:=eh sw0 (RowAt.below HC.out.1 hbr zr) hlt;simp only [Value.slice.injEq,true_and]at e1;obtain⟨rfl,rfl⟩:=e1;have R0:=aa hR;clear hR;have HN:=aa (lw dW sw0 (([]:List Ax)) hlt);have HXC:Hid (swC (S.getD k sw0)= [.int .i64 (S.getD k sw0).i,.int .i64 (S.getD k sw0).t,.int .i64 (S.getD k sw0).g]):=rfl;rw [HXC.out]at R0;have HAX:Hid (axC (dW (S.getD k sw0))= [.int .i64 1,.int .i64 (S.getD k sw0).i,.int .i64 (S.getD k sw0).t,.int .i64 (S.getD k sw0).g,.int .i64 0,.int .i64 0,.int .i64 0,.int .i64 0,.int .i64 0,.int .i64 0,.int .i64 0,.bool false,.int .i64 0,.int .i64 0,.int .i64 0,.int .i64 0,.int .i64 0,.bool false,.int .i64 0,.int .i64 0,.int .i64 0,.int .i64 0,.int .i64 0,.int .i64 0,.int .i64 0,.int .i64 0,.int .i64 0,.string ⟨#[]⟩]):=rfl;rw [HAX.out]at HN;clear HXC HAX;generalize (S.getD k sw0).i=xa0 at*;generalize (S.getD k sw0).t=xa1 at*;generalize (S.getD k sw0).g=xa2 at*;have q0:(0:Int)≤(k:Int):=(by omega);have q1:(k:Int)<(S.length:Int):=(by omega);obtain⟨o1,o2,rfl⟩:=aq HO.out;obtain⟨N,hN⟩:∃N,N=([]:List Ax).length+k:=⟨_,rfl⟩;rw [←hN]at HO⊢;have hNl:N≤3000:=by rw [hN];simp <;>omega
   have HNN:=aa hN;clear hN;obtain⟨xl,hxl⟩:∃xl,xl=(([]:List Ax)++(S.take k).map dW).flatMap axC:=⟨_,rfl⟩;rw [←hxl]at HO;have HXL:=aa hxl;clear hxl;obtain⟨W1,hW1⟩:∃W1,W1=wr.alloc (.cells #[.int .i64 xa0,.int .i64 xa1,.int .i64 xa2] 45):=⟨_,rfl⟩;have hBX:Box W1 wr.heap.size [.int .i64 xa0,.int .i64 xa1,.int .i64 xa2]:=by rw [hW1];exact Box.new wr [.int .i64 xa0,.int .i64 xa1,.int .i64 xa2] 45
   have hb1:Below wr.heap.size wr W1:=by rw [hW1];exact(Below.refl _ _).alloc zr _
   obtain⟨W2,hW2⟩:∃W2,W2=W1.alloc (.cells #[.int .i64 1,.int .i64 xa0,.int .i64 xa1,.int .i64 xa2,.int .i64 0,.int .i64 0,.int .i64 0,.int .i64 0,.int .i64 0,.int .i64 0,.int .i64 0,.bool false,.int .i64 0,.int .i64 0,.int .i64 0,.int .i64 0,.int .i64 0,.bool false,.int .i64 0,.int .i64 0,.int .i64 0,.int .i64 0,.int .i64 0,.int .i64 0,.int .i64 0,.int .i64 0,.int .i64 0,.string ⟨#[]⟩] 51):=⟨_,rfl⟩;have hb2:Below W1.heap.size W1 W2:=by rw [hW2];exact(Below.refl _ _).alloc zr _
   have HN2:Hid (W2.rangeAt W1.heap.size 0 [.int .i64 1,.int .i64 xa0,.int .i64 xa1,.int .i64 xa2,.int .i64 0,.int .i64 0,.int .i64 0,.int .i64 0,.int .i64 0,.int .i64 0,.int .i64 0,.bool false,.int .i64 0,.int .i64 0,.int .i64 0,.int .i64 0,.int .i64 0,.bool false,.int .i64 0,.int .i64 0,.int .i64 0,.int .i64 0,.int .i64 0,.int .i64 0,.int .i64 0,.int .i64 0,.int .i64 0,.string ⟨#[]⟩]):=by rw [hW2];exact aa (dJ W1 [.int .i64 1,.int .i64 xa0,.int .i64 xa1,.int .i64 xa2,.int .i64 0,.int .i64 0,.int .i64 0,.int .i64 0,.int .i64 0,.int .i64 0,.int .i64 0,.bool false,.int .i64 0,.int .i64 0,.int .i64 0,.int .i64 0,.int .i64 0,.bool false,.int .i64 0,.int .i64 0,.int .i64 0,.int .i64 0,.int .i64 0,.int .i64 0,.int .i64 0,.int .i64 0,.int .i64 0,.string ⟨#[]⟩] 51)
   have hb12:=hb1.trans (hb2.mono hb1.size);replace HO:=zO HO hb12;have s2:W0.heap.size≤W2.heap.size:=Nat.le_trans sr hb12.size;have HBX:=aa hBX;have HW1:=aa hW1.symm;have HW2:=aa hW2.symm;have hbw:=hbr.trans (hb12.mono sr);clear hW1 hW2 hb1 hb2 hb12 hBX;go_wp2_with (first | rw [HW2.out] | rw [HW1.out] |(refine wpList_load_mid rfl 45 (.tmp 15) rfl b (off+k*3) rfl _ _ R0.out Tryz.underlying45 rfl n8 ?_) |(refine wpList_load_mid rfl 45 (.tmp 5) rfl wr.heap.size 0 rfl _ _ HBX.out.range Tryz.underlying45 rfl n8 ?_) |(at_builtin;refine wpList_append_own _ rfl _ _ 25 rfl W0.heap.size 51 i0 _ 28 232 Tryz.underlying25 hi hz0 hz1 hz2 rfl (by decide) _ _ _ rfl (ag HO) ⟨W1.heap.size,0,none⟩ 1 1 [.int .i64 1,.int .i64 xa0,.int .i64 xa1,.int .i64 xa2,.int .i64 0,.int .i64 0,.int .i64 0,.int .i64 0,.int .i64 0,.int .i64 0,.int .i64 0,.bool false,.int .i64 0,.int .i64 0,.int .i64 0,.int .i64 0,.int .i64 0,.bool false,.int .i64 0,.int .i64 0,.int .i64 0,.int .i64 0,.int .i64 0,.int .i64 0,.int .i64 0,.int .i64 0,.int .i64 0,.string ⟨#[]⟩] rfl rfl (fun j u hj=>by rw [ol];have:=HN2.out j u hj;rwa [Nat.zero_add]at this) (cT rfl) ?ca1 ?ca2 s2 ?ca3))
   case ca1=>unfold maxLen;omega
   case ca2=>omega
   intro v3 w3 ho3 hg3 _;have hb3:Below W0.heap.size W0 w3:=hbw.grown hg3 s2 (ay HO.out);have HE:Hid (w3.ownsRow W0.heap.size 51 28 v3 (([]:List Ax).length+(k+1)) ((([]:List Ax)++(S.take (k+1)).map dW).flatMap axC)):=by
    refine aa ?_;rw [HN.out, ←Nat.add_assoc, ←HNN.out, ←HXL.out];exact ho3
   clear ho3 hg3 HO HN HN2 HW1 HW2 HBX R0 hbr;go_wp2_with fail
   go_roundw
   case rel=>exact⟨k+1,by omega,by go_num,HE,hb3⟩
   case measure=>simp [intOf];omega
  ·have hke:k=S.length:=(by omega);subst hke;rw [List.take_length]at HO;obtain⟨o1,o2,rfl⟩:=aq HO.out;have hkk:¬((S.length:Int)<(S.length:Int)):=(by omega);have cx:=dI (HB.out.cell 1 _ rfl) hbr zr;go_wp2_with fail
   clear cx
   rename World=>wp
   go_loopw [3,26] (fun u i wr=>∃k:Nat,k≤P.length∧i= .int .i64 k∧Hid (wr.ownsRow W0.heap.size 51 28 u ((S.map dW).length+k) (((S.map dW)++(P.take k).map fA).flatMap axC))∧Below W0.heap.size W0 wr) (fun _ i _=>P.length-(intOf i).toNat)
   case atStart=>exact⟨0,by omega,rfl,aa (by simpa using HO.out),hbr⟩
   case round=>
    obtain⟨k,hk,rfl,HO,hbr⟩:=hrel;have sr:W0.heap.size≤wr.heap.size:=hbr.size;by_cases hlt:k<P.length
    ·obtain⟨b,off,cap,e1,hcap,hR⟩:=eh pr0 (RowAt.below HC.out.2.1 hbr zr) hlt;simp only [Value.slice.injEq,true_and]at e1;obtain⟨rfl,rfl⟩:=e1;have R0:=aa hR;clear hR;have HN:=aa (lw fA pr0 ((S.map dW)) hlt);have HXC:Hid (prC (P.getD k pr0)= [.int .i64 (P.getD k pr0).i,.int .i64 (P.getD k pr0).s,.int .i64 (P.getD k pr0).m,.int .i64 (P.getD k pr0).p,.int .i64 (P.getD k pr0).c]):=rfl;rw [HXC.out]at R0;have HAX:Hid (axC (fA (P.getD k pr0))= [.int .i64 2,.int .i64 0,.int .i64 0,.int .i64 0,.int .i64 (P.getD k pr0).i,.int .i64 (P.getD k pr0).s,.int .i64 (P.getD k pr0).m,.int .i64 (P.getD k pr0).p,.int .i64 (P.getD k pr0).c,.int .i64 0,.int .i64 0,.bool false,.int .i64 0,.int .i64 0,.int .i64 0,.int .i64 0,.int .i64 0,.bool false,.int .i64 0,.int .i64 0,.int .i64 0,.int .i64 0,.int .i64 0,.int .i64 0,.int .i64 0,.int .i64 0,.int .i64 0,.string ⟨#[]⟩]):=rfl;rw [HAX.out]at HN;clear HXC HAX;generalize (P.getD k pr0).i=xb0 at*;generalize (P.getD k pr0).s=xb1 at*;generalize (P.getD k pr0).m=xb2 at*;generalize (P.getD k pr0).p=xb3 at*;generalize (P.getD k pr0).c=xb4 at*;have q0:(0:Int)≤(k:Int):=(by omega);have q1:(k:Int)<(P.length:Int):=(by omega);obtain⟨o1,o2,rfl⟩:=aq HO.out;obtain⟨N,hN⟩:∃N,N=(S.map dW).length+k:=⟨_,rfl⟩;rw [←hN]at HO⊢;have hNl:N≤3000:=by rw [hN];simp <;>omega
     have HNN:=aa hN;clear hN;obtain⟨xl,hxl⟩:∃xl,xl=((S.map dW)++(P.take k).map fA).flatMap axC:=⟨_,rfl⟩;rw [←hxl]at HO;have HXL:=aa hxl;clear hxl;obtain⟨W1,hW1⟩:∃W1,W1=wr.alloc (.cells #[.int .i64 xb0,.int .i64 xb1,.int .i64 xb2,.int .i64 xb3,.int .i64 xb4] 47):=⟨_,rfl⟩;have hBX:Box W1 wr.heap.size [.int .i64 xb0,.int .i64 xb1,.int .i64 xb2,.int .i64 xb3,.int .i64 xb4]:=by rw [hW1];exact Box.new wr [.int .i64 xb0,.int .i64 xb1,.int .i64 xb2,.int .i64 xb3,.int .i64 xb4] 47
     have hb1:Below wr.heap.size wr W1:=by rw [hW1];exact(Below.refl _ _).alloc zr _
     obtain⟨W2,hW2⟩:∃W2,W2=W1.alloc (.cells #[.int .i64 2,.int .i64 0,.int .i64 0,.int .i64 0,.int .i64 xb0,.int .i64 xb1,.int .i64 xb2,.int .i64 xb3,.int .i64 xb4,.int .i64 0,.int .i64 0,.bool false,.int .i64 0,.int .i64 0,.int .i64 0,.int .i64 0,.int .i64 0,.bool false,.int .i64 0,.int .i64 0,.int .i64 0,.int .i64 0,.int .i64 0,.int .i64 0,.int .i64 0,.int .i64 0,.int .i64 0,.string ⟨#[]⟩] 51):=⟨_,rfl⟩;have hb2:Below W1.heap.size W1 W2:=by rw [hW2];exact(Below.refl _ _).alloc zr _
     have HN2:Hid (W2.rangeAt W1.heap.size 0 [.int .i64 2,.int .i64 0,.int .i64 0,.int .i64 0,.int .i64 xb0,.int .i64 xb1,.int .i64 xb2,.int .i64 xb3,.int .i64 xb4,.int .i64 0,.int .i64 0,.bool false,.int .i64 0,.int .i64 0,.int .i64 0,.int .i64 0,.int .i64 0,.bool false,.int .i64 0,.int .i64 0,.int .i64 0,.int .i64 0,.int .i64 0,.int .i64 0,.int .i64 0,.int .i64 0,.int .i64 0,.string ⟨#[]⟩]):=by rw [hW2];exact aa (dJ W1 [.int .i64 2,.int .i64 0,.int .i64 0,.int .i64 0,.int .i64 xb0,.int .i64 xb1,.int .i64 xb2,.int .i64 xb3,.int .i64 xb4,.int .i64 0,.int .i64 0,.bool false,.int .i64 0,.int .i64 0,.int .i64 0,.int .i64 0,.int .i64 0,.bool false,.int .i64 0,.int .i64 0,.int .i64 0,.int .i64 0,.int .i64 0,.int .i64 0,.int .i64 0,.int .i64 0,.int .i64 0,.string ⟨#[]⟩] 51)
     have hb12:=hb1.trans (hb2.mono hb1.size);replace HO:=zO HO hb12;have s2:W0.heap.size≤W2.heap.size:=Nat.le_trans sr hb12.size;have HBX:=aa hBX;have HW1:=aa hW1.symm;have HW2:=aa hW2.symm;have hbw:=hbr.trans (hb12.mono sr);clear hW1 hW2 hb1 hb2 hb12 hBX;go_wp2_with (first | rw [HW2.out] | rw [HW1.out] |(refine wpList_load_mid rfl 47 (.tmp 28) rfl b (off+k*5) rfl _ _ R0.out Tryz.underlying47 rfl rP ?_) |(refine wpList_load_mid rfl 47 (.tmp 7) rfl wr.heap.size 0 rfl _ _ HBX.out.range Tryz.underlying47 rfl rP ?_) |(at_builtin;refine wpList_append_own _ rfl _ _ 25 rfl W0.heap.size 51 i0 _ 28 232 Tryz.underlying25 hi hz0 hz1 hz2 rfl (by decide) _ _ _ rfl (ag HO) ⟨W1.heap.size,0,none⟩ 1 1 [.int .i64 2,.int .i64 0,.int .i64 0,.int .i64 0,.int .i64 xb0,.int .i64 xb1,.int .i64 xb2,.int .i64 xb3,.int .i64 xb4,.int .i64 0,.int .i64 0,.bool false,.int .i64 0,.int .i64 0,.int .i64 0,.int .i64 0,.int .i64 0,.bool false,.int .i64 0,.int .i64 0,.int .i64 0,.int .i64 0,.int .i64 0,.int .i64 0,.int .i64 0,.int .i64 0,.int .i64 0,.string ⟨#[]⟩] rfl rfl (fun j u hj=>by rw [ol];have:=HN2.out j u hj;rwa [Nat.zero_add]at this) (cT rfl) ?cb1 ?cb2 s2 ?cb3))
     case cb1=>unfold maxLen;omega
     case cb2=>omega
     intro v3 w3 ho3 hg3 _;have hb3:Below W0.heap.size W0 w3:=hbw.grown hg3 s2 (ay HO.out);have HE:Hid (w3.ownsRow W0.heap.size 51 28 v3 ((S.map dW).length+(k+1)) (((S.map dW)++(P.take (k+1)).map fA).flatMap axC)):=by
      refine aa ?_;rw [HN.out, ←Nat.add_assoc, ←HNN.out, ←HXL.out];exact ho3
     clear ho3 hg3 HO HN HN2 HW1 HW2 HBX R0 hbr;go_wp2_with fail
     go_roundw
     case rel=>exact⟨k+1,by omega,by go_num,HE,hb3⟩
     case measure=>simp [intOf];omega
    ·have hke:k=P.length:=(by omega);subst hke;rw [List.take_length]at HO;obtain⟨o1,o2,rfl⟩:=aq HO.out;have hkk:¬((P.length:Int)<(P.length:Int)):=(by omega);have cx:=dI (HB.out.cell 2 _ rfl) hbr zr;go_wp2_with fail
     clear cx
     rename World=>wq
     go_loopw [3,39] (fun u i wr=>∃k:Nat,k≤A.length∧i= .int .i64 k∧Hid (wr.ownsRow W0.heap.size 51 28 u ((S.map dW++P.map fA).length+k) (((S.map dW++P.map fA)++(A.take k).map jb).flatMap axC))∧Below W0.heap.size W0 wr) (fun _ i _=>A.length-(intOf i).toNat)
     case atStart=>exact⟨0,by omega,rfl,aa (by simpa using HO.out),hbr⟩
     case round=>
      obtain⟨k,hk,rfl,HO,hbr⟩:=hrel;have sr:W0.heap.size≤wr.heap.size:=hbr.size;by_cases hlt:k<A.length
      ·obtain⟨b,off,cap,e1,hcap,hR⟩:=eh ac0 (RowAt.below HC.out.2.2 hbr zr) hlt;simp only [Value.slice.injEq,true_and]at e1;obtain⟨rfl,rfl⟩:=e1;have R0:=aa hR;clear hR;have HN:=aa (lw jb ac0 ((S.map dW++P.map fA)) hlt);have HXC:Hid (acC (A.getD k ac0)= [.int .i64 (A.getD k ac0).s,.int .i64 (A.getD k ac0).p,.bool (A.getD k ac0).n,.int .i64 (A.getD k ac0).src,.int .i64 (A.getD k ac0).sb,.int .i64 (A.getD k ac0).dst,.int .i64 (A.getD k ac0).db,.int .i64 (A.getD k ac0).o,.bool (A.getD k ac0).d]):=rfl;rw [HXC.out]at R0;have HAX:Hid (axC (jb (A.getD k ac0))= [.int .i64 3,.int .i64 0,.int .i64 0,.int .i64 0,.int .i64 0,.int .i64 0,.int .i64 0,.int .i64 0,.int .i64 0,.int .i64 (A.getD k ac0).s,.int .i64 (A.getD k ac0).p,.bool (A.getD k ac0).n,.int .i64 (A.getD k ac0).src,.int .i64 (A.getD k ac0).sb,.int .i64 (A.getD k ac0).dst,.int .i64 (A.getD k ac0).db,.int .i64 (A.getD k ac0).o,.bool (A.getD k ac0).d,.int .i64 0,.int .i64 0,.int .i64 0,.int .i64 0,.int .i64 0,.int .i64 0,.int .i64 0,.int .i64 0,.int .i64 0,.string ⟨#[]⟩]):=rfl;rw [HAX.out]at HN;clear HXC HAX;generalize (A.getD k ac0).s=xc0 at*;generalize (A.getD k ac0).p=xc1 at*;generalize (A.getD k ac0).n=xc2 at*;generalize (A.getD k ac0).src=xc3 at*;generalize (A.getD k ac0).sb=xc4 at*;generalize (A.getD k ac0).dst=xc5 at*;generalize (A.getD k ac0).db=xc6 at*;generalize (A.getD k ac0).o=xc7 at*;generalize (A.getD k ac0).d=xc8 at*;have q0:(0:Int)≤(k:Int):=(by omega);have q1:(k:Int)<(A.length:Int):=(by omega);obtain⟨o1,o2,rfl⟩:=aq HO.out;obtain⟨N,hN⟩:∃N,N=(S.map dW++P.map fA).length+k:=⟨_,rfl⟩;rw [←hN]at HO⊢;have hNl:N≤3000:=by rw [hN];simp <;>omega
       have HNN:=aa hN;clear hN;obtain⟨xl,hxl⟩:∃xl,xl=((S.map dW++P.map fA)++(A.take k).map jb).flatMap axC:=⟨_,rfl⟩;rw [←hxl]at HO;have HXL:=aa hxl;clear hxl;obtain⟨W1,hW1⟩:∃W1,W1=wr.alloc (.cells #[.int .i64 xc0,.int .i64 xc1,.bool xc2,.int .i64 xc3,.int .i64 xc4,.int .i64 xc5,.int .i64 xc6,.int .i64 xc7,.bool xc8] 49):=⟨_,rfl⟩;have hBX:Box W1 wr.heap.size [.int .i64 xc0,.int .i64 xc1,.bool xc2,.int .i64 xc3,.int .i64 xc4,.int .i64 xc5,.int .i64 xc6,.int .i64 xc7,.bool xc8]:=by rw [hW1];exact Box.new wr [.int .i64 xc0,.int .i64 xc1,.bool xc2,.int .i64 xc3,.int .i64 xc4,.int .i64 xc5,.int .i64 xc6,.int .i64 xc7,.bool xc8] 49
       have hb1:Below wr.heap.size wr W1:=by rw [hW1];exact(Below.refl _ _).alloc zr _
       obtain⟨W2,hW2⟩:∃W2,W2=W1.alloc (.cells #[.int .i64 3,.int .i64 0,.int .i64 0,.int .i64 0,.int .i64 0,.int .i64 0,.int .i64 0,.int .i64 0,.int .i64 0,.int .i64 xc0,.int .i64 xc1,.bool xc2,.int .i64 xc3,.int .i64 xc4,.int .i64 xc5,.int .i64 xc6,.int .i64 xc7,.bool xc8,.int .i64 0,.int .i64 0,.int .i64 0,.int .i64 0,.int .i64 0,.int .i64 0,.int .i64 0,.int .i64 0,.int .i64 0,.string ⟨#[]⟩] 51):=⟨_,rfl⟩;have hb2:Below W1.heap.size W1 W2:=by rw [hW2];exact(Below.refl _ _).alloc zr _
       have HN2:Hid (W2.rangeAt W1.heap.size 0 [.int .i64 3,.int .i64 0,.int .i64 0,.int .i64 0,.int .i64 0,.int .i64 0,.int .i64 0,.int .i64 0,.int .i64 0,.int .i64 xc0,.int .i64 xc1,.bool xc2,.int .i64 xc3,.int .i64 xc4,.int .i64 xc5,.int .i64 xc6,.int .i64 xc7,.bool xc8,.int .i64 0,.int .i64 0,.int .i64 0,.int .i64 0,.int .i64 0,.int .i64 0,.int .i64 0,.int .i64 0,.int .i64 0,.string ⟨#[]⟩]):=by rw [hW2];exact aa (dJ W1 [.int .i64 3,.int .i64 0,.int .i64 0,.int .i64 0,.int .i64 0,.int .i64 0,.int .i64 0,.int .i64 0,.int .i64 0,.int .i64 xc0,.int .i64 xc1,.bool xc2,.int .i64 xc3,.int .i64 xc4,.int .i64 xc5,.int .i64 xc6,.int .i64 xc7,.bool xc8,.int .i64 0,.int .i64 0,.int .i64 0,.int .i64 0,.int .i64 0,.int .i64 0,.int .i64 0,.int .i64 0,.int .i64 0,.string ⟨#[]⟩] 51)
       have hb12:=hb1.trans (hb2.mono hb1.size);replace HO:=zO HO hb12;have s2:W0.heap.size≤W2.heap.size:=Nat.le_trans sr hb12.size;have HBX:=aa hBX;have HW1:=aa hW1.symm;have HW2:=aa hW2.symm;have hbw:=hbr.trans (hb12.mono sr);clear hW1 hW2 hb1 hb2 hb12 hBX;go_wp2_with (first | rw [HW2.out] | rw [HW1.out] |(refine wpList_load_mid rfl 49 (.tmp 41) rfl b (off+k*9) rfl _ _ R0.out Tryz.underlying49 rfl aQ ?_) |(refine wpList_load_mid rfl 49 (.tmp 9) rfl wr.heap.size 0 rfl _ _ HBX.out.range Tryz.underlying49 rfl aQ ?_) |(at_builtin;refine wpList_append_own _ rfl _ _ 25 rfl W0.heap.size 51 i0 _ 28 232 Tryz.underlying25 hi hz0 hz1 hz2 rfl (by decide) _ _ _ rfl (ag HO) ⟨W1.heap.size,0,none⟩ 1 1 [.int .i64 3,.int .i64 0,.int .i64 0,.int .i64 0,.int .i64 0,.int .i64 0,.int .i64 0,.int .i64 0,.int .i64 0,.int .i64 xc0,.int .i64 xc1,.bool xc2,.int .i64 xc3,.int .i64 xc4,.int .i64 xc5,.int .i64 xc6,.int .i64 xc7,.bool xc8,.int .i64 0,.int .i64 0,.int .i64 0,.int .i64 0,.int .i64 0,.int .i64 0,.int .i64 0,.int .i64 0,.int .i64 0,.string ⟨#[]⟩] rfl rfl (fun j u hj=>by rw [ol];have:=HN2.out j u hj;rwa [Nat.zero_add]at this) (cT rfl) ?cc1 ?cc2 s2 ?cc3))
       case cc1=>unfold maxLen;omega
       case cc2=>omega
       intro v3 w3 ho3 hg3 _;have hb3:Below W0.heap.size W0 w3:=hbw.grown hg3 s2 (ay HO.out);have HE:Hid (w3.ownsRow W0.heap.size 51 28 v3 ((S.map dW++P.map fA).length+(k+1)) (((S.map dW++P.map fA)++(A.take (k+1)).map jb).flatMap axC)):=by
        refine aa ?_;rw [HN.out, ←Nat.add_assoc, ←HNN.out, ←HXL.out];exact ho3
       clear ho3 hg3 HO HN HN2 HW1 HW2 HBX R0 hbr;go_wp2_with fail
       go_roundw
       case rel=>exact⟨k+1,by omega,by go_num,HE,hb3⟩
       case measure=>simp [intOf];omega
      ·have hke:k=A.length:=(by omega);subst hke;rw [List.take_length]at HO;obtain⟨o1,o2,rfl⟩:=aq HO.out;have hkk:¬((A.length:Int)<(A.length:Int)):=(by omega);have HLAST:Hid (wr.ownsRow W0.heap.size 51 28 (.slice o1 (S.length+P.length+A.length) o2) (S.map dW++P.map fA++A.map jb).length ((S.map dW++P.map fA++A.map jb).flatMap axC)):=by have:=HO.out;simp only [List.length_append,List.length_map]at this⊢;exact aa this
       go_wp2_with fail
       go_ret;exact⟨_,rfl,by rw [HWL.out];exact aI HLAST.out s0,kb.trans (hbr.mono s0)⟩

theorem jT {α:Type} {L0 R0 L R:List α} {x:α} (h:L0++R0=L++x::R):(∃L1,L=L0++L1∧R0=L1++x::R)∨∃L1,L0=L++x::L1∧R=L1++R0:=by
 rw [List.append_eq_append_iff]at h;rcases h with⟨a,h1,h2⟩ |⟨a,h1,h2⟩
 ·exact .inl ⟨a,h1,h2⟩
 ·cases a with
  | nil=>simp at h1 h2;exact .inl ⟨[],by simp [h1],by simp [h2]⟩
  | cons b c=>
   simp at h2;obtain⟨rfl,h2⟩:=h2;exact .inr ⟨c,h1,h2⟩
def Like (y z:Pr):Prop:=y.i=z.i∧y.s=z.s∧y.m=z.m∧y.p=z.p
theorem Like.refl (y:Pr):Like y y:=⟨rfl,rfl,rfl,rfl⟩
theorem pV {S:List Sw} {P P':List Pr} {x x':Pr} (h:bp S P x=0) (hx:Like x' x) (hb:fQ x'=true) (hp:∀y∈P',∃z∈P,Like y z) (hl:P'.length≤P.length):bp S P' x'=0:=by
 rw [es]at h⊢;obtain⟨h1,h2,h3,h4,h5⟩:=h;obtain⟨e1,e2,e3,e4⟩:=hx;rw [e1,e2,e3,e4];refine⟨hb,h2,?_,?_,by omega⟩
 ·rw [List.any_eq_false]at h3⊢;intro y hy;obtain⟨z,hz,f1,f2,f3,f4⟩:=hp y hy;rw [f1,f2,f3];exact h3 z hz
 ·unfold bH at h4⊢;rw [Bool.or_eq_false_iff]at h4⊢;refine⟨h4.1,?_⟩;have h6:=h4.2;rw [List.any_eq_false]at h6⊢;intro y hy;obtain⟨z,hz,f1,f2,f3,f4⟩:=hp y hy;rw [f2,f4];exact h6 z hz
theorem xF {S:List Sw} {P:List Pr} (h:aR S P=true) (k:Nat):aR S (P.eraseIdx k)=true:=by
 rcases Nat.lt_or_ge k P.length with hk | hk
 ·have e:P=P.take k++P[k]::P.drop (k+1):=by
   conv=>lhs;rw [←List.take_append_drop k P]
   rw [List.drop_eq_getElem_cons hk]
  rw [List.eraseIdx_eq_take_drop_succ];rw [cl]at h⊢;intro L x R hq;rcases jT hq with⟨L1,rfl,h2⟩ |⟨L1,h1,rfl⟩
  ·have h3:=h (P.take k++P[k]::L1) x R (by rw [List.append_assoc,List.cons_append, ←h2];exact e);refine pV h3 (Like.refl x) ((es _ _ _).1 h3).1 (fun y hy=>⟨y,?_,Like.refl y⟩) (by simp);simp only [List.mem_append,List.mem_cons]at hy⊢;rcases hy with hy | hy
   ·exact .inl hy
   ·exact .inr (.inr hy)
  ·exact h L x (L1++P[k]::P.drop (k+1)) (by rw [←List.cons_append, ←List.append_assoc, ←h1];exact e)
 ·rw [List.eraseIdx_of_length_le hk];exact h
theorem zU {S:List Sw} {P:List Pr} (h:aR S P=true) (k:Nat) {m:Int} (hm:inB m (-1) 5=true):aR S (P.set k ⟨(P.getD k pr0).i,(P.getD k pr0).s,(P.getD k pr0).m,(P.getD k pr0).p,m⟩)=true:=by
 rcases Nat.lt_or_ge k P.length with hk | hk
 ·have hg:P.getD k pr0=P[k]:=(by simp [List.getD,List.getElem?_eq_getElem hk]);rw [hg];obtain⟨z,hz⟩:∃z:Pr,z=⟨P[k].i,P[k].s,P[k].m,P[k].p,m⟩:=⟨_,rfl⟩;rw [←hz];have hzb:Like z P[k]:=by rw [hz];exact⟨rfl,rfl,rfl,rfl⟩
  have hzi:fQ z=true:=by
   have:=(vz h (List.getElem_mem hk)).1;rw [hz];unfold fQ at this⊢;simp only [Bool.and_eq_true]at this⊢;exact⟨this.1,hm⟩
  clear hz;have e:P=P.take k++P[k]::P.drop (k+1):=by
   conv=>lhs;rw [←List.take_append_drop k P]
   rw [List.drop_eq_getElem_cons hk]
  have e2:P.set k z=P.take k++z::P.drop (k+1):=by
   rw [List.set_eq_take_append_cons_drop,if_pos hk]
  rw [e2];rw [cl]at h⊢;intro L x R hq;rcases jT hq with⟨L1,rfl,h2⟩ |⟨L1,h1,rfl⟩
  ·cases L1 with
   | nil=>
    simp at h2;obtain⟨rfl,rfl⟩:=h2;have h3:=h (P.take k) P[k] _ e;rw [List.append_nil];exact pV h3 hzb hzi (fun y hy=>⟨y,hy,Like.refl y⟩) zr
   | cons b c=>
    simp at h2;obtain⟨rfl,h2⟩:=h2;have h3:=h (P.take k++P[k]::c) x R (by rw [List.append_assoc,List.cons_append, ←h2];exact e);refine pV h3 (Like.refl x) ((es _ _ _).1 h3).1 (fun y hy=>?_) (by simp);simp only [List.mem_append,List.mem_cons]at hy;rcases hy with hy | rfl | hy
    ·exact⟨y,by simp [hy],Like.refl y⟩
    ·exact⟨P[k],by simp,hzb⟩
    ·exact⟨y,by simp [hy],Like.refl y⟩
  ·exact h L x (L1++P[k]::P.drop (k+1)) (by rw [←List.cons_append, ←List.append_assoc, ←h1];exact e)
 ·rw [List.set_eq_of_length_le hk];exact h
theorem BB {S:List Sw} {P:List Pr} {x:Pr} (h:aR S P=true) (hx:bp S P x=0):aR S (P++ [x])=true:=by
 rw [cl]at h⊢;intro L y R hq;rcases iT hq with⟨rfl,rfl⟩ |⟨R',e⟩
 ·exact hx
 ·exact h L y R' e
theorem r9 {S:List Sw} {s:Sw} {id:Int} (h:0≤idx (fun x=>x.i==id) S):idx (fun x=>x.i==id) (S++ [s])=idx (fun x=>x.i==id) S:=by
 unfold idx at h⊢;rw [List.findIdx?_append];cases hq:S.findIdx? (fun x=>x.i==id)with
 | none=>rw [hq]at h;simp at h
 | some k=>rfl
theorem At {S:List Sw} {s:Sw} {id:Int} (h:0≤idx (fun x=>x.i==id) S):tn (S++ [s]) id=tn S id:=by
 unfold tn;rw [r9 h];have:=(qt (fun x:Sw=>x.i==id) S).2;simp only [List.getD];rw [List.getElem?_append_left (by omega)]
theorem CV {S:List Sw} {id:Int} (h:0≤idx (fun x=>x.i==id) S):S.any (fun s=>s.i==id&&s.t==tn S id)=true:=by
 unfold tn;unfold idx at h⊢;cases hq:S.findIdx? (fun x=>x.i==id)with
 | none=>rw [hq]at h;simp at h
 | some k=>
  obtain⟨hk,hp,_⟩:=List.findIdx?_eq_some_iff_getElem.1 hq;refine List.any_eq_true.2 ⟨S[k],List.getElem_mem hk,?_⟩;simp only [Int.toNat_natCast,List.getD,List.getElem?_eq_getElem hk,Option.getD_some,beq_self_eq_true,Bool.and_true];exact hp
theorem AY {S:List Sw} {P L:List Pr} {s:Sw} {x:Pr} (hs:bo S P s=0) (hP:aR S P=true) (hL:∀y∈L,y∈P) (hx:x∈P) (h:bp S L x=0):bp (S++ [s]) L x=0:=by
 rw [es]at h⊢;obtain⟨h1,h2,h3,h4,h5⟩:=h;rw [At h2,r9 h2];refine⟨h1,h2,h3,?_,h5⟩;obtain⟨⟨_,_,s1⟩,⟨s2,s3⟩,_⟩:=lY hs;have hip:1≤x.p:=by
  unfold fQ at h1;simp only [Bool.and_eq_true,inB,decide_eq_true_eq]at h1;omega
 unfold bH at h4⊢;rw [Bool.or_eq_false_iff]at h4⊢;obtain⟨h6,h7⟩:=h4;constructor
 ·rw [List.any_append,h6,Bool.false_or];simp only [List.any_cons,List.any_nil,Bool.or_false];refine Bool.not_eq_true _ |>.mp fun hc=>?_
  simp only [Bool.and_eq_true,beq_iff_eq]at hc;have hg:(s.g != 0)=true:=by simp;omega
  rw [hg,Bool.true_and]at s3;unfold bH at s3;rw [Bool.or_eq_false_iff]at s3;have s4:=s3.2;rw [List.any_eq_false]at s4;refine s4 x hx ?_;rw [hc.2,hc.1];simp only [beq_self_eq_true,Bool.true_and];exact CV h2
 ·rw [List.any_eq_false]at h7⊢;intro y hy hc;refine h7 y hy ?_;simp only [Bool.and_eq_true]at hc⊢;refine⟨hc.1,?_⟩;have hc2:=hc.2;rw [List.any_append,Bool.or_eq_true]at hc2;rcases hc2 with hc2 | hc2
  ·exact hc2
  ·simp only [List.any_cons,List.any_nil,Bool.or_false,Bool.and_eq_true,beq_iff_eq]at hc2;have hy2:=(vz hP (hL y hy)).2;have ha:S.any (fun q=>q.i==y.s)=true:=by rw [←dL];simpa using hy2
   rw [←hc2.1,s2]at ha;simp at ha
theorem zp {S:List Sw} {P:List Pr} {s:Sw} (hs:bo S P s=0) (h:aR S P=true):aR (S++ [s]) P=true:=by
 have h':=(cl S P).1 h;rw [cl];rintro L x R rfl;exact AY hs h (fun y hy=>by simp [hy]) (by simp) (h' L x R rfl)
theorem vx {S S':List Sw} {A A':List Ac} {x:Ac} (h:bC S A x=0) (hs:∀y∈S,y∈S') (hl:A'.length≤A.length):bC S' A' x=0:=by
 rw [te]at h⊢;refine⟨h.1,h.2.1,?_,by omega⟩;have h3:=h.2.2.1;rw [List.any_eq_true]at h3⊢;obtain⟨y,hy,e⟩:=h3;exact⟨y,hs y hy,e⟩
theorem zH {S:List Sw} {A:List Ac} (h:bK S A=true) (k:Nat):bK S (A.eraseIdx k)=true:=by
 rcases Nat.lt_or_ge k A.length with hk | hk
 ·have e:A=A.take k++A[k]::A.drop (k+1):=by
   conv=>lhs;rw [←List.take_append_drop k A]
   rw [List.drop_eq_getElem_cons hk]
  rw [List.eraseIdx_eq_take_drop_succ];rw [fS]at h⊢;intro L x R hq;rcases jT hq with⟨L1,rfl,h2⟩ |⟨L1,h1,rfl⟩
  ·have h3:=h (A.take k++A[k]::L1) x R (by rw [List.append_assoc,List.cons_append, ←h2];exact e);exact vx h3 (fun y hy=>hy) (by simp)
  ·exact h L x (L1++A[k]::A.drop (k+1)) (by rw [←List.cons_append, ←List.append_assoc, ←h1];exact e)
 ·rw [List.eraseIdx_of_length_le hk];exact h
theorem A7 {S:List Sw} {A:List Ac} {x:Ac} (h:bK S A=true) (hx:bC S A x=0):bK S (A++ [x])=true:=by
 rw [fS]at h⊢;intro L y R hq;rcases iT hq with⟨rfl,rfl⟩ |⟨R',e⟩
 ·exact hx
 ·exact h L y R' e
theorem zE {S:List Sw} {A:List Ac} {s:Sw} (h:bK S A=true):bK (S++ [s]) A=true:=by
 rw [fS]at h⊢;intro L x R hq;exact vx (h L x R hq) (fun y hy=>by simp [hy]) zr
theorem AK {S:List Sw} {P:List Pr} {s:Sw} (h:bo S P s=0):bo S [] s=0:=by
 obtain⟨⟨a,b,c⟩,⟨d,e⟩,f⟩:=lY h;unfold bo;rw [a,b,c,d];have e':(s.g != 0&&bH S [] s.t s.g)=false:=by
  cases hg:(s.g != 0)with
  | false=>rfl
  | true=>
   rw [hg,Bool.true_and]at e;unfold bH at e⊢;rw [Bool.or_eq_false_iff]at e;simp [e.1]
 rw [e'];simp;omega
theorem Aq {S:List Sw} {P:List Pr} {s:Sw} (h:bk S=true) (hs:bo S P s=0):bk (S++ [s])=true:=by
 rw [gT]at h⊢;intro L y R hq;rcases iT hq with⟨rfl,rfl⟩ |⟨R',e⟩
 ·exact AK hs
 ·exact h L y R' e
theorem rh {S:List Sw} {P:List Pr} {A:List Ac} {a:Ax} (h:may S P A=true) (ha:bR S P A a=0):may (nxS S a) (nxP P a) (nxA A a)=true:=by
 obtain⟨h1,h2,h3⟩:=bj h;have go:∀{S':List Sw} {P':List Pr} {A':List Ac},bk S'=true→aR S' P'=true→bK S' A'=true→may S' P' A'=true:=fun a b c=>by unfold may;rw [a,b,c];rfl
 unfold bR at ha;unfold nxS nxP nxA;by_cases k1:a.k=1
 ·rw [if_pos k1]at ha;simp only [k1,if_pos];exact go (Aq h1 ha) (zp ha h2) (zE h3)
 ·rw [if_neg k1]at ha;rw [if_neg k1];by_cases k2:a.k=2
  ·rw [if_pos k2]at ha;rw [if_pos k2,if_neg (by omega),if_neg (by omega)];exact go h1 (BB h2 ha) h3
  ·rw [if_neg k2]at ha;rw [if_neg k2];by_cases k3:a.k=3
   ·rw [if_pos k3]at ha;rw [if_neg (by omega),if_neg (by omega),if_pos k3];exact go h1 h2 (A7 h3 ha)
   ·rw [if_neg k3]at ha;rw [if_neg k3];by_cases k4:a.k=4
    ·rw [if_pos k4,if_neg (by omega)];exact go h1 (xF h2 _) h3
    ·rw [if_neg k4]at ha;rw [if_neg k4];by_cases k6:a.k=6
     ·rw [if_pos k6]at ha;rw [if_pos k6,if_neg (by omega)];by_cases hb:inB a.m (-1) 5=true
      ·exact go h1 (zU h2 _ hb) h3
      ·rw [if_neg hb]at ha;split at ha <;>omega
     ·rw [if_neg k6];by_cases k5:a.k=5
      ·rw [if_pos k5];exact go h1 h2 (zH h3 _)
      ·rw [if_neg k5];exact h
def tD (S:List Sw) (P:List Pr) (A:List Ac):Prop:=may S P A=true∧(∀s∈S,s.i≤6)∧S.any (fun s=>s.i==1)=true
theorem yO {S:List Sw} {P:List Pr} {A:List Ac} {a:Ax} (h:dd S P A a=0):may S P A=true∧bR S P A a=0:=by
 unfold dd at h;cases hm:may S P A with
 | true=>rw [hm]at h;exact⟨rfl,by simpa using h⟩
 | false=>rw [hm]at h;simp at h
theorem wl {S:List Sw} {P:List Pr} {A:List Ac} {a:Ax} (h:tD S P A) (ha:dd S P A a=0) (hs:a.si≤6):tD (apS S P A a) (apP S P A a) (apA S P A a):=by
 obtain⟨h1,h2,h3⟩:=h;unfold apS apP apA;rw [if_pos ha,if_pos ha,if_pos ha];refine⟨rh h1 (yO ha).2,?_,?_⟩
 ·unfold nxS;split
  ·intro s hs';rcases List.mem_append.1 hs' with hs' | hs'
   ·exact h2 s hs'
   ·obtain rfl:s=a.s:=(by simpa using hs');exact hs
  ·exact h2
 ·unfold nxS;split
  ·rw [List.any_append,h3];rfl
  ·exact h3
theorem xz {S:List Sw} {P:List Pr} {A:List Ac} {a:Ax} (h:may S P A=true) (ha:dd S P A a=0):may (apS S P A a) (apP S P A a) (apA S P A a)=true:=by
 unfold apS apP apA;rw [if_pos ha,if_pos ha,if_pos ha];exact rh h (yO ha).2
theorem vm (F:List Int):ran [] F= []:=rfl
theorem Az:may [] [] []=true:=by decide
theorem CQ {S:List Sw} {P:List Pr} {A:List Ac} (h:may S P A=true) (x:Ax):may (cS S P A x) (cP S P A x) (cA S P A x)=true:=by
 unfold cS cP cA;by_cases e:dd S P A x=0
 ·rw [if_pos e,if_pos e,if_pos e];exact xz h e
 ·rw [if_neg e,if_neg e,if_neg e];exact h
theorem me (S:List Sw) (P:List Pr) (A:List Ac):(eF S P A).length=S.length+P.length+A.length:=by simp [eF];omega
def df (id d s k a b t o:Int) (body:ByteArray):Ax:=⟨8,0,0,0,0,0,0,0,0,0,0,false,0,0,0,0,0,false,id,0,d,s,k,a,b,t,o,body⟩
theorem Cv {w:World} {B:Nat} {u:Value} {rs:List Rp} (h:RR w B u rs) {i:Nat} (hi:i<rs.length):∃g cap v,u= .slice (some ⟨g,0,none⟩) rs.length cap∧rs.length≤cap∧(w.cell? ⟨g,i*2,none⟩=some (.int .i64 (rs.getD i ⟨0,[],⟨#[]⟩⟩).c)∧w.cell? ⟨g,i*2+1,none⟩=some v)∧w.ownsRow B 58 9 v (rs.getD i ⟨0,[],⟨#[]⟩⟩).l.length (AR (rs.getD i ⟨0,[],⟨#[]⟩⟩).body (rs.getD i ⟨0,[],⟨#[]⟩⟩).l):=by
 obtain⟨lo,e,ho,hx⟩:=h;have hlen:lo.length=rs.length:=by rw [←e,List.length_map]
 have hi':i<lo.length:=by omega
 obtain⟨oo,oc,rfl,hoc,hg⟩:=dw ho;obtain⟨g,rfl,hgB,hgw⟩:=hg (by omega);have R:=lm (C:=rvC) (fun _=>rfl) ⟨⟨0,[],⟨#[]⟩⟩,undef⟩ ho hi';have hmem:lo.getD i ⟨⟨0,[],⟨#[]⟩⟩,undef⟩∈lo:=by rw [List.getD_eq_getElem?_getD,List.getElem?_eq_getElem hi'];exact List.getElem_mem hi'
 have hr:rs.getD i ⟨0,[],⟨#[]⟩⟩=(lo.getD i ⟨⟨0,[],⟨#[]⟩⟩,undef⟩).r:=by
  rw [←e,List.getD_eq_getElem?_getD,List.getElem?_map,List.getElem?_eq_getElem hi',List.getD_eq_getElem?_getD,List.getElem?_eq_getElem hi'];rfl
 rw [hr];exact⟨g,oc,_,by rw [hlen],by omega,⟨R 0 _ rfl,R 1 _ rfl⟩,(hx _ hmem).1⟩
structure Stt where
 S:List Sw
 P:List Pr
 A:List Ac
 K:Nat→List Fl
def stZ:Stt:=⟨[],[],[],fun _=>[]⟩
def stA (σ:Stt) (x:Ax):Stt:=if x.k=7 then⟨σ.S,σ.P,σ.A,kY σ.S σ.P σ.A σ.K x.n⟩else if x.k=8 then σ else⟨cS σ.S σ.P σ.A x,cP σ.S σ.P σ.A x,cA σ.S σ.P σ.A x,σ.K⟩
def stR (l:List Ax):Stt:=l.foldl stA stZ
def aE (σ:Stt) (x:Ax):Int:=fK σ.K σ.P x.n x.f0 x.f1 x.f2 x.f3 x.f4 x.f5 x.f6 x.body.size
def aL (σ:Stt) (x:Ax):List Ar:=fp σ.K σ.P x.n x.f0 x.f1 x.f2 x.f3 x.f4 x.f5 x.f6 x.body.size
def wN (σ:Stt) (x:Ax) (r:Rp):Prop:=
 if x.k=7 then r=⟨cmE σ.S σ.P σ.A x.n,[],⟨#[]⟩⟩else if x.k=8 then(r.c=aE σ x∧r.body=x.body)∧r.l.Perm (aL σ x)∧eq r.l else r=⟨dd σ.S σ.P σ.A x,[],⟨#[]⟩⟩
def rp0:Rp:=⟨0,[],⟨#[]⟩⟩
def Tr (l:List Ax) (k:Nat) (S:List Sw) (P:List Pr) (A:List Ac) (K:Nat→List Fl) (rs:List Rp):Prop:=
 (⟨S,P,A,K⟩:Stt)=stR (l.take k)∧rs.length=k∧∀j,j<k→wN (stR (l.take j)) (l.getD j ax0) (rs.getD j rp0)
def Lrn (Q:List Pr→Prop) (K:Nat→List Fl):Prop:=∀i:Nat,i<6→K i= []∨∃S P A,(may S P A=true∧Q P)∧K i=cmL S P A i
theorem Lrn.syn {Q:List Pr→Prop} {K:Nat→List Fl} (h:Lrn Q K) {S:List Sw} {P:List Pr} {A:List Ac} (hq:Q P) (ch:Int):Lrn Q (kY S P A K ch):=by
 unfold kY;split
 ·rename_i he;obtain⟨hm,h0,h1⟩:=kj he;intro i hi;by_cases e:i=ch.toNat
  ·simp only [if_pos e];exact .inr ⟨S,P,A,⟨hm,hq⟩,by rw [show((i:Nat):Int)=ch by omega]⟩
  ·simp only [if_neg e];exact h i hi
 ·exact h
theorem Lrn.mono {Q R:List Pr→Prop} {K:Nat→List Fl} (h:Lrn Q K) (hq:∀P,Q P→R P):Lrn R K:=fun i hi=>by
 rcases h i hi with h |⟨S,P,A,⟨h1,h2⟩,h3⟩
 ·exact .inl h
 ·exact .inr ⟨S,P,A,⟨h1,hq P h2⟩,h3⟩
theorem yg (Q:List Pr→Prop):Lrn Q fun _=>[]:=fun _ _=>.inl rfl
theorem zx:Kok fun _=>[]:=by
 have:=BJ (S:=[]) (P:=[]) (A:=[]) (k:=0) (.inl rfl) (by omega);exact this
def StOk (σ:Stt):Prop:=(may σ.S σ.P σ.A=true∧Kok σ.K)∧Lrn (fun _=>True) σ.K
theorem StOk.next {σ:Stt} (h:StOk σ) (x:Ax):StOk (stA σ x):=by
 obtain⟨⟨h1,h2⟩,h3⟩:=h;unfold stA;split
 ·exact⟨⟨h1,h2.syn _ _ _ _⟩,h3.syn trivial _⟩
 ·split
  ·exact⟨⟨h1,h2⟩,h3⟩
  ·exact⟨⟨CQ h1 x,h2⟩,h3⟩
theorem uR:∀(l:List Ax) (σ:Stt),StOk σ→StOk (l.foldl stA σ)
 | [],σ,h=>h
 | x::r,σ,h=>uR r (stA σ x) (h.next x)
theorem tA (l:List Ax):StOk (stR l):=uR l stZ ⟨⟨Az,zx⟩,yg _⟩
theorem yE (l:List Ax) {k:Nat} (h:k<l.length):stR (l.take (k+1))=stA (stR (l.take k)) (l.getD k ax0):=by
 unfold stR;rw [List.take_add_one,List.getElem?_eq_getElem h,List.foldl_append];rw [List.getD_eq_getElem?_getD,List.getElem?_eq_getElem h];rfl
theorem A9 {P:List Pr} {id:Int} (h:0≤idx (cY id) P):eI P id∈P∧(eI P id).i=id∧(eI P id).c≠ -1:=by
 unfold eI idx at*;cases hf:P.findIdx? (cY id)with
 | none=>rw [hf]at h;simp at h
 | some j=>
  obtain⟨hj,hq,_⟩:=List.findIdx?_eq_some_iff_getElem.1 hf;simp only [Int.toNat_natCast];rw [List.getD_eq_getElem?_getD,List.getElem?_eq_getElem hj];simp only [cY,Bool.and_eq_true,beq_iff_eq,Bool.not_eq_true',beq_eq_false_iff_ne]at hq;exact⟨List.getElem_mem hj,hq.1,by simpa using hq.2⟩
section
variable {Q:List Pr→Prop} {K:Nat→List Fl}
theorem py (hK:Lrn Q K) {i:Int} {m:Nat} (hi:az i=true) {g:Gl} (hg:AH m g):kV K m (gk i g)= []∨kV K m (gk i g)= [goA g]∧(g.f.getD 2 0≠1∧∃P,Q P∧∃q∈P,q.i=g.u):=by
 obtain⟨d,s,k,a,b,t,o,e,hf,hn,hu,hc0,hc1⟩:=hg;obtain⟨n,u,c,f⟩:=g;simp only at e hn hu hc0 hc1;subst e;obtain⟨c,rfl⟩:=Int.eq_ofNat_of_zero_le hc0;have hff:ff [i,d,s,k,a,b,t,o,n,u] m=0:=hf;have hff0:ff [0,d,s,k,a,b,t,o,n,u] m=0:=hf;have e1:gk i ⟨n,u,(c:Int),[d,s,k,a,b,t,o]⟩=⟨6,c,[i,d,s,k,a,b,t,o,n,u]⟩:=rfl;have e2:gK [i,d,s,k,a,b,t,o,n,u]= [0,d,s,k,a,b,t,o,n,u]:=rfl;rw [e1];unfold kV;simp only [if_true,hff,e2,Int.toNat_natCast];rcases hK c (by omega)with h0 |⟨S,P,A,⟨hm,hq⟩,hKc⟩
 ·left;rw [h0,vm];split <;>rfl
 ·have hE:=ng (ch:=(c:Int)) hm hc0 hc1;have hF:=uW (i:=0) hf (by decide) hn hu;obtain⟨h1,h2,h3,h4⟩:=em hf;have hr:=nD (ch:=(c:Int)) (fs:=cmL S P A c) hm (pH hE) hF (by omega) h2.2.2.2.2.2.2 (fun h=>⟨(h4 h).1,(h4 h).2.1⟩);have hz:=lA (mQ hE) hF h3;rw [hKc,hz,hr,if_pos rfl];by_cases hcm:gh P A c k a b o n u=true
  ·right;rw [if_pos hcm];have hE2:atE m [⟨5,u,[0,d,s,k,a,b,t,o,n,u]⟩]=0:=by
    simp [atE,kC,ox,hff0]
   refine⟨by unfold atL;rw [if_pos hE2];rfl,?_,P,hq,?_⟩
   ·show k≠1;intro e;unfold gh at hcm;rw [e]at hcm;simp at hcm
   ·unfold gh at hcm;rw [Bool.and_eq_true]at hcm;obtain⟨q,hq1,hq2⟩:=List.any_eq_true.1 hcm.1;simp only [Bool.and_eq_true,beq_iff_eq]at hq2;exact⟨q,hq1,hq2.2.2⟩
  ·left;rw [if_neg hcm];rfl
theorem wS {S:List Sw} {P:List Pr} {A:List Ac} {ch i d s k a b t o:Int}:led S P A ch i d s k a b t o= []∨∃p∈P,p.i=i∧p.c=ch:=by
 unfold led;cases hfd:P.find? (fun p=>p.i==i)with
 | none=>exact .inl rfl
 | some p=>
  simp only;by_cases h:p.c=ch∧s=p.m∧a=p.p
  ·exact .inr ⟨p,List.mem_of_find?_eq_some hfd,by simpa using List.find?_some hfd,h.1⟩
  ·rw [if_neg h];exact .inl rfl
theorem xQ (hK:Lrn Q K) {i:Int} {m:Nat} (hi:az i=true):∀gs:List Gl,(∀g∈gs,AH m g)→∃f:Gl→Bool,dO K m (gs.map (gk i))=(gs.filter f).map goA∧∀g∈gs,f g=true→g.f.getD 2 0≠1∧∃P,Q P∧∃q∈P,q.i=g.u:=fun gs hg=>by
 refine⟨fun g=> !(kV K m (gk i g)).isEmpty,?_,fun g h hf=>?_⟩
 ·unfold dO;rw [List.flatMap_map]
  induction gs with
  | nil=>rfl
  | cons g r ih=>
   rw [List.flatMap_cons,ih (fun x hx=>hg x (by simp [hx])),List.filter_cons];rcases py hK hi (hg g (by simp))with h |⟨h,_⟩
   ·simp [h]
   ·simp [h]
 ·rcases py hK hi (hg g h)with h1 |⟨_,h2⟩
  ·simp [h1]at hf
  ·exact h2
theorem wJ (hK:Lrn Q K) {S:List Sw} {P:List Pr} {A:List Ac} (hm:may S P A=true) (id d s k a b t o:Int) (m:Nat):
  (((fp K P id d s k a b t o m).map (·.n)).Nodup∧(fp K P id d s k a b t o m).length≤100)∧∀x∈fp K P id d s k a b t o m,x.f.getD 2 0≠1∧∃P,Q P∧∃q∈P,q.i=x.n:=by
 by_cases h0:fK K P id d s k a b t o m=0
 ·have hL:fp K P id d s k a b t o m=dO K m (ran (K (eI P id).c.toNat) [id,d,s,k,a,b,t,o,0,0]):=by unfold fp;rw [if_pos h0]
  rw [hL];clear hL;have hx:¬idx (cY id) P<0:=fun h=>by unfold fK at h0;rw [if_pos h]at h0;omega
  have hpk:pkE d s k a b t o m id 0 0=0:=by
   unfold fK at h0;rw [if_neg hx]at h0;by_cases h:pkE d s k a b t o m id 0 0=0
   ·exact h
   ·rw [if_neg h]at h0;exact absurd h0 h
  have hf:bg d s k a b t o m=0:=by
   unfold pkE at hpk;by_cases h:bg d s k a b t o m=0
   ·exact h
   ·rw [if_neg h]at hpk;exact absurd hpk h
  obtain⟨hp,hpi,hpc⟩:=A9 (show 0≤idx (cY id) P by omega);generalize eI P id=p at*;obtain⟨hS,hP,hA⟩:=bj hm;have hpp:=(dj hS hP).2 p hp;obtain⟨c,hcc⟩:=Int.eq_ofNat_of_zero_le (show 0≤p.c by omega);have hi:az id=true:=by rw [fB];omega
  rw [hcc,Int.toNat_natCast];rcases hK c (by omega)with hk0 |⟨S1,P1,A1,⟨hm1,_⟩,hKc⟩
  ·rw [hk0,vm];exact⟨⟨List.nodup_nil,by simp [dO]⟩,fun x hx=>by cases hx⟩
  ·have hE:=ng (ch:=(c:Int)) hm1 (by omega) (by omega);have hF:=uW (i:=id) (n:=0) (u:=0) hf hi (by decide) (by decide);obtain⟨h1,h2,h3,h4⟩:=em hf;have hr:=sH (ch:=(c:Int)) (fs:=cmL S1 P1 A1 c) hm1 (pH hE) (i:=id) (by omega) hF (by omega) h2.2.2.2.2.2.2 (fun h=>⟨(h4 h).1,(h4 h).2.1⟩);have hr':ran (K c) [id,d,s,k,a,b,t,o,0,0]=(led S1 P1 A1 c id d s k a b t o).map (gk id):=by rw [hKc];exact hr
   rw [hr'];obtain⟨f,e1,e2⟩:=xQ hK hi (led S1 P1 A1 c id d s k a b t o) (yJ hm1 ⟨by omega,by omega⟩ hi hf);rw [e1];refine⟨?_,fun x hx=>?_⟩
   ·rcases wS (S:=S1) (P:=P1) (A:=A1) (ch:=(c:Int)) (i:=id) (d:=d) (s:=s) (k:=k) (a:=a) (b:=b) (t:=t) (o:=o)with h |⟨p1,hp1,hi1,hc1⟩
    ·rw [h];exact⟨List.nodup_nil,by simp⟩
    ·have g1:=sI hm1 hp1 d s k a b t o;have g2:=uY hm1 hp1 d s k a b t o;rw [hi1,hc1]at g1 g2;refine⟨?_,by rw [List.length_map];exact Nat.le_trans (List.length_filter_le _ _) g2⟩;rw [List.map_map];exact g1.sublist ((List.filter_sublist).map _)
   ·obtain⟨g,hg,rfl⟩:=List.mem_map.1 hx;obtain⟨hg1,hg2⟩:=List.mem_filter.1 hg;exact e2 g hg1 hg2
 ·have hL:fp K P id d s k a b t o m= []:=by unfold fp;rw [if_neg h0]
  rw [hL];exact⟨⟨List.nodup_nil,by simp⟩,fun x hx=>by cases hx⟩
end
theorem pL {l:List Ax} {k:Nat} {S S':List Sw} {P P':List Pr} {A A':List Ac} {K K':Nat→List Fl} {rs:List Rp} {r:Rp} (h:Tr l k S P A K rs) (hk:k<l.length) (hs:(⟨S',P',A',K'⟩:Stt)=stA ⟨S,P,A,K⟩ (l.getD k ax0)) (hr:wN ⟨S,P,A,K⟩ (l.getD k ax0) r):Tr l (k+1) S' P' A' K' (rs++ [r]):=by
 obtain⟨h1,h2,h3⟩:=h;refine⟨by rw [hs,yE l hk, ←h1],by simp [h2],fun j hj=>?_⟩;by_cases e:j=k
 ·subst e;have e2:(rs++ [r]).getD j rp0=r:=by subst h2;simp [List.getD]
  rw [←h1,e2];exact hr
 ·have e2:(rs++ [r]).getD j rp0=rs.getD j rp0:=by simp only [List.getD];rw [List.getElem?_append_left (by omega)]
  rw [e2];exact h3 j (by omega)
theorem AT (l:List Ax) (lv:Value) (w:World) (hL:RowAt axC 28 w lv l) (hlen:l.length≤300) (hb:∀k,k<l.length→(l.getD k ax0).body.size≤maxLen):Calls Tryz.prog 21 #[lv] w (kJ (Tr l) l.length w):=by
 have hok:∀{k S P A K rs},Tr l k S P A K rs→StOk ⟨S,P,A,K⟩:=fun h=>by rw [h.1];exact tA _
 refine Bu l lv w hL hlen (Tr l) ⟨rfl,rfl,fun j hj=>by omega⟩ (fun k S P A K rs h=>?_) ?_ ?_ ?_
 ·have hm:may S P A=true:=(hok h).1.1;obtain⟨q1,q2,q3⟩:=gr hm;refine⟨⟨by omega,by omega,by omega⟩,fun p hp=>?_⟩;obtain⟨m1,m2,_⟩:=bj hm;have:=((dj m1 m2).2 p hp).2.2.2.2;omega
 ·intro k hk h7 S P A K rs hI X W ks s1 p1 a1 s2 p2 a2 hX hK hC;obtain⟨⟨hm,hO⟩,_⟩:=hok hI;simp only at hm hO;obtain⟨q1,q2,q3⟩:=gr hm;refine(mW S P A s1 p1 a1 s2 p2 a2 K ks (l.getD k ax0).n X W hX hK hC (by omega) (by omega) (by omega) (fun _ s b=>oK (by unfold bf;exact Nat.le_trans (List.length_filter_le _ _) q3)) hO).mono ?_;rintro e w' ⟨ks',rfl,hk',hb'⟩;exact⟨ks',_,rfl,_,hk',pL hI hk (by unfold stA;rw [if_pos h7]) (by unfold wN;rw [if_pos h7]),hb'⟩
 ·intro k hk h8 S P A K rs hI;obtain⟨⟨hm,hO⟩,hLr⟩:=hok hI;simp only at hm hO hLr;refine⟨hb k hk,fun _=>lT (Nat.le_trans (wJ hLr hm _ _ _ _ _ _ _ _ _).1.2 (by omega)),fun l' hp hbp=>pL hI hk (by unfold stA;rw [if_neg (by omega),if_pos h8]) ?_⟩;unfold wN;rw [if_neg (by omega),if_pos h8];exact⟨⟨rfl,rfl⟩,hp,hbp⟩
 ·intro k hk h7 h8 S P A K rs hI;exact pL hI hk (by unfold stA;rw [if_neg h7,if_neg h8]) (by unfold wN;rw [if_neg h7,if_neg h8])
theorem tT (n:Nat) (w:World) (hn:n≤10000000):Calls Tryz.prog 24 #[.slice none 0 0,.int .i64 n] w fun e w'=>∃u,e= .returned u∧w'.ownsRow w.heap.size 51 28 u 0 []∧Below w.heap.size w w':=by
 obtain⟨i0,hi,hz0,hz1,hz2⟩:=info_parts kI;have h1:¬((n:Int)<0):=by omega
 by_cases h0:n=0
 ·subst h0;clear hi hz0 hz1 hz2;go_enter Tryz.func24,Tryz.ntmps24;go_wp2;go_ret;exact⟨_,rfl,World.ownsRow_nil _ _ _ _,Below.refl _ _⟩
 ·have h4:(0:Int)<(n:Int):=(by omega);have hr:=fun ty=>Lib.run_append_nil_zeros (P:=Tryz.prog) w 25 3 ty 51 i0 _ .i64 .i64 Tryz.underlying25 Tryz.underlying3 hi hz0 n (by omega) (by rw [hz1];decide) (by omega) (by rw [hz2];omega);have HR:=aa hr;have hG0:=grownCap_ge w n 0 51;have hG1:=grownCap_le_maxLen w n 0 51 (by unfold maxLen;omega);generalize grownCap w n 0 51=G at*;clear hr;have hG2:G≤9223372036854775807:=by unfold maxLen at hG1;omega
  have hO:((w.drew).alloc (.cells (Builtin.zeroCells (Value.cells (.agg #[.int .i64 0,.int .i64 0,.int .i64 0,.int .i64 0,.int .i64 0,.int .i64 0,.int .i64 0,.int .i64 0,.int .i64 0,.int .i64 0,.int .i64 0,.bool false,.int .i64 0,.int .i64 0,.int .i64 0,.int .i64 0,.int .i64 0,.bool false,.int .i64 0,.int .i64 0,.int .i64 0,.int .i64 0,.int .i64 0,.int .i64 0,.int .i64 0,.int .i64 0,.int .i64 0,.string ByteArray.empty])) n++Builtin.zeroCells (Value.cells (.agg #[.int .i64 0,.int .i64 0,.int .i64 0,.int .i64 0,.int .i64 0,.int .i64 0,.int .i64 0,.int .i64 0,.int .i64 0,.int .i64 0,.int .i64 0,.bool false,.int .i64 0,.int .i64 0,.int .i64 0,.int .i64 0,.int .i64 0,.bool false,.int .i64 0,.int .i64 0,.int .i64 0,.int .i64 0,.int .i64 0,.int .i64 0,.int .i64 0,.int .i64 0,.int .i64 0,.string ByteArray.empty])) (G-n)) 51)).ownsRow w.heap.size 51 28 (.slice (some ⟨w.heap.size,0,none⟩) 0 G) 0 []:=by
   refine World.ownsRow_made w.drew _ G zr hG1 ?_;rw [Array.size_append,bS,bS];rw [←Nat.add_mul];congr 1;omega
  have HO:=aa hO;clear hO;go_enter Tryz.func24,Tryz.ntmps24;go_wp2_with (at_builtin;refine Lib.wpList_append_run _ rfl _ _ _ _ rfl _ _ rfl rfl _ _ ((ag HR) _) ?_)
  go_ret;exact⟨_,rfl,HO.out,(Below.refl _ _).drew.alloc zr _⟩
theorem qd (L:List (Value×Nat×List Value)) (g cap:Nat) (w:World) (hc:∀j,j<L.length→w.cell? ⟨g,j,none⟩=some (L.getD j z3).1) (hs:∀x∈L,SrcAt w 28 x.1 x.2.1 x.2.2) (hl:L.length≤10) (hcap:L.length≤cap) (hn:∀x∈L,x.2.1≤100000):
  Calls Tryz.prog 9 #[.slice (some ⟨g,0,none⟩) L.length cap] w fun e w'=>∃u,e= .returned u∧w'.ownsRow w.heap.size 51 28 u (cnt L) (cat L)∧Below w.heap.size w w':=by
 obtain⟨i0,hi,hz0,hz1,hz2⟩:=info_parts kI;have HC:=aa hc;have HS:=aa hs;have HN:=aa (fun k hk=>nv hn k hk);have HM:=aa hn;clear hc hs hn;go_enter Tryz.func9,Tryz.ntmps9;go_wp2_with fail
 go_loopw [3,11] (fun s i wr=>∃k:Nat,k≤L.length∧i= .int .i64 k∧s= .int .i64 (cnt (L.take k):Nat)∧Below w.heap.size w wr) (fun _ i _=>L.length-(intOf i).toNat)
 case atStart=>exact⟨0,by omega,rfl,rfl,Below.refl _ _⟩
 case round=>
  obtain⟨k,hk,rfl,rfl,hbr⟩:=hrel;by_cases hlt:k<L.length
  ·have hx:=(HS.out _ (dP hlt));have hcell:=(hbr.cell (p:=⟨g,k,none⟩) (ap (HC.out k hlt))).trans (HC.out k hlt);obtain⟨o,c,hu⟩:∃o c,(L.getD k z3).1= .slice o (L.getD k z3).2.1 c:=by
    rcases hx with⟨h,h0,_⟩ |⟨ad,c,h,_⟩
    ·exact⟨_,_,by rw [h,h0]⟩
    ·exact⟨_,_,h⟩
   rw [hu]at hcell;have HX:=aa (eE hlt);have hb1:=HN.out k hk;have hb2:=HM.out _ (dP hlt);clear hx hu;generalize (L.getD k z3).2.1=m at*;generalize hcn:cnt (L.take k)=C0 at*;clear hcn;have hb3:C0≤1000000:=Nat.le_trans hb1 (by omega);have hb4:¬((C0:Int)+(m:Int)<0):=(by omega);have q1:(0:Int)≤(k:Int):=(by omega);have q2:(k:Int)<(L.length:Int):=(by omega);clear hb1;go_wp2_with fail
   go_roundw
   case rel=>exact⟨k+1,by omega,by go_num,by rw [HX.out];go_num,hbr⟩
   case measure=>simp [intOf];omega
  ·obtain rfl:k=L.length:=(by omega);have hb1:=HN.out _ zr;rw [List.take_length]at hb1⊢;have hb3:cnt L≤1000000:=Nat.le_trans hb1 (by omega);have HG:=aa (tT (cnt L) wr (by omega));obtain⟨C1,hC1⟩:∃C1,C1=cnt L:=⟨_,rfl⟩;have HC1:=aa hC1;rw [←hC1]at HG hb3⊢;clear hC1 hb1;go_wp2_with fail
   refine(ag HG).mono ?_;rintro e w1 ⟨u,rfl,ho,hb⟩;have hb01:=hbr.trans (hb.mono hbr.size);have HO:=aa (aI ho hbr.size);obtain⟨o,c,rfl⟩:=aq ho;clear ho hb hbr HG;go_wp2_with fail
   go_loopw [6,27] (fun v i wq=>∃k:Nat,k≤L.length∧i= .int .i64 k∧Hid (wq.ownsRow w.heap.size 51 28 v (cnt (L.take k)) (cat (L.take k)))∧Below w.heap.size w wq) (fun _ i _=>L.length-(intOf i).toNat)
   case atStart=>exact⟨0,by omega,rfl,aa (by simpa [cnt,cat] using HO.out),hb01⟩
   case round=>
    clear HO hb01;obtain⟨k,hk,rfl,HO,hbr⟩:=hrel;by_cases hlt:k<L.length
    ·have hx:=(HS.out _ (dP hlt));have hcell:=(hbr.cell (p:=⟨g,k,none⟩) (ap (HC.out k hlt))).trans (HC.out k hlt);have HX:=aa (eE hlt);have HY:=aa (kl hlt);have hb1:=HN.out k hk;have hb2:=HM.out _ (dP hlt);obtain⟨o1,c1,rfl⟩:=aq HO.out;have hb4:cnt (L.take k)≤1000000:=Nat.le_trans hb1 (by omega);have q1:(0:Int)≤(k:Int):=(by omega);have q2:(k:Int)<(L.length:Int):=(by omega);clear hb1;have hsz:=hbr.size;have HS2:=aa (hx.below' hbr);clear hx;obtain⟨C2,hC2⟩:∃C2,C2=cnt (L.take k):=⟨_,rfl⟩;rw [←hC2]at HO HX hb4⊢;clear hC2;obtain⟨XS,hXS⟩:∃XS,XS=cat (L.take k):=⟨_,rfl⟩;rw [←hXS]at HO HY;clear hXS;rcases HS2.out with⟨hu,h0,hnil⟩ |⟨ad,c2,hu,hln,hcs,hone⟩
     ·rw [hu]at hcell;rw [h0,Nat.add_zero]at HX;rw [hnil,List.append_nil]at HY;clear hu h0 hnil HS2 hb2;go_wp2_with (at_builtin;refine wpList_append_own_none rfl _ _ 25 rfl w.heap.size 51 i0 28 Tryz.underlying25 hi _ _ _ rfl (ag HO) rfl ?_)
      go_roundw
      case rel=>exact⟨k+1,by omega,by go_num,by rw [HX.out,HY.out];exact HO,hbr⟩
      case measure=>simp [intOf];omega
     ·rw [hu]at hcell;have HLN:=aa hln;have HCS:=aa hcs;have HONE:=aa hone;clear hu hln hcs hone HS2;generalize (L.getD k z3).2.1=m at*;generalize (L.getD k z3).2.2=ys at*;go_wp2_with (at_builtin;refine wpList_append_own _ rfl _ _ 25 rfl w.heap.size 51 i0 _ 28 232 Tryz.underlying25 hi hz0 hz1 hz2 rfl (by decide) _ _ _ rfl (ag HO) ad m c2 ys rfl (ag HLN) (ag HCS) (ag HONE) ?a1 ?a2 ?a3 ?_)
      case a1=>unfold maxLen;omega
      case a2=>omega
      case a3=>exact hsz
      intro v3 w3 ho3 hg3 _;have hb3:Below w.heap.size w w3:=hbr.grown hg3 hsz (ay HO.out);have HE:=aa ho3;obtain⟨o3,c3,rfl⟩:=aq ho3;clear ho3 hg3 HO HCS hcell;go_wp2_with fail
      go_roundw
      case rel=>exact⟨k+1,by omega,by go_num,by rw [HX.out,HY.out];exact HE,hb3⟩
      case measure=>simp [intOf];omega
    ·obtain rfl:k=L.length:=(by omega);rw [List.take_length]at HO;obtain⟨o1,c1,rfl⟩:=aq HO.out;have HX:=aa HO.out;clear HO;go_wp2_with fail
     go_ret;exact⟨_,rfl,HX.out,hbr⟩
def syX (n:Int):Ax:=⟨7,0,0,0,0,0,0,0,0,0,0,false,0,0,0,0,0,false,n,0,0,0,0,0,0,0,0,⟨#[]⟩⟩
def allL:List Ax:=[syX 0,syX 1,syX 2,syX 3,syX 4,syX 5]
theorem zN {k:Nat} (h:k<6):(allL.take (k+1)).flatMap axC=(allL.take k).flatMap axC++axC (syX k):=by
 rcases(by omega:k=0∨k=1∨k=2∨k=3∨k=4∨k=5)with rfl | rfl | rfl | rfl | rfl | rfl <;>rfl
theorem Av (w:World):Calls Tryz.prog 10 #[] w fun e w'=>∃u,e= .returned u∧w'.ownsRow w.heap.size 51 28 u 6 (allL.flatMap axC)∧Below w.heap.size w w':=by
 obtain⟨i0,hi,hz0,hz1,hz2⟩:=info_parts kI;go_enter Tryz.func10,Tryz.ntmps10;go_wp2_with fail
 go_loopw [1,3] (fun u i wr=>∃k:Nat,k≤6∧i= .int .i64 k∧Hid (wr.ownsRow w.heap.size 51 28 u k ((allL.take k).flatMap axC))∧Below w.heap.size w wr) (fun _ i _=>6-(intOf i).toNat)
 case atStart=>exact⟨0,by omega,rfl,aa (World.ownsRow_nil w w.heap.size 51 28),Below.refl _ _⟩
 case round=>
  obtain⟨k,hk,rfl,HO,hbr⟩:=hrel;have sr:w.heap.size≤wr.heap.size:=hbr.size;by_cases hlt:k<6
  ·have HN:=aa (zN hlt);have HAX:Hid (axC (syX k)= [.int .i64 7,.int .i64 0,.int .i64 0,.int .i64 0,.int .i64 0,.int .i64 0,.int .i64 0,.int .i64 0,.int .i64 0,.int .i64 0,.int .i64 0,.bool false,.int .i64 0,.int .i64 0,.int .i64 0,.int .i64 0,.int .i64 0,.bool false,.int .i64 k,.int .i64 0,.int .i64 0,.int .i64 0,.int .i64 0,.int .i64 0,.int .i64 0,.int .i64 0,.int .i64 0,.string ⟨#[]⟩]):=rfl;rw [HAX.out]at HN;clear HAX;have q1:(k:Int)<6:=(by omega);obtain⟨o1,o2,rfl⟩:=aq HO.out;obtain⟨xl,hxl⟩:∃xl,xl=(allL.take k).flatMap axC:=⟨_,rfl⟩;rw [←hxl]at HO;have HXL:=aa hxl;clear hxl;obtain⟨W2,hW2⟩:∃W2,W2=wr.alloc (.cells #[.int .i64 7,.int .i64 0,.int .i64 0,.int .i64 0,.int .i64 0,.int .i64 0,.int .i64 0,.int .i64 0,.int .i64 0,.int .i64 0,.int .i64 0,.bool false,.int .i64 0,.int .i64 0,.int .i64 0,.int .i64 0,.int .i64 0,.bool false,.int .i64 k,.int .i64 0,.int .i64 0,.int .i64 0,.int .i64 0,.int .i64 0,.int .i64 0,.int .i64 0,.int .i64 0,.string ⟨#[]⟩] 51):=⟨_,rfl⟩;have hb2:Below wr.heap.size wr W2:=by rw [hW2];exact(Below.refl _ _).alloc zr _
   have HN2:Hid (W2.rangeAt wr.heap.size 0 [.int .i64 7,.int .i64 0,.int .i64 0,.int .i64 0,.int .i64 0,.int .i64 0,.int .i64 0,.int .i64 0,.int .i64 0,.int .i64 0,.int .i64 0,.bool false,.int .i64 0,.int .i64 0,.int .i64 0,.int .i64 0,.int .i64 0,.bool false,.int .i64 k,.int .i64 0,.int .i64 0,.int .i64 0,.int .i64 0,.int .i64 0,.int .i64 0,.int .i64 0,.int .i64 0,.string ⟨#[]⟩]):=by rw [hW2];exact aa (dJ wr [.int .i64 7,.int .i64 0,.int .i64 0,.int .i64 0,.int .i64 0,.int .i64 0,.int .i64 0,.int .i64 0,.int .i64 0,.int .i64 0,.int .i64 0,.bool false,.int .i64 0,.int .i64 0,.int .i64 0,.int .i64 0,.int .i64 0,.bool false,.int .i64 k,.int .i64 0,.int .i64 0,.int .i64 0,.int .i64 0,.int .i64 0,.int .i64 0,.int .i64 0,.int .i64 0,.string ⟨#[]⟩] 51)
   replace HO:=zO HO hb2;have s2:w.heap.size≤W2.heap.size:=Nat.le_trans sr hb2.size;have HW2:=aa hW2.symm;have hbw:=hbr.trans (hb2.mono sr);clear hW2 hb2;go_wp2_with (first | rw [HW2.out] |(at_builtin;refine wpList_append_own _ rfl _ _ 25 rfl w.heap.size 51 i0 _ 28 232 Tryz.underlying25 hi hz0 hz1 hz2 rfl (by decide) _ _ _ rfl (ag HO) ⟨wr.heap.size,0,none⟩ 1 1 [.int .i64 7,.int .i64 0,.int .i64 0,.int .i64 0,.int .i64 0,.int .i64 0,.int .i64 0,.int .i64 0,.int .i64 0,.int .i64 0,.int .i64 0,.bool false,.int .i64 0,.int .i64 0,.int .i64 0,.int .i64 0,.int .i64 0,.bool false,.int .i64 k,.int .i64 0,.int .i64 0,.int .i64 0,.int .i64 0,.int .i64 0,.int .i64 0,.int .i64 0,.int .i64 0,.string ⟨#[]⟩] rfl rfl (fun j u hj=>by rw [ol];have:=HN2.out j u hj;rwa [Nat.zero_add]at this) (cT rfl) ?c1 ?c2 s2 ?c3))
   case c1=>unfold maxLen;omega
   case c2=>omega
   intro v3 w3 ho3 hg3 _;have hb3:Below w.heap.size w w3:=hbw.grown hg3 s2 (ay HO.out);have HE:Hid (w3.ownsRow w.heap.size 51 28 v3 (k+1) ((allL.take (k+1)).flatMap axC)):=by
    rw [HN.out, ←HXL.out];exact aa ho3
   clear ho3 hg3 HO HN HN2 HW2 hbr;go_wp2_with fail
   go_roundw
   case rel=>exact⟨k+1,by omega,by go_num,HE,hb3⟩
   case measure=>simp [intOf];omega
  ·obtain rfl:k=6:=(by omega);obtain⟨o1,o2,rfl⟩:=aq HO.out;have HO2:Hid (wr.ownsRow w.heap.size 51 28 (.slice o1 6 o2) 6 (allL.flatMap axC)):=HO;clear HO;go_wp2_with fail
   go_ret;exact⟨_,rfl,HO2.out,hbr⟩
section
variable {S:List Sw} {P:List Pr} {A:List Ac} {K:Nat→List Fl}
theorem jq (hm:may S P A=true) {n:Int} (h0:0≤n) (h1:n≤5):stA ⟨S,P,A,K⟩ (syX n)=⟨S,P,A,fun i=>if i=n.toNat then cmL S P A n else K i⟩:=by
 have e:stA ⟨S,P,A,K⟩ (syX n)=⟨S,P,A,kY S P A K n⟩:=by unfold stA;rw [if_pos (show(syX n).k=7 from rfl)];rfl
 rw [e];unfold kY;rw [if_pos (ng hm h0 h1)]
theorem zh (hm:may S P A=true) (K:Nat→List Fl):∃K',allL.foldl stA ⟨S,P,A,K⟩=⟨S,P,A,K'⟩∧ur S P A K':=by
 unfold allL;rw [List.foldl_cons,jq hm (by omega) (by omega),List.foldl_cons,jq hm (by omega) (by omega),List.foldl_cons,jq hm (by omega) (by omega),List.foldl_cons,jq hm (by omega) (by omega),List.foldl_cons,jq hm (by omega) (by omega),List.foldl_cons,jq hm (by omega) (by omega),List.foldl_nil];refine⟨_,rfl,fun i hi=>?_⟩;rcases(by omega:i=0∨i=1∨i=2∨i=3∨i=4∨i=5)with rfl | rfl | rfl | rfl | rfl | rfl <;>rfl
theorem BX (l:List Ax):∃K,stR (l++allL)=⟨(stR l).S,(stR l).P,(stR l).A,K⟩∧ur (stR l).S (stR l).P (stR l).A K:=by
 have:=zh (tA l).1.1 (stR l).K;unfold stR at*;rw [List.foldl_append];exact this
theorem xG (hK:ur S P A K) (hm:may S P A=true) {id d s k a b t o:Int} {m:Nat} (hid:P= []∧id=1∨∃p∈P,id=p.i) (hf:bg d s k a b t o m=0):fK K P id d s k a b t o m=ie S P A id d s k a b t o m∧fp K P id d s k a b t o m=gn S P A id d s k a b t o m:=by
 have hno:(∀q∈P,q.i=id→q.c= -1)→fK K P id d s k a b t o m=ie S P A id d s k a b t o m∧fp K P id d s k a b t o m=gn S P A id d s k a b t o m:=fun h=>by
  have h6:fK K P id d s k a b t o m=6:=by
   unfold fK;rw [if_pos];exact rv (p:=⟨id,0,0,0,0⟩) h
  obtain⟨u1,u2⟩:=fj hm h (d:=d) (sc:=s) (k:=k) (a:=a) (b:=b) (t:=t) (o:=o) (n:=m);refine⟨by rw [h6,u1],?_⟩;unfold fp;rw [u2,if_neg (by omega)]
 rcases hid with⟨rfl,rfl⟩ |⟨p,hp,rfl⟩
 ·exact hno fun q hq=>by simp at hq
 ·by_cases hc:p.c= -1
  ·exact hno fun q hq e=>by rw [cu (bj hm).2.1 hq hp e];exact hc
  ·obtain⟨a1,a2⟩:=qc hK hm hp hc hf;obtain⟨b1,b2⟩:=qc (vi S P A) hm hp hc hf;unfold ie gn;rw [if_pos hm,if_pos hm,a1,a2];exact⟨b1.symm,b2.symm⟩
end
theorem Bg {S:List Sw} {x:Sw} {R:List Sw} (h:bk (S++x::R)=true):stA ⟨S,[],[],fun _=>[]⟩ (dW x)=⟨S++ [x],[],[],fun _=>[]⟩:=by
 rw [gT]at h;have hS:bk S=true:=by rw [gT];intro L y T e;exact h L y (T++x::R) (by rw [e];simp)
 have h0:=h S x R rfl;have he:dd S [] [] (dW x)=0:=by
  unfold dd;rw [if_pos (by unfold may;rw [hS];rfl)];exact h0
 unfold stA;rw [if_neg (by simp [dW]),if_neg (by simp [dW])];have aS:cS S [] [] (dW x)=S++ [x]:=by unfold cS apS;rw [if_pos he,if_pos he];rfl
 have aP:cP S [] [] (dW x)= []:=by unfold cP apP;rw [if_pos he,if_pos he];rfl
 have aA:cA S [] [] (dW x)= []:=by unfold cA apA;rw [if_pos he,if_pos he];rfl
 rw [aS,aP,aA]
theorem yH {S:List Sw} {P:List Pr} {x:Pr} {R:List Pr} (hS:bk S=true) (h:aR S (P++x::R)=true):stA ⟨S,P,[],fun _=>[]⟩ (fA x)=⟨S,P++ [x],[],fun _=>[]⟩:=by
 rw [cl]at h;have hP:aR S P=true:=by rw [cl];intro L y T e;exact h L y (T++x::R) (by rw [e];simp)
 have h0:=h P x R rfl;have he:dd S P [] (fA x)=0:=by
  unfold dd;rw [if_pos (by unfold may;rw [hS,hP];rfl)];exact h0
 unfold stA;rw [if_neg (by simp [fA]),if_neg (by simp [fA])];have aS:cS S P [] (fA x)=S:=by unfold cS apS;rw [if_pos he,if_pos he];rfl
 have aP:cP S P [] (fA x)=P++ [x]:=by unfold cP apP;rw [if_pos he,if_pos he];rfl
 have aA:cA S P [] (fA x)= []:=by unfold cA apA;rw [if_pos he,if_pos he];rfl
 rw [aS,aP,aA]
theorem yn {S:List Sw} {P:List Pr} {A:List Ac} {x:Ac} {R:List Ac} (hS:bk S=true) (hP:aR S P=true) (h:bK S (A++x::R)=true):stA ⟨S,P,A,fun _=>[]⟩ (jb x)=⟨S,P,A++ [x],fun _=>[]⟩:=by
 rw [fS]at h;have hA:bK S A=true:=by rw [fS];intro L y T e;exact h L y (T++x::R) (by rw [e];simp)
 have h0:=h A x R rfl;have he:dd S P A (jb x)=0:=by
  unfold dd;rw [if_pos (by unfold may;rw [hS,hP,hA];rfl)];exact h0
 unfold stA;rw [if_neg (by simp [jb]),if_neg (by simp [jb])];have aS:cS S P A (jb x)=S:=by unfold cS apS;rw [if_pos he,if_pos he];rfl
 have aP:cP S P A (jb x)=P:=by unfold cP apP;rw [if_pos he,if_pos he];rfl
 have aA:cA S P A (jb x)=A++ [x]:=by unfold cA apA;rw [if_pos he,if_pos he];rfl
 rw [aS,aP,aA]
theorem AP {T:List Sw}:∀{S:List Sw},bk (S++T)=true→(T.map dW).foldl stA ⟨S,[],[],fun _=>[]⟩=⟨S++T,[],[],fun _=>[]⟩:=by
 induction T with
 | nil=>intro S h;simp
 | cons x r ih=>
  intro S h;rw [List.map_cons,List.foldl_cons,Bg h,ih (by simpa using h)];simp
theorem A5 {S:List Sw} (hS:bk S=true) {T:List Pr}:∀{P:List Pr},aR S (P++T)=true→(T.map fA).foldl stA ⟨S,P,[],fun _=>[]⟩=⟨S,P++T,[],fun _=>[]⟩:=by
 induction T with
 | nil=>intro P h;simp
 | cons x r ih=>
  intro P h;rw [List.map_cons,List.foldl_cons,yH hS h,ih (by simpa using h)];simp
theorem AE {S:List Sw} {P:List Pr} (hS:bk S=true) (hP:aR S P=true) {T:List Ac}:∀{A:List Ac},bK S (A++T)=true→(T.map jb).foldl stA ⟨S,P,A,fun _=>[]⟩=⟨S,P,A++T,fun _=>[]⟩:=by
 induction T with
 | nil=>intro A h;simp
 | cons x r ih=>
  intro A h;rw [List.map_cons,List.foldl_cons,yn hS hP h,ih (by simpa using h)];simp
theorem tL {S:List Sw} {P:List Pr} {A:List Ac} (hm:may S P A=true):stR (eF S P A)=⟨S,P,A,fun _=>[]⟩:=by
 obtain⟨h1,h2,h3⟩:=bj hm;unfold stR eF stZ;rw [List.foldl_append,List.foldl_append,AP (S:=[]) (by simpa using h1),List.nil_append,A5 h1 (P:=[]) (by simpa using h2),List.nil_append,AE h1 h2 (A:=[]) (by simpa using h3),List.nil_append]
theorem ue {l:List Ax} {id d s k a b t o:Int} {body:ByteArray} {S':List Sw} {P':List Pr} {A':List Ac} {K':Nat→List Fl} {rs:List Rp} (hT:Tr (l++allL++ [df id d s k a b t o body]) (l++allL++ [df id d s k a b t o body]).length S' P' A' K' rs)
  (hid:(stR l).P= []∧id=1∨∃p∈(stR l).P,id=p.i) (hf:bg d s k a b t o body.size=0):
  ((rs.getD (l.length+6) rp0).c=ie (stR l).S (stR l).P (stR l).A id d s k a b t o body.size∧(rs.getD (l.length+6) rp0).body=body)∧(rs.getD (l.length+6) rp0).l.Perm (gn (stR l).S (stR l).P (stR l).A id d s k a b t o body.size)∧eq (rs.getD (l.length+6) rp0).l∧S'=(stR l).S∧P'=(stR l).P∧A'=(stR l).A:=by
 obtain⟨h1,h2,h3⟩:=hT;have hlen:(l++allL).length=l.length+6:=by rw [List.length_append];rfl
 have hlen2:(l++allL++ [df id d s k a b t o body]).length=l.length+7:=by rw [List.length_append,hlen];rfl
 have h4:=h3 (l.length+6) (by omega);have e1:(l++allL++ [df id d s k a b t o body]).take (l.length+6)=l++allL:=List.take_left' hlen;have e2:(l++allL++ [df id d s k a b t o body]).getD (l.length+6) ax0=df id d s k a b t o body:=by rw [←hlen];simp [List.getD]
 rw [e1,e2]at h4;obtain⟨K,hs,hk⟩:=BX l;rw [hs]at h4;obtain⟨g1,g2⟩:=xG hk (tA l).1.1 hid hf;unfold wN at h4;rw [if_neg (by simp [df]),if_pos (show(df id d s k a b t o body).k=8 from rfl)]at h4;obtain⟨⟨c1,c2⟩,c3,c4⟩:=h4;have hst:stR (l++allL++ [df id d s k a b t o body])=stR (l++allL):=by
  unfold stR;rw [List.foldl_append];rfl
 rw [List.take_length,hst,hs]at h1;injection h1 with i1 i2 i3 i4;refine⟨⟨?_,c2⟩,?_,c4,i1,i2,i3⟩
 ·rw [c1, ←g1];rfl
 ·rw [←g2];exact c3
theorem xV (l:List Ax):∀v∈l.flatMap axC,v.oneCell'=true:=fun v hv=>by
 obtain⟨x,_,hx⟩:=List.mem_flatMap.1 hv;exact(cT (l:=axC x) rfl) v hx
theorem Bz {B B2 gs gl:Nat} {u1 u2:Value} (l:List Ax) (x:Ax) (w:World) (h1:w.ownsRow B 51 28 u1 l.length (l.flatMap axC)) (h2:w.ownsRow B2 51 28 u2 6 (allL.flatMap axC)) (h3:Box w gs (axC x)) (h4:Box w gl [u1,u2,.slice (some ⟨gs,0,none⟩) 1 1]) (hl:l.length≤1000):
  Calls Tryz.prog 9 #[.slice (some ⟨gl,0,none⟩) 3 3] w fun e w'=>∃u,e= .returned u∧w'.ownsRow w.heap.size 51 28 u (l++allL++ [x]).length ((l++allL++ [x]).flatMap axC)∧Below w.heap.size w w':=by
 obtain⟨L,hL⟩:∃L:List (Value×Nat×List Value),L= [(u1,l.length,l.flatMap axC),(u2,6,allL.flatMap axC),(.slice (some ⟨gs,0,none⟩) 1 1,1,axC x)]:=⟨_,rfl⟩;have hLl:L.length=3:=by rw [hL];rfl
 have e1:cnt L=(l++allL++ [x]).length:=by
  rw [hL,List.length_append,List.length_append];simp [cnt,allL]
 have e2:cat L=(l++allL++ [x]).flatMap axC:=by
  rw [hL,List.flatMap_append,List.flatMap_append];simp [cat]
 have hcon:=qd L gl 3 w (fun j hj=>by
  rw [hLl]at hj;rcases(by omega:j=0∨j=1∨j=2)with rfl | rfl | rfl
  ·rw [hL];exact h4.cell 0 _ rfl
  ·rw [hL];exact h4.cell 1 _ rfl
  ·rw [hL];exact h4.cell 2 _ rfl) (fun y hy=>by
  rw [hL]at hy;simp only [List.mem_cons,List.not_mem_nil,or_false]at hy;rcases hy with rfl | rfl | rfl
  ·exact SrcAt.of_own h1 (xV l)
  ·exact SrcAt.of_own h2 (xV allL)
  ·exact .inr ⟨_,_,rfl,rfl,fun j v hj=>by rw [ol];exact h3.cell j v hj,cT rfl⟩) (by omega) (by omega) (fun y hy=>by
  rw [hL]at hy;simp only [List.mem_cons,List.not_mem_nil,or_false]at hy;rcases hy with rfl | rfl | rfl
  ·show l.length≤100000;omega
  ·show 6≤100000;omega
  ·show 1≤100000;omega)
 rw [hLl,e1,e2]at hcon;exact hcon
def sY (S:List Sw) (P:List Pr) (A:List Ac) (id d s k a b t o:Int) (body:ByteArray) (r:Rp):Prop:=(r.c=ie S P A id d s k a b t o body.size∧r.body=body)∧r.l.Perm (gn S P A id d s k a b t o body.size)∧eq r.l
theorem yx (l:List Ax) {id d s k a b t o:Int} {body:ByteArray} {B:Nat} {la:Option Addr} {lc:Nat} {w:World} (hL:w.ownsRow B 51 28 (.slice la (l++allL++ [df id d s k a b t o body]).length lc) (l++allL++ [df id d s k a b t o body]).length ((l++allL++ [df id d s k a b t o body]).flatMap axC)) (hl:l.length≤290) (hb:∀x∈l,x.body.size≤maxLen)
  (hid:(stR l).P= []∧id=1∨∃p∈(stR l).P,id=p.i) (hf:bg d s k a b t o body.size=0):
  Calls Tryz.prog 6 #[.slice la (l++allL++ [df id d s k a b t o body]).length lc] w fun e w'=>∃u su pu au,e= .returned (.tuple #[u,.agg #[su,pu,au],.int .i64 0])∧∃rs,(rs.length=l.length+7∧sY (stR l).S (stR l).P (stR l).A id d s k a b t o body (rs.getD (l.length+6) rp0))∧RR w' w.heap.size u rs∧Kept (fun k=>k<w.heap.size) w' (fun W=>CfAt W su pu au (stR l).S (stR l).P (stR l).A)∧Below w.heap.size w w':=by
 have hlen:(l++allL++ [df id d s k a b t o body]).length=l.length+7:=by rw [List.length_append,List.length_append];rfl
 have hR:RowAt axC 28 w (.slice la (l++allL++ [df id d s k a b t o body]).length lc) (l++allL++ [df id d s k a b t o body]):=RowAt.of_own (C:=axC) Ch (by decide) hL;have hbb:=(em hf).2.2.1;have hrun:∀W,Below w.heap.size w W→Calls Tryz.prog 21 #[.slice la (l++allL++ [df id d s k a b t o body]).length lc] W (kJ (Tr (l++allL++ [df id d s k a b t o body])) (l++allL++ [df id d s k a b t o body]).length W):=fun W hW=>by
  refine AT _ _ W (RowAt.below hR hW zr) (by omega) fun i hi=>?_;have hm:(l++allL++ [df id d s k a b t o body]).getD i ax0∈l++allL++ [df id d s k a b t o body]:=by rw [List.getD_eq_getElem?_getD,List.getElem?_eq_getElem hi];exact List.getElem_mem hi
  generalize (l++allL++ [df id d s k a b t o body]).getD i ax0=y at hm⊢;rcases List.mem_append.1 hm with h | h
  ·rcases List.mem_append.1 h with h | h
   ·exact hb _ h
   ·unfold allL at h;simp only [List.mem_cons,List.not_mem_nil,or_false]at h;rcases h with e | e | e | e | e | e <;>(rw [e];show 0≤maxLen;exact Nat.zero_le _)
  ·obtain rfl:y=df id d s k a b t o body:=(by simpa using h);show body.size≤maxLen;unfold maxLen;omega
 refine(tI _ la _ lc w hrun).mono ?_;rintro e w' ⟨u,su,pu,au,rfl,S',P',A',K',rs,⟨hT,hrl⟩,hrr,hcf,hb'⟩;obtain⟨q1,q2,q3,rfl,rfl,rfl⟩:=ue hT hid hf;exact⟨u,su,pu,au,rfl,rs,⟨by rw [hrl,hlen],q1,q2,q3⟩,hrr,hcf,hb'⟩
theorem rO {S S':List Sw} {P P':List Pr} {A:List Ac} (hm:may S P A=true) {id d s k a b t o:Int} {m:Nat} (hid:P= []∧id=1∨∃p∈P,id=p.i) (hf:bg d s k a b t o m=0) {l1 l2:List Ar} (h1:l1.Perm (gn S P A id d s k a b t o m)) (b1:eq l1) (h2:l2.Perm (gn S P A id d s k a b t o m)) (b2:eq l2):l2=l1∧l1.length≤100:=by
 rcases tf hm hid hf with⟨p,hp,_,_,hL⟩ |⟨_,_,hL⟩
 ·have hno:=AX hm hp d s k a b t o;rw [←hL]at hno;refine⟨sd hno h2 h1 b2 b1,?_⟩;rw [h1.length_eq,hL];exact x9 hm hp d s k a b t o
 ·rw [hL]at h1 h2;obtain rfl:=List.perm_nil.1 h1;obtain rfl:=List.perm_nil.1 h2;exact⟨rfl,by simp⟩
theorem vS {S:List Sw} {P:List Pr} {A:List Ac}:∀x∈eF S P A,x.body.size≤maxLen:=fun x h=>by
 unfold eF at h;rcases List.mem_append.1 h with h | h
 ·rcases List.mem_append.1 h with h | h
  ·obtain⟨y,_,rfl⟩:=List.mem_map.1 h;exact Nat.zero_le _
  ·obtain⟨y,_,rfl⟩:=List.mem_map.1 h;exact Nat.zero_le _
 ·obtain⟨y,_,rfl⟩:=List.mem_map.1 h;exact Nat.zero_le _
theorem px {α:Type} {l:List α} {f:List α→α→Int} {u:α→Prop} {r:α→α→Prop} {m:Nat} (hf:∀L x,f L x=0↔u x∧(∀y∈L,r y x)∧L.length<m):(∀L x R,l=L++x::R→f L x=0)↔(∀x∈l,u x)∧l.Pairwise r∧l.length≤m:=by
 constructor
 ·intro h;refine⟨fun x hx=>?_,uN h fun L x y hx hz=>((hf L y).1 hz).2.1 x hx,?_⟩
  ·obtain⟨L,R,e⟩:=List.append_of_mem hx;exact((hf L x).1 (h L x R e)).1
  ·by_cases h0:l= []
   ·rw [h0];simp
   ·have e:=jt h0;have:=((hf _ _).1 (h l.dropLast (l.getLast h0) [] e)).2.2;rw [List.length_dropLast]at this;have:0<l.length:=List.length_pos_iff.2 h0;omega
 ·rintro⟨h1,h2,h3⟩ L x R rfl;rw [hf];rw [List.pairwise_append]at h2;refine⟨h1 x (by simp),fun y hy=>h2.2.2 y hy x (by simp),?_⟩;rw [List.length_append,List.length_cons]at h3;omega
def swU (x:Sw):Prop:=(inB x.i 1 500&&inB x.t 1 9&&inB x.g 0 65535)=true
def swR (y x:Sw):Prop:=y.i≠x.i∧¬(x.g≠0∧y.t=x.t∧y.g=x.g)
theorem Bt {x y:Sw} (h:swR x y):swR y x:=⟨fun e=>h.1 e.symm,fun⟨a,b,c⟩=>h.2 ⟨by rw [c];exact a,b.symm,c.symm⟩⟩
theorem Ap (L:List Sw) (x:Sw):bo L [] x=0↔swU x∧(∀y∈L,swR y x)∧L.length<12:=by
 unfold bo swU;cases h1:(inB x.i 1 500&&inB x.t 1 9&&inB x.g 0 65535)with
 | false=>simp
 | true=>
  rw [if_neg (by simp)];have e:(L.any (fun s=>s.i==x.i)|| (x.g != 0&&bH L [] x.t x.g))=false↔∀y∈L,swR y x:=by
   unfold bH swR;rw [List.any_nil,Bool.or_false,Bool.or_eq_false_iff,List.any_eq_false];constructor
   ·rintro⟨a,b⟩ y hy;refine⟨by simpa using a y hy,fun⟨c1,c2,c3⟩=>?_⟩;rw [Bool.and_eq_false_iff]at b;rcases b with b | b
    ·exact c1 (by simpa using b)
    ·rw [List.any_eq_false]at b;exact b y hy (by simp [c2,c3])
   ·intro h;refine⟨fun y hy=>by simpa using (h y hy).1,?_⟩;by_cases hg:x.g=0
    ·simp [hg]
    ·rw [Bool.and_eq_false_iff];refine .inr ?_;rw [List.any_eq_false];intro y hy hc;simp only [Bool.and_eq_true,beq_iff_eq]at hc;exact(h y hy).2 ⟨hg,hc.1,hc.2⟩
  cases h2:(L.any (fun s=>s.i==x.i)|| (x.g != 0&&bH L [] x.t x.g))with
  | true=>
   rw [if_pos rfl];constructor
   ·intro h;omega
   ·rintro⟨_,h,_⟩;rw [e.2 h]at h2;cases h2
  | false=>
   rw [if_neg (by simp)];by_cases h3:12≤L.length
   ·rw [if_pos h3];constructor
    ·intro h;omega
    ·rintro⟨_,_,h⟩;omega
   ·rw [if_neg h3];exact⟨fun _=>⟨rfl,e.1 h2,by omega⟩,fun _=>rfl⟩
theorem B4 (S:List Sw):bk S=true↔(∀x∈S,swU x)∧S.Pairwise swR∧S.length≤12:=by
 rw [gT];exact px Ap
theorem pX {S:List Sw} (h:bk S=true):bk S.reverse=true:=by
 rw [B4]at h⊢;refine⟨fun x hx=>h.1 x (List.mem_reverse.1 hx),?_,by rw [List.length_reverse];exact h.2.2⟩;rw [List.pairwise_reverse];exact h.2.1.imp Bt
def prU (S:List Sw) (x:Pr):Prop:=fQ x=true∧0≤idx (fun s=>s.i==x.s) S∧S.any (fun z=>z.t==tn S x.s&&z.g==x.p)=false
def prR (S:List Sw) (y x:Pr):Prop:=(y.i≠x.i∧¬(y.s=x.s∧y.m=x.m))∧¬(y.p=x.p∧S.any (fun s=>s.i==y.s&&s.t==tn S x.s)=true)
theorem AQ (S:List Sw) (L:List Pr) (x:Pr):bp S L x=0↔prU S x∧(∀y∈L,prR S y x)∧L.length<40:=by
 rw [es];unfold prU prR bH;constructor
 ·rintro⟨a1,a2,a3,a4,a5⟩;rw [Bool.or_eq_false_iff]at a4;refine⟨⟨a1,a2,a4.1⟩,fun y hy=>?_,a5⟩;have b1:=List.any_eq_false.1 a3 y hy;have b2:=List.any_eq_false.1 a4.2 y hy;simp only [Bool.or_eq_true,Bool.and_eq_true,beq_iff_eq,not_or]at b1 b2;exact⟨b1,b2⟩
 ·rintro⟨⟨a1,a2,a3⟩,h,a5⟩;refine⟨a1,a2,?_,?_,a5⟩
  ·rw [List.any_eq_false];intro y hy;simp only [Bool.or_eq_true,Bool.and_eq_true,beq_iff_eq,not_or];exact(h y hy).1
  ·rw [Bool.or_eq_false_iff];refine⟨a3,?_⟩;rw [List.any_eq_false];intro y hy;simp only [Bool.and_eq_true,beq_iff_eq];exact(h y hy).2
theorem Al (S:List Sw) (P:List Pr):aR S P=true↔(∀x∈P,prU S x)∧P.Pairwise (prR S)∧P.length≤40:=by
 rw [cl];exact px (AQ S)
theorem xU {S:List Sw} {P:List Pr} (hS:bk S=true) (h:aR S P=true) {p:Pr} (hp:p∈P):tn S.reverse p.s=tn S p.s:=by
 obtain⟨s,hs,e⟩:=jw h hp;rw [←e,lZ hS hs,lZ (pX hS) (List.mem_reverse.2 hs)]
theorem zb {S:List Sw} {P:List Pr} (hS:bk S=true) (h:aR S P=true) {y:Pr} (hy:y∈P) (t:Int):S.any (fun s=>s.i==y.s&&s.t==t)=true↔tn S y.s=t:=by
 obtain⟨s,hs,e⟩:=jw h hy;constructor
 ·intro ha;obtain⟨z,hz,hb⟩:=List.any_eq_true.1 ha;simp only [Bool.and_eq_true,beq_iff_eq]at hb;rw [←hb.1,lZ hS hz];exact hb.2
 ·intro ht;rw [←e,lZ hS hs]at ht;exact List.any_eq_true.2 ⟨s,hs,by simp [e,ht]⟩
theorem AS {S:List Sw} {P:List Pr} (hS:bk S=true) (h:aR S P=true):aR S.reverse P.reverse=true:=by
 have h0:=h;rw [Al]at h;rw [Al];refine⟨fun x hx=>?_,?_,by rw [List.length_reverse];exact h.2.2⟩
 ·have hx:=List.mem_reverse.1 hx;obtain⟨a1,a2,a3⟩:=h.1 x hx;refine⟨a1,?_,?_⟩
  ·have b:=dL (fun s:Sw=>s.i==x.s) S;have c:=dL (fun s:Sw=>s.i==x.s) S.reverse;rw [List.any_reverse, ←b]at c;have d:decide (0≤idx (fun s:Sw=>s.i==x.s) S)=true:=(by simpa using a2);rw [d]at c;simpa using c
  ·rw [List.any_reverse,xU hS h0 hx];exact a3
 ·rw [List.pairwise_reverse];refine h.2.1.imp_of_mem fun{a b} ha hb hr=>?_;obtain⟨⟨r1,r2⟩,r3⟩:=hr;refine⟨⟨fun e=>r1 e.symm,fun e=>r2 ⟨e.1.symm,e.2.symm⟩⟩,fun⟨e1,e2⟩=>r3 ⟨e1.symm,?_⟩⟩;rw [List.any_reverse,xU hS h0 ha]at e2;rw [zb hS h0 hb]at e2;rw [zb hS h0 ha];exact e2.symm
theorem BC {S:List Sw} {A:List Ac} (h:bK S A=true):bK S.reverse A=true:=by
 rw [fS]at h⊢;intro L x R e;have:=h L x R e;unfold bC at this⊢;rw [List.any_reverse];exact this
theorem pY {S:List Sw} {P:List Pr} {A:List Ac} (hm:may S P A=true):may S.reverse P.reverse A=true:=by
 obtain⟨hS,hP,hA⟩:=bj hm;unfold may;rw [pX hS,AS hS hP,BC hA];rfl
section
variable {S:List Sw} {P:List Pr} {A:List Ac}
theorem AN (hm:may S P A=true) {p:Pr} (hp:p∈P) (d sc k a b t o:Int):(led S.reverse P.reverse A p.c p.i d sc k a b t o).Perm (led S P A p.c p.i d sc k a b t o):=by
 obtain⟨hS,hP,_⟩:=bj hm;have hsw:dK S.reverse p.s=dK S p.s:=by
  obtain⟨s,hs,e⟩:=jw hP hp;rw [←e,vt hS hs,vt (pX hS) (List.mem_reverse.2 hs)]
 have hrt:rtB S.reverse (dK S p.s) d b t=rtB S (dK S p.s) d b t:=by
  funext q;unfold rtB dq;rw [List.any_reverse]
 rw [iR (pY hm) (List.mem_reverse.2 hp),iR hm hp,hsw];split
 ·split
  ·unfold mn;rw [List.filter_reverse];exact(((List.reverse_perm _).map _).append_left _).map _
  ·split
   ·unfold om;rw [hrt,List.filter_reverse,List.filter_reverse];exact((List.reverse_perm _).map _).append ((List.reverse_perm _).map _)
   ·exact List.Perm.refl _
 ·exact List.Perm.refl _
theorem A0 (hm:may S P A=true) {id d sc k a b t o:Int} {m:Nat} (hid:P= []∧id=1∨∃p∈P,id=p.i) (hf:bg d sc k a b t o m=0):
  ie S.reverse P.reverse A id d sc k a b t o m=ie S P A id d sc k a b t o m∧(gn S.reverse P.reverse A id d sc k a b t o m).Perm (gn S P A id d sc k a b t o m):=by
 have hm':=pY hm;have hno:(∀q∈P,q.i=id→q.c= -1)→ie S.reverse P.reverse A id d sc k a b t o m=ie S P A id d sc k a b t o m∧(gn S.reverse P.reverse A id d sc k a b t o m).Perm (gn S P A id d sc k a b t o m):=fun h=>by
  obtain⟨u1,u2⟩:=fj hm h (d:=d) (sc:=sc) (k:=k) (a:=a) (b:=b) (t:=t) (o:=o) (n:=m);obtain⟨v1,v2⟩:=fj hm' (fun q hq=>h q (List.mem_reverse.1 hq)) (d:=d) (sc:=sc) (k:=k) (a:=a) (b:=b) (t:=t) (o:=o) (n:=m);rw [u1,u2,v1,v2];exact⟨rfl,List.Perm.refl _⟩
 rcases hid with⟨rfl,rfl⟩ |⟨p,hp,rfl⟩
 ·exact hno fun q hq=>by simp at hq
 ·by_cases hc:p.c= -1
  ·exact hno fun q hq e=>by rw [cu (bj hm).2.1 hq hp e];exact hc
  ·obtain⟨u1,u2⟩:=pZ hm hp hc hf;obtain⟨v1,v2⟩:=pZ hm' (List.mem_reverse.2 hp) hc hf;rw [u1,u2,v1,v2];refine⟨rfl,?_⟩;unfold cmG;exact((AN hm hp d sc k a b t o).filter _).map _
end
section
open Go.Shelf
def Tryz.revSw_ren:Go.Shelf.Ren:=⟨fun | 35=>15 | n=>n,fun | 22=>28 | 23=>45 | 3=>3 | 4=>4 | 0=>0 | n=>n,fun | n=>n⟩
theorem Tryz.revSw:Go.Proofs.SlLaysE0.n35 Tryz.prog Tryz.revSw_ren:={
 mixed:=by kernel_rfl
 f35:=⟨Tryz.f15.name,by decide,Tryz.func15.trans (congrArg some (by kernel_rfl))⟩
 t0:=Tryz.underlying0
 a0:=Tryz.isAgg0
 z0:=Tryz.sizeOf0
 v0:=Tryz.zeroValue0
 t3:=Tryz.underlying3
 a3:=Tryz.isAgg3
 z3:=Tryz.sizeOf3
 v3:=Tryz.zeroValue3
 t4:=Tryz.underlying4
 a4:=Tryz.isAgg4
 z4:=Tryz.sizeOf4
 v4:=Tryz.zeroValue4
 t22:=Tryz.underlying28
 a22:=Tryz.isAgg28
 z22:=Tryz.sizeOf28
 v22:=Tryz.zeroValue28}
end
section
open Go.Shelf
def Tryz.revPr_ren:Go.Shelf.Ren:=⟨fun | 35=>16 | n=>n,fun | 22=>29 | 23=>47 | 3=>3 | 4=>4 | 0=>0 | n=>n,fun | n=>n⟩
theorem Tryz.revPr:Go.Proofs.SlLaysE0.n35 Tryz.prog Tryz.revPr_ren:={
 mixed:=by kernel_rfl
 f35:=⟨Tryz.f16.name,by decide,Tryz.func16.trans (congrArg some (by kernel_rfl))⟩
 t0:=Tryz.underlying0
 a0:=Tryz.isAgg0
 z0:=Tryz.sizeOf0
 v0:=Tryz.zeroValue0
 t3:=Tryz.underlying3
 a3:=Tryz.isAgg3
 z3:=Tryz.sizeOf3
 v3:=Tryz.zeroValue3
 t4:=Tryz.underlying4
 a4:=Tryz.isAgg4
 z4:=Tryz.sizeOf4
 v4:=Tryz.zeroValue4
 t22:=Tryz.underlying29
 a22:=Tryz.isAgg29
 z22:=Tryz.sizeOf29
 v22:=Tryz.zeroValue29}
end
end Go.Proofs.YthgobamkhdhelaaGreat
