/- Texts joined: Ch2, Cap2, Kg, Rx, Mg, Mh, Kn, Kb, Po2. -/
import Derived.Deep.MidRow
import Derived.Deep.RegionHeld3
import Derived.Deep.DeepCutAuto
import Derived.Deep.Light
import Derived.Test.YtaiedioffemhdaaGreatJT7
import Derived.Test.YtaiedioffemhdaaGreatJTK
namespace Go.Proofs.YtaiedioffemhdaaGreat
open Go.RowKit
set_option linter.unusedVariables false
set_option maxRecDepth 100000
set_option maxHeartbeats 16000000
def Hi3 (B:Nat) (x y z:Value):Prop:=(∀g,x.ownBlock=some g→B≤g)∧(∀g,y.ownBlock=some g→B≤g)∧(∀g,z.ownBlock=some g→B≤g)
theorem Box.grownC {w w':World} {b:Nat} {cs:List Value} {row:Option Nat} (h:Box w b cs) (hg:w.grownBy w' row) (hne:some b≠row):Box w' b cs:=
 ⟨⟨Nat.lt_of_lt_of_le h.1.1 hg.size,fun j v hj=>hg.cell (h.1.2 j v hj) hne⟩,fun j hj=>Am hg h.1.1 (h.2 j hj) hne⟩
theorem kQ:(Tryz.prog.info? 30).map (·.size)=some 3:=by kernel_rfl
def Th (w W:World) (s p a:Value):Prop:=Box W w.heap.size [s,p,a]∧Box W (w.heap.size+1+1) [.slice none 0 0,.slice none 0 0,.slice none 0 0]
theorem Th.new (w:World) (s p a:Value) (x:Obj):Th w (((w.alloc (.cells #[s,p,a] 30)).alloc x).alloc (.cells #[.slice none 0 0,.slice none 0 0,.slice none 0 0] 30)) s p a:=by
 have h:=Box.new ((w.alloc (.cells #[s,p,a] 30)).alloc x) [.slice none 0 0,.slice none 0 0,.slice none 0 0] 30;rw [show((w.alloc (.cells #[s,p,a] 30)).alloc x).heap.size=w.heap.size+1+1 by simp]at h;exact⟨((Box.new w [s,p,a] 30).alloc x).alloc _,h⟩
theorem Th.below {w W V:World} {s p a:Value} (h:Th w W s p a) (hb:Below W.heap.size W V):Th w V s p a:=⟨h.1.below hb,h.2.below hb⟩
theorem Th.alloc {w W:World} {s p a:Value} (h:Th w W s p a) (x:Obj):Th w (W.alloc x) s p a:=⟨h.1.alloc x,h.2.alloc x⟩
theorem Th.grown {w W V:World} {s p a:Value} {row:Option Nat} (h:Th w W s p a) (hg:W.grownBy V row) (hn:∀b,w.heap.size≤b→some b≠row):Th w V s p a:=⟨h.1.grownC hg (hn _ zr),h.2.grownC hg (hn _ (by omega))⟩
theorem Th.get {w W:World} {s p a:Value} (h:Th w W s p a):W.cell? ⟨w.heap.size,0,none⟩=some s∧W.cell? ⟨w.heap.size,1,none⟩=some p∧W.cell? ⟨w.heap.size,2,none⟩=some a∧
  W.cell? ⟨w.heap.size+1+1,0,none⟩=some (.slice none 0 0)∧W.cell? ⟨w.heap.size+1+1,1,none⟩=some (.slice none 0 0)∧W.cell? ⟨w.heap.size+1+1,2,none⟩=some (.slice none 0 0)∧
  W.frozen? ⟨w.heap.size,0,none⟩=false∧W.frozen? ⟨w.heap.size,1,none⟩=false∧W.frozen? ⟨w.heap.size,2,none⟩=false∧
  W.frozen? ⟨w.heap.size+1+1,0,none⟩=false∧W.frozen? ⟨w.heap.size+1+1,1,none⟩=false∧W.frozen? ⟨w.heap.size+1+1,2,none⟩=false:=
 ⟨h.1.cell 0 _ rfl,h.1.cell 1 _ rfl,h.1.cell 2 _ rfl,h.2.cell 0 _ rfl,h.2.cell 1 _ rfl,h.2.cell 2 _ rfl,h.1.2 0 (by simp),h.1.2 1 (by simp),h.1.2 2 (by simp),h.2.2 0 (by simp),h.2.2 1 (by simp),h.2.2 2 (by simp)⟩
def Nwb (w:World) (x:Value):Prop:=∀b,w.heap.size≤b→b<w.heap.size+1+1+1+1→x.ownBlock≠some b
def BA (w:World) (B:Nat) (x y z:Value) (S:List Sw) (P:List Pr) (A:List Ac) (V:World):Prop:=V.rangeAt (w.heap.size+1+1) 0 [x,y,z]∧CfAt V x y z S P A∧Below B w V
theorem BB {w W:World} {B:Nat} {x y z t u v:Value} {S:List Sw} {P:List Pr} {A:List Ac} (hB:B≤w.heap.size) (hC:CfAt W x y z S P A) (hL:Below B w W) (hx:Nwb w x) (hy:Nwb w y) (hz:Nwb w z)
  (t0:W.cell? ⟨w.heap.size+1+1,0,none⟩=some t) (t1:W.cell? ⟨w.heap.size+1+1,1,none⟩=some u) (t2:W.cell? ⟨w.heap.size+1+1,2,none⟩=some v):
  BA w B x y z S P A (((W.setCell ⟨w.heap.size+1+1,0,none⟩ x).setCell ⟨w.heap.size+1+1,1,none⟩ y).setCell ⟨w.heap.size+1+1,2,none⟩ z):=by
 obtain⟨u0,u1,u2⟩:=xS t0 t1 t2 x y z;have hx':=hx (w.heap.size+1+1) (by omega) (by omega);have hy':=hy (w.heap.size+1+1) (by omega) (by omega);have hz':=hz (w.heap.size+1+1) (by omega) (by omega);have hB':B≤w.heap.size+1+1:=by omega
 refine⟨fun j v hj=>?_,((hC.set_far hx' hy' hz' 0 x).set_far hx' hy' hz' 1 y).set_far hx' hy' hz' 2 z,((hL.setCell (p:=⟨w.heap.size+1+1,0,none⟩) hB' x).setCell (p:=⟨w.heap.size+1+1,1,none⟩) hB' y).setCell (p:=⟨w.heap.size+1+1,2,none⟩) hB' z⟩;have h3:j<3:=by
  have:=(List.getElem?_eq_some_iff.1 hj).1;simpa using this
 rw [Nat.zero_add];rcases(by omega:j=0∨j=1∨j=2)with rfl | rfl | rfl
 ·exact u0.trans hj
 ·exact u1.trans hj
 ·exact u2.trans hj
theorem xW {w W:World} {B:Nat} {s p a x y z:Value} {S:List Sw} {P:List Pr} {A:List Ac} (hT:Th w W s p a) (hB:B≤w.heap.size) (hC:CfAt W x y z S P A) (hL:Below B w W) (hx:Nwb w x) (hy:Nwb w y) (hz:Nwb w z) (i:Nat) (v:Value):
  BA w B x y z S P A ((((W.setCell ⟨w.heap.size,i,none⟩ v).setCell ⟨w.heap.size+1+1,0,none⟩ x).setCell ⟨w.heap.size+1+1,1,none⟩ y).setCell ⟨w.heap.size+1+1,2,none⟩ z):=by
 obtain⟨-, -, -,q0,q1,q2, -⟩:=hT.get;refine BB hB (hC.set_far (hx _ zr (by omega)) (hy _ zr (by omega)) (hz _ zr (by omega)) i v) (hL.setCell (p:=⟨w.heap.size,i,none⟩) hB v) hx hy hz ((World.cell?_setCell_other _ _ _ _ ?_).trans q0) ((World.cell?_setCell_other _ _ _ _ ?_).trans q1) ((World.cell?_setCell_other _ _ _ _ ?_).trans q2)
 all_goals
  intro h;simp at h <;>omega
theorem rS (B:Nat) (sv pv av:Value) (S:List Sw) (P:List Pr) (A:List Ac) (a:Ax) (w:World) (ho:Own3 w B sv pv av S P A) (hB:B≤w.heap.size) (l1:S.length≤12) (l2:P.length≤40) (l3:A.length≤40)
  (hp:a.k=4∨a.k=6→0≤pat P a.n) (hn:a.k=5→0≤a.n∧a.n<A.length):
  Calls Tryz.prog 55 #[.agg #[sv,pv,av],eF a] w fun e w'=>∃su pu au,e= .returned (.agg #[su,pu,au])∧CfAt w' su pu au (nxS S a) (nxP P a) (nxA A a)∧Below B w w'∧Hi3 B su pu au:=by
 obtain⟨iS,hiS,zS0,zS1,zS2⟩:=info_parts sZ;obtain⟨iP,hiP,zP0,zP1,zP2⟩:=info_parts pr;obtain⟨iA,hiA,zA0,zA1,zA2⟩:=info_parts pY;have HO:=aa ho;obtain⟨s1,s2,rfl⟩:=aG ho.s;obtain⟨p1,p2,rfl⟩:=aG ho.p;obtain⟨a1,a2,rfl⟩:=aG ho.a;clear ho;have HAT:=aa (fun W (hW:Below w.heap.size w W)=>jY _ _ _ S P A a.n W (HO.out.cf.below hW zr) (by omega));have HNS:Hid (Nwb w (.slice s1 S.length s2)):=fun b hb _=>hJ HO.out.s hb;have HNP:Hid (Nwb w (.slice p1 P.length p2)):=fun b hb _=>hJ HO.out.p hb;have HNA:Hid (Nwb w (.slice a1 A.length a2)):=fun b hb _=>hJ HO.out.a hb;obtain⟨k,si,st,sg,pi,ps,pm,pp,pc,rs,rp,rn,rf,rb,rt,re,ro,rd,n,m,f0,f1,f2,f3,f4,f5,f6,body⟩:=a;simp only at hp hn HAT⊢;have hcase:k=1∨k=2∨k=3∨k=4∨k=5∨k=6∨(¬k=1∧¬k=2∧¬k=3∧¬k=4∧¬k=5∧¬k=6):=by omega
 have nn1:w.heap.size≠w.heap.size+1+1:=by omega
 go_enter Tryz.func55,Tryz.ntmps55;rcases hcase with rfl | rfl | rfl | rfl | rfl | rfl |⟨k1,k2,k3,k4,k5,k6⟩
 ·go_wp2_with (at_builtin;refine wpList_append_own_at _ rfl _ _ 26 rfl B 51 iS _ 3 24 Tryz.underlying26 hiS zS0 zS1 zS2 rfl (by decide) _ _ _ rfl ((((HO.out.s.alloc _).alloc _).alloc _).alloc _) ⟨w.heap.size+1+1+1,0,none⟩ 1 1 [.int .i64 si,.int .i64 st,.int .i64 sg] rfl rfl ?a2 (ee rfl) ?a3 ?a4 ?a5 ?_)
  case a2=>
   intro j u hj;rw [gS,Nat.zero_add];exact aj _ _ (by simp) #[.int .i64 si,.int .i64 st,.int .i64 sg] _ j u (by simpa using hj)
  case a3=>unfold maxLen;omega
  case a4=>omega
  case a5=>simp;omega
  intro v1 w1 ho1 hg1 _ hat;have HT:=aa (((Th.new w _ _ _ _).alloc _).grown hg1 (fun b hb e=>hJ HO.out.s hb e.symm));have Kp:=aa (World.ownsRow.kept ((((HO.out.p.alloc _).alloc _).alloc _).alloc _) hg1 (j5 HO.out.sp));have Ka:=aa (World.ownsRow.kept ((((HO.out.a.alloc _).alloc _).alloc _).alloc _) hg1 (j5 HO.out.sa));have Ks:Hid (w1.ownsRow B 51 3 v1 (S++ [(⟨si,st,sg⟩:Sw)]).length ((S++ [(⟨si,st,sg⟩:Sw)]).flatMap swC)):=by
   show World.ownsRow _ _ _ _ _ _ _;rw [List.length_append, ←li];exact ho1
  have HN:Hid (Nwb w v1):=fun b hb hb2 e=>by
   rcases hat with h | h
   ·exact hJ HO.out.s hb (h.symm.trans e)
   ·rw [h]at e;simp at e;omega
  obtain⟨o1,m1,rfl⟩:=aG ho1;have HCF:=aa (show CfAt w1 _ _ _ _ _ _ from⟨RowAt.of_own eC (by omega) Ks.out,RowAt.of_own bK (by omega) Kp.out,RowAt.of_own cL (by omega) Ka.out⟩);have HI3:=aa (And.intro (ay Ks.out) (And.intro (ay Kp.out) (ay Ka.out)));have HBE:=aa ((((((Below.refl _ w).alloc hB _).alloc (by simp;omega) _).alloc (by simp;omega) _).alloc (by simp;omega) _).grown hg1 (by simp;omega) (ay HO.out.s));clear hat ho1 hg1 HAT Ks Kp Ka;obtain⟨d0,d1,d2,q0,q1,q2,y0,y1,y2,f0,f1,f2⟩:=HT.out.get;go_wp2_with fail
  have F:=aa (xW HT.out hB HCF.out HBE.out HN.out HNP.out HNA.out 0 (.slice o1 (S.length+1) m1));refine bodyPost_ret (v:=.agg #[.slice o1 (S.length+1) m1,.slice p1 P.length p2,.slice a1 A.length a2]) (dU (cs:=[.slice o1 (S.length+1) m1,.slice p1 P.length p2,.slice a1 A.length a2]) Tryz.results55 rfl F.out.1 Tryz.underlying30 rfl kQ) rfl ⟨_,_,_,rfl,by simpa [nxS,nxP,nxA,Ax.s,Ax.p,Ax.r] using F.out.2.1,F.out.2.2,HI3.out⟩
 ·go_wp2_with (at_builtin;refine wpList_append_own_at _ rfl _ _ 27 rfl B 53 iP _ 5 40 Tryz.underlying27 hiP zP0 zP1 zP2 rfl (by decide) _ _ _ rfl ((((HO.out.p.alloc _).alloc _).alloc _).alloc _) ⟨w.heap.size+1+1+1,0,none⟩ 1 1 [.int .i64 pi,.int .i64 ps,.int .i64 pm,.int .i64 pp,.int .i64 pc] rfl rfl ?a2 (ee rfl) ?a3 ?a4 ?a5 ?_)
  case a2=>
   intro j u hj;rw [gS,Nat.zero_add];exact aj _ _ (by simp) #[.int .i64 pi,.int .i64 ps,.int .i64 pm,.int .i64 pp,.int .i64 pc] _ j u (by simpa using hj)
  case a3=>unfold maxLen;omega
  case a4=>omega
  case a5=>simp;omega
  intro v1 w1 ho1 hg1 _ hat;have HT:=aa (((Th.new w _ _ _ _).alloc _).grown hg1 (fun b hb e=>hJ HO.out.p hb e.symm));have Ks:=aa (World.ownsRow.kept ((((HO.out.s.alloc _).alloc _).alloc _).alloc _) hg1 HO.out.sp);have Ka:=aa (World.ownsRow.kept ((((HO.out.a.alloc _).alloc _).alloc _).alloc _) hg1 (j5 HO.out.pa));have Kp:Hid (w1.ownsRow B 53 5 v1 (P++ [(⟨pi,ps,pm,pp,pc⟩:Pr)]).length ((P++ [(⟨pi,ps,pm,pp,pc⟩:Pr)]).flatMap prC)):=by
   show World.ownsRow _ _ _ _ _ _ _;rw [List.length_append, ←li];exact ho1
  have HN:Hid (Nwb w v1):=fun b hb hb2 e=>by
   rcases hat with h | h
   ·exact hJ HO.out.p hb (h.symm.trans e)
   ·rw [h]at e;simp at e;omega
  obtain⟨o1,m1,rfl⟩:=aG ho1;have HCF:=aa (show CfAt w1 _ _ _ _ _ _ from⟨RowAt.of_own eC (by omega) Ks.out,RowAt.of_own bK (by omega) Kp.out,RowAt.of_own cL (by omega) Ka.out⟩);have HI3:=aa (And.intro (ay Ks.out) (And.intro (ay Kp.out) (ay Ka.out)));have HBE:=aa ((((((Below.refl _ w).alloc hB _).alloc (by simp;omega) _).alloc (by simp;omega) _).alloc (by simp;omega) _).grown hg1 (by simp;omega) (ay HO.out.p));clear hat ho1 hg1 HAT Ks Kp Ka;obtain⟨d0,d1,d2,q0,q1,q2,y0,y1,y2,f0,f1,f2⟩:=HT.out.get;go_wp2_with fail
  have F:=aa (xW HT.out hB HCF.out HBE.out HNS.out HN.out HNA.out 1 (.slice o1 (P.length+1) m1));refine bodyPost_ret (v:=.agg #[.slice s1 S.length s2,.slice o1 (P.length+1) m1,.slice a1 A.length a2]) (dU (cs:=[.slice s1 S.length s2,.slice o1 (P.length+1) m1,.slice a1 A.length a2]) Tryz.results55 rfl F.out.1 Tryz.underlying30 rfl kQ) rfl ⟨_,_,_,rfl,by simpa [nxS,nxP,nxA,Ax.s,Ax.p,Ax.r] using F.out.2.1,F.out.2.2,HI3.out⟩
 ·go_wp2_with (at_builtin;refine wpList_append_own_at _ rfl _ _ 28 rfl B 55 iA _ 9 72 Tryz.underlying28 hiA zA0 zA1 zA2 rfl (by decide) _ _ _ rfl ((((HO.out.a.alloc _).alloc _).alloc _).alloc _) ⟨w.heap.size+1+1+1,0,none⟩ 1 1 [.int .i64 rs,.int .i64 rp,.bool rn,.int .i64 rf,.int .i64 rb,.int .i64 rt,.int .i64 re,.int .i64 ro,.bool rd] rfl rfl ?a2 (ee rfl) ?a3 ?a4 ?a5 ?_)
  case a2=>
   intro j u hj;rw [gS,Nat.zero_add];exact aj _ _ (by simp) #[.int .i64 rs,.int .i64 rp,.bool rn,.int .i64 rf,.int .i64 rb,.int .i64 rt,.int .i64 re,.int .i64 ro,.bool rd] _ j u (by simpa using hj)
  case a3=>unfold maxLen;omega
  case a4=>omega
  case a5=>simp;omega
  intro v1 w1 ho1 hg1 _ hat;have HT:=aa (((Th.new w _ _ _ _).alloc _).grown hg1 (fun b hb e=>hJ HO.out.a hb e.symm));have Ks:=aa (World.ownsRow.kept ((((HO.out.s.alloc _).alloc _).alloc _).alloc _) hg1 HO.out.sa);have Kp:=aa (World.ownsRow.kept ((((HO.out.p.alloc _).alloc _).alloc _).alloc _) hg1 HO.out.pa);have Ka:Hid (w1.ownsRow B 55 9 v1 (A++ [(⟨rs,rp,rn,rf,rb,rt,re,ro,rd⟩:Ac)]).length ((A++ [(⟨rs,rp,rn,rf,rb,rt,re,ro,rd⟩:Ac)]).flatMap acC)):=by
   show World.ownsRow _ _ _ _ _ _ _;rw [List.length_append, ←li];exact ho1
  have HN:Hid (Nwb w v1):=fun b hb hb2 e=>by
   rcases hat with h | h
   ·exact hJ HO.out.a hb (h.symm.trans e)
   ·rw [h]at e;simp at e;omega
  obtain⟨o1,m1,rfl⟩:=aG ho1;have HCF:=aa (show CfAt w1 _ _ _ _ _ _ from⟨RowAt.of_own eC (by omega) Ks.out,RowAt.of_own bK (by omega) Kp.out,RowAt.of_own cL (by omega) Ka.out⟩);have HI3:=aa (And.intro (ay Ks.out) (And.intro (ay Kp.out) (ay Ka.out)));have HBE:=aa ((((((Below.refl _ w).alloc hB _).alloc (by simp;omega) _).alloc (by simp;omega) _).alloc (by simp;omega) _).grown hg1 (by simp;omega) (ay HO.out.a));clear hat ho1 hg1 HAT Ks Kp Ka;obtain⟨d0,d1,d2,q0,q1,q2,y0,y1,y2,f0,f1,f2⟩:=HT.out.get;go_wp2_with fail
  have F:=aa (xW HT.out hB HCF.out HBE.out HNS.out HNP.out HN.out 2 (.slice o1 (A.length+1) m1));refine bodyPost_ret (v:=.agg #[.slice s1 S.length s2,.slice p1 P.length p2,.slice o1 (A.length+1) m1]) (dU (cs:=[.slice s1 S.length s2,.slice p1 P.length p2,.slice o1 (A.length+1) m1]) Tryz.results55 rfl F.out.1 Tryz.underlying30 rfl kQ) rfl ⟨_,_,_,rfl,by simpa [nxS,nxP,nxA,Ax.s,Ax.p,Ax.r] using F.out.2.1,F.out.2.2,HI3.out⟩
 ·have hpp:=hp (.inl rfl);have hbd:=pK (fun x:Pr=>x.i==n) P;obtain⟨kk,hkk⟩:∃kk:Nat,pat P n=(kk:Int):=⟨(pat P n).toNat,by omega⟩;have hkl:kk<P.length:=by have:pat P n<P.length:=hbd.2;omega
  rw [hkk]at HAT;have HKK:=aa hkk;clear hkk hbd hpp hp hn;obtain⟨g,cap,hform, -, -⟩:=HO.out.p.form (by omega);simp only [Value.slice.injEq,true_and]at hform;obtain⟨rfl,rfl⟩:=hform;have hgw:g<w.heap.size:=bW HO.out.p rfl;go_wp2_with fail
  obtain⟨W0,hW0⟩:∃W0,W0=(((w.alloc (.cells #[.slice s1 S.length s2,.slice (some ⟨g,0,none⟩) P.length p2,.slice a1 A.length a2] 30)).alloc (.cells #[.int .i64 4,.int .i64 si,.int .i64 st,.int .i64 sg,.int .i64 pi,.int .i64 ps,.int .i64 pm,.int .i64 pp,.int .i64 pc,.int .i64 rs,.int .i64 rp,.bool rn,.int .i64 rf,.int .i64 rb,.int .i64 rt,.int .i64 re,.int .i64 ro,.bool rd,.int .i64 n,.int .i64 m,.int .i64 f0,.int .i64 f1,.int .i64 f2,.int .i64 f3,.int .i64 f4,.int .i64 f5,.int .i64 f6,.string body] 57)).alloc (.cells #[.slice none 0 0,.slice none 0 0,.slice none 0 0] 30)):=⟨_,rfl⟩;have hb0:Below w.heap.size w W0:=by rw [hW0];exact(((Below.refl _ w).alloc zr _).alloc (by simp) _).alloc (by simp;omega) _
  have hz0:W0.heap.size=w.heap.size+3:=by rw [hW0];simp
  have HT:Hid (Th w W0 (.slice s1 S.length s2) (.slice (some ⟨g,0,none⟩) P.length p2) (.slice a1 A.length a2)):=by rw [hW0];exact Th.new w _ _ _ _
  rw [←hW0];clear hW0;refine(ag HAT _ hb0).mono ?_;rintro e w1 ⟨rfl,hb1⟩;have k1:=hb0.trans (hb1.mono hb0.size);replace HT:=aa (HT.out.below hb1);obtain⟨d0,d1,d2,q0,q1,q2,y0,y1,y2,f0,f1,f2⟩:=HT.out.get;have Os:=aa (aA HO.out.s k1);have Op:=aa (aA HO.out.p k1);have Oa:=aa (aA HO.out.a k1);clear HAT hb0 hb1;go_wp2_with fail
  clear d0 d1 d2 q0 q1 q2 y0 y1 y2 f0 f1 f2;refine(pO P B g p2 kk w1 Op.out hkl (by omega)).mono ?_;rintro e w2 ⟨rfl,ho2,hg2⟩;replace HT:=aa (HT.out.grown hg2 (fun b hb e=>by simp at e;omega));have Ks:=aa (World.ownsRow.kept Os.out hg2 HO.out.sp);have Ka:=aa (World.ownsRow.kept Oa.out hg2 (j5 HO.out.pa));have HCF:Hid (CfAt w2 (.slice s1 S.length s2) (.slice (some ⟨g,0,none⟩) (P.length-1) p2) (.slice a1 A.length a2) S (P.eraseIdx kk) A):=⟨RowAt.of_own eC (by omega) Ks.out,RowAt.of_own bK (by omega) (by rw [List.length_eraseIdx_of_lt hkl];exact ho2),RowAt.of_own cL (by omega) Ka.out⟩;have HI3:=aa (And.intro (ay Ks.out) (And.intro (ay ho2) (ay Ka.out)));have HBE:Hid (Below B w w2):=(k1.mono hB).grown hg2 (Nat.le_trans hB k1.size) (fun b e=>by simp at e;subst e;exact ay HO.out.p _ rfl);clear ho2 hg2 Ks Ka Os Op Oa k1;obtain⟨d0,d1,d2,q0,q1,q2,y0,y1,y2,f0,f1,f2⟩:=HT.out.get;go_wp2_with fail
  have F:=aa (xW HT.out hB HCF.out HBE.out HNS.out HNP.out HNA.out 1 (.slice (some ⟨g,0,none⟩) (P.length-1) p2));refine bodyPost_ret (v:=.agg #[.slice s1 S.length s2,.slice (some ⟨g,0,none⟩) (P.length-1) p2,.slice a1 A.length a2]) (dU (cs:=[.slice s1 S.length s2,.slice (some ⟨g,0,none⟩) (P.length-1) p2,.slice a1 A.length a2]) Tryz.results55 rfl F.out.1 Tryz.underlying30 rfl kQ) rfl ⟨_,_,_,rfl,by simpa [nxS,nxP,nxA,HKK.out] using F.out.2.1,F.out.2.2,HI3.out⟩
 ·obtain⟨hn0,hn1⟩:=hn rfl;obtain⟨kk,rfl⟩:=Int.eq_ofNat_of_zero_le hn0;have hkl:kk<A.length:=(by omega);clear hn0 hn1 hp hn HAT;obtain⟨g,cap,hform, -, -⟩:=HO.out.a.form (by omega);simp only [Value.slice.injEq,true_and]at hform;obtain⟨rfl,rfl⟩:=hform;have hgw:g<w.heap.size:=bW HO.out.a rfl;go_wp2_with fail
  obtain⟨W0,hW0⟩:∃W0,W0=(((w.alloc (.cells #[.slice s1 S.length s2,.slice p1 P.length p2,.slice (some ⟨g,0,none⟩) A.length a2] 30)).alloc (.cells #[.int .i64 5,.int .i64 si,.int .i64 st,.int .i64 sg,.int .i64 pi,.int .i64 ps,.int .i64 pm,.int .i64 pp,.int .i64 pc,.int .i64 rs,.int .i64 rp,.bool rn,.int .i64 rf,.int .i64 rb,.int .i64 rt,.int .i64 re,.int .i64 ro,.bool rd,.int .i64 (kk:Int),.int .i64 m,.int .i64 f0,.int .i64 f1,.int .i64 f2,.int .i64 f3,.int .i64 f4,.int .i64 f5,.int .i64 f6,.string body] 57)).alloc (.cells #[.slice none 0 0,.slice none 0 0,.slice none 0 0] 30)):=⟨_,rfl⟩;have hb0:Below w.heap.size w W0:=by rw [hW0];exact(((Below.refl _ w).alloc zr _).alloc (by simp) _).alloc (by simp;omega) _
  have hz0:W0.heap.size=w.heap.size+3:=by rw [hW0];simp
  have HT:Hid (Th w W0 (.slice s1 S.length s2) (.slice p1 P.length p2) (.slice (some ⟨g,0,none⟩) A.length a2)):=by rw [hW0];exact Th.new w _ _ _ _
  rw [←hW0];clear hW0;have k1:=hb0;have Os:=aa (aA HO.out.s k1);have Op:=aa (aA HO.out.p k1);have Oa:=aa (aA HO.out.a k1);clear hb0;refine(pW A B g a2 kk W0 Oa.out hkl (by omega)).mono ?_;rintro e w2 ⟨rfl,ho2,hg2⟩;replace HT:=aa (HT.out.grown hg2 (fun b hb e=>by simp at e;omega));have Ks:=aa (World.ownsRow.kept Os.out hg2 HO.out.sa);have Kp:=aa (World.ownsRow.kept Op.out hg2 HO.out.pa);have HCF:Hid (CfAt w2 (.slice s1 S.length s2) (.slice p1 P.length p2) (.slice (some ⟨g,0,none⟩) (A.length-1) a2) S P (A.eraseIdx kk)):=⟨RowAt.of_own eC (by omega) Ks.out,RowAt.of_own bK (by omega) Kp.out,RowAt.of_own cL (by omega) (by rw [List.length_eraseIdx_of_lt hkl];exact ho2)⟩;have HI3:=aa (And.intro (ay Ks.out) (And.intro (ay Kp.out) (ay ho2)));have HBE:Hid (Below B w w2):=(k1.mono hB).grown hg2 (Nat.le_trans hB k1.size) (fun b e=>by simp at e;subst e;exact ay HO.out.a _ rfl);clear ho2 hg2 Ks Kp Os Op Oa k1;obtain⟨d0,d1,d2,q0,q1,q2,y0,y1,y2,f0,f1,f2⟩:=HT.out.get;go_wp2_with fail
  have F:=aa (xW HT.out hB HCF.out HBE.out HNS.out HNP.out HNA.out 2 (.slice (some ⟨g,0,none⟩) (A.length-1) a2));refine bodyPost_ret (v:=.agg #[.slice s1 S.length s2,.slice p1 P.length p2,.slice (some ⟨g,0,none⟩) (A.length-1) a2]) (dU (cs:=[.slice s1 S.length s2,.slice p1 P.length p2,.slice (some ⟨g,0,none⟩) (A.length-1) a2]) Tryz.results55 rfl F.out.1 Tryz.underlying30 rfl kQ) rfl ⟨_,_,_,rfl,by simpa [nxS,nxP,nxA,Int.toNat_natCast] using F.out.2.1,F.out.2.2,HI3.out⟩
 ·have hpp:=hp (.inr rfl);have hbd:=pK (fun x:Pr=>x.i==n) P;obtain⟨kk,hkk⟩:∃kk:Nat,pat P n=(kk:Int):=⟨(pat P n).toNat,by omega⟩;have hkl:kk<P.length:=by have:pat P n<P.length:=hbd.2;omega
  rw [hkk]at HAT;have HKK:=aa hkk;clear hkk hbd hpp hp hn;obtain⟨g,cap,hform, -, -⟩:=HO.out.p.form (by omega);simp only [Value.slice.injEq,true_and]at hform;obtain⟨rfl,rfl⟩:=hform;have hgw:g<w.heap.size:=bW HO.out.p rfl;have q3:(0:Int)≤(kk:Int):=(by omega);have q4:(kk:Int)<(P.length:Int):=(by omega);go_wp2_with fail
  obtain⟨W0,hW0⟩:∃W0,W0=(((w.alloc (.cells #[.slice s1 S.length s2,.slice (some ⟨g,0,none⟩) P.length p2,.slice a1 A.length a2] 30)).alloc (.cells #[.int .i64 6,.int .i64 si,.int .i64 st,.int .i64 sg,.int .i64 pi,.int .i64 ps,.int .i64 pm,.int .i64 pp,.int .i64 pc,.int .i64 rs,.int .i64 rp,.bool rn,.int .i64 rf,.int .i64 rb,.int .i64 rt,.int .i64 re,.int .i64 ro,.bool rd,.int .i64 n,.int .i64 m,.int .i64 f0,.int .i64 f1,.int .i64 f2,.int .i64 f3,.int .i64 f4,.int .i64 f5,.int .i64 f6,.string body] 57)).alloc (.cells #[.slice none 0 0,.slice none 0 0,.slice none 0 0] 30)):=⟨_,rfl⟩;have hb0:Below w.heap.size w W0:=by rw [hW0];exact(((Below.refl _ w).alloc zr _).alloc (by simp) _).alloc (by simp;omega) _
  have hz0:W0.heap.size=w.heap.size+3:=by rw [hW0];simp
  have HT:Hid (Th w W0 (.slice s1 S.length s2) (.slice (some ⟨g,0,none⟩) P.length p2) (.slice a1 A.length a2)):=by rw [hW0];exact Th.new w _ _ _ _
  have xn:W0.cell? ⟨w.heap.size+1,18,none⟩=some (.int .i64 n):=by rw [hW0];exact aq (aj _ _ (by simp) _ _ _ _ rfl) _
  have xm:W0.cell? ⟨w.heap.size+1,19,none⟩=some (.int .i64 m):=by rw [hW0];exact aq (aj _ _ (by simp) _ _ _ _ rfl) _
  rw [←hW0];clear hW0;obtain⟨c0,c1,c2, -⟩:=HT.out.get;have O1:=aa (aA HO.out.p hb0);have hrow:=(O1.out.cellAt (kk*5+4) (by omega)).trans (qh bK P kk _ (cv pr0 hkl) 4 _ rfl);have hrf:=O1.out.frozenAt (kk*5+4);have hg1:g≠w.heap.size:=(by omega);have hg2:g≠w.heap.size+1:=(by omega);have hgW:g<W0.heap.size:=(by omega);go_region_held3 (fun w'=>w'.cell? ⟨w.heap.size,0,none⟩=some (.slice s1 S.length s2)∧w'.cell? ⟨w.heap.size,1,none⟩=some (.slice (some ⟨g,0,none⟩) P.length p2)∧w'.cell? ⟨w.heap.size,2,none⟩=some (.slice a1 A.length a2)∧w'.cell? ⟨w.heap.size+1,18,none⟩=some (.int .i64 n)∧w'.cell? ⟨w.heap.size+1,19,none⟩=some (.int .i64 m)) (go_keep)
   (first |(go_at_call 84;refine(ag HAT _ hb0.drew).mono ?_;rintro e w1 ⟨rfl,hc1⟩;have g1:Below W0.heap.size W0 w1:=((Below.refl _ W0).drew).trans hc1;have v0:=zC c0 g1;have v1:=zC c1 g1;have v2:=zC c2 g1;have v3:=zC xn g1;have v4:=zC xm g1;have vr:=zC hrow g1;have vf:=(g1.frozen (p:=⟨g,kk*5+4,none⟩) hgW).trans hrf))
  have k1:=hb0.trans (g1.mono hb0.size);replace HT:=aa ((HT.out.below g1).grown (gg (j:=kk*5+4) (v:=.int .i64 m) (gZ w1 (some g))) (fun b hb e=>by simp at e;omega));have K1:=lm (aA HO.out.p k1) (kk*5+4) (.int .i64 m);rw [qP P kk m hkl]at K1;have K0:=World.ownsRow.kept (aA HO.out.s k1) (gg (j:=kk*5+4) (v:=.int .i64 m) (gZ w1 (some g))) HO.out.sp;have K2:=World.ownsRow.kept (aA HO.out.a k1) (gg (j:=kk*5+4) (v:=.int .i64 m) (gZ w1 (some g))) (j5 HO.out.pa);have HCF:Hid (CfAt (w1.setCell ⟨g,kk*5+4,none⟩ (.int .i64 m)) (.slice s1 S.length s2) (.slice (some ⟨g,0,none⟩) P.length p2) (.slice a1 A.length a2) S (P.set kk ⟨(P.getD kk pr0).i,(P.getD kk pr0).s,(P.getD kk pr0).m,(P.getD kk pr0).p,m⟩) A):=⟨RowAt.of_own eC (by omega) K0,RowAt.of_own bK (by omega) (by rw [List.length_set];exact K1),RowAt.of_own cL (by omega) K2⟩;have HI3:=aa (And.intro (ay (K0)) (And.intro (ay (K1)) (ay (K2))));have HBE:Hid (Below B w (w1.setCell ⟨g,kk*5+4,none⟩ (.int .i64 m))):=(k1.mono hB).setCell (p:=⟨g,kk*5+4,none⟩) (ay HO.out.p _ rfl) _;clear K0 K1 K2 O1 k1 g1 hc1 hb0 v0 v1 v2 v3 v4 vr vf hrow hrf HAT c0 c1 c2 xn xm;generalize (w1.setCell ⟨g,kk*5+4,none⟩ (.int .i64 m))=w2 at*;obtain⟨d0,d1,d2,q0,q1,q2, -, -, -,f0,f1,f2⟩:=HT.out.get;go_wp2_with fail
  have F:=aa (BB hB HCF.out HBE.out HNS.out HNP.out HNA.out q0 q1 q2);refine bodyPost_ret (v:=.agg #[.slice s1 S.length s2,.slice (some ⟨g,0,none⟩) P.length p2,.slice a1 A.length a2]) (dU (cs:=[.slice s1 S.length s2,.slice (some ⟨g,0,none⟩) P.length p2,.slice a1 A.length a2]) Tryz.results55 rfl F.out.1 Tryz.underlying30 rfl kQ) rfl ⟨_,_,_,rfl,by simpa [nxS,nxP,nxA,HKK.out] using F.out.2.1,F.out.2.2,HI3.out⟩
 ·clear HAT;obtain⟨W0,hW0⟩:∃W0,W0=(((w.alloc (.cells #[.slice s1 S.length s2,.slice p1 P.length p2,.slice a1 A.length a2] 30)).alloc (.cells #[.int .i64 k,.int .i64 si,.int .i64 st,.int .i64 sg,.int .i64 pi,.int .i64 ps,.int .i64 pm,.int .i64 pp,.int .i64 pc,.int .i64 rs,.int .i64 rp,.bool rn,.int .i64 rf,.int .i64 rb,.int .i64 rt,.int .i64 re,.int .i64 ro,.bool rd,.int .i64 n,.int .i64 m,.int .i64 f0,.int .i64 f1,.int .i64 f2,.int .i64 f3,.int .i64 f4,.int .i64 f5,.int .i64 f6,.string body] 57)).alloc (.cells #[.slice s1 S.length s2,.slice p1 P.length p2,.slice a1 A.length a2] 30)):=⟨_,rfl⟩;have hb0:Below w.heap.size w W0:=by rw [hW0];exact(((Below.refl _ w).alloc zr _).alloc (by simp) _).alloc (by simp;omega) _
  have q0:W0.cell? ⟨w.heap.size+1+1,0,none⟩=some (.slice s1 S.length s2):=by rw [hW0];exact aj _ _ (by simp) _ _ _ _ rfl
  have q1:W0.cell? ⟨w.heap.size+1+1,1,none⟩=some (.slice p1 P.length p2):=by rw [hW0];exact aj _ _ (by simp) _ _ _ _ rfl
  have q2:W0.cell? ⟨w.heap.size+1+1,2,none⟩=some (.slice a1 A.length a2):=by rw [hW0];exact aj _ _ (by simp) _ _ _ _ rfl
  have HCF:=aa (HO.out.cf.below hb0 zr);have HI3:=aa (And.intro (ay HO.out.s) (And.intro (ay HO.out.p) (ay HO.out.a)));have HBE:=aa (hb0.mono hB);go_wp2_with fail
  rw [←hW0];clear hW0;refine bodyPost_ret (v:=.agg #[.slice s1 S.length s2,.slice p1 P.length p2,.slice a1 A.length a2]) ?_ rfl ⟨_,_,_,rfl,by simpa [nxS,nxP,nxA,k1,k2,k3,k4,k5,k6] using HCF.out,HBE.out,HI3.out⟩;simp [results,Tryz.results55,go_sem,q0,q1,q2]
def AD:Value→Bool
 | .slice _ _ _=>false
 | _=>true
theorem RowAt.set_box {α:Type} {C:α→List Value} {sz:Nat} (hC:∀x,(C x).all AD=true) {w:World} {v:Value} {l:List α} (h:RowAt C sz w v l) {b o:Nat} {x:Option Addr} {y z:Nat} (hp:w.cell? ⟨b,o,none⟩=some (.slice x y z)) (u:Value):RowAt C sz (w.setCell ⟨b,o,none⟩ u) v l:=by
 obtain⟨a,cap,rfl,hn,h0 |⟨b',off,rfl,hc,hL⟩⟩:=h
 ·exact⟨a,cap,rfl,hn,.inl h0⟩
 ·refine⟨_,cap,rfl,hn,.inr ⟨b',off,rfl,hc,fun i r hr j q hq=>?_⟩⟩;have h1:=hL i r hr j q hq;rw [World.cell?_setCell_other _ _ _ _ (fun e=>?_)]
  ·exact h1
  ·rw [←e,hp]at h1;simp at h1;have:=List.all_eq_true.1 (hC r) q (List.mem_of_getElem? hq);rw [←h1]at this;simp [AD]at this
theorem CfAt.set_box {w:World} {sv pv av:Value} {S:List Sw} {P:List Pr} {A:List Ac} (h:CfAt w sv pv av S P A) {b o:Nat} {x:Option Addr} {y z:Nat} (hp:w.cell? ⟨b,o,none⟩=some (.slice x y z)) (u:Value):CfAt (w.setCell ⟨b,o,none⟩ u) sv pv av S P A:=
 ⟨RowAt.set_box (fun _=>rfl) h.1 hp u,RowAt.set_box (fun _=>rfl) h.2.1 hp u,RowAt.set_box (fun _=>rfl) h.2.2 hp u⟩
theorem eG {w w':World} {B b o:Nat} {cs:List Value} (h:w.rangeAt b o cs) (hb:Below B w w') (hB:w.heap.size≤B):w'.rangeAt b o cs:=fun j v hv=>dw (h j v hv) hb hB
theorem iK {w:World} {b o b' o':Nat} {cs:List Value} {x:Value} (h:w.rangeAt b o cs) (hne:b'≠b):(w.setCell ⟨b',o',none⟩ x).rangeAt b o cs:=fun j v hv=>
 (World.cell?_setCell_other _ _ _ _ (fun e=>hne (by simpa using congrArg Addr.block e))).trans (h j v hv)
theorem dM:(Tryz.prog.info? 57).map (·.size)=some 28:=by kernel_rfl
def gl (S:List Sw) (P:List Pr) (A:List Ac) (a:Ax):Int:=if may S P A=true then bO S P A a else 8
def apS (S:List Sw) (P:List Pr) (A:List Ac) (a:Ax):List Sw:=if gl S P A a=0 then nxS S a else []
def apP (S:List Sw) (P:List Pr) (A:List Ac) (a:Ax):List Pr:=if gl S P A a=0 then nxP P a else []
def apA (S:List Sw) (P:List Pr) (A:List Ac) (a:Ax):List Ac:=if gl S P A a=0 then nxA A a else []
theorem wZ {S:List Sw} {P:List Pr} {A:List Ac} {a:Ax} (h:bO S P A a=0) (hk:a.k=4∨a.k=6):0≤pat P a.n:=by
 unfold bO at h;by_cases hb:inB (pat P a.n) 0 ((P.length:Int)-1)=true
 ·simp [inB]at hb;omega
 ·rcases hk with hk | hk
  ·rw [if_neg (by omega),if_neg (by omega),if_neg (by omega),if_pos hk,if_neg hb]at h;omega
  ·rw [if_neg (by omega),if_neg (by omega),if_neg (by omega),if_neg (by omega),if_pos hk,if_neg hb]at h;omega
theorem zl {S:List Sw} {P:List Pr} {A:List Ac} {a:Ax} (h:bO S P A a=0) (hk:a.k=5):0≤a.n∧a.n<A.length:=by
 unfold bO at h;rw [if_neg (by omega),if_neg (by omega),if_neg (by omega),if_neg (by omega),if_neg (by omega),if_pos hk]at h;by_cases hb:inB a.n 0 ((A.length:Int)-1)=true
 ·simp [inB]at hb;omega
 ·rw [if_neg hb]at h;omega
theorem Hi3.none (B:Nat):Hi3 B (.slice none 0 0) (.slice none 0 0) (.slice none 0 0):=⟨fun g h=>by simp [Value.ownBlock]at h,fun g h=>by simp [Value.ownBlock]at h,fun g h=>by simp [Value.ownBlock]at h⟩
theorem Hi3.mono {B B':Nat} {x y z:Value} (h:Hi3 B x y z) (hb:B'≤B):Hi3 B' x y z:=⟨fun g e=>Nat.le_trans hb (h.1 g e),fun g e=>Nat.le_trans hb (h.2.1 g e),fun g e=>Nat.le_trans hb (h.2.2 g e)⟩
theorem uP (sv pv av:Value) (S:List Sw) (P:List Pr) (A:List Ac) (a:Ax) (w:World) (hC:CfAt w sv pv av S P A) (h1:S.length*24≤140737488355328) (h2:P.length*40≤140737488355328) (h3:A.length*72≤140737488355328):
  Calls Tryz.prog 32 #[.agg #[sv,pv,av],eF a] w fun e w'=>∃su pu au,e= .returned (.tuple #[.agg #[su,pu,au],.int .i64 (gl S P A a)])∧CfAt w' su pu au (apS S P A a) (apP S P A a) (apA S P A a)∧Below w.heap.size w w'∧Hi3 w.heap.size su pu au:=by
 have HCK:=aa (fun W (hW:Below w.heap.size w W)=>jF sv pv av S P A W (hC.below hW zr) h1 h2 h3);have HCA:=aa (fun W (hW:Below w.heap.size w W)=>pJ sv pv av S P A a W (hC.below hW zr) h1 h2 h3);have HCY:=aa (fun W (hW:Below w.heap.size w W)=>xR sv pv av S P A W (hC.below hW zr) h1 h2 h3);have HCH:Hid (∀(W:World) (B:Nat) (x y z:Value),may S P A=true→bO S P A a=0→Own3 W B x y z S P A→B≤W.heap.size→Calls Tryz.prog 55 #[.agg #[x,y,z],eF a] W fun e w'=>∃su pu au,e= .returned (.agg #[su,pu,au])∧CfAt w' su pu au (nxS S a) (nxP P a) (nxA A a)∧Below B W w'∧Hi3 B su pu au):=fun W B x y z hm hf ho hB=>
  rS B x y z S P A a W ho hB (js hm).1 (js hm).2.1 (js hm).2.2 (wZ hf) (zl hf)
 have HE0:Hid (may S P A=false→gl S P A a=8∧apS S P A a= []∧apP S P A a= []∧apA S P A a= []):=fun h=>by
  have e:gl S P A a=8:=by unfold gl;rw [h];rfl
  exact⟨e,by unfold apS;rw [e];rfl,by unfold apP;rw [e];rfl,by unfold apA;rw [e];rfl⟩
 have HE1:Hid (may S P A=true→bO S P A a≠0→gl S P A a=bO S P A a∧apS S P A a= []∧apP S P A a= []∧apA S P A a= []):=fun h hn=>by
  have e:gl S P A a=bO S P A a:=by unfold gl;rw [if_pos h]
  exact⟨e,by unfold apS;rw [e,if_neg hn],by unfold apP;rw [e,if_neg hn],by unfold apA;rw [e,if_neg hn]⟩
 have HE2:Hid (may S P A=true→bO S P A a=0→gl S P A a=0∧apS S P A a=nxS S a∧apP S P A a=nxP P a∧apA S P A a=nxA A a):=fun h hn=>by
  have e:gl S P A a=0:=by unfold gl;rw [if_pos h,hn]
  exact⟨e,by unfold apS;rw [if_pos e],by unfold apP;rw [if_pos e],by unfold apA;rw [if_pos e]⟩
 obtain⟨E,hE⟩:∃E:Int,E=if may S P A=true then 0 else 8:=⟨_,rfl⟩;rw [←hE]at HCK;have HE:=aa hE;clear hE;generalize may S P A=M at*;generalize bO S P A a=G at*;generalize gl S P A a=EE at*;generalize apS S P A a=LS at*;generalize apP S P A a=LP at*;generalize apA S P A a=LA at*;generalize nxS S a=NS at*;generalize nxP P a=NP at*;generalize nxA A a=NA at*;obtain⟨s1,s2,rfl⟩:=hC.1.slice;obtain⟨p1,p2,rfl⟩:=hC.2.1.slice;obtain⟨a1,a2,rfl⟩:=hC.2.2.slice;clear hC;obtain⟨k,si,st,sg,pi,ps,pm,pp,pc,rs,rp,rn,rf,rb,rt,re,ro,rd,n,m,f0,f1,f2,f3,f4,f5,f6,body⟩:=a;go_enter Tryz.func32,Tryz.ntmps32;go_wp2_with fail
 obtain⟨W0,hW0⟩:∃W0,W0=((w.alloc (.cells #[.slice s1 S.length s2,.slice p1 P.length p2,.slice a1 A.length a2] 30)).alloc (.cells #[.int .i64 k,.int .i64 si,.int .i64 st,.int .i64 sg,.int .i64 pi,.int .i64 ps,.int .i64 pm,.int .i64 pp,.int .i64 pc,.int .i64 rs,.int .i64 rp,.bool rn,.int .i64 rf,.int .i64 rb,.int .i64 rt,.int .i64 re,.int .i64 ro,.bool rd,.int .i64 n,.int .i64 m,.int .i64 f0,.int .i64 f1,.int .i64 f2,.int .i64 f3,.int .i64 f4,.int .i64 f5,.int .i64 f6,.string body] 57)).alloc (.cells #[.slice none 0 0,.slice none 0 0,.slice none 0 0] 30):=⟨_,rfl⟩;have hb0:Below w.heap.size w W0:=by rw [hW0];exact(((Below.refl _ w).alloc zr _).alloc (by simp) _).alloc (by simp;omega) _
 have hz0:W0.heap.size=w.heap.size+3:=by rw [hW0];simp
 have c0:W0.cell? ⟨w.heap.size,0,none⟩=some (.slice s1 S.length s2):=by rw [hW0];exact aq (aq (aj w _ rfl _ _ _ _ rfl) _) _
 have c1:W0.cell? ⟨w.heap.size,1,none⟩=some (.slice p1 P.length p2):=by rw [hW0];exact aq (aq (aj w _ rfl _ _ _ _ rfl) _) _
 have c2:W0.cell? ⟨w.heap.size,2,none⟩=some (.slice a1 A.length a2):=by rw [hW0];exact aq (aq (aj w _ rfl _ _ _ _ rfl) _) _
 have X:Hid (W0.rangeAt (w.heap.size+1) 0 [Value.int .i64 k,.int .i64 si,.int .i64 st,.int .i64 sg,.int .i64 pi,.int .i64 ps,.int .i64 pm,.int .i64 pp,.int .i64 pc,.int .i64 rs,.int .i64 rp,.bool rn,.int .i64 rf,.int .i64 rb,.int .i64 rt,.int .i64 re,.int .i64 ro,.bool rd,.int .i64 n,.int .i64 m,.int .i64 f0,.int .i64 f1,.int .i64 f2,.int .i64 f3,.int .i64 f4,.int .i64 f5,.int .i64 f6,.string body]):=by
  rw [hW0];intro j v hj;rw [Nat.zero_add];exact aq (aj _ _ (by simp) #[.int .i64 k,.int .i64 si,.int .i64 st,.int .i64 sg,.int .i64 pi,.int .i64 ps,.int .i64 pm,.int .i64 pp,.int .i64 pc,.int .i64 rs,.int .i64 rp,.bool rn,.int .i64 rf,.int .i64 rb,.int .i64 rt,.int .i64 re,.int .i64 ro,.bool rd,.int .i64 n,.int .i64 m,.int .i64 f0,.int .i64 f1,.int .i64 f2,.int .i64 f3,.int .i64 f4,.int .i64 f5,.int .i64 f6,.string body] _ j v (by simpa using hj)) _
 have r0:W0.cell? ⟨w.heap.size+1+1,0,none⟩=some (.slice none 0 0):=by rw [hW0];exact aj _ _ (by simp) _ _ _ _ rfl
 have r1:W0.cell? ⟨w.heap.size+1+1,1,none⟩=some (.slice none 0 0):=by rw [hW0];exact aj _ _ (by simp) _ _ _ _ rfl
 have r2:W0.cell? ⟨w.heap.size+1+1,2,none⟩=some (.slice none 0 0):=by rw [hW0];exact aj _ _ (by simp) _ _ _ _ rfl
 have z0:W0.frozen? ⟨w.heap.size+1+1,0,none⟩=false:=by rw [hW0];exact dg _ _ (by simp) _ _ _
 have z1:W0.frozen? ⟨w.heap.size+1+1,1,none⟩=false:=by rw [hW0];exact dg _ _ (by simp) _ _ _
 have z2:W0.frozen? ⟨w.heap.size+1+1,2,none⟩=false:=by rw [hW0];exact dg _ _ (by simp) _ _ _
 have hRlt:w.heap.size+1+1<W0.heap.size:=by omega
 rw [←hW0];clear hW0 hz0;refine(ag HCK _ hb0).mono ?_;rintro e w1 ⟨rfl,hb1⟩;have k1:=hb0.trans (hb1.mono hb0.size);have ac0:=zC c0 hb1;have ac1:=zC c1 hb1;have ac2:=zC c2 hb1;have aX:=aa (eG X.out hb1 zr);have ar0:=zC r0 hb1;have ar1:=zC r1 hb1;have ar2:=zC r2 hb1;have az0:=(hb1.frozen (p:=⟨w.heap.size+1+1,0,none⟩) (by show _<W0.heap.size;exact hRlt)).trans z0;have az1:=(hb1.frozen (p:=⟨w.heap.size+1+1,1,none⟩) (by show _<W0.heap.size;exact hRlt)).trans z1;have az2:=(hb1.frozen (p:=⟨w.heap.size+1+1,2,none⟩) (by show _<W0.heap.size;exact hRlt)).trans z2;clear c0 c1 c2 r0 r1 r2 z0 z1 z2 X;have hR1:w.heap.size+1+1<w1.heap.size:=Nat.lt_of_lt_of_le hRlt hb1.size;clear hb0 hb1 HCK hRlt;cases M
 ·obtain rfl:E=8:=HE.out;obtain⟨rfl,rfl,rfl,rfl⟩:=HE0.out rfl;clear HCA HCY HCH HE HE0 HE1 HE2 ac0 ac1 ac2 aX;go_wp2_with fail
  obtain⟨u0,u1,u2⟩:=xS ar0 ar1 ar2 (.slice none 0 0) (.slice none 0 0) (.slice none 0 0);have HBE:=aa ((((k1).setCell (p:=⟨w.heap.size+1+1,0,none⟩) (by show w.heap.size≤w.heap.size+1+1;omega) (.slice none 0 0)).setCell (p:=⟨w.heap.size+1+1,1,none⟩) (by show w.heap.size≤w.heap.size+1+1;omega) (.slice none 0 0)).setCell (p:=⟨w.heap.size+1+1,2,none⟩) (by show w.heap.size≤w.heap.size+1+1;omega) (.slice none 0 0));have HCF:=aa ((⟨RowAt.nil _ _ _,RowAt.nil _ _ _,RowAt.nil _ _ _⟩:CfAt (((w1.setCell ⟨w.heap.size+1+1,0,none⟩ (.slice none 0 0)).setCell ⟨w.heap.size+1+1,1,none⟩ (.slice none 0 0)).setCell ⟨w.heap.size+1+1,2,none⟩ (.slice none 0 0)) (.slice none 0 0) (.slice none 0 0) (.slice none 0 0) [] [] []));refine bodyPost_ret (v:=.tuple #[.agg #[.slice none 0 0,.slice none 0 0,.slice none 0 0],.int .i64 8]) ?_ rfl ⟨_,_,_,rfl,HCF.out,HBE.out,Hi3.none _⟩;clear HCF HBE ar0 az0 ar1 az1 ar2 az2;generalize (((w1.setCell ⟨w.heap.size+1+1,0,none⟩ (.slice none 0 0)).setCell ⟨w.heap.size+1+1,1,none⟩ (.slice none 0 0)).setCell ⟨w.heap.size+1+1,2,none⟩ (.slice none 0 0))=W at*;simp [results,Tryz.results32,go_sem,u0,u1,u2]
 ·obtain rfl:E=0:=HE.out;have HF1:=aa (HE1.out rfl);have HF2:=aa (HE2.out rfl);have HCH1:=aa (fun W B x y z=>HCH.out W B x y z rfl);clear HE HE0 HE1 HE2 HCH;go_wp2_with (refine wpList_load_mid rfl 57 (.tmp 3) rfl (w.heap.size+1) 0 rfl [Value.int .i64 k,.int .i64 si,.int .i64 st,.int .i64 sg,.int .i64 pi,.int .i64 ps,.int .i64 pm,.int .i64 pp,.int .i64 pc,.int .i64 rs,.int .i64 rp,.bool rn,.int .i64 rf,.int .i64 rb,.int .i64 rt,.int .i64 re,.int .i64 ro,.bool rd,.int .i64 n,.int .i64 m,.int .i64 f0,.int .i64 f1,.int .i64 f2,.int .i64 f3,.int .i64 f4,.int .i64 f5,.int .i64 f6,.string body] _ aX.out Tryz.underlying57 rfl dM ?_)
  refine(ag HCA _ k1).mono ?_;rintro e w2 ⟨rfl,hb2⟩;have k2:=k1.trans (hb2.mono k1.size);have bc0:=zC ac0 hb2;have bc1:=zC ac1 hb2;have bc2:=zC ac2 hb2;have bX:=aa (eG aX.out hb2 zr);have br0:=zC ar0 hb2;have br1:=zC ar1 hb2;have br2:=zC ar2 hb2;have bz0:=(hb2.frozen (p:=⟨w.heap.size+1+1,0,none⟩) (by show _<w1.heap.size;exact hR1)).trans az0;have bz1:=(hb2.frozen (p:=⟨w.heap.size+1+1,1,none⟩) (by show _<w1.heap.size;exact hR1)).trans az1;have bz2:=(hb2.frozen (p:=⟨w.heap.size+1+1,2,none⟩) (by show _<w1.heap.size;exact hR1)).trans az2;clear ac0 ac1 ac2 ar0 ar1 ar2 az0 az1 az2 aX;have hR2:w.heap.size+1+1<w2.heap.size:=Nat.lt_of_lt_of_le hR1 hb2.size;clear k1 hb2 HCA hR1;by_cases hG:G=0
  ·subst hG;obtain⟨rfl,rfl,rfl,rfl⟩:=HF2.out rfl;have HCH2:=aa (fun W B x y z=>HCH1.out W B x y z rfl);clear HF1 HF2 HCH1;go_wp2_with fail
   refine wp_region_held_drew (S:=(fun w'=>w'.cell? ⟨w.heap.size,0,none⟩=some (.slice s1 S.length s2)∧w'.cell? ⟨w.heap.size,1,none⟩=some (.slice p1 P.length p2)∧w'.cell? ⟨w.heap.size,2,none⟩=some (.slice a1 A.length a2)∧w'.rangeAt (w.heap.size+1) 0 [Value.int .i64 k,.int .i64 si,.int .i64 st,.int .i64 sg,.int .i64 pi,.int .i64 ps,.int .i64 pm,.int .i64 pp,.int .i64 pc,.int .i64 rs,.int .i64 rp,.bool rn,.int .i64 rf,.int .i64 rb,.int .i64 rt,.int .i64 re,.int .i64 ro,.bool rd,.int .i64 n,.int .i64 m,.int .i64 f0,.int .i64 f1,.int .i64 f2,.int .i64 f3,.int .i64 f4,.int .i64 f5,.int .i64 f6,.string body])) (by kernel_rfl) ⟨bc0,bc1,bc2,bX.out⟩ (fun hHeld=>?_);refine tq 0 21 rfl (by kernel_rfl) (fun _ _ _ h=>h) rfl ‹_› (by intro w h;go_simp <;>with_reducible rfl) ?_;simp only [nz];refine wpAnyH_take (i:=2) (oi:=⟨some 23,_,_,_,_,_⟩) (v:=.agg #[.int .i64 k,.int .i64 si,.int .i64 st,.int .i64 sg,.int .i64 pi,.int .i64 ps,.int .i64 pm,.int .i64 pp,.int .i64 pc,.int .i64 rs,.int .i64 rp,.bool rn,.int .i64 rf,.int .i64 rb,.int .i64 rt,.int .i64 re,.int .i64 ro,.bool rd,.int .i64 n,.int .i64 m,.int .i64 f0,.int .i64 f1,.int .i64 f2,.int .i64 f3,.int .i64 f4,.int .i64 f5,.int .i64 f6,.string body]) rfl (by kernel_rfl) (by kernel_rfl) (by kernel_rfl) (fun _ _ _ h=>h) (yieldsIf_load_mid (by rfl) 57 (.tmp 3) rfl (w.heap.size+1) 0 rfl [Value.int .i64 k,.int .i64 si,.int .i64 st,.int .i64 sg,.int .i64 pi,.int .i64 ps,.int .i64 pm,.int .i64 pp,.int .i64 pc,.int .i64 rs,.int .i64 rp,.bool rn,.int .i64 rf,.int .i64 rb,.int .i64 rt,.int .i64 re,.int .i64 ro,.bool rd,.int .i64 n,.int .i64 m,.int .i64 f0,.int .i64 f1,.int .i64 f2,.int .i64 f3,.int .i64 f4,.int .i64 f5,.int .i64 f6,.string body] _ (fun w h=>h.2.2.2) Tryz.underlying57 rfl dM) (by assumption) ?_;(try simp only [nz]);refine Go.Proofs.YtaiedioffemhdaaGreat.rs 1 22 (by kernel_rfl) rfl (fun K hK=>?_);go_simp;refine(ag HCY _ k2.drew).mono ?_;rintro e w3 ⟨y1,y2,y3,rfl,ho3,hb3⟩;obtain⟨o1,m1,hv1⟩:=aG ho3.s;obtain⟨o2,m2,hv2⟩:=aG ho3.p;obtain⟨o3,m3,hv3⟩:=aG ho3.a;subst hv1 hv2 hv3;have HO3:=aa ho3;clear ho3;have g3:Below w2.heap.size w2 w3:=((Below.refl _ w2).drew).trans hb3;have k3:=k2.trans (g3.mono k2.size);go_wp2_with fail
   refine hK.out _ _ ⟨zC bc0 g3,zC bc1 g3,zC bc2 g3,eG bX.out g3 zr⟩ (fun hHeld=>?_);clear hK K;(try simp only [nz]);refine Go.Proofs.YtaiedioffemhdaaGreat.rs 3 24 (by kernel_rfl) rfl (fun K hK=>?_);go_simp;refine(ag HCH2 _ _ _ _ _ HO3.out (show w2.drew.heap.size≤w3.heap.size from g3.size)).mono ?_;rintro e w4 ⟨z1,z2,z3,rfl,hcf4,hb4,hi4⟩;have HI4:=aa hi4;clear hi4;have HC4:=aa hcf4;obtain⟨v1,n1,hv1⟩:=hcf4.1.slice;obtain⟨v2,n2,hv2⟩:=hcf4.2.1.slice;obtain⟨v3,n3,hv3⟩:=hcf4.2.2.slice;subst hv1 hv2 hv3;clear hcf4;have g4:Below w2.heap.size w2 w4:=g3.trans hb4;have HI5:=aa (HI4.out.mono (show w.heap.size≤w2.drew.heap.size from k2.size));clear HI4;have k4:=k2.trans (g4.mono k2.size);go_wp2_with fail
   refine hK.out _ _ ⟨zC bc0 g4,zC bc1 g4,zC bc2 g4,eG bX.out g4 zr⟩ (fun hHeld=>?_);clear hK K;(try simp only [nz]);have dr0:=zC br0 g4;have dr1:=zC br1 g4;have dr2:=zC br2 g4;have dz0:=(g4.frozen (p:=⟨w.heap.size+1+1,0,none⟩) hR2).trans bz0;have dz1:=(g4.frozen (p:=⟨w.heap.size+1+1,1,none⟩) hR2).trans bz1;have dz2:=(g4.frozen (p:=⟨w.heap.size+1+1,2,none⟩) hR2).trans bz2;have e0:=zC bc0 g4;have e1:=zC bc1 g4;have e2:=zC bc2 g4;have HXX:=aa (eG bX.out g4 zr);refine Go.Proofs.YtaiedioffemhdaaGreat.rn 4 (by kernel_rfl) rfl (fun K hK=>?_);go_simp;refine hK.out _ _ ⟨(World.cell?_setCell_other _ _ _ _ (by simp <;>omega)).trans ((World.cell?_setCell_other _ _ _ _ (by simp <;>omega)).trans ((World.cell?_setCell_other _ _ _ _ (by simp <;>omega)).trans e0)),(World.cell?_setCell_other _ _ _ _ (by simp <;>omega)).trans ((World.cell?_setCell_other _ _ _ _ (by simp <;>omega)).trans ((World.cell?_setCell_other _ _ _ _ (by simp <;>omega)).trans e1)),(World.cell?_setCell_other _ _ _ _ (by simp <;>omega)).trans ((World.cell?_setCell_other _ _ _ _ (by simp <;>omega)).trans ((World.cell?_setCell_other _ _ _ _ (by simp <;>omega)).trans e2)),iK (iK (iK HXX.out (by omega)) (by omega)) (by omega)⟩ (fun hHeld=>?_);clear hK K;(try simp only [nz]);refine tq 5 5 rfl (by kernel_rfl) (fun _ _ _ h=>h) rfl ‹_› (by intro w h;go_simp <;>with_reducible rfl) ?_;simp only [nz];refine wpAnyH_done (by kernel_rfl) ?_ _;clear hHeld bc0 bc1 bc2 br0 br1 br2 bz0 bz1 bz2 bX e0 e1 e2 HXX HCY HCH2 HO3 hb3 hb4 g3 k3;obtain⟨u0,u1,u2⟩:=xS dr0 dr1 dr2 (.slice v1 LS.length n1) (.slice v2 LP.length n2) (.slice v3 LA.length n3);have HCF:=aa (((HC4.out.set_box dr0 (.slice v1 LS.length n1)).set_box ((World.cell?_setCell_other _ _ _ _ (by simp)).trans dr1) (.slice v2 LP.length n2)).set_box ((World.cell?_setCell_other _ _ _ _ (by simp)).trans ((World.cell?_setCell_other _ _ _ _ (by simp)).trans dr2)) (.slice v3 LA.length n3));have HBE:=aa ((((k4).setCell (p:=⟨w.heap.size+1+1,0,none⟩) (by show w.heap.size≤w.heap.size+1+1;omega) (.slice v1 LS.length n1)).setCell (p:=⟨w.heap.size+1+1,1,none⟩) (by show w.heap.size≤w.heap.size+1+1;omega) (.slice v2 LP.length n2)).setCell (p:=⟨w.heap.size+1+1,2,none⟩) (by show w.heap.size≤w.heap.size+1+1;omega) (.slice v3 LA.length n3));clear HC4 k4 g4 dr0 dr1 dr2 dz0 dz1 dz2;generalize (((w4.setCell ⟨w.heap.size+1+1,0,none⟩ (.slice v1 LS.length n1)).setCell ⟨w.heap.size+1+1,1,none⟩ (.slice v2 LP.length n2)).setCell ⟨w.heap.size+1+1,2,none⟩ (.slice v3 LA.length n3))=W at*;go_wp2_with fail
   refine bodyPost_ret (v:=.tuple #[.agg #[.slice v1 LS.length n1,.slice v2 LP.length n2,.slice v3 LA.length n3],.int .i64 0]) ?_ rfl ⟨_,_,_,rfl,HCF.out,HBE.out,HI5.out⟩;clear HCF HBE;simp [results,Tryz.results32,go_sem,u0,u1,u2]
  ·obtain⟨rfl,rfl,rfl,rfl⟩:=HF1.out hG;clear HF1 HF2 HCH1 HCY bc0 bc1 bc2 bX;go_wp2_with fail
   obtain⟨u0,u1,u2⟩:=xS br0 br1 br2 (.slice none 0 0) (.slice none 0 0) (.slice none 0 0);have HBE:=aa ((((k2).setCell (p:=⟨w.heap.size+1+1,0,none⟩) (by show w.heap.size≤w.heap.size+1+1;omega) (.slice none 0 0)).setCell (p:=⟨w.heap.size+1+1,1,none⟩) (by show w.heap.size≤w.heap.size+1+1;omega) (.slice none 0 0)).setCell (p:=⟨w.heap.size+1+1,2,none⟩) (by show w.heap.size≤w.heap.size+1+1;omega) (.slice none 0 0));have HCF:=aa ((⟨RowAt.nil _ _ _,RowAt.nil _ _ _,RowAt.nil _ _ _⟩:CfAt (((w2.setCell ⟨w.heap.size+1+1,0,none⟩ (.slice none 0 0)).setCell ⟨w.heap.size+1+1,1,none⟩ (.slice none 0 0)).setCell ⟨w.heap.size+1+1,2,none⟩ (.slice none 0 0)) (.slice none 0 0) (.slice none 0 0) (.slice none 0 0) [] [] []));refine bodyPost_ret (v:=.tuple #[.agg #[.slice none 0 0,.slice none 0 0,.slice none 0 0],.int .i64 EE]) ?_ rfl ⟨_,_,_,rfl,HCF.out,HBE.out,Hi3.none _⟩;clear HCF HBE br0 bz0 br1 bz1 br2 bz2;generalize (((w2.setCell ⟨w.heap.size+1+1,0,none⟩ (.slice none 0 0)).setCell ⟨w.heap.size+1+1,1,none⟩ (.slice none 0 0)).setCell ⟨w.heap.size+1+1,2,none⟩ (.slice none 0 0))=W at*;simp [results,Tryz.results32,go_sem,u0,u1,u2]
theorem vM (sv pv av:Value) (S:List Sw) (P:List Pr) (A:List Ac) (a:Ax) (w:World) (hC:CfAt w sv pv av S P A) (h1:S.length*24≤140737488355328) (h2:P.length*40≤140737488355328) (h3:A.length*72≤140737488355328):
  Calls Tryz.prog 32 #[.agg #[sv,pv,av],eF a] w fun e w'=>∃su pu au,e= .returned (.tuple #[.agg #[su,pu,au],.int .i64 (gl S P A a)])∧CfAt w' su pu au (apS S P A a) (apP S P A a) (apA S P A a)∧Below w.heap.size w w':=
 (uP sv pv av S P A a w hC h1 h2 h3).mono fun e w' h=>by
  obtain⟨su,pu,au,he,hc,hb,_⟩:=h;exact⟨su,pu,au,he,hc,hb⟩
theorem ov {fn:Func} {p:Tmp} {ty:TypeId} (h:fn.results= #[.cell p ty]) (tmps:Array Value) (P:Program) (w:World):
  (results fn tmps).run P w=((asAddr (tmps.getD p undef)).run P w).andThen fun a w₁=>(loadVar ty a).run P w₁:=by
 simp only [results,h];simp [Sem.run_bind]
theorem fy (W:World) (n:Nat) (h:W.heap.size=n) (cs:Array Value) (t:TypeId) (m:Nat) (hm:m≤cs.size):(W.alloc (.cells cs t)).there n 0 m:=fun j hj=>by
 rw [Nat.zero_add];exact⟨mL W n h cs t j (by omega),dg W n h cs t j⟩
theorem de {W:World} {tmps:Array Value} {b:Nat} {a:Ax} {cs:List Value} (hp:tmps.getD 2 undef= .pointer (some ⟨b,0,none⟩)) (hc:Value.agg cs.toArray=eF a) (hl:cs.length=28) (ht:W.there b 0 28):
  (results Tryz.f33 tmps).run Tryz.prog (W.setCells b 0 cs)= .ok (eF a) (W.setCells b 0 cs):=by
 rw [ov Tryz.results33,hp, ←hc];show(loadVar 57 ⟨b,0,none⟩).run Tryz.prog (W.setCells b 0 cs)=_;exact run_loadVar_mid _ b 0 57 cs _ (World.rangeAt_setCells_same W b 0 cs (by rw [hl];exact ht)) Tryz.underlying57 rfl (by rw [hl];exact dM)
theorem fq (a:Ax):(#[.int .i64 a.k,.int .i64 a.si,.int .i64 a.st,.int .i64 a.sg,.int .i64 a.pi,.int .i64 a.ps,.int .i64 a.pm,.int .i64 a.pp,.int .i64 a.pc,.int .i64 a.rs,.int .i64 a.rp,.bool a.rn,.int .i64 a.rf,.int .i64 a.rb,.int .i64 a.rt,.int .i64 a.re,.int .i64 a.ro,.bool a.rd,.int .i64 a.n,.int .i64 a.m,.int .i64 a.f0,.int .i64 a.f1,.int .i64 a.f2,.int .i64 a.f3,.int .i64 a.f4,.int .i64 a.f5,.int .i64 a.f6,.string a.body]:Array Value).all (·.oneCell')=true:=by
 rw [show(#[.int .i64 a.k,.int .i64 a.si,.int .i64 a.st,.int .i64 a.sg,.int .i64 a.pi,.int .i64 a.ps,.int .i64 a.pm,.int .i64 a.pp,.int .i64 a.pc,.int .i64 a.rs,.int .i64 a.rp,.bool a.rn,.int .i64 a.rf,.int .i64 a.rb,.int .i64 a.rt,.int .i64 a.re,.int .i64 a.ro,.bool a.rd,.int .i64 a.n,.int .i64 a.m,.int .i64 a.f0,.int .i64 a.f1,.int .i64 a.f2,.int .i64 a.f3,.int .i64 a.f4,.int .i64 a.f5,.int .i64 a.f6,.string a.body]:Array Value)= [.int .i64 a.k,.int .i64 a.si,.int .i64 a.st,.int .i64 a.sg,.int .i64 a.pi,.int .i64 a.ps,.int .i64 a.pm,.int .i64 a.pp,.int .i64 a.pc,.int .i64 a.rs,.int .i64 a.rp,.bool a.rn,.int .i64 a.rf,.int .i64 a.rb,.int .i64 a.rt,.int .i64 a.re,.int .i64 a.ro,.bool a.rd,.int .i64 a.n,.int .i64 a.m,.int .i64 a.f0,.int .i64 a.f1,.int .i64 a.f2,.int .i64 a.f3,.int .i64 a.f4,.int .i64 a.f5,.int .i64 a.f6,.string a.body].toArray from rfl,List.all_toArray];rfl
theorem vj (k a b c:Int) (w:World) (hk: -9223372036854775808≤k∧k≤9223372036854775807) (ha: -9223372036854775808≤a∧a≤9223372036854775807) (hb: -9223372036854775808≤b∧b≤9223372036854775807) (hc: -9223372036854775808≤c∧c≤9223372036854775807) (hq:pk k 16=12):
  Calls Tryz.prog 33 #[.agg #[.int .i64 k,.int .i64 a,.int .i64 b,.int .i64 c]] w fun e w'=>∃x:Ax,e= .returned (eF x)∧x.si≤6∧Below w.heap.size w w':=by
 obtain⟨p00,p01⟩:=bv (a) 20 (by omega);obtain⟨hk0,hk1⟩:=hk;obtain⟨ha0,ha1⟩:=ha;obtain⟨hb0,hb1⟩:=hb;obtain⟨hc0,hc1⟩:=hc;obtain⟨pk0,pk1⟩:=bv k 16 (by omega);have u0:=az (1+pk a 20) (by omega) (by omega);have hn1:¬pk k 16<3:=by omega
 have hn2:¬pk k 16<10:=by omega
 have hn3:¬pk k 16<12:=by omega
 have HT:((w.alloc (.cells #[.int .i64 k,.int .i64 a,.int .i64 b,.int .i64 c] 24)).alloc (.cells #[.int .i64 0,.int .i64 0,.int .i64 0,.int .i64 0,.int .i64 0,.int .i64 0,.int .i64 0,.int .i64 0,.int .i64 0,.int .i64 0,.int .i64 0,.bool false,.int .i64 0,.int .i64 0,.int .i64 0,.int .i64 0,.int .i64 0,.bool false,.int .i64 0,.int .i64 0,.int .i64 0,.int .i64 0,.int .i64 0,.int .i64 0,.int .i64 0,.int .i64 0,.int .i64 0,.string ⟨#[]⟩] 57)).there (w.heap.size+1) 0 28:=fy _ _ (by simp) _ _ _ (by simp);have HBE:Below w.heap.size w ((w.alloc (.cells #[.int .i64 k,.int .i64 a,.int .i64 b,.int .i64 c] 24)).alloc (.cells #[.int .i64 0,.int .i64 0,.int .i64 0,.int .i64 0,.int .i64 0,.int .i64 0,.int .i64 0,.int .i64 0,.int .i64 0,.int .i64 0,.int .i64 0,.bool false,.int .i64 0,.int .i64 0,.int .i64 0,.int .i64 0,.int .i64 0,.bool false,.int .i64 0,.int .i64 0,.int .i64 0,.int .i64 0,.int .i64 0,.int .i64 0,.int .i64 0,.int .i64 0,.int .i64 0,.string ⟨#[]⟩] 57)):=((Below.refl _ _).alloc zr _).alloc (by simp) _;go_enter Tryz.func33,Tryz.ntmps33;go_wp2_with (first |(go_at_call 34;refine(aI _ _ _ ?_ ?_ ?_ ?_).mono ?_;(first | omega | skip);(first | omega | skip);(first | omega | skip);(first | omega | skip);rintro e w' ⟨rfl,rfl⟩) |(refine wpList_store_mid rfl 57 _ _ rfl _ 0 _ rfl rfl ?_ dM ?_ ?_))
 ·exact HT
 ·exact fq ⟨4,0,0,0,0,0,0,0,0,0,0,false,0,0,0,0,0,false,1+pk a 20,0,0,0,0,0,0,0,0,⟨#[]⟩⟩
 refine bodyPost_ret (v:=eF ⟨4,0,0,0,0,0,0,0,0,0,0,false,0,0,0,0,0,false,1+pk a 20,0,0,0,0,0,0,0,0,⟨#[]⟩⟩) (de (b:=w.heap.size+1) rfl rfl rfl HT) rfl ⟨_,rfl,?_,?_⟩
 ·first |(simp;done) |(simp;omega)
 ·exact bT (Nat.le_succ _) _ _ _ HBE
theorem uT (k a b c:Int) (w:World) (hk: -9223372036854775808≤k∧k≤9223372036854775807) (ha: -9223372036854775808≤a∧a≤9223372036854775807) (hb: -9223372036854775808≤b∧b≤9223372036854775807) (hc: -9223372036854775808≤c∧c≤9223372036854775807) (hq:pk k 16=13):
  Calls Tryz.prog 33 #[.agg #[.int .i64 k,.int .i64 a,.int .i64 b,.int .i64 c]] w fun e w'=>∃x:Ax,e= .returned (eF x)∧x.si≤6∧Below w.heap.size w w':=by
 obtain⟨p00,p01⟩:=bv (a) 4 (by omega);obtain⟨hk0,hk1⟩:=hk;obtain⟨ha0,ha1⟩:=ha;obtain⟨hb0,hb1⟩:=hb;obtain⟨hc0,hc1⟩:=hc;obtain⟨pk0,pk1⟩:=bv k 16 (by omega);have hn1:¬pk k 16<3:=by omega
 have hn2:¬pk k 16<10:=by omega
 have hn3:¬pk k 16<12:=by omega
 have HT:((w.alloc (.cells #[.int .i64 k,.int .i64 a,.int .i64 b,.int .i64 c] 24)).alloc (.cells #[.int .i64 0,.int .i64 0,.int .i64 0,.int .i64 0,.int .i64 0,.int .i64 0,.int .i64 0,.int .i64 0,.int .i64 0,.int .i64 0,.int .i64 0,.bool false,.int .i64 0,.int .i64 0,.int .i64 0,.int .i64 0,.int .i64 0,.bool false,.int .i64 0,.int .i64 0,.int .i64 0,.int .i64 0,.int .i64 0,.int .i64 0,.int .i64 0,.int .i64 0,.int .i64 0,.string ⟨#[]⟩] 57)).there (w.heap.size+1) 0 28:=fy _ _ (by simp) _ _ _ (by simp);have HBE:Below w.heap.size w ((w.alloc (.cells #[.int .i64 k,.int .i64 a,.int .i64 b,.int .i64 c] 24)).alloc (.cells #[.int .i64 0,.int .i64 0,.int .i64 0,.int .i64 0,.int .i64 0,.int .i64 0,.int .i64 0,.int .i64 0,.int .i64 0,.int .i64 0,.int .i64 0,.bool false,.int .i64 0,.int .i64 0,.int .i64 0,.int .i64 0,.int .i64 0,.bool false,.int .i64 0,.int .i64 0,.int .i64 0,.int .i64 0,.int .i64 0,.int .i64 0,.int .i64 0,.int .i64 0,.int .i64 0,.string ⟨#[]⟩] 57)):=((Below.refl _ _).alloc zr _).alloc (by simp) _;go_enter Tryz.func33,Tryz.ntmps33;go_wp2_with (first |(go_at_call 34;refine(aI _ _ _ ?_ ?_ ?_ ?_).mono ?_;(first | omega | skip);(first | omega | skip);(first | omega | skip);(first | omega | skip);rintro e w' ⟨rfl,rfl⟩) |(refine wpList_store_mid rfl 57 _ _ rfl _ 0 _ rfl rfl ?_ dM ?_ ?_))
 ·exact HT
 ·exact fq ⟨5,0,0,0,0,0,0,0,0,0,0,false,0,0,0,0,0,false,pk a 4,0,0,0,0,0,0,0,0,⟨#[]⟩⟩
 refine bodyPost_ret (v:=eF ⟨5,0,0,0,0,0,0,0,0,0,0,false,0,0,0,0,0,false,pk a 4,0,0,0,0,0,0,0,0,⟨#[]⟩⟩) (de (b:=w.heap.size+1) rfl rfl rfl HT) rfl ⟨_,rfl,?_,?_⟩
 ·first |(simp;done) |(simp;omega)
 ·exact bT (Nat.le_succ _) _ _ _ HBE
theorem vU (k a b c:Int) (w:World) (hk: -9223372036854775808≤k∧k≤9223372036854775807) (ha: -9223372036854775808≤a∧a≤9223372036854775807) (hb: -9223372036854775808≤b∧b≤9223372036854775807) (hc: -9223372036854775808≤c∧c≤9223372036854775807) (hq:13<pk k 16):
  Calls Tryz.prog 33 #[.agg #[.int .i64 k,.int .i64 a,.int .i64 b,.int .i64 c]] w fun e w'=>∃x:Ax,e= .returned (eF x)∧x.si≤6∧Below w.heap.size w w':=by
 obtain⟨p00,p01⟩:=bv (a) 20 (by omega);obtain⟨p10,p11⟩:=bv (b) 5 (by omega);obtain⟨hk0,hk1⟩:=hk;obtain⟨ha0,ha1⟩:=ha;obtain⟨hb0,hb1⟩:=hb;obtain⟨hc0,hc1⟩:=hc;obtain⟨pk0,pk1⟩:=bv k 16 (by omega);have u0:=az (1+pk a 20) (by omega) (by omega);have u1:=az (pk b 5-1) (by omega) (by omega);have hn1:¬pk k 16<3:=by omega
 have hn2:¬pk k 16<10:=by omega
 have hn3:¬pk k 16<12:=by omega
 have hn4:¬pk k 16=12:=by omega
 have hn5:¬pk k 16=13:=by omega
 have HT:((w.alloc (.cells #[.int .i64 k,.int .i64 a,.int .i64 b,.int .i64 c] 24)).alloc (.cells #[.int .i64 0,.int .i64 0,.int .i64 0,.int .i64 0,.int .i64 0,.int .i64 0,.int .i64 0,.int .i64 0,.int .i64 0,.int .i64 0,.int .i64 0,.bool false,.int .i64 0,.int .i64 0,.int .i64 0,.int .i64 0,.int .i64 0,.bool false,.int .i64 0,.int .i64 0,.int .i64 0,.int .i64 0,.int .i64 0,.int .i64 0,.int .i64 0,.int .i64 0,.int .i64 0,.string ⟨#[]⟩] 57)).there (w.heap.size+1) 0 28:=fy _ _ (by simp) _ _ _ (by simp);have HBE:Below w.heap.size w ((w.alloc (.cells #[.int .i64 k,.int .i64 a,.int .i64 b,.int .i64 c] 24)).alloc (.cells #[.int .i64 0,.int .i64 0,.int .i64 0,.int .i64 0,.int .i64 0,.int .i64 0,.int .i64 0,.int .i64 0,.int .i64 0,.int .i64 0,.int .i64 0,.bool false,.int .i64 0,.int .i64 0,.int .i64 0,.int .i64 0,.int .i64 0,.bool false,.int .i64 0,.int .i64 0,.int .i64 0,.int .i64 0,.int .i64 0,.int .i64 0,.int .i64 0,.int .i64 0,.int .i64 0,.string ⟨#[]⟩] 57)):=((Below.refl _ _).alloc zr _).alloc (by simp) _;go_enter Tryz.func33,Tryz.ntmps33;go_wp2_with (first |(go_at_call 34;refine(aI _ _ _ ?_ ?_ ?_ ?_).mono ?_;(first | omega | skip);(first | omega | skip);(first | omega | skip);(first | omega | skip);rintro e w' ⟨rfl,rfl⟩))
 obtain⟨W0,hW0⟩:∃W0,W0=((w.alloc (.cells #[.int .i64 k,.int .i64 a,.int .i64 b,.int .i64 c] 24)).alloc (.cells #[.int .i64 0,.int .i64 0,.int .i64 0,.int .i64 0,.int .i64 0,.int .i64 0,.int .i64 0,.int .i64 0,.int .i64 0,.int .i64 0,.int .i64 0,.bool false,.int .i64 0,.int .i64 0,.int .i64 0,.int .i64 0,.int .i64 0,.bool false,.int .i64 0,.int .i64 0,.int .i64 0,.int .i64 0,.int .i64 0,.int .i64 0,.int .i64 0,.int .i64 0,.int .i64 0,.string ⟨#[]⟩] 57)):=⟨_,rfl⟩;rw [←hW0]at HT HBE⊢;have c0:W0.cell? ⟨w.heap.size,0,none⟩=some (.int .i64 k):=by rw [hW0];exact aq (aj w _ rfl _ _ _ _ rfl) _
 have c1:W0.cell? ⟨w.heap.size,1,none⟩=some (.int .i64 a):=by rw [hW0];exact aq (aj w _ rfl _ _ _ _ rfl) _
 have c2:W0.cell? ⟨w.heap.size,2,none⟩=some (.int .i64 b):=by rw [hW0];exact aq (aj w _ rfl _ _ _ _ rfl) _
 have c3:W0.cell? ⟨w.heap.size,3,none⟩=some (.int .i64 c):=by rw [hW0];exact aq (aj w _ rfl _ _ _ _ rfl) _
 clear hW0;have HTD:W0.drew.there (w.heap.size+1) 0 28:=HT;have cd0:W0.drew.cell? ⟨w.heap.size,0,none⟩=some (.int .i64 k):=c0;have cd1:W0.drew.cell? ⟨w.heap.size,1,none⟩=some (.int .i64 a):=c1;have cd2:W0.drew.cell? ⟨w.heap.size,2,none⟩=some (.int .i64 b):=c2;have cd3:W0.drew.cell? ⟨w.heap.size,3,none⟩=some (.int .i64 c):=c3;have HBD:Below w.heap.size w W0.drew:=HBE.drew;refine wp_region_held_drew (S:=(fun w'=>w'.cell? ⟨w.heap.size,0,none⟩=some (.int .i64 k)∧w'.cell? ⟨w.heap.size,1,none⟩=some (.int .i64 a)∧w'.cell? ⟨w.heap.size,2,none⟩=some (.int .i64 b)∧w'.cell? ⟨w.heap.size,3,none⟩=some (.int .i64 c))) (by kernel_rfl) ?hS1 (fun hHeld=>?hR1)
 case hS1=>(try dsimp only);go_keep
 refine sqA [(0,125),(1,126),(4,129),(5,130)] ?_;(iterate 4 (refine sqN rfl (by kernel_rfl) (fun _ _ _ h=>h) rfl ‹_› (by intro w h;go_simp <;>with_reducible rfl) ?_;simp only [nz]));refine sqZ ?_;refine Go.Proofs.YtaiedioffemhdaaGreat.rs 2 127 (by kernel_rfl) rfl (fun K hK=>?_);go_simp;(go_at_call 34;refine(aI _ _ _ (by omega) (by omega) (by omega) (by omega)).mono ?_;rintro e w' ⟨rfl,rfl⟩)
 skip
 refine hK.out _ _ ?hS6 (fun hHeld=>?hR6)
 case hS6=>(try dsimp only);go_keep
 clear hK K;(try simp only [nz]);refine tq 3 128 rfl (by kernel_rfl) (fun _ _ _ h=>h) rfl ‹_› (by intro w h;go_simp <;>with_reducible rfl) ?_;simp only [nz];refine Go.Proofs.YtaiedioffemhdaaGreat.rs 6 131 (by kernel_rfl) rfl (fun K hK=>?_);go_simp;(go_at_call 34;refine(aI _ _ _ (by omega) (by omega) (by omega) (by omega)).mono ?_;rintro e w' ⟨rfl,rfl⟩)
 skip
 refine hK.out _ _ ?hS8 (fun hHeld=>?hR8)
 case hS8=>(try dsimp only);go_keep
 clear hK K;(try simp only [nz]);refine sqA [(7,132),(8,133)] ?_;(iterate 2 (refine sqN rfl (by kernel_rfl) (fun _ _ _ h=>h) rfl ‹_› (by intro w h;go_simp <;>with_reducible rfl) ?_;simp only [nz]));refine sqZ ?_;refine Go.Proofs.YtaiedioffemhdaaGreat.rn 9 (by kernel_rfl) rfl (fun K hK=>?_);refine wp_store_mid 57 (.tmp 2) (.tmp 133) rfl (w.heap.size+1) 0 _ rfl rfl HTD dM (fq ⟨6,0,0,0,0,0,0,0,0,0,0,false,0,0,0,0,0,false,1+pk a 20,pk b 5-1,0,0,0,0,0,0,0,⟨#[]⟩⟩) ?_;refine hK.out _ _ ?hS11 (fun hHeld=>?hR11)
 case hS11=>exact⟨(World.cell?_setCells_out _ _ _ _ _ (fun e=>absurd e (by simp))).trans cd0,(World.cell?_setCells_out _ _ _ _ _ (fun e=>absurd e (by simp))).trans cd1,(World.cell?_setCells_out _ _ _ _ _ (fun e=>absurd e (by simp))).trans cd2,(World.cell?_setCells_out _ _ _ _ _ (fun e=>absurd e (by simp))).trans cd3⟩
 clear hK K;refine wpAnyH_done (by kernel_rfl) ?_ _;go_wp2_with fail
 refine bodyPost_ret (v:=eF ⟨6,0,0,0,0,0,0,0,0,0,0,false,0,0,0,0,0,false,1+pk a 20,pk b 5-1,0,0,0,0,0,0,0,⟨#[]⟩⟩) (de (b:=w.heap.size+1) rfl rfl rfl HTD) rfl ⟨_,rfl,?_,?_⟩
 ·first |(simp;done) |(simp;omega)
 ·exact bT (Nat.le_succ _) _ _ _ HBD
theorem vW (k a b c:Int) (w:World) (hk: -9223372036854775808≤k∧k≤9223372036854775807) (ha: -9223372036854775808≤a∧a≤9223372036854775807) (hb: -9223372036854775808≤b∧b≤9223372036854775807) (hc: -9223372036854775808≤c∧c≤9223372036854775807) (hq:pk k 16<3):
  Calls Tryz.prog 33 #[.agg #[.int .i64 k,.int .i64 a,.int .i64 b,.int .i64 c]] w fun e w'=>∃x:Ax,e= .returned (eF x)∧x.si≤6∧Below w.heap.size w w':=by
 obtain⟨p00,p01⟩:=bv (a) 6 (by omega);obtain⟨p10,p11⟩:=bv (b) 3 (by omega);obtain⟨p20,p21⟩:=bv (c) 3 (by omega);obtain⟨hk0,hk1⟩:=hk;obtain⟨ha0,ha1⟩:=ha;obtain⟨hb0,hb1⟩:=hb;obtain⟨hc0,hc1⟩:=hc;obtain⟨pk0,pk1⟩:=bv k 16 (by omega);have hm:0≤pk c 3*(100+pk a 6)∧pk c 3*(100+pk a 6)≤1000:=⟨Int.mul_nonneg (by omega) (by omega),Int.le_trans (Int.mul_le_mul_of_nonneg_right (show pk c 3≤2 by omega) (by omega)) (by omega)⟩;have u0:=az (1+pk a 6) (by omega) (by omega);have u1:=az (1+pk b 3) (by omega) (by omega);have u2:=az (100+pk a 6) (by omega) (by omega);have u3:=az (pk c 3*(100+pk a 6)) (by omega) (by omega);have HT:((w.alloc (.cells #[.int .i64 k,.int .i64 a,.int .i64 b,.int .i64 c] 24)).alloc (.cells #[.int .i64 0,.int .i64 0,.int .i64 0,.int .i64 0,.int .i64 0,.int .i64 0,.int .i64 0,.int .i64 0,.int .i64 0,.int .i64 0,.int .i64 0,.bool false,.int .i64 0,.int .i64 0,.int .i64 0,.int .i64 0,.int .i64 0,.bool false,.int .i64 0,.int .i64 0,.int .i64 0,.int .i64 0,.int .i64 0,.int .i64 0,.int .i64 0,.int .i64 0,.int .i64 0,.string ⟨#[]⟩] 57)).there (w.heap.size+1) 0 28:=fy _ _ (by simp) _ _ _ (by simp);have HBE:Below w.heap.size w ((w.alloc (.cells #[.int .i64 k,.int .i64 a,.int .i64 b,.int .i64 c] 24)).alloc (.cells #[.int .i64 0,.int .i64 0,.int .i64 0,.int .i64 0,.int .i64 0,.int .i64 0,.int .i64 0,.int .i64 0,.int .i64 0,.int .i64 0,.int .i64 0,.bool false,.int .i64 0,.int .i64 0,.int .i64 0,.int .i64 0,.int .i64 0,.bool false,.int .i64 0,.int .i64 0,.int .i64 0,.int .i64 0,.int .i64 0,.int .i64 0,.int .i64 0,.int .i64 0,.int .i64 0,.string ⟨#[]⟩] 57)):=((Below.refl _ _).alloc zr _).alloc (by simp) _;go_enter Tryz.func33,Tryz.ntmps33;go_wp2_with (first |(go_at_call 34;refine(aI _ _ _ ?_ ?_ ?_ ?_).mono ?_;(first | omega | skip);(first | omega | skip);(first | omega | skip);(first | omega | skip);rintro e w' ⟨rfl,rfl⟩))
 obtain⟨W0,hW0⟩:∃W0,W0=((w.alloc (.cells #[.int .i64 k,.int .i64 a,.int .i64 b,.int .i64 c] 24)).alloc (.cells #[.int .i64 0,.int .i64 0,.int .i64 0,.int .i64 0,.int .i64 0,.int .i64 0,.int .i64 0,.int .i64 0,.int .i64 0,.int .i64 0,.int .i64 0,.bool false,.int .i64 0,.int .i64 0,.int .i64 0,.int .i64 0,.int .i64 0,.bool false,.int .i64 0,.int .i64 0,.int .i64 0,.int .i64 0,.int .i64 0,.int .i64 0,.int .i64 0,.int .i64 0,.int .i64 0,.string ⟨#[]⟩] 57)):=⟨_,rfl⟩;rw [←hW0]at HT HBE⊢;have c0:W0.cell? ⟨w.heap.size,0,none⟩=some (.int .i64 k):=by rw [hW0];exact aq (aj w _ rfl _ _ _ _ rfl) _
 have c1:W0.cell? ⟨w.heap.size,1,none⟩=some (.int .i64 a):=by rw [hW0];exact aq (aj w _ rfl _ _ _ _ rfl) _
 have c2:W0.cell? ⟨w.heap.size,2,none⟩=some (.int .i64 b):=by rw [hW0];exact aq (aj w _ rfl _ _ _ _ rfl) _
 have c3:W0.cell? ⟨w.heap.size,3,none⟩=some (.int .i64 c):=by rw [hW0];exact aq (aj w _ rfl _ _ _ _ rfl) _
 clear hW0;have HTD:W0.drew.there (w.heap.size+1) 0 28:=HT;have cd0:W0.drew.cell? ⟨w.heap.size,0,none⟩=some (.int .i64 k):=c0;have cd1:W0.drew.cell? ⟨w.heap.size,1,none⟩=some (.int .i64 a):=c1;have cd2:W0.drew.cell? ⟨w.heap.size,2,none⟩=some (.int .i64 b):=c2;have cd3:W0.drew.cell? ⟨w.heap.size,3,none⟩=some (.int .i64 c):=c3;have HBD:Below w.heap.size w W0.drew:=HBE.drew;refine wp_region_held_drew (S:=(fun w'=>w'.cell? ⟨w.heap.size,0,none⟩=some (.int .i64 k)∧w'.cell? ⟨w.heap.size,1,none⟩=some (.int .i64 a)∧w'.cell? ⟨w.heap.size,2,none⟩=some (.int .i64 b)∧w'.cell? ⟨w.heap.size,3,none⟩=some (.int .i64 c))) (by kernel_rfl) ?hS12 (fun hHeld=>?hR12)
 case hS12=>(try dsimp only);go_keep
 refine sqA [(0,11),(1,12),(4,15),(5,16),(8,19),(9,20),(11,22),(12,23)] ?_;(iterate 8 (refine sqN rfl (by kernel_rfl) (fun _ _ _ h=>h) rfl ‹_› (by intro w h;go_simp <;>with_reducible rfl) ?_;simp only [nz]));refine sqZ ?_;refine Go.Proofs.YtaiedioffemhdaaGreat.rs 2 13 (by kernel_rfl) rfl (fun K hK=>?_);go_simp;(go_at_call 34;refine(aI _ _ _ (by omega) (by omega) (by omega) (by omega)).mono ?_;rintro e w' ⟨rfl,rfl⟩)
 skip
 refine hK.out _ _ ?hS21 (fun hHeld=>?hR21)
 case hS21=>(try dsimp only);go_keep
 clear hK K;(try simp only [nz]);refine tq 3 14 rfl (by kernel_rfl) (fun _ _ _ h=>h) rfl ‹_› (by intro w h;go_simp <;>with_reducible rfl) ?_;simp only [nz];refine Go.Proofs.YtaiedioffemhdaaGreat.rs 6 17 (by kernel_rfl) rfl (fun K hK=>?_);go_simp;(go_at_call 34;refine(aI _ _ _ (by omega) (by omega) (by omega) (by omega)).mono ?_;rintro e w' ⟨rfl,rfl⟩)
 skip
 refine hK.out _ _ ?hS23 (fun hHeld=>?hR23)
 case hS23=>(try dsimp only);go_keep
 clear hK K;(try simp only [nz]);refine tq 7 18 rfl (by kernel_rfl) (fun _ _ _ h=>h) rfl ‹_› (by intro w h;go_simp <;>with_reducible rfl) ?_;simp only [nz];refine Go.Proofs.YtaiedioffemhdaaGreat.rs 10 21 (by kernel_rfl) rfl (fun K hK=>?_);go_simp;(go_at_call 34;refine(aI _ _ _ (by omega) (by omega) (by omega) (by omega)).mono ?_;rintro e w' ⟨rfl,rfl⟩)
 skip
 refine hK.out _ _ ?hS25 (fun hHeld=>?hR25)
 case hS25=>(try dsimp only);go_keep
 clear hK K;(try simp only [nz]);refine Go.Proofs.YtaiedioffemhdaaGreat.rs 13 24 (by kernel_rfl) rfl (fun K hK=>?_);go_simp;(go_at_call 34;refine(aI _ _ _ (by omega) (by omega) (by omega) (by omega)).mono ?_;rintro e w' ⟨rfl,rfl⟩)
 skip
 refine hK.out _ _ ?hS26 (fun hHeld=>?hR26)
 case hS26=>(try dsimp only);go_keep
 clear hK K;(try simp only [nz]);refine sqA [(14,25),(15,26),(16,27),(17,28)] ?_;(iterate 4 (refine sqN rfl (by kernel_rfl) (fun _ _ _ h=>h) rfl ‹_› (by intro w h;go_simp <;>with_reducible rfl) ?_;simp only [nz]));refine sqZ ?_;refine Go.Proofs.YtaiedioffemhdaaGreat.rn 18 (by kernel_rfl) rfl (fun K hK=>?_);refine wp_store_mid 57 (.tmp 2) (.tmp 28) rfl (w.heap.size+1) 0 _ rfl rfl HTD dM (fq ⟨1,1+pk a 6,1+pk b 3,pk c 3*(100+pk a 6),0,0,0,0,0,0,0,false,0,0,0,0,0,false,0,0,0,0,0,0,0,0,0,⟨#[]⟩⟩) ?_;refine hK.out _ _ ?hS31 (fun hHeld=>?hR31)
 case hS31=>exact⟨(World.cell?_setCells_out _ _ _ _ _ (fun e=>absurd e (by simp))).trans cd0,(World.cell?_setCells_out _ _ _ _ _ (fun e=>absurd e (by simp))).trans cd1,(World.cell?_setCells_out _ _ _ _ _ (fun e=>absurd e (by simp))).trans cd2,(World.cell?_setCells_out _ _ _ _ _ (fun e=>absurd e (by simp))).trans cd3⟩
 clear hK K;refine wpAnyH_done (by kernel_rfl) ?_ _;go_wp2_with fail
 refine bodyPost_ret (v:=eF ⟨1,1+pk a 6,1+pk b 3,pk c 3*(100+pk a 6),0,0,0,0,0,0,0,false,0,0,0,0,0,false,0,0,0,0,0,0,0,0,0,⟨#[]⟩⟩) (de (b:=w.heap.size+1) rfl rfl rfl HTD) rfl ⟨_,rfl,?_,?_⟩
 ·first |(simp;done) |(simp;omega)
 ·exact bT (Nat.le_succ _) _ _ _ HBD
theorem vP (k a b c:Int) (w:World) (hk: -9223372036854775808≤k∧k≤9223372036854775807) (ha: -9223372036854775808≤a∧a≤9223372036854775807) (hb: -9223372036854775808≤b∧b≤9223372036854775807) (hc: -9223372036854775808≤c∧c≤9223372036854775807) (hq:¬pk k 16<3∧pk k 16<10):
  Calls Tryz.prog 33 #[.agg #[.int .i64 k,.int .i64 a,.int .i64 b,.int .i64 c]] w fun e w'=>∃x:Ax,e= .returned (eF x)∧x.si≤6∧Below w.heap.size w w':=by
 have tb6:=dZ b 6 (by omega) hb.1 hb.2;have vb6:=az _ tb6.1 tb6.2;have ta20:=dZ a 20 (by omega) ha.1 ha.2;have va20:=az _ ta20.1 ta20.2;obtain⟨p00,p01⟩:=bv (a) 20 (by omega);obtain⟨p10,p11⟩:=bv (b) 6 (by omega);obtain⟨p20,p21⟩:=bv (c) 9 (by omega);obtain⟨p30,p31⟩:=bv (c) 30 (by omega);obtain⟨p40,p41⟩:=bv (b.tdiv 6) 4 (by omega);obtain⟨p50,p51⟩:=bv (a.tdiv 20) 2 (by omega);obtain⟨hk0,hk1⟩:=hk;obtain⟨ha0,ha1⟩:=ha;obtain⟨hb0,hb1⟩:=hb;obtain⟨hc0,hc1⟩:=hc;obtain⟨pk0,pk1⟩:=bv k 16 (by omega);have u0:=az (1+pk a 20) (by omega) (by omega);have u1:=az (1+pk b 6) (by omega) (by omega);have u2:=az (1+pk c 9) (by omega) (by omega);have u3:=az (1+pk c 30) (by omega) (by omega);have u4:=az (pk (b.tdiv 6) 4-1) (by omega) (by omega);have u5:=az (pk (b.tdiv 6) 4-1+pk (a.tdiv 20) 2) (by omega) (by omega);obtain⟨hq1,hq2⟩:=hq;have HT:((w.alloc (.cells #[.int .i64 k,.int .i64 a,.int .i64 b,.int .i64 c] 24)).alloc (.cells #[.int .i64 0,.int .i64 0,.int .i64 0,.int .i64 0,.int .i64 0,.int .i64 0,.int .i64 0,.int .i64 0,.int .i64 0,.int .i64 0,.int .i64 0,.bool false,.int .i64 0,.int .i64 0,.int .i64 0,.int .i64 0,.int .i64 0,.bool false,.int .i64 0,.int .i64 0,.int .i64 0,.int .i64 0,.int .i64 0,.int .i64 0,.int .i64 0,.int .i64 0,.int .i64 0,.string ⟨#[]⟩] 57)).there (w.heap.size+1) 0 28:=fy _ _ (by simp) _ _ _ (by simp);have HBE:Below w.heap.size w ((w.alloc (.cells #[.int .i64 k,.int .i64 a,.int .i64 b,.int .i64 c] 24)).alloc (.cells #[.int .i64 0,.int .i64 0,.int .i64 0,.int .i64 0,.int .i64 0,.int .i64 0,.int .i64 0,.int .i64 0,.int .i64 0,.int .i64 0,.int .i64 0,.bool false,.int .i64 0,.int .i64 0,.int .i64 0,.int .i64 0,.int .i64 0,.bool false,.int .i64 0,.int .i64 0,.int .i64 0,.int .i64 0,.int .i64 0,.int .i64 0,.int .i64 0,.int .i64 0,.int .i64 0,.string ⟨#[]⟩] 57)):=((Below.refl _ _).alloc zr _).alloc (by simp) _;go_enter Tryz.func33,Tryz.ntmps33;go_wp2_with (first |(go_at_call 34;refine(aI _ _ _ ?_ ?_ ?_ ?_).mono ?_;(first | omega | skip);(first | omega | skip);(first | omega | skip);(first | omega | skip);rintro e w' ⟨rfl,rfl⟩))
 obtain⟨W0,hW0⟩:∃W0,W0=((w.alloc (.cells #[.int .i64 k,.int .i64 a,.int .i64 b,.int .i64 c] 24)).alloc (.cells #[.int .i64 0,.int .i64 0,.int .i64 0,.int .i64 0,.int .i64 0,.int .i64 0,.int .i64 0,.int .i64 0,.int .i64 0,.int .i64 0,.int .i64 0,.bool false,.int .i64 0,.int .i64 0,.int .i64 0,.int .i64 0,.int .i64 0,.bool false,.int .i64 0,.int .i64 0,.int .i64 0,.int .i64 0,.int .i64 0,.int .i64 0,.int .i64 0,.int .i64 0,.int .i64 0,.string ⟨#[]⟩] 57)):=⟨_,rfl⟩;rw [←hW0]at HT HBE⊢;have c0:W0.cell? ⟨w.heap.size,0,none⟩=some (.int .i64 k):=by rw [hW0];exact aq (aj w _ rfl _ _ _ _ rfl) _
 have c1:W0.cell? ⟨w.heap.size,1,none⟩=some (.int .i64 a):=by rw [hW0];exact aq (aj w _ rfl _ _ _ _ rfl) _
 have c2:W0.cell? ⟨w.heap.size,2,none⟩=some (.int .i64 b):=by rw [hW0];exact aq (aj w _ rfl _ _ _ _ rfl) _
 have c3:W0.cell? ⟨w.heap.size,3,none⟩=some (.int .i64 c):=by rw [hW0];exact aq (aj w _ rfl _ _ _ _ rfl) _
 clear hW0;have HTD:W0.drew.there (w.heap.size+1) 0 28:=HT;have cd0:W0.drew.cell? ⟨w.heap.size,0,none⟩=some (.int .i64 k):=c0;have cd1:W0.drew.cell? ⟨w.heap.size,1,none⟩=some (.int .i64 a):=c1;have cd2:W0.drew.cell? ⟨w.heap.size,2,none⟩=some (.int .i64 b):=c2;have cd3:W0.drew.cell? ⟨w.heap.size,3,none⟩=some (.int .i64 c):=c3;have HBD:Below w.heap.size w W0.drew:=HBE.drew;refine wp_region_held_drew (S:=(fun w'=>w'.cell? ⟨w.heap.size,0,none⟩=some (.int .i64 k)∧w'.cell? ⟨w.heap.size,1,none⟩=some (.int .i64 a)∧w'.cell? ⟨w.heap.size,2,none⟩=some (.int .i64 b)∧w'.cell? ⟨w.heap.size,3,none⟩=some (.int .i64 c))) (by kernel_rfl) ?hS32 (fun hHeld=>?hR32)
 case hS32=>(try dsimp only);go_keep
 refine sqA [(0,32),(1,33),(4,36),(5,37),(8,40),(9,41),(12,44),(13,45),(16,48),(17,49),(18,50),(21,53),(22,54),(23,55)] ?_;(iterate 14 (refine sqN rfl (by kernel_rfl) (fun _ _ _ h=>h) rfl ‹_› (by intro w h;go_simp <;>with_reducible rfl) ?_;simp only [nz]));refine sqZ ?_;refine Go.Proofs.YtaiedioffemhdaaGreat.rs 2 34 (by kernel_rfl) rfl (fun K hK=>?_);go_simp;(go_at_call 34;refine(aI _ _ _ (by omega) (by omega) (by omega) (by omega)).mono ?_;rintro e w' ⟨rfl,rfl⟩)
 skip
 refine hK.out _ _ ?hS47 (fun hHeld=>?hR47)
 case hS47=>(try dsimp only);go_keep
 clear hK K;(try simp only [nz]);refine tq 3 35 rfl (by kernel_rfl) (fun _ _ _ h=>h) rfl ‹_› (by intro w h;go_simp <;>with_reducible rfl) ?_;simp only [nz];refine Go.Proofs.YtaiedioffemhdaaGreat.rs 6 38 (by kernel_rfl) rfl (fun K hK=>?_);go_simp;(go_at_call 34;refine(aI _ _ _ (by omega) (by omega) (by omega) (by omega)).mono ?_;rintro e w' ⟨rfl,rfl⟩)
 skip
 refine hK.out _ _ ?hS49 (fun hHeld=>?hR49)
 case hS49=>(try dsimp only);go_keep
 clear hK K;(try simp only [nz]);refine tq 7 39 rfl (by kernel_rfl) (fun _ _ _ h=>h) rfl ‹_› (by intro w h;go_simp <;>with_reducible rfl) ?_;simp only [nz];refine Go.Proofs.YtaiedioffemhdaaGreat.rs 10 42 (by kernel_rfl) rfl (fun K hK=>?_);go_simp;(go_at_call 34;refine(aI _ _ _ (by omega) (by omega) (by omega) (by omega)).mono ?_;rintro e w' ⟨rfl,rfl⟩)
 skip
 refine hK.out _ _ ?hS51 (fun hHeld=>?hR51)
 case hS51=>(try dsimp only);go_keep
 clear hK K;(try simp only [nz]);refine tq 11 43 rfl (by kernel_rfl) (fun _ _ _ h=>h) rfl ‹_› (by intro w h;go_simp <;>with_reducible rfl) ?_;simp only [nz];refine Go.Proofs.YtaiedioffemhdaaGreat.rs 14 46 (by kernel_rfl) rfl (fun K hK=>?_);go_simp;(go_at_call 34;refine(aI _ _ _ (by omega) (by omega) (by omega) (by omega)).mono ?_;rintro e w' ⟨rfl,rfl⟩)
 skip
 refine hK.out _ _ ?hS53 (fun hHeld=>?hR53)
 case hS53=>(try dsimp only);go_keep
 clear hK K;(try simp only [nz]);refine tq 15 47 rfl (by kernel_rfl) (fun _ _ _ h=>h) rfl ‹_› (by intro w h;go_simp <;>with_reducible rfl) ?_;simp only [nz];refine Go.Proofs.YtaiedioffemhdaaGreat.rs 19 51 (by kernel_rfl) rfl (fun K hK=>?_);go_simp;(go_at_call 34;refine(aI _ _ _ (by omega) (by omega) (by omega) (by omega)).mono ?_;rintro e w' ⟨rfl,rfl⟩)
 skip
 refine hK.out _ _ ?hS55 (fun hHeld=>?hR55)
 case hS55=>(try dsimp only);go_keep
 clear hK K;(try simp only [nz]);refine tq 20 52 rfl (by kernel_rfl) (fun _ _ _ h=>h) rfl ‹_› (by intro w h;go_simp <;>with_reducible rfl) ?_;simp only [nz];refine Go.Proofs.YtaiedioffemhdaaGreat.rs 24 56 (by kernel_rfl) rfl (fun K hK=>?_);go_simp;(go_at_call 34;refine(aI _ _ _ (by omega) (by omega) (by omega) (by omega)).mono ?_;rintro e w' ⟨rfl,rfl⟩)
 skip
 refine hK.out _ _ ?hS57 (fun hHeld=>?hR57)
 case hS57=>(try dsimp only);go_keep
 clear hK K;(try simp only [nz]);refine sqA [(25,57),(26,58),(27,59)] ?_;(iterate 3 (refine sqN rfl (by kernel_rfl) (fun _ _ _ h=>h) rfl ‹_› (by intro w h;go_simp <;>with_reducible rfl) ?_;simp only [nz]));refine sqZ ?_;refine Go.Proofs.YtaiedioffemhdaaGreat.rn 28 (by kernel_rfl) rfl (fun K hK=>?_);refine wp_store_mid 57 (.tmp 2) (.tmp 59) rfl (w.heap.size+1) 0 _ rfl rfl HTD dM (fq ⟨2,0,0,0,1+pk a 20,1+pk b 6,1+pk c 9,1+pk c 30,pk (b.tdiv 6) 4-1+pk (a.tdiv 20) 2,0,0,false,0,0,0,0,0,false,0,0,0,0,0,0,0,0,0,⟨#[]⟩⟩) ?_;refine hK.out _ _ ?hS61 (fun hHeld=>?hR61)
 case hS61=>exact⟨(World.cell?_setCells_out _ _ _ _ _ (fun e=>absurd e (by simp))).trans cd0,(World.cell?_setCells_out _ _ _ _ _ (fun e=>absurd e (by simp))).trans cd1,(World.cell?_setCells_out _ _ _ _ _ (fun e=>absurd e (by simp))).trans cd2,(World.cell?_setCells_out _ _ _ _ _ (fun e=>absurd e (by simp))).trans cd3⟩
 clear hK K;refine wpAnyH_done (by kernel_rfl) ?_ _;go_wp2_with fail
 refine bodyPost_ret (v:=eF ⟨2,0,0,0,1+pk a 20,1+pk b 6,1+pk c 9,1+pk c 30,pk (b.tdiv 6) 4-1+pk (a.tdiv 20) 2,0,0,false,0,0,0,0,0,false,0,0,0,0,0,0,0,0,0,⟨#[]⟩⟩) (de (b:=w.heap.size+1) rfl rfl rfl HTD) rfl ⟨_,rfl,?_,?_⟩
 ·first |(simp;done) |(simp;omega)
 ·exact bT (Nat.le_succ _) _ _ _ HBD
theorem vt (k a b c:Int) (w:World) (hk: -9223372036854775808≤k∧k≤9223372036854775807) (ha: -9223372036854775808≤a∧a≤9223372036854775807) (hb: -9223372036854775808≤b∧b≤9223372036854775807) (hc: -9223372036854775808≤c∧c≤9223372036854775807) (hq:¬pk k 16<10∧pk k 16<12):
  Calls Tryz.prog 33 #[.agg #[.int .i64 k,.int .i64 a,.int .i64 b,.int .i64 c]] w fun e w'=>∃x:Ax,e= .returned (eF x)∧x.si≤6∧Below w.heap.size w w':=by
 have tb5:=dZ b 5 (by omega) hb.1 hb.2;have vb5:=az _ tb5.1 tb5.2;have tc2:=dZ c 2 (by omega) hc.1 hc.2;have vc2:=az _ tc2.1 tc2.2;have tc6:=dZ c 6 (by omega) hc.1 hc.2;have vc6:=az _ tc6.1 tc6.2;have ta6:=dZ a 6 (by omega) ha.1 ha.2;have va6:=az _ ta6.1 ta6.2;have tc12:=dZ c 12 (by omega) hc.1 hc.2;have vc12:=az _ tc12.1 tc12.2;have tb20:=dZ b 20 (by omega) hb.1 hb.2;have vb20:=az _ tb20.1 tb20.2;obtain⟨p00,p01⟩:=bv (a) 6 (by omega);obtain⟨p10,p11⟩:=bv (b) 5 (by omega);obtain⟨p20,p21⟩:=bv (c) 2 (by omega);obtain⟨p30,p31⟩:=bv (b.tdiv 5) 4 (by omega);obtain⟨p40,p41⟩:=bv (c.tdiv 2) 3 (by omega);obtain⟨p50,p51⟩:=bv (c.tdiv 6) 2 (by omega);obtain⟨p60,p61⟩:=bv (a.tdiv 6) 30 (by omega);obtain⟨p70,p71⟩:=bv (c.tdiv 12) 3 (by omega);obtain⟨p80,p81⟩:=bv (b.tdiv 20) 8 (by omega);obtain⟨hk0,hk1⟩:=hk;obtain⟨ha0,ha1⟩:=ha;obtain⟨hb0,hb1⟩:=hb;obtain⟨hc0,hc1⟩:=hc;obtain⟨pk0,pk1⟩:=bv k 16 (by omega);have u0:=az (1+pk a 6) (by omega) (by omega);have u1:=az (pk (b.tdiv 5) 4-1) (by omega) (by omega);have u2:=az (pk (b.tdiv 20) 8*4) (by omega) (by omega);obtain⟨hq1,hq2⟩:=hq;have hn1:¬pk k 16<3:=by omega
 have HT:((w.alloc (.cells #[.int .i64 k,.int .i64 a,.int .i64 b,.int .i64 c] 24)).alloc (.cells #[.int .i64 0,.int .i64 0,.int .i64 0,.int .i64 0,.int .i64 0,.int .i64 0,.int .i64 0,.int .i64 0,.int .i64 0,.int .i64 0,.int .i64 0,.bool false,.int .i64 0,.int .i64 0,.int .i64 0,.int .i64 0,.int .i64 0,.bool false,.int .i64 0,.int .i64 0,.int .i64 0,.int .i64 0,.int .i64 0,.int .i64 0,.int .i64 0,.int .i64 0,.int .i64 0,.string ⟨#[]⟩] 57)).there (w.heap.size+1) 0 28:=fy _ _ (by simp) _ _ _ (by simp);have HBE:Below w.heap.size w ((w.alloc (.cells #[.int .i64 k,.int .i64 a,.int .i64 b,.int .i64 c] 24)).alloc (.cells #[.int .i64 0,.int .i64 0,.int .i64 0,.int .i64 0,.int .i64 0,.int .i64 0,.int .i64 0,.int .i64 0,.int .i64 0,.int .i64 0,.int .i64 0,.bool false,.int .i64 0,.int .i64 0,.int .i64 0,.int .i64 0,.int .i64 0,.bool false,.int .i64 0,.int .i64 0,.int .i64 0,.int .i64 0,.int .i64 0,.int .i64 0,.int .i64 0,.int .i64 0,.int .i64 0,.string ⟨#[]⟩] 57)):=((Below.refl _ _).alloc zr _).alloc (by simp) _;go_enter Tryz.func33,Tryz.ntmps33;go_wp2_with (first |(go_at_call 34;refine(aI _ _ _ ?_ ?_ ?_ ?_).mono ?_;(first | omega | skip);(first | omega | skip);(first | omega | skip);(first | omega | skip);rintro e w' ⟨rfl,rfl⟩))
 obtain⟨W0,hW0⟩:∃W0,W0=((w.alloc (.cells #[.int .i64 k,.int .i64 a,.int .i64 b,.int .i64 c] 24)).alloc (.cells #[.int .i64 0,.int .i64 0,.int .i64 0,.int .i64 0,.int .i64 0,.int .i64 0,.int .i64 0,.int .i64 0,.int .i64 0,.int .i64 0,.int .i64 0,.bool false,.int .i64 0,.int .i64 0,.int .i64 0,.int .i64 0,.int .i64 0,.bool false,.int .i64 0,.int .i64 0,.int .i64 0,.int .i64 0,.int .i64 0,.int .i64 0,.int .i64 0,.int .i64 0,.int .i64 0,.string ⟨#[]⟩] 57)):=⟨_,rfl⟩;rw [←hW0]at HT HBE⊢;have c0:W0.cell? ⟨w.heap.size,0,none⟩=some (.int .i64 k):=by rw [hW0];exact aq (aj w _ rfl _ _ _ _ rfl) _
 have c1:W0.cell? ⟨w.heap.size,1,none⟩=some (.int .i64 a):=by rw [hW0];exact aq (aj w _ rfl _ _ _ _ rfl) _
 have c2:W0.cell? ⟨w.heap.size,2,none⟩=some (.int .i64 b):=by rw [hW0];exact aq (aj w _ rfl _ _ _ _ rfl) _
 have c3:W0.cell? ⟨w.heap.size,3,none⟩=some (.int .i64 c):=by rw [hW0];exact aq (aj w _ rfl _ _ _ _ rfl) _
 clear hW0;have hlt:w.heap.size+1<W0.heap.size:=ap (Option.isSome_iff_exists.1 (HT 0 (by omega)).1).choose_spec;go_region_held3 (fun w'=>w'.cell? ⟨w.heap.size,0,none⟩=some (.int .i64 k)∧w'.cell? ⟨w.heap.size,1,none⟩=some (.int .i64 a)∧w'.cell? ⟨w.heap.size,2,none⟩=some (.int .i64 b)∧w'.cell? ⟨w.heap.size,3,none⟩=some (.int .i64 c)) (go_keep) (first |(go_at_call 34;refine(aI _ _ _ ?_ ?_ ?_ ?_).mono ?_;(first | omega | skip);(first | omega | skip);(first | omega | skip);(first | omega | skip);rintro e w' ⟨rfl,rfl⟩))
 all_goals
  obtain⟨W1,hW1⟩:∃W1,W1=(W0.alloc (.cells #[.int .i64 (1+pk a 6),.int .i64 (pk b 5),.bool (pk c 2==0),.int .i64 0,.int .i64 0,.int .i64 0,.int .i64 0,.int .i64 (pk (b.tdiv 5) 4-1),.bool (decide (0<pk (c.tdiv 2) 3))] 55)).drew:=⟨_,rfl⟩;obtain⟨ab,hab⟩:∃ab,ab=W0.heap.size:=⟨_,rfl⟩;rw [←hW1, ←hab];have d0:W1.cell? ⟨ab,0,none⟩=some (.int .i64 (1+pk a 6)):=(by rw [hW1,hab];exact aj W0 _ rfl _ _ _ _ rfl);have d1:W1.cell? ⟨ab,1,none⟩=some (.int .i64 (pk b 5)):=(by rw [hW1,hab];exact aj W0 _ rfl _ _ _ _ rfl);have d2:W1.cell? ⟨ab,2,none⟩=some (.bool (pk c 2==0)):=(by rw [hW1,hab];exact aj W0 _ rfl _ _ _ _ rfl);have d3:W1.cell? ⟨ab,3,none⟩=some (.int .i64 0):=(by rw [hW1,hab];exact aj W0 _ rfl _ _ _ _ rfl);have d4:W1.cell? ⟨ab,4,none⟩=some (.int .i64 0):=(by rw [hW1,hab];exact aj W0 _ rfl _ _ _ _ rfl);have d5:W1.cell? ⟨ab,5,none⟩=some (.int .i64 0):=(by rw [hW1,hab];exact aj W0 _ rfl _ _ _ _ rfl);have d6:W1.cell? ⟨ab,6,none⟩=some (.int .i64 0):=(by rw [hW1,hab];exact aj W0 _ rfl _ _ _ _ rfl);have d7:W1.cell? ⟨ab,7,none⟩=some (.int .i64 (pk (b.tdiv 5) 4-1)):=(by rw [hW1,hab];exact aj W0 _ rfl _ _ _ _ rfl);have d8:W1.cell? ⟨ab,8,none⟩=some (.bool (decide (0<pk (c.tdiv 2) 3))):=(by rw [hW1,hab];exact aj W0 _ rfl _ _ _ _ rfl);have z3:W1.frozen? ⟨ab,3,none⟩=false:=(by rw [hW1,hab];exact dg W0 _ rfl _ _ _);have z4:W1.frozen? ⟨ab,4,none⟩=false:=(by rw [hW1,hab];exact dg W0 _ rfl _ _ _);have z5:W1.frozen? ⟨ab,5,none⟩=false:=(by rw [hW1,hab];exact dg W0 _ rfl _ _ _);have z6:W1.frozen? ⟨ab,6,none⟩=false:=(by rw [hW1,hab];exact dg W0 _ rfl _ _ _);have B1:Below W0.heap.size W0 W1:=by rw [hW1];exact((Below.refl _ _).alloc zr _).drew
  have e0:=zC c0 B1;have e1:=zC c1 B1;have e2:=zC c2 B1;have e3:=zC c3 B1;have HT1:W1.there (w.heap.size+1) 0 28:=fun j hj=>⟨by rw [show W1.cell? ⟨w.heap.size+1,0+j,none⟩=W0.cell? ⟨w.heap.size+1,0+j,none⟩from B1.cell (p:=⟨w.heap.size+1,0+j,none⟩) hlt];exact(HT j hj).1,(B1.frozen (p:=⟨w.heap.size+1,0+j,none⟩) hlt).trans (HT j hj).2⟩;have HBE1:Below w.heap.size w W1:=HBE.trans (B1.mono HBE.size);have hn2:w.heap.size+1<ab:=(by omega);have hn3:¬ab=w.heap.size:=(by omega);have hn4:¬w.heap.size=ab:=(by omega);have hn5:w.heap.size≤ab:=(by omega);clear hW1 hab c0 c1 c2 c3 HT HBE B1 hlt;by_cases g1:pk (c.tdiv 6) 2=0
  ·by_cases g2:pk (c.tdiv 12) 3=0
   ·go_wp2_with (first |(go_at_call 34;refine(aI _ _ _ ?_ ?_ ?_ ?_).mono ?_;(first | omega | skip);(first | omega | skip);(first | omega | skip);(first | omega | skip);rintro e w' ⟨rfl,rfl⟩) |(refine wpList_store_mid rfl 57 _ _ rfl _ 0 _ rfl rfl ?_ dM ?_ ?_))
    ·exact(World.there_setCells (World.there_setCells (World.there_setCells (World.there_setCells HT1 ab 3 [.int .i64 (pk (a.tdiv 6) 30)]) ab 4 [.int .i64 16]) ab 5 [.int .i64 (pk (b.tdiv 20) 8*4)]) ab 6 [.int .i64 14])
    ·exact fq ⟨3,0,0,0,0,0,0,0,0,1+pk a 6,pk b 5,pk c 2==0,pk (a.tdiv 6) 30,16,pk (b.tdiv 20) 8*4,14,pk (b.tdiv 5) 4-1,decide (0<pk (c.tdiv 2) 3),0,0,0,0,0,0,0,0,0,⟨#[]⟩⟩
    refine bodyPost_ret (v:=eF ⟨3,0,0,0,0,0,0,0,0,1+pk a 6,pk b 5,pk c 2==0,pk (a.tdiv 6) 30,16,pk (b.tdiv 20) 8*4,14,pk (b.tdiv 5) 4-1,decide (0<pk (c.tdiv 2) 3),0,0,0,0,0,0,0,0,0,⟨#[]⟩⟩) (de (b:=w.heap.size+1) rfl rfl rfl (World.there_setCells (World.there_setCells (World.there_setCells (World.there_setCells HT1 ab 3 [.int .i64 (pk (a.tdiv 6) 30)]) ab 4 [.int .i64 16]) ab 5 [.int .i64 (pk (b.tdiv 20) 8*4)]) ab 6 [.int .i64 14])) rfl ⟨_,rfl,?_,?_⟩
    ·simp
    ·exact bT (Nat.le_succ _) _ _ _ ((((HBE1.setCell (p:=⟨ab,3,none⟩) hn5 (.int .i64 (pk (a.tdiv 6) 30))).setCell (p:=⟨ab,4,none⟩) hn5 (.int .i64 16)).setCell (p:=⟨ab,5,none⟩) hn5 (.int .i64 (pk (b.tdiv 20) 8*4))).setCell (p:=⟨ab,6,none⟩) hn5 (.int .i64 14))
   ·go_wp2_with (first |(go_at_call 34;refine(aI _ _ _ ?_ ?_ ?_ ?_).mono ?_;(first | omega | skip);(first | omega | skip);(first | omega | skip);(first | omega | skip);rintro e w' ⟨rfl,rfl⟩) |(refine wpList_store_mid rfl 57 _ _ rfl _ 0 _ rfl rfl ?_ dM ?_ ?_))
    ·exact(World.there_setCells (World.there_setCells HT1 ab 3 [.int .i64 (pk (a.tdiv 6) 30)]) ab 4 [.int .i64 16])
    ·exact fq ⟨3,0,0,0,0,0,0,0,0,1+pk a 6,pk b 5,pk c 2==0,pk (a.tdiv 6) 30,16,0,0,pk (b.tdiv 5) 4-1,decide (0<pk (c.tdiv 2) 3),0,0,0,0,0,0,0,0,0,⟨#[]⟩⟩
    refine bodyPost_ret (v:=eF ⟨3,0,0,0,0,0,0,0,0,1+pk a 6,pk b 5,pk c 2==0,pk (a.tdiv 6) 30,16,0,0,pk (b.tdiv 5) 4-1,decide (0<pk (c.tdiv 2) 3),0,0,0,0,0,0,0,0,0,⟨#[]⟩⟩) (de (b:=w.heap.size+1) rfl rfl rfl (World.there_setCells (World.there_setCells HT1 ab 3 [.int .i64 (pk (a.tdiv 6) 30)]) ab 4 [.int .i64 16])) rfl ⟨_,rfl,?_,?_⟩
    ·simp
    ·exact bT (Nat.le_succ _) _ _ _ ((HBE1.setCell (p:=⟨ab,3,none⟩) hn5 (.int .i64 (pk (a.tdiv 6) 30))).setCell (p:=⟨ab,4,none⟩) hn5 (.int .i64 16))
  ·by_cases g2:pk (c.tdiv 12) 3=0
   ·go_wp2_with (first |(go_at_call 34;refine(aI _ _ _ ?_ ?_ ?_ ?_).mono ?_;(first | omega | skip);(first | omega | skip);(first | omega | skip);(first | omega | skip);rintro e w' ⟨rfl,rfl⟩) |(refine wpList_store_mid rfl 57 _ _ rfl _ 0 _ rfl rfl ?_ dM ?_ ?_))
    ·exact(World.there_setCells (World.there_setCells HT1 ab 5 [.int .i64 (pk (b.tdiv 20) 8*4)]) ab 6 [.int .i64 14])
    ·exact fq ⟨3,0,0,0,0,0,0,0,0,1+pk a 6,pk b 5,pk c 2==0,0,0,pk (b.tdiv 20) 8*4,14,pk (b.tdiv 5) 4-1,decide (0<pk (c.tdiv 2) 3),0,0,0,0,0,0,0,0,0,⟨#[]⟩⟩
    refine bodyPost_ret (v:=eF ⟨3,0,0,0,0,0,0,0,0,1+pk a 6,pk b 5,pk c 2==0,0,0,pk (b.tdiv 20) 8*4,14,pk (b.tdiv 5) 4-1,decide (0<pk (c.tdiv 2) 3),0,0,0,0,0,0,0,0,0,⟨#[]⟩⟩) (de (b:=w.heap.size+1) rfl rfl rfl (World.there_setCells (World.there_setCells HT1 ab 5 [.int .i64 (pk (b.tdiv 20) 8*4)]) ab 6 [.int .i64 14])) rfl ⟨_,rfl,?_,?_⟩
    ·simp
    ·exact bT (Nat.le_succ _) _ _ _ ((HBE1.setCell (p:=⟨ab,5,none⟩) hn5 (.int .i64 (pk (b.tdiv 20) 8*4))).setCell (p:=⟨ab,6,none⟩) hn5 (.int .i64 14))
   ·go_wp2_with (first |(go_at_call 34;refine(aI _ _ _ ?_ ?_ ?_ ?_).mono ?_;(first | omega | skip);(first | omega | skip);(first | omega | skip);(first | omega | skip);rintro e w' ⟨rfl,rfl⟩) |(refine wpList_store_mid rfl 57 _ _ rfl _ 0 _ rfl rfl ?_ dM ?_ ?_))
    ·exact HT1
    ·exact fq ⟨3,0,0,0,0,0,0,0,0,1+pk a 6,pk b 5,pk c 2==0,0,0,0,0,pk (b.tdiv 5) 4-1,decide (0<pk (c.tdiv 2) 3),0,0,0,0,0,0,0,0,0,⟨#[]⟩⟩
    refine bodyPost_ret (v:=eF ⟨3,0,0,0,0,0,0,0,0,1+pk a 6,pk b 5,pk c 2==0,0,0,0,0,pk (b.tdiv 5) 4-1,decide (0<pk (c.tdiv 2) 3),0,0,0,0,0,0,0,0,0,⟨#[]⟩⟩) (de (b:=w.heap.size+1) rfl rfl rfl HT1) rfl ⟨_,rfl,?_,?_⟩
    ·simp
    ·exact bT (Nat.le_succ _) _ _ _ HBE1
theorem sX (x:Int×Int×Int×Int) (w:World) (hk: -9223372036854775808≤x.1∧x.1≤9223372036854775807) (ha: -9223372036854775808≤x.2.1∧x.2.1≤9223372036854775807) (hb: -9223372036854775808≤x.2.2.1∧x.2.2.1≤9223372036854775807) (hc: -9223372036854775808≤x.2.2.2∧x.2.2.2≤9223372036854775807):
  Calls Tryz.prog 33 #[.agg #[.int .i64 x.1,.int .i64 x.2.1,.int .i64 x.2.2.1,.int .i64 x.2.2.2]] w fun e w'=>∃x:Ax,e= .returned (eF x)∧x.si≤6∧Below w.heap.size w w':=by
 obtain⟨p0,p1⟩:=bv x.1 16 (by omega);rcases(show pk x.1 16<3∨(¬pk x.1 16<3∧pk x.1 16<10)∨(¬pk x.1 16<10∧pk x.1 16<12)∨pk x.1 16=12∨pk x.1 16=13∨13<pk x.1 16 by omega)with h | h | h | h | h | h
 ·exact vW _ _ _ _ w hk ha hb hc h
 ·exact vP _ _ _ _ w hk ha hb hc h
 ·exact vt _ _ _ _ w hk ha hb hc h
 ·exact vj _ _ _ _ w hk ha hb hc h
 ·exact uT _ _ _ _ w hk ha hb hc h
 ·exact vU _ _ _ _ w hk ha hb hc h

theorem jP {α:Type} {L0 R0 L R:List α} {x:α} (h:L0++R0=L++x::R):(∃L1,L=L0++L1∧R0=L1++x::R)∨∃L1,L0=L++x::L1∧R=L1++R0:=by
 rw [List.append_eq_append_iff]at h;rcases h with⟨a,h1,h2⟩ |⟨a,h1,h2⟩
 ·exact .inl ⟨a,h1,h2⟩
 ·cases a with
  | nil=>simp at h1 h2;exact .inl ⟨[],by simp [h1],by simp [h2]⟩
  | cons b c=>
   simp at h2;obtain⟨rfl,h2⟩:=h2;exact .inr ⟨c,h1,h2⟩
def Like (y z:Pr):Prop:=y.i=z.i∧y.s=z.s∧y.m=z.m∧y.p=z.p
theorem Like.refl (y:Pr):Like y y:=⟨rfl,rfl,rfl,rfl⟩
theorem pL {S:List Sw} {P P':List Pr} {x x':Pr} (h:bn S P x=0) (hx:Like x' x) (hb:fW x'=true) (hp:∀y∈P',∃z∈P,Like y z) (hl:P'.length≤P.length):bn S P' x'=0:=by
 rw [ez]at h⊢;obtain⟨h1,h2,h3,h4,h5⟩:=h;obtain⟨e1,e2,e3,e4⟩:=hx;rw [e1,e2,e3,e4];refine⟨hb,h2,?_,?_,by omega⟩
 ·rw [List.any_eq_false]at h3⊢;intro y hy;obtain⟨z,hz,f1,f2,f3,f4⟩:=hp y hy;rw [f1,f2,f3];exact h3 z hz
 ·unfold ce at h4⊢;rw [Bool.or_eq_false_iff]at h4⊢;refine⟨h4.1,?_⟩;have h6:=h4.2;rw [List.any_eq_false]at h6⊢;intro y hy;obtain⟨z,hz,f1,f2,f3,f4⟩:=hp y hy;rw [f2,f4];exact h6 z hz
theorem yz {S:List Sw} {P:List Pr} (h:aY S P=true) (k:Nat):aY S (P.eraseIdx k)=true:=by
 rcases Nat.lt_or_ge k P.length with hk | hk
 ·have e:P=P.take k++P[k]::P.drop (k+1):=by
   conv=>lhs;rw [←List.take_append_drop k P]
   rw [List.drop_eq_getElem_cons hk]
  rw [List.eraseIdx_eq_take_drop_succ];rw [cT]at h⊢;intro L x R hq;rcases jP hq with⟨L1,rfl,h2⟩ |⟨L1,h1,rfl⟩
  ·have h3:=h (P.take k++P[k]::L1) x R (by rw [List.append_assoc,List.cons_append, ←h2];exact e);refine pL h3 (Like.refl x) ((ez _ _ _).1 h3).1 (fun y hy=>⟨y,?_,Like.refl y⟩) (by simp);simp only [List.mem_append,List.mem_cons]at hy⊢;rcases hy with hy | hy
   ·exact .inl hy
   ·exact .inr (.inr hy)
  ·exact h L x (L1++P[k]::P.drop (k+1)) (by rw [←List.cons_append, ←List.append_assoc, ←h1];exact e)
 ·rw [List.eraseIdx_of_length_le hk];exact h
theorem wO {S:List Sw} {P:List Pr} (h:aY S P=true) (k:Nat) {m:Int} (hm:inB m (-1) 5=true):aY S (P.set k ⟨(P.getD k pr0).i,(P.getD k pr0).s,(P.getD k pr0).m,(P.getD k pr0).p,m⟩)=true:=by
 rcases Nat.lt_or_ge k P.length with hk | hk
 ·have hg:P.getD k pr0=P[k]:=(by simp [List.getD,List.getElem?_eq_getElem hk]);rw [hg];obtain⟨z,hz⟩:∃z:Pr,z=⟨P[k].i,P[k].s,P[k].m,P[k].p,m⟩:=⟨_,rfl⟩;rw [←hz];have hzb:Like z P[k]:=by rw [hz];exact⟨rfl,rfl,rfl,rfl⟩
  have hzi:fW z=true:=by
   have:=(ul h (List.getElem_mem hk)).1;rw [hz];unfold fW at this⊢;simp only [Bool.and_eq_true]at this⊢;exact⟨this.1,hm⟩
  clear hz;have e:P=P.take k++P[k]::P.drop (k+1):=by
   conv=>lhs;rw [←List.take_append_drop k P]
   rw [List.drop_eq_getElem_cons hk]
  have e2:P.set k z=P.take k++z::P.drop (k+1):=by
   rw [List.set_eq_take_append_cons_drop,if_pos hk]
  rw [e2];rw [cT]at h⊢;intro L x R hq;rcases jP hq with⟨L1,rfl,h2⟩ |⟨L1,h1,rfl⟩
  ·cases L1 with
   | nil=>
    simp at h2;obtain⟨rfl,rfl⟩:=h2;have h3:=h (P.take k) P[k] _ e;rw [List.append_nil];exact pL h3 hzb hzi (fun y hy=>⟨y,hy,Like.refl y⟩) zr
   | cons b c=>
    simp at h2;obtain⟨rfl,h2⟩:=h2;have h3:=h (P.take k++P[k]::c) x R (by rw [List.append_assoc,List.cons_append, ←h2];exact e);refine pL h3 (Like.refl x) ((ez _ _ _).1 h3).1 (fun y hy=>?_) (by simp);simp only [List.mem_append,List.mem_cons]at hy;rcases hy with hy | rfl | hy
    ·exact⟨y,by simp [hy],Like.refl y⟩
    ·exact⟨P[k],by simp,hzb⟩
    ·exact⟨y,by simp [hy],Like.refl y⟩
  ·exact h L x (L1++P[k]::P.drop (k+1)) (by rw [←List.cons_append, ←List.append_assoc, ←h1];exact e)
 ·rw [List.set_eq_of_length_le hk];exact h
theorem Al {S:List Sw} {P:List Pr} {x:Pr} (h:aY S P=true) (hx:bn S P x=0):aY S (P++ [x])=true:=by
 rw [cT]at h⊢;intro L y R hq;rcases iC hq with⟨rfl,rfl⟩ |⟨R',e⟩
 ·exact hx
 ·exact h L y R' e
theorem rT {S:List Sw} {s:Sw} {id:Int} (h:0≤idx (fun x=>x.i==id) S):idx (fun x=>x.i==id) (S++ [s])=idx (fun x=>x.i==id) S:=by
 unfold idx at h⊢;rw [List.findIdx?_append];cases hq:S.findIdx? (fun x=>x.i==id)with
 | none=>rw [hq]at h;simp at h
 | some k=>rfl
theorem zJ {S:List Sw} {s:Sw} {id:Int} (h:0≤idx (fun x=>x.i==id) S):tn (S++ [s]) id=tn S id:=by
 unfold tn;rw [rT h];have:=(pK (fun x:Sw=>x.i==id) S).2;simp only [List.getD];rw [List.getElem?_append_left (by omega)]
theorem BE {S:List Sw} {id:Int} (h:0≤idx (fun x=>x.i==id) S):S.any (fun s=>s.i==id&&s.t==tn S id)=true:=by
 unfold tn;unfold idx at h⊢;cases hq:S.findIdx? (fun x=>x.i==id)with
 | none=>rw [hq]at h;simp at h
 | some k=>
  obtain⟨hk,hp,_⟩:=List.findIdx?_eq_some_iff_getElem.1 hq;refine List.any_eq_true.2 ⟨S[k],List.getElem_mem hk,?_⟩;simp only [Int.toNat_natCast,List.getD,List.getElem?_eq_getElem hk,Option.getD_some,beq_self_eq_true,Bool.and_true];exact hp
theorem As {S:List Sw} {P L:List Pr} {s:Sw} {x:Pr} (hs:bo S P s=0) (hP:aY S P=true) (hL:∀y∈L,y∈P) (hx:x∈P) (h:bn S L x=0):bn (S++ [s]) L x=0:=by
 rw [ez]at h⊢;obtain⟨h1,h2,h3,h4,h5⟩:=h;rw [zJ h2,rT h2];refine⟨h1,h2,h3,?_,h5⟩;obtain⟨⟨_,_,s1⟩,⟨s2,s3⟩,_⟩:=lK hs;have hip:1≤x.p:=by
  unfold fW at h1;simp only [Bool.and_eq_true,inB,decide_eq_true_eq]at h1;omega
 unfold ce at h4⊢;rw [Bool.or_eq_false_iff]at h4⊢;obtain⟨h6,h7⟩:=h4;constructor
 ·rw [List.any_append,h6,Bool.false_or];simp only [List.any_cons,List.any_nil,Bool.or_false];refine Bool.not_eq_true _ |>.mp fun hc=>?_
  simp only [Bool.and_eq_true,beq_iff_eq]at hc;have hg:(s.g != 0)=true:=by simp;omega
  rw [hg,Bool.true_and]at s3;unfold ce at s3;rw [Bool.or_eq_false_iff]at s3;have s4:=s3.2;rw [List.any_eq_false]at s4;refine s4 x hx ?_;rw [hc.2,hc.1];simp only [beq_self_eq_true,Bool.true_and];exact BE h2
 ·rw [List.any_eq_false]at h7⊢;intro y hy hc;refine h7 y hy ?_;simp only [Bool.and_eq_true]at hc⊢;refine⟨hc.1,?_⟩;have hc2:=hc.2;rw [List.any_append,Bool.or_eq_true]at hc2;rcases hc2 with hc2 | hc2
  ·exact hc2
  ·simp only [List.any_cons,List.any_nil,Bool.or_false,Bool.and_eq_true,beq_iff_eq]at hc2;have hy2:=(ul hP (hL y hy)).2;have ha:S.any (fun q=>q.i==y.s)=true:=by rw [←ei];simpa using hy2
   rw [←hc2.1,s2]at ha;simp at ha
theorem xZ {S:List Sw} {P:List Pr} {s:Sw} (hs:bo S P s=0) (h:aY S P=true):aY (S++ [s]) P=true:=by
 have h':=(cT S P).1 h;rw [cT];rintro L x R rfl;exact As hs h (fun y hy=>by simp [hy]) (by simp) (h' L x R rfl)
theorem tZ {S S':List Sw} {A A':List Ac} {x:Ac} (h:bE S A x=0) (hs:∀y∈S,y∈S') (hl:A'.length≤A.length):bE S' A' x=0:=by
 rw [tM]at h⊢;refine⟨h.1,h.2.1,?_,by omega⟩;have h3:=h.2.2.1;rw [List.any_eq_true]at h3⊢;obtain⟨y,hy,e⟩:=h3;exact⟨y,hs y hy,e⟩
theorem xK {S:List Sw} {A:List Ac} (h:cC S A=true) (k:Nat):cC S (A.eraseIdx k)=true:=by
 rcases Nat.lt_or_ge k A.length with hk | hk
 ·have e:A=A.take k++A[k]::A.drop (k+1):=by
   conv=>lhs;rw [←List.take_append_drop k A]
   rw [List.drop_eq_getElem_cons hk]
  rw [List.eraseIdx_eq_take_drop_succ];rw [kw]at h⊢;intro L x R hq;rcases jP hq with⟨L1,rfl,h2⟩ |⟨L1,h1,rfl⟩
  ·have h3:=h (A.take k++A[k]::L1) x R (by rw [List.append_assoc,List.cons_append, ←h2];exact e);exact tZ h3 (fun y hy=>hy) (by simp)
  ·exact h L x (L1++A[k]::A.drop (k+1)) (by rw [←List.cons_append, ←List.append_assoc, ←h1];exact e)
 ·rw [List.eraseIdx_of_length_le hk];exact h
theorem za {S:List Sw} {A:List Ac} {x:Ac} (h:cC S A=true) (hx:bE S A x=0):cC S (A++ [x])=true:=by
 rw [kw]at h⊢;intro L y R hq;rcases iC hq with⟨rfl,rfl⟩ |⟨R',e⟩
 ·exact hx
 ·exact h L y R' e
theorem wG {S:List Sw} {A:List Ac} {s:Sw} (h:cC S A=true):cC (S++ [s]) A=true:=by
 rw [kw]at h⊢;intro L x R hq;exact tZ (h L x R hq) (fun y hy=>by simp [hy]) zr
theorem Aj {S:List Sw} {P:List Pr} {s:Sw} (h:bo S P s=0):bo S [] s=0:=by
 obtain⟨⟨a,b,c⟩,⟨d,e⟩,f⟩:=lK h;unfold bo;rw [a,b,c,d];have e':(s.g != 0&&ce S [] s.t s.g)=false:=by
  cases hg:(s.g != 0)with
  | false=>rfl
  | true=>
   rw [hg,Bool.true_and]at e;unfold ce at e⊢;rw [Bool.or_eq_false_iff]at e;simp [e.1]
 rw [e'];simp;omega
theorem zM {S:List Sw} {P:List Pr} {s:Sw} (h:bJ S=true) (hs:bo S P s=0):bJ (S++ [s])=true:=by
 rw [nr]at h⊢;intro L y R hq;rcases iC hq with⟨rfl,rfl⟩ |⟨R',e⟩
 ·exact Aj hs
 ·exact h L y R' e
theorem wH {S:List Sw} {P:List Pr} {A:List Ac} {a:Ax} (h:may S P A=true) (ha:bO S P A a=0):may (nxS S a) (nxP P a) (nxA A a)=true:=by
 obtain⟨h1,h2,h3⟩:=bu h;have go:∀{S':List Sw} {P':List Pr} {A':List Ac},bJ S'=true→aY S' P'=true→cC S' A'=true→may S' P' A'=true:=fun a b c=>by unfold may;rw [a,b,c];rfl
 unfold bO at ha;unfold nxS nxP nxA;by_cases k1:a.k=1
 ·rw [if_pos k1]at ha;simp only [k1,if_pos];exact go (zM h1 ha) (xZ ha h2) (wG h3)
 ·rw [if_neg k1]at ha;rw [if_neg k1];by_cases k2:a.k=2
  ·rw [if_pos k2]at ha;rw [if_pos k2,if_neg (by omega),if_neg (by omega)];exact go h1 (Al h2 ha) h3
  ·rw [if_neg k2]at ha;rw [if_neg k2];by_cases k3:a.k=3
   ·rw [if_pos k3]at ha;rw [if_neg (by omega),if_neg (by omega),if_pos k3];exact go h1 h2 (za h3 ha)
   ·rw [if_neg k3]at ha;rw [if_neg k3];by_cases k4:a.k=4
    ·rw [if_pos k4,if_neg (by omega)];exact go h1 (yz h2 _) h3
    ·rw [if_neg k4]at ha;rw [if_neg k4];by_cases k6:a.k=6
     ·rw [if_pos k6]at ha;rw [if_pos k6,if_neg (by omega)];by_cases hb:inB a.m (-1) 5=true
      ·exact go h1 (wO h2 _ hb) h3
      ·rw [if_neg hb]at ha;split at ha <;>omega
     ·rw [if_neg k6];by_cases k5:a.k=5
      ·rw [if_pos k5];exact go h1 h2 (xK h3 _)
      ·rw [if_neg k5];exact h
def vF (S:List Sw) (P:List Pr) (A:List Ac):Prop:=may S P A=true∧(∀s∈S,s.i≤6)∧S.any (fun s=>s.i==1)=true
theorem Ba {S:List Sw} {P:List Pr} {A:List Ac} {a:Ax} (h:gl S P A a=0):may S P A=true∧bO S P A a=0:=by
 unfold gl at h;cases hm:may S P A with
 | true=>rw [hm]at h;exact⟨rfl,by simpa using h⟩
 | false=>rw [hm]at h;simp at h
theorem vq {S:List Sw} {P:List Pr} {A:List Ac} {a:Ax} (h:vF S P A) (ha:gl S P A a=0) (hs:a.si≤6):vF (apS S P A a) (apP S P A a) (apA S P A a):=by
 obtain⟨h1,h2,h3⟩:=h;unfold apS apP apA;rw [if_pos ha,if_pos ha,if_pos ha];refine⟨wH h1 (Ba ha).2,?_,?_⟩
 ·unfold nxS;split
  ·intro s hs';rcases List.mem_append.1 hs' with hs' | hs'
   ·exact h2 s hs'
   ·obtain rfl:s=a.s:=(by simpa using hs');exact hs
  ·exact h2
 ·unfold nxS;split
  ·rw [List.any_append,h3];rfl
  ·exact h3
def S0:List Sw:=[⟨1,1,200⟩,⟨2,1,201⟩,⟨3,1,0⟩,⟨4,2,200⟩]
def yZ (k:Nat):Int:=[200,201,0,200].getD k 0
def ia (k:Nat):Ax:=⟨1,1+(k:Int),1+(k:Int)/3,yZ k,0,0,0,0,0,0,0,false,0,0,0,0,0,false,0,0,0,0,0,0,0,0,0,⟨#[]⟩⟩
theorem ini {k:Nat} (h:k<4):gl (S0.take k) [] [] (ia k)=0∧apS (S0.take k) [] [] (ia k)=S0.take (k+1)∧apP (S0.take k) [] [] (ia k)= []∧apA (S0.take k) [] [] (ia k)= []:=by
 rcases(show k=0∨k=1∨k=2∨k=3 by omega)with rfl | rfl | rfl | rfl <;>exact⟨by decide,by rfl,by rfl,by rfl⟩
theorem zV {k:Nat} (h:k<4):(#[Value.int .i64 200,.int .i64 201,.int .i64 0,.int .i64 200]:Array Value)[k]? =some (.int .i64 (yZ k)):=by
 rcases(show k=0∨k=1∨k=2∨k=3 by omega)with rfl | rfl | rfl | rfl <;>rfl
theorem Bl:vF S0 [] []:=⟨by decide,by decide,by decide⟩
def Sl (v:Value):Prop:=∃a n c,v= .slice a n c
theorem Sl.nil:Sl (.slice none 0 0):=⟨_,_,_,rfl⟩
theorem Sl.one {v:Value} (h:Sl v):v.oneCell'=true:=by obtain⟨a,n,c,rfl⟩:=h;rfl
theorem oZ {x y z:Value} (hx:Sl x) (hy:Sl y) (hz:Sl z):(#[x,y,z]:Array Value).all (·.oneCell')=true:=by
 obtain⟨_,_,_,rfl⟩:=hx;obtain⟨_,_,_,rfl⟩:=hy;obtain⟨_,_,_,rfl⟩:=hz;exact dO (cs:=[_,_,_]) rfl
theorem kl {w:World} {su pu au:Value} {S:List Sw} {P:List Pr} {A:List Ac} (h:CfAt w su pu au S P A):Sl su∧Sl pu∧Sl au:=by
 obtain⟨_,_,h1⟩:=h.1.slice;obtain⟨_,_,h2⟩:=h.2.1.slice;obtain⟨_,_,h3⟩:=h.2.2.slice;exact⟨⟨_,_,_,h1⟩,⟨_,_,_,h2⟩,_,_,_,h3⟩
theorem fU {w:World} {su pu au x y z:Value} {S:List Sw} {P:List Pr} {A:List Ac} {b:Nat} (h:CfAt w su pu au S P A) (hB:Box w b [x,y,z]) (hx:Sl x) (hy:Sl y) (hz:Sl z) (u v t:Value):CfAt (w.setCells b 0 [u,v,t]) su pu au S P A:=by
 obtain⟨_,_,_,rfl⟩:=hx;obtain⟨_,_,_,rfl⟩:=hy;obtain⟨_,_,_,rfl⟩:=hz;have h0:=hB.cell 0 _ rfl;have h1:=hB.cell 1 _ rfl;have h2:=hB.cell 2 _ rfl;exact((h.set_box h0 u).set_box ((World.cell?_setCell_other _ _ _ _ (by simp)).trans h1) v).set_box ((World.cell?_setCell_other _ _ _ _ (by simp)).trans ((World.cell?_setCell_other _ _ _ _ (by simp)).trans h2)) t
theorem yQ {P:Program} {c:Code} {Q:Exit→Act→World→Prop} {a:Act} {w:World} (F:Nat→Value→Value→Value→World→Prop) (A1:Nat→Nat→Value→Value→Value→Act) (h:c.wp P (fun e a' w'=>e= .normal∧∃s d x y z,a'=A1 s d x y z∧F d x y z w') a w) (hq:∀s d x y z w',F d x y z w'→Q .normal (A1 s d x y z) w'):c.wp P Q a w:=
 Code.wp_mono (fun e a' w' ⟨he,s,d,x,y,z,ha,hf⟩=>by subst he;subst ha;exact hq s d x y z w' hf) h
theorem wV {P:Program} {c:Code} {Q:Exit→Act→World→Prop} {a:Act} {w:World} (F:Nat→Value→Value→Value→Int→World→Prop) (A1:Nat→Value→Value→Value→Value→Int→Act) (h:c.wp P (fun e a' w'=>e= .normal∧∃d x y z v n,a'=A1 d x y z v n∧F d x y z n w') a w) (hq:∀d x y z v n w',F d x y z n w'→Q .normal (A1 d x y z v n) w'):c.wp P Q a w:=
 Code.wp_mono (fun e a' w' ⟨he,d,x,y,z,v,n,ha,hf⟩=>by subst he;subst ha;exact hq d x y z v n w' hf) h
theorem xY:(Tryz.prog.info? 24).map (·.size)=some 4:=by kernel_rfl
def BJ (w wr:World) (cb:Nat):Prop:=∃(S:List Sw) (P:List Pr) (A:List Ac) (su pu au:Value),Hid (Box wr cb [su,pu,au])∧Hid (Box wr w.heap.size [.slice none 0 0,.slice none 0 0,.slice none 0 0])∧Hid (vF S P A)∧Hid (CfAt wr su pu au S P A)∧Below w.heap.size w wr
theorem ws (l:List Rw) (lv:Value) (w:World) (hL:RowAt rwC 4 w lv l):
  Calls Tryz.prog 11 #[lv,.int .i64 40] w fun e w'=>∃su pu au,e= .returned (.agg #[su,pu,au])∧∃S P A,CfAt w' su pu au S P A∧vF S P A∧Below w.heap.size w w':=by
 have HCH:Hid (∀(W:World) (x:Rw),Calls Tryz.prog 33 #[.agg #[.int .i64 x.k,.int .i64 x.a,.int .i64 x.b,.int .i64 x.c]] W fun e w'=>∃x:Ax,e= .returned (eF x)∧x.si≤6∧Below W.heap.size W w'):=fun W x=>sX (x.k,x.a,x.b,x.c) W x.ok.1 x.ok.2.1 x.ok.2.2.1 x.ok.2.2.2;have HAP:=aa (fun(W:World) (a:Ax) (sv pv av:Value) (S:List Sw) (P:List Pr) (A:List Ac) (hC:CfAt W sv pv av S P A) (hm:S.length≤12∧P.length≤40∧A.length≤40)=>vM sv pv av S P A a W hC (by omega) (by omega) (by omega));obtain⟨la,lc,rfl⟩:=hL.slice;have HL:=aa hL;clear hL;obtain⟨cb,hcb⟩:∃cb,cb=w.heap.size+1:=⟨_,rfl⟩;obtain⟨W0,hW0⟩:∃W0,W0=(w.alloc (.cells #[.slice none 0 0,.slice none 0 0,.slice none 0 0] 30)).alloc (.cells #[.slice none 0 0,.slice none 0 0,.slice none 0 0] 30):=⟨_,rfl⟩;have kb:Below w.heap.size w W0:=by rw [hW0];exact((Below.refl _ w).alloc zr _).alloc (by simp) _
 have HR:Hid (Box W0 w.heap.size [.slice none 0 0,.slice none 0 0,.slice none 0 0]):=by rw [hW0];exact aa ((Box.new w [.slice none 0 0,.slice none 0 0,.slice none 0 0] 30).alloc _)
 have HB:Hid (Box W0 cb [.slice none 0 0,.slice none 0 0,.slice none 0 0]):=by rw [hW0,hcb];have h:=Box.new (w.alloc (.cells #[.slice none 0 0,.slice none 0 0,.slice none 0 0] 30)) [.slice none 0 0,.slice none 0 0,.slice none 0 0] 30;exact aa (by simpa using h)
 have hwc:w.heap.size<cb:=by omega
 go_enter Tryz.func11,Tryz.ntmps11;go_wp2_with fail
 rw [←hW0, ←hcb];clear hW0 hcb;go_loopw [13] (fun i wr=>∃(k:Nat) (T:List Sw) (su pu au:Value),k≤4∧i= .int .i64 k∧Hid (Box wr cb [su,pu,au])∧Hid (Box wr w.heap.size [.slice none 0 0,.slice none 0 0,.slice none 0 0])∧Hid (T=S0.take k)∧Hid (CfAt wr su pu au T [] [])∧Below w.heap.size w wr) (fun i _=>4-(intOf i).toNat)
 case atStart=>exact⟨0,[],_,_,_,by omega,rfl,HB,HR,aa rfl,aa ⟨RowAt.nil _ _ _,RowAt.nil _ _ _,RowAt.nil _ _ _⟩,kb⟩
 case round=>
  clear HB HR kb;obtain⟨k,T,su,pu,au,hk,rfl,HB,HR,HT,HC,kb⟩:=hrel;by_cases hlt:k<4
  ·obtain⟨T',hT'⟩:∃T',T'=S0.take (k+1):=⟨_,rfl⟩;have HAP1:Hid (∀(W:World) (sv pv av:Value),CfAt W sv pv av T [] []→Calls Tryz.prog 32 #[.agg #[sv,pv,av],eF (ia k)] W fun e w'=>∃su pu au,e= .returned (.tuple #[.agg #[su,pu,au],.int .i64 0])∧CfAt w' su pu au T' [] []∧Below W.heap.size W w'):=fun W sv pv av hC=>by
    rw [HT.out]at hC;rw [hT'];have:=HAP.out W (ia k) sv pv av _ _ _ hC ⟨by simp;omega,by simp,by simp⟩;obtain⟨q1,q2,q3,q4⟩:=ini hlt;rw [q1,q2,q3,q4]at this;exact this
   have HT1:=aa hT';clear hT' HT HAP HCH HL;have hk0:(0:Int)≤(k:Int):=(by omega);have hk4:(k:Int)<4:=(by omega);have u0:=az (1+(k:Int)) (by omega) (by omega);have u1:=az ((k:Int)/3) (by omega) (by omega);have u2:=az (1+(k:Int)/3) (by omega) (by omega);unfold ia at HAP1;have HGT:=aa (zV hlt);obtain⟨sl1,sl2,sl3⟩:=kl HC.out;have HS1:=aa sl1;have HS2:=aa sl2;have HS3:=aa sl3;clear sl1 sl2 sl3;go_upto_region 5 with fail
   apply yQ (fun d x y z W'=>(Hid (Box W' cb [su,pu,au])∧Hid (Box W' w.heap.size [.slice none 0 0,.slice none 0 0,.slice none 0 0])∧Hid (Box W' d [x,y,z]))∧(Hid (Sl x)∧Hid (Sl y)∧Hid (Sl z))∧(w.heap.size<d∧d≠cb)∧Hid (CfAt W' x y z T' [] [])∧Below w.heap.size w W')
   ·have hD:Below wr.heap.size wr wr.drew:=(Below.refl _ _).drew;replace HB:=aa (HB.out.below hD);replace HR:=aa (HR.out.below hD);replace HC:=aa (HC.out.below hD zr);replace kb:=kb.trans (hD.mono kb.size);clear hD;refine wp_region_held_drew (S:=(fun w'=>w'.rangeAt cb 0 [su,pu,au])) (by kernel_rfl) HB.out.range (fun hHeld=>?_);generalize wr.drew=V1 at*;refine wpAnyH_take (i:=0) (oi:=⟨some 17,_,_,_,_,_⟩) (v:=.agg #[su,pu,au]) rfl (by kernel_rfl) (by kernel_rfl) (by kernel_rfl) (fun _ _ _ h=>absurd h.1 (by simp)) (yieldsIf_load_mid (by rfl) 30 (.tmp 5) rfl cb 0 rfl [su,pu,au] _ (fun w h=>h) Tryz.underlying30 rfl bq) (by assumption) ?_;(try simp only [nz]);refine sqA [(1,18),(2,19),(3,20),(4,21),(5,22),(7,24)] ?_;(iterate 6 (refine sqN rfl (by kernel_rfl) (fun _ _ _ h=>absurd h.1 (by simp)) rfl ‹_› (by intro w h;go_simp <;>with_reducible rfl) ?_;simp only [nz]));refine sqZ ?_;refine wpAnyH_ready (rs:=[6,16]) (by kernel_rfl) (by simp) ?_;refine(AllReadyH.cons (o:=⟨some 23,_,_,_,_,_⟩) rfl (fun K hK=>?_) (AllReadyH.cons (o:=⟨some 7,_,_,_,_,_⟩) rfl (fun K hK=>?_) AllReadyH.nil));go_simp;clear hHeld;refine ah (fun Y6 gA hV hg=>?_);rw [←hg];have cg:Y6.cell? ⟨gA,k,none⟩=some (.int .i64 (yZ k)):=by rw [hV,hg];exact aj V1 _ rfl _ _ _ _ HGT.out
    have hbN:=zB hV;replace HB:=aa (HB.out.below hbN);replace HR:=aa (HR.out.below hbN);replace HC:=aa (HC.out.below hbN zr);replace kb:=kb.trans (hbN.mono kb.size);clear hV hg hbN;refine hK.out _ _ HB.out.range (fun hHeld=>?_);clear hK K;(try simp only [nz]);refine tq 8 25 rfl (by kernel_rfl) (fun _ _ _ h=>absurd h.1 (by simp)) rfl ‹_› (by intro w h;go_simp <;>with_reducible rfl) ?_;simp only [nz];refine wpAnyH_ready (rs:=[9,16]) (by kernel_rfl) (by simp) ?_;refine(AllReadyH.cons (o:=⟨some 26,_,_,_,_,_⟩) rfl (fun K hK=>?_) (AllReadyH.cons (o:=⟨some 7,_,_,_,_,_⟩) rfl (fun K hK=>?_) AllReadyH.nil));go_simp;clear hHeld;clear cg;refine hK.out _ _ HB.out.range (fun hHeld=>?_);clear hK K;(try simp only [nz]);refine sqA [(10,27),(11,28)] ?_;(iterate 2 (refine sqN rfl (by kernel_rfl) (fun _ _ _ h=>absurd h.1 (by simp)) rfl ‹_› (by intro w h;go_simp <;>with_reducible rfl) ?_;simp only [nz]));refine sqZ ?_;refine wpAnyH_ready (rs:=[12,16]) (by kernel_rfl) (by simp) ?_;refine(AllReadyH.cons (o:=⟨some 29,_,_,_,_,_⟩) rfl (fun K hK=>?_) (AllReadyH.cons (o:=⟨some 7,_,_,_,_,_⟩) rfl (fun K hK=>?_) AllReadyH.nil));go_simp;clear hHeld;refine(HAP1.out _ _ _ _ HC.out).mono ?_;rintro e Y12 ⟨su2,pu2,au2,rfl,hc2,hbY12⟩;have HE:=aa hc2;obtain⟨sl1,sl2,sl3⟩:=kl hc2;have HS4:=aa sl1;have HS5:=aa sl2;have HS6:=aa sl3;clear sl1 sl2 sl3 hc2;replace HB:=aa (HB.out.below hbY12);replace HR:=aa (HR.out.below hbY12);replace HC:=aa (HC.out.below hbY12 zr);replace kb:=kb.trans (hbY12.mono kb.size);clear hbY12;refine hK.out _ _ HB.out.range (fun hHeld=>?_);clear hK K;(try simp only [nz]);refine sqA [(13,16),(14,30),(15,31)] ?_;(iterate 3 (refine sqN rfl (by kernel_rfl) (fun _ _ _ h=>absurd h.1 (by simp)) rfl ‹_› (by intro w h;go_simp <;>with_reducible rfl) ?_;simp only [nz]));refine sqZ ?_;refine Go.Proofs.YtaiedioffemhdaaGreat.rs 16 7 (by kernel_rfl) rfl (fun K hK=>?_);go_simp;clear hHeld;refine ah (fun Y16 db hV hg=>?_);rw [←hg];have HD:Hid (Box Y16 db [.slice none 0 0,.slice none 0 0,.slice none 0 0]):=by rw [hV,hg];exact aa (Box.new Y12 [.slice none 0 0,.slice none 0 0,.slice none 0 0] 30)
    have hbN:=zB hV;have hdb:w.heap.size<db:=by have:=HB.out.lt;omega
    have hdc:db≠cb:=by have:=HB.out.lt;omega
    replace HB:=aa (HB.out.below hbN);replace HR:=aa (HR.out.below hbN);replace HC:=aa (HC.out.below hbN zr);replace HE:=aa (HE.out.below hbN zr);replace kb:=kb.trans (hbN.mono kb.size);clear hV hg hbN;refine hK.out _ _ HB.out.range (fun hHeld=>?_);clear hK K;(try simp only [nz]);generalize Y16=YJ at*
    rotate_left
    go_simp;clear hHeld;refine ah (fun Y16 db hV hg=>?_);rw [←hg];have HD:Hid (Box Y16 db [.slice none 0 0,.slice none 0 0,.slice none 0 0]):=by rw [hV,hg];exact aa (Box.new Y6 [.slice none 0 0,.slice none 0 0,.slice none 0 0] 30)
    have hbN:=zB hV;have hdb:w.heap.size<db:=by have:=HB.out.lt;omega
    have hdc:db≠cb:=by have:=HB.out.lt;omega
    replace HB:=aa (HB.out.below hbN);replace HR:=aa (HR.out.below hbN);replace HC:=aa (HC.out.below hbN zr);replace kb:=kb.trans (hbN.mono kb.size);clear hV hg hbN;refine hK.out _ _ HB.out.range (fun hHeld=>?_);clear hK K;(try simp only [nz]);refine Go.Proofs.YtaiedioffemhdaaGreat.rs 12 29 (by kernel_rfl) rfl (fun K hK=>?_);go_simp;clear hHeld;refine(HAP1.out _ _ _ _ HC.out).mono ?_;rintro e Y12 ⟨su2,pu2,au2,rfl,hc2,hbY12⟩;have HE:=aa hc2;obtain⟨sl1,sl2,sl3⟩:=kl hc2;have HS4:=aa sl1;have HS5:=aa sl2;have HS6:=aa sl3;clear sl1 sl2 sl3 hc2;replace HB:=aa (HB.out.below hbY12);replace HR:=aa (HR.out.below hbY12);replace HD:=aa (HD.out.below hbY12);replace HC:=aa (HC.out.below hbY12 zr);replace kb:=kb.trans (hbY12.mono kb.size);clear hbY12;refine hK.out _ _ HB.out.range (fun hHeld=>?_);clear hK K;(try simp only [nz]);refine sqA [(13,16),(14,30),(15,31)] ?_;(iterate 3 (refine sqN rfl (by kernel_rfl) (fun _ _ _ h=>absurd h.1 (by simp)) rfl ‹_› (by intro w h;go_simp <;>with_reducible rfl) ?_;simp only [nz]));refine sqZ ?_;generalize Y12=YJ at*
    rotate_left
    go_simp;clear hHeld;refine ah (fun Y16 db hV hg=>?_);rw [←hg];have HD:Hid (Box Y16 db [.slice none 0 0,.slice none 0 0,.slice none 0 0]):=by rw [hV,hg];exact aa (Box.new Y6 [.slice none 0 0,.slice none 0 0,.slice none 0 0] 30)
    have hbN:=zB hV;have hdb:w.heap.size<db:=by have:=HB.out.lt;omega
    have hdc:db≠cb:=by have:=HB.out.lt;omega
    replace cg:=zC cg hbN;replace HB:=aa (HB.out.below hbN);replace HR:=aa (HR.out.below hbN);replace HC:=aa (HC.out.below hbN zr);replace kb:=kb.trans (hbN.mono kb.size);clear hV hg hbN;refine hK.out _ _ HB.out.range (fun hHeld=>?_);clear hK K;(try simp only [nz]);refine Go.Proofs.YtaiedioffemhdaaGreat.rs 9 26 (by kernel_rfl) rfl (fun K hK=>?_);go_simp;clear hHeld;clear cg;refine hK.out _ _ HB.out.range (fun hHeld=>?_);clear hK K;(try simp only [nz]);refine sqA [(10,27),(11,28)] ?_;(iterate 2 (refine sqN rfl (by kernel_rfl) (fun _ _ _ h=>absurd h.1 (by simp)) rfl ‹_› (by intro w h;go_simp <;>with_reducible rfl) ?_;simp only [nz]));refine sqZ ?_;refine Go.Proofs.YtaiedioffemhdaaGreat.rs 12 29 (by kernel_rfl) rfl (fun K hK=>?_);go_simp;clear hHeld;refine(HAP1.out _ _ _ _ HC.out).mono ?_;rintro e Y12 ⟨su2,pu2,au2,rfl,hc2,hbY12⟩;have HE:=aa hc2;obtain⟨sl1,sl2,sl3⟩:=kl hc2;have HS4:=aa sl1;have HS5:=aa sl2;have HS6:=aa sl3;clear sl1 sl2 sl3 hc2;replace HB:=aa (HB.out.below hbY12);replace HR:=aa (HR.out.below hbY12);replace HD:=aa (HD.out.below hbY12);replace HC:=aa (HC.out.below hbY12 zr);replace kb:=kb.trans (hbY12.mono kb.size);clear hbY12;refine hK.out _ _ HB.out.range (fun hHeld=>?_);clear hK K;(try simp only [nz]);refine sqA [(13,16),(14,30),(15,31)] ?_;(iterate 3 (refine sqN rfl (by kernel_rfl) (fun _ _ _ h=>absurd h.1 (by simp)) rfl ‹_› (by intro w h;go_simp <;>with_reducible rfl) ?_;simp only [nz]));refine sqZ ?_;generalize Y12=YJ at*
    rotate_left
    go_simp;clear hHeld;refine ah (fun Y16 db hV hg=>?_);rw [←hg];have HD:Hid (Box Y16 db [.slice none 0 0,.slice none 0 0,.slice none 0 0]):=by rw [hV,hg];exact aa (Box.new V1 [.slice none 0 0,.slice none 0 0,.slice none 0 0] 30)
    have hbN:=zB hV;have hdb:w.heap.size<db:=by have:=HB.out.lt;omega
    have hdc:db≠cb:=by have:=HB.out.lt;omega
    replace HB:=aa (HB.out.below hbN);replace HR:=aa (HR.out.below hbN);replace HC:=aa (HC.out.below hbN zr);replace kb:=kb.trans (hbN.mono kb.size);clear hV hg hbN;refine hK.out _ _ HB.out.range (fun hHeld=>?_);clear hK K;(try simp only [nz]);refine Go.Proofs.YtaiedioffemhdaaGreat.rs 6 23 (by kernel_rfl) rfl (fun K hK=>?_);go_simp;clear hHeld;refine ah (fun Y6 gA hV hg=>?_);rw [←hg];have cg:Y6.cell? ⟨gA,k,none⟩=some (.int .i64 (yZ k)):=by rw [hV,hg];exact aj Y16 _ rfl _ _ _ _ HGT.out
    have hbN:=zB hV;replace HB:=aa (HB.out.below hbN);replace HR:=aa (HR.out.below hbN);replace HD:=aa (HD.out.below hbN);replace HC:=aa (HC.out.below hbN zr);replace kb:=kb.trans (hbN.mono kb.size);clear hV hg hbN;refine hK.out _ _ HB.out.range (fun hHeld=>?_);clear hK K;(try simp only [nz]);refine tq 8 25 rfl (by kernel_rfl) (fun _ _ _ h=>absurd h.1 (by simp)) rfl ‹_› (by intro w h;go_simp <;>with_reducible rfl) ?_;simp only [nz];refine Go.Proofs.YtaiedioffemhdaaGreat.rs 9 26 (by kernel_rfl) rfl (fun K hK=>?_);go_simp;clear hHeld;clear cg;refine hK.out _ _ HB.out.range (fun hHeld=>?_);clear hK K;(try simp only [nz]);refine sqA [(10,27),(11,28)] ?_;(iterate 2 (refine sqN rfl (by kernel_rfl) (fun _ _ _ h=>absurd h.1 (by simp)) rfl ‹_› (by intro w h;go_simp <;>with_reducible rfl) ?_;simp only [nz]));refine sqZ ?_;refine Go.Proofs.YtaiedioffemhdaaGreat.rs 12 29 (by kernel_rfl) rfl (fun K hK=>?_);go_simp;clear hHeld;refine(HAP1.out _ _ _ _ HC.out).mono ?_;rintro e Y12 ⟨su2,pu2,au2,rfl,hc2,hbY12⟩;have HE:=aa hc2;obtain⟨sl1,sl2,sl3⟩:=kl hc2;have HS4:=aa sl1;have HS5:=aa sl2;have HS6:=aa sl3;clear sl1 sl2 sl3 hc2;replace HB:=aa (HB.out.below hbY12);replace HR:=aa (HR.out.below hbY12);replace HD:=aa (HD.out.below hbY12);replace HC:=aa (HC.out.below hbY12 zr);replace kb:=kb.trans (hbY12.mono kb.size);clear hbY12;refine hK.out _ _ HB.out.range (fun hHeld=>?_);clear hK K;(try simp only [nz]);refine sqA [(13,16),(14,30),(15,31)] ?_;(iterate 3 (refine sqN rfl (by kernel_rfl) (fun _ _ _ h=>absurd h.1 (by simp)) rfl ‹_› (by intro w h;go_simp <;>with_reducible rfl) ?_;simp only [nz]));refine sqZ ?_;generalize Y12=YJ at*
    rotate_left
    all_goals
     refine Go.Proofs.YtaiedioffemhdaaGreat.rn 17 (by kernel_rfl) rfl (fun K hK=>?_);rw [if_pos (by rfl)];clear hHeld;refine wp_store_mid 30 (.tmp 7) (.tmp 30) rfl db 0 #[su2,pu2,au2] rfl rfl (HD.out.fit 3 rfl) bq (oZ HS4.out HS5.out HS6.out) ?_;obtain⟨Y17,hY17⟩:∃Y17,Y17=YJ.setCells db 0 [su2,pu2,au2]:=⟨_,rfl⟩;have NHD:Hid (Box Y17 db [su2,pu2,au2]):=by rw [hY17];exact aa (HD.out.set [su2,pu2,au2] rfl)
     have NHB:=aa (HB.out.set_far (b':=db) (Ne.symm hdc) 0 [su2,pu2,au2]);rw [←hY17]at NHB;have NHR:=aa (HR.out.set_far (b':=db) (by omega) 0 [su2,pu2,au2]);rw [←hY17]at NHR;have NHE:=aa (fU HE.out HD.out Sl.nil Sl.nil Sl.nil su2 pu2 au2);rw [←hY17]at NHE;have NHC:=aa (fU HC.out HD.out Sl.nil Sl.nil Sl.nil su2 pu2 au2);rw [←hY17]at NHC;have kz:Below w.heap.size w Y17:=by rw [hY17];exact aE _ (by omega) _ _ kb
     have HY17:Hid (YJ.setCells db 0 [su2,pu2,au2]=Y17):=hY17.symm;clear hY17;rw [HY17.out];clear HD HB HR HE HC kb;have HD:=NHD;have HB:=NHB;have HR:=NHR;have HE:=NHE;have HC:=NHC;have kb:=kz;clear NHD NHB NHR NHE NHC kz HY17;refine hK.out _ _ HB.out.range (fun hHeld=>?_);clear hK K;(try simp only [nz]);refine tq 18 8 rfl (by kernel_rfl) (fun _ _ _ h=>absurd h.1 (by simp)) rfl ‹_› (by intro w h;go_simp <;>with_reducible rfl) ?_;simp only [nz];refine wpAnyH_done (by kernel_rfl) ?_ _;clear hHeld
     skip
     exact⟨rfl,gA,db,su2,pu2,au2,rfl,⟨HB,HR,HD⟩,⟨HS4,HS5,HS6⟩,⟨hdb,hdc⟩,HE,kb⟩
   ·intro sb db su2 pu2 au2 W9 hF9;obtain⟨⟨HB,HR,HD⟩,⟨HS4,HS5,HS6⟩,⟨hdb,hdc⟩,HE,kb⟩:=hF9;obtain⟨V9,hV9⟩:∃V9,V9=W9.setCells cb 0 [su2,pu2,au2]:=⟨_,rfl⟩;have NHB:Hid (Box V9 cb [su2,pu2,au2]):=by rw [hV9];exact aa (HB.out.set [su2,pu2,au2] rfl)
    have NHR:=aa (HR.out.set_far (b':=cb) (by omega) 0 [su2,pu2,au2]);rw [←hV9]at NHR;have NHE:=aa (fU HE.out HB.out HS1.out HS2.out HS3.out su2 pu2 au2);rw [←hV9]at NHE;have kz:Below w.heap.size w V9:=by rw [hV9];exact aE _ (by omega) _ _ kb
    have HV9:Hid (W9.setCells cb 0 [su2,pu2,au2]=V9):=hV9.symm;clear hV9;go_wp2_with (first |(refine wpList_load_mid rfl 30 (.tmp 7) rfl db 0 rfl _ _ HD.out.range Tryz.underlying30 rfl bq ?_) |(refine wpList_store_mid rfl 30 (.tmp 5) (.tmp 34) rfl cb 0 #[su2,pu2,au2] rfl rfl (HB.out.fit 3 rfl) bq (oZ HS4.out HS5.out HS6.out) ?_;rw [HV9.out]))
    go_roundw
    case rel=>exact⟨k+1,T',su2,pu2,au2,by omega,by go_num,NHB,NHR,HT1,NHE,kz⟩
    case measure=>simp [intOf];omega
  ·have hk4:k=4:=(by omega);subst hk4;have hHT:=HT.out;subst hHT;have HS:=aa (show vF (S0.take 4) [] []from Bl);go_wp2_with fail
   rename World=>wx
   go_loopw [9] (fun i wr=>∃k:Nat,k≤l.length∧k≤40∧i= .int .i64 k∧BJ w wr cb) (fun i _=>40-(intOf i).toNat)
   case atStart=>exact⟨0,by omega,by omega,rfl,_,_,_,su,pu,au,HB,HR,HS,HC,kb⟩
   case round=>
    clear HB HR HC HS HT kb;obtain⟨k,hk,hk40,rfl,S,P,A,su,pu,au,HB,HR,HF,HC,kb⟩:=hrel;obtain⟨sl1,sl2,sl3⟩:=kl HC.out;have HS1:=aa sl1;have HS2:=aa sl2;have HS3:=aa sl3;clear sl1 sl2 sl3;have q0:(0:Int)≤(k:Int):=(by omega);by_cases hlt:k<l.length
    ·have q1:(k:Int)<(l.length:Int):=(by omega);by_cases h40:k<40
     ·have q2:(k:Int)<40:=(by omega);obtain⟨n1,n2,n3⟩:=js HF.out.1;obtain⟨b,off,cap,e1,hcap,hR⟩:=jh rw0 (RowAt.below HL.out kb zr) hlt;simp only [Value.slice.injEq,true_and]at e1;obtain⟨rfl,rfl⟩:=e1;clear hR;have HRF:Hid (∀W,Below w.heap.size w W→W.rangeAt b (off+k*4) (rwC (l.getD k rw0))):=aa (fun W hW=>by
       obtain⟨b2,off2,cap2,e2,_,h2⟩:=jh rw0 (RowAt.below HL.out hW zr) hlt;simp only [Value.slice.injEq,Option.some.injEq,Addr.mk.injEq,true_and,and_true]at e2;obtain⟨⟨rfl,rfl⟩,_⟩:=e2;exact h2)
      have HXC:Hid (rwC (l.getD k rw0)= [.int .i64 (l.getD k rw0).k,.int .i64 (l.getD k rw0).a,.int .i64 (l.getD k rw0).b,.int .i64 (l.getD k rw0).c]):=rfl;rw [HXC.out]at HRF;have HCX:=aa (fun W=>HCH.out W (l.getD k rw0));clear HXC;generalize (l.getD k rw0).k=x0 at*;generalize (l.getD k rw0).a=x1 at*;generalize (l.getD k rw0).b=x2 at*;generalize (l.getD k rw0).c=x3 at*;go_upto_region 12 with fail
      apply wV (fun d x y z n W'=>(Hid (Box W' cb [su,pu,au])∧Hid (Box W' w.heap.size [.slice none 0 0,.slice none 0 0,.slice none 0 0])∧Hid (Box W' d [x,y,z]))∧(Hid (Sl x)∧Hid (Sl y)∧Hid (Sl z))∧(w.heap.size<d∧d≠cb)∧(∃ax:Ax,Hid (n=gl S P A ax)∧ax.si≤6∧Hid (CfAt W' x y z (apS S P A ax) (apP S P A ax) (apA S P A ax)))∧Hid (CfAt W' su pu au S P A)∧Below w.heap.size w W')
      ·have hD:Below wr.heap.size wr wr.drew:=(Below.refl _ _).drew;replace HB:=aa (HB.out.below hD);replace HR:=aa (HR.out.below hD);replace HC:=aa (HC.out.below hD zr);replace kb:=kb.trans (hD.mono kb.size);clear hD;refine wp_region_held_drew (S:=(fun w'=>w'.rangeAt cb 0 [su,pu,au]∧w'.rangeAt b (off+k*4) [.int .i64 x0,.int .i64 x1,.int .i64 x2,.int .i64 x3])) (by kernel_rfl) ⟨HB.out.range,HRF.out _ kb⟩ (fun hHeld=>?_);generalize wr.drew=V1 at*;refine wpAnyH_take (i:=0) (oi:=⟨some 48,_,_,_,_,_⟩) (v:=.agg #[su,pu,au]) rfl (by kernel_rfl) (by kernel_rfl) (by kernel_rfl) (fun _ _ _ h=>absurd h.1 (by simp)) (yieldsIf_load_mid (by rfl) 30 (.tmp 5) rfl cb 0 rfl [su,pu,au] _ (fun w h=>h.1) Tryz.underlying30 rfl bq) (by assumption) ?_;(try simp only [nz]);refine sqA [(1,49),(2,50),(3,51)] ?_;(iterate 3 (refine sqN rfl (by kernel_rfl) (fun _ _ _ h=>absurd h.1 (by simp)) rfl ‹_› (by intro w h;go_simp <;>with_reducible rfl) ?_;simp only [nz]));refine sqZ ?_;refine wpAnyH_take (i:=4) (oi:=⟨some 52,_,_,_,_,_⟩) (v:=.agg #[.int .i64 x0,.int .i64 x1,.int .i64 x2,.int .i64 x3]) rfl (by kernel_rfl) (by kernel_rfl) (by kernel_rfl) (fun _ _ _ h=>absurd h.1 (by simp)) (yieldsIf_load_mid (by rfl) 24 (.tmp 51) rfl b (off+k*4) rfl [.int .i64 x0,.int .i64 x1,.int .i64 x2,.int .i64 x3] _ (fun w h=>h.2) Tryz.underlying24 rfl xY) (by assumption) ?_;(try simp only [nz]);refine wpAnyH_ready (rs:=[5,10]) (by kernel_rfl) (by simp) ?_;refine(AllReadyH.cons (o:=⟨some 53,_,_,_,_,_⟩) rfl (fun K hK=>?_) (AllReadyH.cons (o:=⟨some 10,_,_,_,_,_⟩) rfl (fun K hK=>?_) AllReadyH.nil));go_simp;clear hHeld;refine(HCX.out _).mono ?_;rintro e Y5 ⟨ax,rfl,hsi,hbY5⟩;replace HB:=aa (HB.out.below hbY5);replace HR:=aa (HR.out.below hbY5);replace HC:=aa (HC.out.below hbY5 zr);replace kb:=kb.trans (hbY5.mono kb.size);clear hbY5;refine hK.out _ _ ⟨HB.out.range,HRF.out _ kb⟩ (fun hHeld=>?_);clear hK K;(try simp only [nz]);refine wpAnyH_ready (rs:=[6,10]) (by kernel_rfl) (by simp) ?_;refine(AllReadyH.cons (o:=⟨some 54,_,_,_,_,_⟩) rfl (fun K hK=>?_) (AllReadyH.cons (o:=⟨some 10,_,_,_,_,_⟩) rfl (fun K hK=>?_) AllReadyH.nil));go_simp;clear hHeld;refine(HAP.out _ ax _ _ _ S P A HC.out ⟨n1,n2,n3⟩).mono ?_;rintro e Y6 ⟨su2,pu2,au2,rfl,hc2,hbY6⟩;have HE:=aa hc2;obtain⟨sl1,sl2,sl3⟩:=kl hc2;have HS4:=aa sl1;have HS5:=aa sl2;have HS6:=aa sl3;clear sl1 sl2 sl3 hc2;replace HB:=aa (HB.out.below hbY6);replace HR:=aa (HR.out.below hbY6);replace HC:=aa (HC.out.below hbY6 zr);replace kb:=kb.trans (hbY6.mono kb.size);clear hbY6;refine hK.out _ _ ⟨HB.out.range,HRF.out _ kb⟩ (fun hHeld=>?_);clear hK K;(try simp only [nz]);refine sqA [(7,47),(8,55),(9,56)] ?_
       (iterate 3 (refine sqN rfl (by kernel_rfl) (fun _ _ _ h=>absurd h.1 (by simp)) rfl ‹_› (by intro w h;go_simp <;>with_reducible rfl) ?_;simp only [nz]));refine sqZ ?_
       refine Go.Proofs.YtaiedioffemhdaaGreat.rs 10 10 (by kernel_rfl) rfl (fun K hK=>?_);go_simp;clear hHeld;refine ah (fun Y10 db hV hg=>?_);rw [←hg];have HD:Hid (Box Y10 db [.slice none 0 0,.slice none 0 0,.slice none 0 0]):=by rw [hV,hg];exact aa (Box.new Y6 [.slice none 0 0,.slice none 0 0,.slice none 0 0] 30)
       have hbN:=zB hV;have hdb:w.heap.size<db:=by have:=HB.out.lt;omega
       have hdc:db≠cb:=by have:=HB.out.lt;omega
       replace HB:=aa (HB.out.below hbN);replace HR:=aa (HR.out.below hbN);replace HC:=aa (HC.out.below hbN zr);replace HE:=aa (HE.out.below hbN zr);replace kb:=kb.trans (hbN.mono kb.size);clear hV hg hbN;refine hK.out _ _ ⟨HB.out.range,HRF.out _ kb⟩ (fun hHeld=>?_);clear hK K;(try simp only [nz]);generalize Y10=YJ at*
       rotate_left
       go_simp;clear hHeld;refine ah (fun Y10 db hV hg=>?_);rw [←hg];have HD:Hid (Box Y10 db [.slice none 0 0,.slice none 0 0,.slice none 0 0]):=by rw [hV,hg];exact aa (Box.new Y5 [.slice none 0 0,.slice none 0 0,.slice none 0 0] 30)
       have hbN:=zB hV;have hdb:w.heap.size<db:=by have:=HB.out.lt;omega
       have hdc:db≠cb:=by have:=HB.out.lt;omega
       replace HB:=aa (HB.out.below hbN);replace HR:=aa (HR.out.below hbN);replace HC:=aa (HC.out.below hbN zr);replace kb:=kb.trans (hbN.mono kb.size);clear hV hg hbN;refine hK.out _ _ ⟨HB.out.range,HRF.out _ kb⟩ (fun hHeld=>?_);clear hK K;(try simp only [nz]);refine Go.Proofs.YtaiedioffemhdaaGreat.rs 6 54 (by kernel_rfl) rfl (fun K hK=>?_);go_simp;clear hHeld;refine(HAP.out _ ax _ _ _ S P A HC.out ⟨n1,n2,n3⟩).mono ?_;rintro e Y6 ⟨su2,pu2,au2,rfl,hc2,hbY6⟩;have HE:=aa hc2;obtain⟨sl1,sl2,sl3⟩:=kl hc2;have HS4:=aa sl1;have HS5:=aa sl2;have HS6:=aa sl3;clear sl1 sl2 sl3 hc2;replace HB:=aa (HB.out.below hbY6);replace HR:=aa (HR.out.below hbY6);replace HD:=aa (HD.out.below hbY6);replace HC:=aa (HC.out.below hbY6 zr);replace kb:=kb.trans (hbY6.mono kb.size);clear hbY6;refine hK.out _ _ ⟨HB.out.range,HRF.out _ kb⟩ (fun hHeld=>?_);clear hK K;(try simp only [nz]);refine sqA [(7,47),(8,55),(9,56)] ?_;(iterate 3 (refine sqN rfl (by kernel_rfl) (fun _ _ _ h=>absurd h.1 (by simp)) rfl ‹_› (by intro w h;go_simp <;>with_reducible rfl) ?_;simp only [nz]));refine sqZ ?_;generalize Y6=YJ at*
       rotate_left
       go_simp;clear hHeld;refine ah (fun Y10 db hV hg=>?_);rw [←hg];have HD:Hid (Box Y10 db [.slice none 0 0,.slice none 0 0,.slice none 0 0]):=by rw [hV,hg];exact aa (Box.new V1 [.slice none 0 0,.slice none 0 0,.slice none 0 0] 30)
       have hbN:=zB hV;have hdb:w.heap.size<db:=by have:=HB.out.lt;omega
       have hdc:db≠cb:=by have:=HB.out.lt;omega
       replace HB:=aa (HB.out.below hbN);replace HR:=aa (HR.out.below hbN);replace HC:=aa (HC.out.below hbN zr);replace kb:=kb.trans (hbN.mono kb.size);clear hV hg hbN;refine hK.out _ _ ⟨HB.out.range,HRF.out _ kb⟩ (fun hHeld=>?_);clear hK K;(try simp only [nz]);refine Go.Proofs.YtaiedioffemhdaaGreat.rs 5 53 (by kernel_rfl) rfl (fun K hK=>?_);go_simp;clear hHeld;refine(HCX.out _).mono ?_;rintro e Y5 ⟨ax,rfl,hsi,hbY5⟩;replace HB:=aa (HB.out.below hbY5);replace HR:=aa (HR.out.below hbY5);replace HD:=aa (HD.out.below hbY5);replace HC:=aa (HC.out.below hbY5 zr);replace kb:=kb.trans (hbY5.mono kb.size);clear hbY5;refine hK.out _ _ ⟨HB.out.range,HRF.out _ kb⟩ (fun hHeld=>?_);clear hK K;(try simp only [nz]);refine Go.Proofs.YtaiedioffemhdaaGreat.rs 6 54 (by kernel_rfl) rfl (fun K hK=>?_);go_simp;clear hHeld;refine(HAP.out _ ax _ _ _ S P A HC.out ⟨n1,n2,n3⟩).mono ?_;rintro e Y6 ⟨su2,pu2,au2,rfl,hc2,hbY6⟩;have HE:=aa hc2;obtain⟨sl1,sl2,sl3⟩:=kl hc2;have HS4:=aa sl1;have HS5:=aa sl2;have HS6:=aa sl3;clear sl1 sl2 sl3 hc2;replace HB:=aa (HB.out.below hbY6);replace HR:=aa (HR.out.below hbY6);replace HD:=aa (HD.out.below hbY6);replace HC:=aa (HC.out.below hbY6 zr);replace kb:=kb.trans (hbY6.mono kb.size);clear hbY6;refine hK.out _ _ ⟨HB.out.range,HRF.out _ kb⟩ (fun hHeld=>?_);clear hK K;(try simp only [nz]);refine sqA [(7,47),(8,55),(9,56)] ?_;(iterate 3 (refine sqN rfl (by kernel_rfl) (fun _ _ _ h=>absurd h.1 (by simp)) rfl ‹_› (by intro w h;go_simp <;>with_reducible rfl) ?_;simp only [nz]));refine sqZ ?_;generalize Y6=YJ at*
       rotate_left
       all_goals
        refine Go.Proofs.YtaiedioffemhdaaGreat.rn 11 (by kernel_rfl) rfl (fun K hK=>?_);rw [if_pos (by rfl)];clear hHeld;refine wp_store_mid 30 (.tmp 10) (.tmp 55) rfl db 0 #[su2,pu2,au2] rfl rfl (HD.out.fit 3 rfl) bq (oZ HS4.out HS5.out HS6.out) ?_;obtain⟨Y11,hY11⟩:∃Y11,Y11=YJ.setCells db 0 [su2,pu2,au2]:=⟨_,rfl⟩;have NHD:Hid (Box Y11 db [su2,pu2,au2]):=by rw [hY11];exact aa (HD.out.set [su2,pu2,au2] rfl)
        have NHB:=aa (HB.out.set_far (b':=db) (Ne.symm hdc) 0 [su2,pu2,au2]);rw [←hY11]at NHB;have NHR:=aa (HR.out.set_far (b':=db) (by omega) 0 [su2,pu2,au2]);rw [←hY11]at NHR;have NHE:=aa (fU HE.out HD.out Sl.nil Sl.nil Sl.nil su2 pu2 au2);rw [←hY11]at NHE;have NHC:=aa (fU HC.out HD.out Sl.nil Sl.nil Sl.nil su2 pu2 au2);rw [←hY11]at NHC;have kz:Below w.heap.size w Y11:=by rw [hY11];exact aE _ (by omega) _ _ kb
        have HY11:Hid (YJ.setCells db 0 [su2,pu2,au2]=Y11):=hY11.symm;clear hY11;rw [HY11.out];clear HD HB HR HE HC kb;have HD:=NHD;have HB:=NHB;have HR:=NHR;have HE:=NHE;have HC:=NHC;have kb:=kz;clear NHD NHB NHR NHE NHC kz HY11;refine hK.out _ _ ⟨HB.out.range,HRF.out _ kb⟩ (fun hHeld=>?_);clear hK K;(try simp only [nz]);refine tq 12 11 rfl (by kernel_rfl) (fun _ _ _ h=>absurd h.1 (by simp)) rfl ‹_› (by intro w h;go_simp <;>with_reducible rfl) ?_;simp only [nz];refine wpAnyH_done (by kernel_rfl) ?_ _;clear hHeld;obtain⟨E,hE⟩:∃E,E=gl S P A ax:=⟨_,rfl⟩;rw [←hE];generalize eF ax=av;exact⟨rfl,db,su2,pu2,au2,av,E,rfl,⟨HB,HR,HD⟩,⟨HS4,HS5,HS6⟩,⟨hdb,hdc⟩,⟨ax,aa hE,hsi,HE⟩,HC,kb⟩
      ·intro db su2 pu2 au2 av E W9 hF9;obtain⟨⟨HB,HR,HD⟩,⟨HS4,HS5,HS6⟩,⟨hdb,hdc⟩,⟨ax,HEE,hsi,HE⟩,HC,kb⟩:=hF9;by_cases hE:E=0
       ·subst hE;have HF2:=aa (vq HF.out HEE.out.symm hsi);obtain⟨V9,hV9⟩:∃V9,V9=W9.setCells cb 0 [su2,pu2,au2]:=⟨_,rfl⟩;have NHB:Hid (Box V9 cb [su2,pu2,au2]):=by rw [hV9];exact aa (HB.out.set [su2,pu2,au2] rfl)
        have NHR:=aa (HR.out.set_far (b':=cb) (by omega) 0 [su2,pu2,au2]);rw [←hV9]at NHR;have NHE:=aa (fU HE.out HB.out HS1.out HS2.out HS3.out su2 pu2 au2);rw [←hV9]at NHE;have kz:Below w.heap.size w V9:=by rw [hV9];exact aE _ (by omega) _ _ kb
        have HV9:Hid (W9.setCells cb 0 [su2,pu2,au2]=V9):=hV9.symm;clear hV9;go_wp2_with (first |(refine wpList_load_mid rfl 30 (.tmp 10) rfl db 0 rfl _ _ HD.out.range Tryz.underlying30 rfl bq ?_) |(refine wpList_store_mid rfl 30 (.tmp 5) (.tmp 59) rfl cb 0 #[su2,pu2,au2] rfl rfl (HB.out.fit 3 rfl) bq (oZ HS4.out HS5.out HS6.out) ?_;rw [HV9.out]))
        go_roundw
        case rel=>exact⟨k+1,by omega,by omega,by go_num,_,_,_,su2,pu2,au2,NHB,NHR,HF2,NHE,kz⟩
        case measure=>simp [intOf];omega
       ·have hEb:(E==0)=false:=(by simpa using hE);go_wp2_with fail
        go_roundw
        case rel=>exact⟨k+1,by omega,by omega,by go_num,S,P,A,su,pu,au,HB,HR,HF,HC,kb⟩
        case measure=>simp [intOf];omega
     ·have q2:¬((k:Int)<40):=(by omega);obtain⟨V8,hV8⟩:∃V8,V8=wr.setCells w.heap.size 0 [su,pu,au]:=⟨_,rfl⟩;have NHR:Hid (Box V8 w.heap.size [su,pu,au]):=by rw [hV8];exact aa (HR.out.set [su,pu,au] rfl)
      have NHC:=aa (fU HC.out HR.out Sl.nil Sl.nil Sl.nil su pu au);rw [←hV8]at NHC;have kz:Below w.heap.size w V8:=by rw [hV8];exact aE _ (by omega) _ _ kb
      have HV8:Hid (wr.setCells w.heap.size 0 [su,pu,au]=V8):=hV8.symm;clear hV8;go_wp2_with (first |(refine wpList_load_mid rfl 30 (.tmp 5) rfl cb 0 rfl _ _ HB.out.range Tryz.underlying30 rfl bq ?_) |(refine wpList_store_mid rfl 30 (.tmp 4) (.tmp 60) rfl w.heap.size 0 #[su,pu,au] rfl rfl (HR.out.fit 3 rfl) bq (oZ HS1.out HS2.out HS3.out) ?_;rw [HV8.out]))
      refine bodyPost_ret (v:=.agg #[su,pu,au]) ?_ rfl ⟨su,pu,au,rfl,S,P,A,NHC.out,HF.out,kz⟩;exact dU (cs:=[su,pu,au]) Tryz.results11 rfl NHR.out.range Tryz.underlying30 rfl bq
    ·have q1:¬((k:Int)<(l.length:Int)):=(by omega);obtain⟨V8,hV8⟩:∃V8,V8=wr.setCells w.heap.size 0 [su,pu,au]:=⟨_,rfl⟩;have NHR:Hid (Box V8 w.heap.size [su,pu,au]):=by rw [hV8];exact aa (HR.out.set [su,pu,au] rfl)
     have NHC:=aa (fU HC.out HR.out Sl.nil Sl.nil Sl.nil su pu au);rw [←hV8]at NHC;have kz:Below w.heap.size w V8:=by rw [hV8];exact aE _ (by omega) _ _ kb
     have HV8:Hid (wr.setCells w.heap.size 0 [su,pu,au]=V8):=hV8.symm;clear hV8;go_wp2_with (first |(refine wpList_load_mid rfl 30 (.tmp 5) rfl cb 0 rfl _ _ HB.out.range Tryz.underlying30 rfl bq ?_) |(refine wpList_store_mid rfl 30 (.tmp 4) (.tmp 60) rfl w.heap.size 0 #[su,pu,au] rfl rfl (HR.out.fit 3 rfl) bq (oZ HS1.out HS2.out HS3.out) ?_;rw [HV8.out]))
     refine bodyPost_ret (v:=.agg #[su,pu,au]) ?_ rfl ⟨su,pu,au,rfl,S,P,A,NHC.out,HF.out,kz⟩;exact dU (cs:=[su,pu,au]) Tryz.results11 rfl NHR.out.range Tryz.underlying30 rfl bq
def wP:Prop:=∀(g:Nat) (w:World),w.cell? ⟨g,0,none⟩=some (.int .i64 0)→w.cell? ⟨g,1,none⟩=some (.int .i64 0)→w.cell? ⟨g,2,none⟩=some (.slice none 0 0)→w.cell? ⟨g,3,none⟩=some (.slice none 0 0)→
 Calls Tryz.prog 31 #[.slice none 0 0,.slice (some ⟨g,0,none⟩) 1 1,.slice none 0 0] w fun e w'=>∃a cap,e= .returned (.slice a 1 cap)∧Below w.heap.size w w'
theorem nM (hP:wP) (w:World):
  Calls Tryz.prog 10 #[] w fun e w'=>e= .returned (.bool true)∧Below w.heap.size w w':=by
 have HP:=aa hP;clear hP;go_enter Tryz.func10,Tryz.ntmps10;go_wp2_with fail
 refine(wh 0 0 0 0 _ _ (by omega) (by omega) (by omega) (by omega) (by decide)).mono ?_;rintro e w1 ⟨dst,src,kind,ips,ipd,ttl,port,body,rfl,hf,hb1⟩;go_wp2_with fail
 refine(mT _ _ _ _ _ _ _ _ _ hf).mono ?_;rintro e w2 ⟨v2,rfl,ho2,hb2⟩;have hl:=gO dst src kind ips ipd ttl port body;have hbel:Below w.heap.size w w2:=hb1.trans (hb2.mono hb1.size);have hs2:=hbel.size;obtain⟨g,cap,rfl,hg,_,hcell⟩:=jm ho2 (by omega);clear hcell ho2 hf;generalize (enc dst src kind ips ipd ttl port body).length=n at*;have hn:(4:Int)<(n:Int):=by omega
 clear hl;go_wp2_with fail
 refine(ag HP w2.heap.size _ (by simp) (by simp) (by simp) (by simp)).mono ?_;rintro e w3 ⟨a3,c3,rfl,hb3⟩;have hbel3:Below w.heap.size w w3:=(hbel.alloc hs2 _).trans (hb3.mono (by simp;omega));go_wp2_with fail
 go_ret;exact⟨rfl,hbel3⟩
theorem mG (fv:Value) (w:World):Calls Tryz.prog 130 #[.slice none 0 0,fv] w fun e w'=>e= .returned (.int .i64 (-1))∧w'=w:=by
 go_enter Tryz.func130,Tryz.ntmps130;go_wp2_with fail
 refine wp_loop_rounds 1 ?_;rw [rounds_succ];go_wp2_with fail
 go_ret;exact⟨rfl,rfl⟩
theorem nX (fv:Value) (w:World):Calls Tryz.prog 79 #[.slice none 0 0,fv] w fun e w'=>e= .returned (.slice none 0 0)∧w'=w:=by
 go_enter Tryz.func79,Tryz.ntmps79;go_wp2_with fail
 refine(mG _ _).mono ?_;rintro e w1 ⟨rfl,rfl⟩;go_wp2_with fail
 go_ret;exact⟨rfl,rfl⟩
theorem mW (w:World):Calls Tryz.prog 53 #[.slice none 0 0,.slice none 0 0] w fun e w'=>e= .returned (.slice none 0 0)∧Below w.heap.size w w':=by
 go_enter Tryz.func53,Tryz.ntmps53;go_wp2_with fail
 refine(dI _).mono ?_;rintro e w1 ⟨g1,rfl,hb1⟩;go_wp2_with fail
 refine(mM _).mono ?_;rintro e w2 ⟨rfl,hb2⟩;have hb12:=hb1.trans (hb2.mono hb1.size);have hs2:=hb12.size;go_wp2_with fail
 refine(gN _).mono ?_;rintro e w3 ⟨rfl,rfl⟩;go_wp2_with fail
 refine(nX _ _).mono ?_;rintro e w3 ⟨rfl,rfl⟩;go_wp2_with fail
 go_ret;exact⟨rfl,by first | exact(hb12.alloc hs2 _).alloc (by simp;omega) _ | trace_state⟩
def ZAt (w:World) (g:Nat):Prop:=w.cell? ⟨g,0,none⟩=some (.int .i64 0)∧w.cell? ⟨g,1,none⟩=some (.int .i64 0)∧w.cell? ⟨g,2,none⟩=some (.slice none 0 0)∧w.cell? ⟨g,3,none⟩=some (.slice none 0 0)
def fM:List Value:=[.int .i64 0,.int .i64 0,.slice none 0 0,.slice none 0 0]
theorem ZAt.news {w:World} {g:Nat} (h:ZAt w g):∀j u,fM[j]? =some u→w.cell? ((⟨g,0,none⟩:Addr).add j)=some u:=by
 intro j u hj
 match j,hj with
 | 0,hj=>simp [fM]at hj;subst hj;simpa [Addr.add] using h.1
 | 1,hj=>simp [fM]at hj;subst hj;simpa [Addr.add] using h.2.1
 | 2,hj=>simp [fM]at hj;subst hj;simpa [Addr.add] using h.2.2.1
 | 3,hj=>simp [fM]at hj;subst hj;simpa [Addr.add] using h.2.2.2
theorem ZAt.below {w w':World} {B g:Nat} (h:ZAt w g) (hb:Below B w w') (hg:g<B):ZAt w' g:=
 ⟨(hb.cell (p:=⟨g,0,none⟩) hg).trans h.1,(hb.cell (p:=⟨g,1,none⟩) hg).trans h.2.1,(hb.cell (p:=⟨g,2,none⟩) hg).trans h.2.2.1,(hb.cell (p:=⟨g,3,none⟩) hg).trans h.2.2.2⟩
theorem oI:∀u∈fM,u.oneCell'=true:=by
 intro u hu;simp [fM]at hu;rcases hu with rfl | rfl | rfl
 all_goals rfl
theorem rR {w:World} {B:Nat} {v:Value} (h:w.ownsRow B 84 4 v 1 fM):∃g cap,v= .slice (some ⟨g,0,none⟩) 1 cap∧1≤cap∧B≤g∧g<w.heap.size∧(∀i,w.frozen? ⟨g,i,none⟩=false)∧ZAt w g:=by
 obtain⟨g,cap,rfl,_,_⟩:=h.form (by omega);have hc:1≤cap∧B≤g∧g<w.heap.size:=by
  obtain⟨_,⟨h,_⟩ |⟨g',cap',cur,h,h1,h2,hc,_⟩⟩:=h
  ·simp at h
  ·simp only [Value.slice.injEq,Option.some.injEq,Addr.mk.injEq]at h;obtain⟨⟨rfl,_⟩,_,rfl⟩:=h;have hlt:g<w.heap.size:=by
    rcases Nat.lt_or_ge g w.heap.size with h' | h'
    ·exact h'
    ·simp [Array.getElem?_eq_none h']at h2
   exact⟨hc,h1,hlt⟩
 refine⟨g,cap,rfl,hc.1,hc.2.1,hc.2.2,fun i=>h.frozenAt i,?_,?_,?_,?_⟩
 ·simpa [fM] using h.cellAt 0 (by omega)
 ·simpa [fM] using h.cellAt 1 (by omega)
 ·simpa [fM] using h.cellAt 2 (by omega)
 ·simpa [fM] using h.cellAt 3 (by omega)
theorem nc (g cap:Nat) (w:World) (hz:ZAt w g):Calls Tryz.prog 75 #[.slice (some ⟨g,0,none⟩) 1 cap] w fun e w'=>∃b c,e= .returned (.slice (some ⟨b,0,none⟩) 1 c)∧1≤c∧w.heap.size≤b∧b<w'.heap.size∧(∀i,w'.frozen? ⟨b,i,none⟩=false)∧ZAt w' b∧Below w.heap.size w w':=by
 have HZ:=aa hz;clear hz;go_enter Tryz.func75,Tryz.ntmps75;go_wp2_with fail
 refine(mN ⟨g,0,none⟩ 1 cap fM _ rfl HZ.out.news oI (by omega)).mono ?_;rintro e w1 ⟨v,rfl,ho,hb1⟩;obtain⟨b,c,rfl,hc1,hgb,hbw,hfz,hz1⟩:=rR ho;have HFZ:=aa hfz;clear hfz;have HZ1:=aa hz1;clear HZ hz1 ho;go_wp2_with fail
 refine(dI _).mono ?_;rintro e w2 ⟨g2,rfl,hb2⟩;go_wp2_with fail
 refine(gj _ 1 _ _ _ (by omega)).mono ?_;rintro e w3 ⟨rfl,rfl⟩;go_wp2_with fail
 go_ret;exact⟨b,c,rfl,hc1,hgb,Nat.lt_of_lt_of_le hbw hb2.size,fun i=>(hb2.frozen (p:=⟨b,i,none⟩) hbw).trans (HFZ.out i),HZ1.out.below hb2 hbw,hb1.trans (hb2.mono hb1.size)⟩
theorem mV (p:Option Addr) (cap:Nat) (fv:Value) (w:World):Calls Tryz.prog 74 #[.slice p 1 cap,fv] w fun e w'=>e= .returned (.slice p 1 cap)∧w'=w:=by
 go_enter Tryz.func74,Tryz.ntmps74;go_wp2_with fail
 go_ret;exact⟨rfl,rfl⟩
theorem se (g cap:Nat) (w:World) (hz:ZAt w g) (hg:g<w.heap.size):Calls Tryz.prog 52 #[.slice (some ⟨g,0,none⟩) 1 cap] w fun e w'=>∃a c,e= .returned (.slice a 1 c)∧Below w.heap.size w w':=by
 have HZ:=aa hz;clear hz;go_enter Tryz.func52,Tryz.ntmps52;go_wp2_with fail
 refine(dI _).mono ?_;rintro e w1 ⟨g1,rfl,hb1⟩;have hs1:=hb1.size;go_wp2_with fail
 obtain⟨w2,hw2⟩:∃w2,w2=w1.alloc (.cells #[.func (.func 169) #[] #[.pointer (some ⟨g1,0,none⟩)]] 136):=⟨_,rfl⟩;have hb2:Below w.heap.size w w2:=by rw [hw2];exact hb1.alloc hs1 _
 rw [←hw2];clear hw2;refine(nc g cap w2 (HZ.out.below hb2 hg)).mono ?_;rintro e w3 ⟨b,c,rfl,hc1,hgb,hbw,hfz,hz3,hb3⟩;have hf2:=hfz 2;have hf3:=hfz 3;clear hfz;have hb23:=hb2.trans (hb3.mono hb2.size);have hbge:=Nat.le_trans hb2.size hgb;obtain⟨z0,z1,z2,z3⟩:=hz3;go_wp2_with fail
 refine(mV _ _ _ _).mono ?_;rintro e w4 ⟨rfl,rfl⟩;go_wp2_with fail
 refine wp_loop_rounds 2 ?_;rw [rounds_succ];go_wp2_with fail
 refine(iW _).mono ?_;rintro e w5 ⟨rfl,rfl⟩;go_wp2_with fail
 refine(iH _).mono ?_;rintro e w5 ⟨rfl,rfl⟩;go_wp2_with fail
 rw [rounds_succ];go_wp2_with fail
 go_ret;refine⟨_,_,rfl,?_⟩;exact((hb23.setCell (p:=⟨b,2,none⟩) hbge _).setCell (p:=⟨b,3,none⟩) hbge _).alloc (by simp;omega) _
theorem pB (g:Nat) (w:World) (h0:w.cell? ⟨g,0,none⟩=some (.int .i64 0)) (h1:w.cell? ⟨g,1,none⟩=some (.int .i64 0)) (h2:w.cell? ⟨g,2,none⟩=some (.slice none 0 0)) (h3:w.cell? ⟨g,3,none⟩=some (.slice none 0 0)):
  Calls Tryz.prog 31 #[.slice none 0 0,.slice (some ⟨g,0,none⟩) 1 1,.slice none 0 0] w fun e w'=>∃a cap,e= .returned (.slice a 1 cap)∧Below w.heap.size w w':=by
 obtain⟨i0,hi,hz0,hz1,hz2⟩:=info_parts yI;have hg:g<w.heap.size:=by
  rcases Nat.lt_or_ge g w.heap.size with h' | h'
  ·exact h'
  ·simp [World.cell?,Array.getElem?_eq_none h']at h0
 have HZ:Hid (ZAt w g):=⟨h0,h1,h2,h3⟩;clear h0 h1 h2 h3;go_enter Tryz.func31,Tryz.ntmps31;go_wp2_with fail
 refine(mW _).mono ?_;rintro e w1 ⟨rfl,hb1⟩;have HZ1:=aa (HZ.out.below hb1 hg);have hs1:=hb1.size;go_wp2_with (at_builtin;refine wpList_append_own _ rfl _ _ 79 rfl w.heap.size 84 i0 _ 4 64 Tryz.underlying79 hi hz0 hz1 hz2 rfl (by decide) _ _ _ rfl (World.ownsRow_nil w1 w.heap.size 84 4) ⟨g,0,none⟩ 1 1 fM rfl rfl HZ1.out.news oI ?a1 ?a2 ?a3 ?_)
 case a1=>unfold maxLen;omega
 case a2=>omega
 case a3=>exact hs1
 intro v2 w2 ho2 hg2 _;have hb2:Below w.heap.size w w2:=hb1.grown hg2 hs1 (ay (World.ownsRow_nil w1 w.heap.size 84 4));have ho2':w2.ownsRow w.heap.size 84 4 v2 1 fM:=by simpa using ho2
 obtain⟨b,c,rfl,hc1,hgb,hbw,hfz,hz2⟩:=rR ho2';have HZ2:=aa hz2;clear ho2 ho2' hg2 hz2 hfz;go_wp2_with fail
 refine(se b c w2 HZ2.out hbw).mono ?_;rintro e w3 ⟨a,c3,rfl,hb3⟩;go_wp2_with fail
 go_ret;exact⟨_,_,rfl,hb2.trans (hb3.mono hb2.size)⟩
end Go.Proofs.YtaiedioffemhdaaGreat
