/- Texts joined: Ch2, Cap2, Cap3, Xg, Xh, Xi, Xl, Xj0, Rx, Mg, Mh, Xo, Yr, Sc, Kt, Kg, Ocf, Kr, Orw. -/
import Derived.Deep.MidRow
import Derived.Maps.AppendAt
import Derived.Deep.RegionHeld3
import Derived.Deep.DeepCutAuto
import Derived.Deep.Slices
import Derived.SizedLaws
import Derived.Test.YtjaclcbckngnlaaGreatJA6
namespace Go.Proofs.YtjaclcbckngnlaaGreat
open Go.RowKit
set_option linter.unusedVariables false
set_option maxRecDepth 100000
set_option maxHeartbeats 16000000
def Hi3 (B:Nat) (x y z:Value):Prop:=(∀g,x.ownBlock=some g→B≤g)∧(∀g,y.ownBlock=some g→B≤g)∧(∀g,z.ownBlock=some g→B≤g)
theorem Box.grownC {w w':World} {b:Nat} {cs:List Value} {row:Option Nat} (h:Box w b cs) (hg:w.grownBy w' row) (hne:some b≠row):Box w' b cs:=
 ⟨⟨Nat.lt_of_lt_of_le h.1.1 hg.size,fun j v hj=>hg.cell (h.1.2 j v hj) hne⟩,fun j hj=>zM hg h.1.1 (h.2 j hj) hne⟩
theorem kR:(Tryz.prog.info? 30).map (·.size)=some 3:=by kernel_rfl
def Th (w W:World) (s p a:Value):Prop:=Box W w.heap.size [s,p,a]∧Box W (w.heap.size+1+1) [.slice none 0 0,.slice none 0 0,.slice none 0 0]
theorem Th.new (w:World) (s p a:Value) (x:Obj):Th w (((w.alloc (.cells #[s,p,a] 30)).alloc x).alloc (.cells #[.slice none 0 0,.slice none 0 0,.slice none 0 0] 30)) s p a:=by
 have h:=Box.new ((w.alloc (.cells #[s,p,a] 30)).alloc x) [.slice none 0 0,.slice none 0 0,.slice none 0 0] 30;rw [show((w.alloc (.cells #[s,p,a] 30)).alloc x).heap.size=w.heap.size+1+1 by simp]at h;exact⟨((Box.new w [s,p,a] 30).alloc x).alloc _,h⟩
theorem Th.below {w W V:World} {s p a:Value} (h:Th w W s p a) (hb:Below W.heap.size W V):Th w V s p a:=⟨h.1.below hb,h.2.below hb⟩
theorem Th.alloc {w W:World} {s p a:Value} (h:Th w W s p a) (x:Obj):Th w (W.alloc x) s p a:=⟨h.1.alloc x,h.2.alloc x⟩
theorem Th.grown {w W V:World} {s p a:Value} {row:Option Nat} (h:Th w W s p a) (hg:W.grownBy V row) (hn:∀b,w.heap.size≤b→some b≠row):Th w V s p a:=⟨h.1.grownC hg (hn _ zr),h.2.grownC hg (hn _ (by omega))⟩
theorem Th.get {w W:World} {s p a:Value} (h:Th w W s p a):W.cell? ⟨w.heap.size,0,none⟩=some s∧W.cell? ⟨w.heap.size,1,none⟩=some p∧W.cell? ⟨w.heap.size,2,none⟩=some a∧
  W.cell? ⟨w.heap.size+1+1,0,none⟩=some (.slice none 0 0)∧W.cell? ⟨w.heap.size+1+1,1,none⟩=some (.slice none 0 0)∧W.cell? ⟨w.heap.size+1+1,2,none⟩=some (.slice none 0 0)∧
  W.frozen? ⟨w.heap.size,0,none⟩=false∧W.frozen? ⟨w.heap.size,1,none⟩=false∧W.frozen? ⟨w.heap.size,2,none⟩=false∧
  W.frozen? ⟨w.heap.size+1+1,0,none⟩=false∧W.frozen? ⟨w.heap.size+1+1,1,none⟩=false∧W.frozen? ⟨w.heap.size+1+1,2,none⟩=false:=
 ⟨h.1.cell 0 _ rfl,h.1.cell 1 _ rfl,h.1.cell 2 _ rfl,h.2.cell 0 _ rfl,h.2.cell 1 _ rfl,h.2.cell 2 _ rfl,h.1.2 0 (by simp),h.1.2 1 (by simp),h.1.2 2 (by simp),h.2.2 0 (by simp),h.2.2 1 (by simp),h.2.2 2 (by simp)⟩
def Nwb (w:World) (x:Value):Prop:=∀b,w.heap.size≤b→b<w.heap.size+1+1+1+1→x.ownBlock≠some b
def BU (w:World) (B:Nat) (x y z:Value) (S:List Sw) (P:List Pr) (A:List Ac) (V:World):Prop:=V.rangeAt (w.heap.size+1+1) 0 [x,y,z]∧CfAt V x y z S P A∧Below B w V
theorem BP {w W:World} {B:Nat} {x y z t u v:Value} {S:List Sw} {P:List Pr} {A:List Ac} (hB:B≤w.heap.size) (hC:CfAt W x y z S P A) (hL:Below B w W) (hx:Nwb w x) (hy:Nwb w y) (hz:Nwb w z)
  (t0:W.cell? ⟨w.heap.size+1+1,0,none⟩=some t) (t1:W.cell? ⟨w.heap.size+1+1,1,none⟩=some u) (t2:W.cell? ⟨w.heap.size+1+1,2,none⟩=some v):
  BU w B x y z S P A (((W.setCell ⟨w.heap.size+1+1,0,none⟩ x).setCell ⟨w.heap.size+1+1,1,none⟩ y).setCell ⟨w.heap.size+1+1,2,none⟩ z):=by
 obtain⟨u0,u1,u2⟩:=yL t0 t1 t2 x y z;have hx':=hx (w.heap.size+1+1) (by omega) (by omega);have hy':=hy (w.heap.size+1+1) (by omega) (by omega);have hz':=hz (w.heap.size+1+1) (by omega) (by omega);have hB':B≤w.heap.size+1+1:=by omega
 refine⟨fun j v hj=>?_,((hC.set_far hx' hy' hz' 0 x).set_far hx' hy' hz' 1 y).set_far hx' hy' hz' 2 z,((hL.setCell (p:=⟨w.heap.size+1+1,0,none⟩) hB' x).setCell (p:=⟨w.heap.size+1+1,1,none⟩) hB' y).setCell (p:=⟨w.heap.size+1+1,2,none⟩) hB' z⟩;have h3:j<3:=by
  have:=(List.getElem?_eq_some_iff.1 hj).1;simpa using this
 rw [Nat.zero_add];rcases(by omega:j=0∨j=1∨j=2)with rfl | rfl | rfl
 ·exact u0.trans hj
 ·exact u1.trans hj
 ·exact u2.trans hj
theorem yC {w W:World} {B:Nat} {s p a x y z:Value} {S:List Sw} {P:List Pr} {A:List Ac} (hT:Th w W s p a) (hB:B≤w.heap.size) (hC:CfAt W x y z S P A) (hL:Below B w W) (hx:Nwb w x) (hy:Nwb w y) (hz:Nwb w z) (i:Nat) (v:Value):
  BU w B x y z S P A ((((W.setCell ⟨w.heap.size,i,none⟩ v).setCell ⟨w.heap.size+1+1,0,none⟩ x).setCell ⟨w.heap.size+1+1,1,none⟩ y).setCell ⟨w.heap.size+1+1,2,none⟩ z):=by
 obtain⟨-, -, -,q0,q1,q2, -⟩:=hT.get;refine BP hB (hC.set_far (hx _ zr (by omega)) (hy _ zr (by omega)) (hz _ zr (by omega)) i v) (hL.setCell (p:=⟨w.heap.size,i,none⟩) hB v) hx hy hz ((World.cell?_setCell_other _ _ _ _ ?_).trans q0) ((World.cell?_setCell_other _ _ _ _ ?_).trans q1) ((World.cell?_setCell_other _ _ _ _ ?_).trans q2)
 all_goals
  intro h;simp at h <;>omega
theorem qR (B:Nat) (sv pv av:Value) (S:List Sw) (P:List Pr) (A:List Ac) (a:Ax) (w:World) (ho:Own3 w B sv pv av S P A) (hB:B≤w.heap.size) (l1:S.length≤12) (l2:P.length≤40) (l3:A.length≤40)
  (hp:a.k=4∨a.k=6→0≤pat P a.n) (hn:a.k=5→0≤a.n∧a.n<A.length):
  Calls Tryz.prog 35 #[.agg #[sv,pv,av],dC a] w fun e w'=>∃su pu au,e= .returned (.agg #[su,pu,au])∧CfAt w' su pu au (nxS S a) (nxP P a) (nxA A a)∧Below B w w'∧Hi3 B su pu au:=by
 obtain⟨iS,hiS,zS0,zS1,zS2⟩:=info_parts t7;obtain⟨iP,hiP,zP0,zP1,zP2⟩:=info_parts oZ;obtain⟨iA,hiA,zA0,zA1,zA2⟩:=info_parts pV;have HO:=aa ho;obtain⟨s1,s2,rfl⟩:=aw ho.s;obtain⟨p1,p2,rfl⟩:=aw ho.p;obtain⟨a1,a2,rfl⟩:=aw ho.a;clear ho;have HAT:=aa (fun W (hW:Below w.heap.size w W)=>jv _ _ _ S P A a.n W (HO.out.cf.below hW zr) (by omega));have HNS:Hid (Nwb w (.slice s1 S.length s2)):=fun b hb _=>gN HO.out.s hb;have HNP:Hid (Nwb w (.slice p1 P.length p2)):=fun b hb _=>gN HO.out.p hb;have HNA:Hid (Nwb w (.slice a1 A.length a2)):=fun b hb _=>gN HO.out.a hb;obtain⟨k,si,st,sg,pi,ps,pm,pp,pc,rs,rp,rn,rf,rb,rt,re,ro,rd,n,m,f0,f1,f2,f3,f4,f5,f6,body⟩:=a;simp only at hp hn HAT⊢;have hcase:k=1∨k=2∨k=3∨k=4∨k=5∨k=6∨(¬k=1∧¬k=2∧¬k=3∧¬k=4∧¬k=5∧¬k=6):=by omega
 have nn1:w.heap.size≠w.heap.size+1+1:=by omega
 go_enter Tryz.func35,Tryz.ntmps35;rcases hcase with rfl | rfl | rfl | rfl | rfl | rfl |⟨k1,k2,k3,k4,k5,k6⟩
 ·go_wp2_with (at_builtin;refine wpList_append_own_at _ rfl _ _ 26 rfl B 36 iS _ 3 24 Tryz.underlying26 hiS zS0 zS1 zS2 rfl (by decide) _ _ _ rfl ((((HO.out.s.alloc _).alloc _).alloc _).alloc _) ⟨w.heap.size+1+1+1,0,none⟩ 1 1 [.int .i64 si,.int .i64 st,.int .i64 sg] rfl rfl ?a2 (dB rfl) ?a3 ?a4 ?a5 ?_)
  case a2=>
   intro j u hj;rw [gC,Nat.zero_add];exact ah _ _ (by simp) #[.int .i64 si,.int .i64 st,.int .i64 sg] _ j u (by simpa using hj)
  case a3=>unfold maxLen;omega
  case a4=>omega
  case a5=>simp;omega
  intro v1 w1 ho1 hg1 _ hat;have HT:=aa (((Th.new w _ _ _ _).alloc _).grown hg1 (fun b hb e=>gN HO.out.s hb e.symm));have Kp:=aa (World.ownsRow.kept ((((HO.out.p.alloc _).alloc _).alloc _).alloc _) hg1 (jQ HO.out.sp));have Ka:=aa (World.ownsRow.kept ((((HO.out.a.alloc _).alloc _).alloc _).alloc _) hg1 (jQ HO.out.sa));have Ks:Hid (w1.ownsRow B 36 3 v1 (S++ [(⟨si,st,sg⟩:Sw)]).length ((S++ [(⟨si,st,sg⟩:Sw)]).flatMap swC)):=by
   show World.ownsRow _ _ _ _ _ _ _;rw [List.length_append, ←kN];exact ho1
  have HN:Hid (Nwb w v1):=fun b hb hb2 e=>by
   rcases hat with h | h
   ·exact gN HO.out.s hb (h.symm.trans e)
   ·rw [h]at e;simp at e;omega
  obtain⟨o1,m1,rfl⟩:=aw ho1;have HCF:=aa (show CfAt w1 _ _ _ _ _ _ from⟨RowAt.of_own eE (by omega) Ks.out,RowAt.of_own bI (by omega) Kp.out,RowAt.of_own cQ (by omega) Ka.out⟩);have HI3:=aa (And.intro (ay Ks.out) (And.intro (ay Kp.out) (ay Ka.out)));have HBE:=aa ((((((Below.refl _ w).alloc hB _).alloc (by simp;omega) _).alloc (by simp;omega) _).alloc (by simp;omega) _).grown hg1 (by simp;omega) (ay HO.out.s));clear hat ho1 hg1 HAT Ks Kp Ka;obtain⟨d0,d1,d2,q0,q1,q2,y0,y1,y2,f0,f1,f2⟩:=HT.out.get;go_wp2_with fail
  have F:=aa (yC HT.out hB HCF.out HBE.out HN.out HNP.out HNA.out 0 (.slice o1 (S.length+1) m1));refine bodyPost_ret (v:=.agg #[.slice o1 (S.length+1) m1,.slice p1 P.length p2,.slice a1 A.length a2]) (dW (cs:=[.slice o1 (S.length+1) m1,.slice p1 P.length p2,.slice a1 A.length a2]) Tryz.results35 rfl F.out.1 Tryz.underlying30 rfl kR) rfl ⟨_,_,_,rfl,by simpa [nxS,nxP,nxA,Ax.s,Ax.p,Ax.r] using F.out.2.1,F.out.2.2,HI3.out⟩
 ·go_wp2_with (at_builtin;refine wpList_append_own_at _ rfl _ _ 27 rfl B 38 iP _ 5 40 Tryz.underlying27 hiP zP0 zP1 zP2 rfl (by decide) _ _ _ rfl ((((HO.out.p.alloc _).alloc _).alloc _).alloc _) ⟨w.heap.size+1+1+1,0,none⟩ 1 1 [.int .i64 pi,.int .i64 ps,.int .i64 pm,.int .i64 pp,.int .i64 pc] rfl rfl ?a2 (dB rfl) ?a3 ?a4 ?a5 ?_)
  case a2=>
   intro j u hj;rw [gC,Nat.zero_add];exact ah _ _ (by simp) #[.int .i64 pi,.int .i64 ps,.int .i64 pm,.int .i64 pp,.int .i64 pc] _ j u (by simpa using hj)
  case a3=>unfold maxLen;omega
  case a4=>omega
  case a5=>simp;omega
  intro v1 w1 ho1 hg1 _ hat;have HT:=aa (((Th.new w _ _ _ _).alloc _).grown hg1 (fun b hb e=>gN HO.out.p hb e.symm));have Ks:=aa (World.ownsRow.kept ((((HO.out.s.alloc _).alloc _).alloc _).alloc _) hg1 HO.out.sp);have Ka:=aa (World.ownsRow.kept ((((HO.out.a.alloc _).alloc _).alloc _).alloc _) hg1 (jQ HO.out.pa));have Kp:Hid (w1.ownsRow B 38 5 v1 (P++ [(⟨pi,ps,pm,pp,pc⟩:Pr)]).length ((P++ [(⟨pi,ps,pm,pp,pc⟩:Pr)]).flatMap prC)):=by
   show World.ownsRow _ _ _ _ _ _ _;rw [List.length_append, ←kN];exact ho1
  have HN:Hid (Nwb w v1):=fun b hb hb2 e=>by
   rcases hat with h | h
   ·exact gN HO.out.p hb (h.symm.trans e)
   ·rw [h]at e;simp at e;omega
  obtain⟨o1,m1,rfl⟩:=aw ho1;have HCF:=aa (show CfAt w1 _ _ _ _ _ _ from⟨RowAt.of_own eE (by omega) Ks.out,RowAt.of_own bI (by omega) Kp.out,RowAt.of_own cQ (by omega) Ka.out⟩);have HI3:=aa (And.intro (ay Ks.out) (And.intro (ay Kp.out) (ay Ka.out)));have HBE:=aa ((((((Below.refl _ w).alloc hB _).alloc (by simp;omega) _).alloc (by simp;omega) _).alloc (by simp;omega) _).grown hg1 (by simp;omega) (ay HO.out.p));clear hat ho1 hg1 HAT Ks Kp Ka;obtain⟨d0,d1,d2,q0,q1,q2,y0,y1,y2,f0,f1,f2⟩:=HT.out.get;go_wp2_with fail
  have F:=aa (yC HT.out hB HCF.out HBE.out HNS.out HN.out HNA.out 1 (.slice o1 (P.length+1) m1));refine bodyPost_ret (v:=.agg #[.slice s1 S.length s2,.slice o1 (P.length+1) m1,.slice a1 A.length a2]) (dW (cs:=[.slice s1 S.length s2,.slice o1 (P.length+1) m1,.slice a1 A.length a2]) Tryz.results35 rfl F.out.1 Tryz.underlying30 rfl kR) rfl ⟨_,_,_,rfl,by simpa [nxS,nxP,nxA,Ax.s,Ax.p,Ax.r] using F.out.2.1,F.out.2.2,HI3.out⟩
 ·go_wp2_with (at_builtin;refine wpList_append_own_at _ rfl _ _ 28 rfl B 40 iA _ 9 72 Tryz.underlying28 hiA zA0 zA1 zA2 rfl (by decide) _ _ _ rfl ((((HO.out.a.alloc _).alloc _).alloc _).alloc _) ⟨w.heap.size+1+1+1,0,none⟩ 1 1 [.int .i64 rs,.int .i64 rp,.bool rn,.int .i64 rf,.int .i64 rb,.int .i64 rt,.int .i64 re,.int .i64 ro,.bool rd] rfl rfl ?a2 (dB rfl) ?a3 ?a4 ?a5 ?_)
  case a2=>
   intro j u hj;rw [gC,Nat.zero_add];exact ah _ _ (by simp) #[.int .i64 rs,.int .i64 rp,.bool rn,.int .i64 rf,.int .i64 rb,.int .i64 rt,.int .i64 re,.int .i64 ro,.bool rd] _ j u (by simpa using hj)
  case a3=>unfold maxLen;omega
  case a4=>omega
  case a5=>simp;omega
  intro v1 w1 ho1 hg1 _ hat;have HT:=aa (((Th.new w _ _ _ _).alloc _).grown hg1 (fun b hb e=>gN HO.out.a hb e.symm));have Ks:=aa (World.ownsRow.kept ((((HO.out.s.alloc _).alloc _).alloc _).alloc _) hg1 HO.out.sa);have Kp:=aa (World.ownsRow.kept ((((HO.out.p.alloc _).alloc _).alloc _).alloc _) hg1 HO.out.pa);have Ka:Hid (w1.ownsRow B 40 9 v1 (A++ [(⟨rs,rp,rn,rf,rb,rt,re,ro,rd⟩:Ac)]).length ((A++ [(⟨rs,rp,rn,rf,rb,rt,re,ro,rd⟩:Ac)]).flatMap acC)):=by
   show World.ownsRow _ _ _ _ _ _ _;rw [List.length_append, ←kN];exact ho1
  have HN:Hid (Nwb w v1):=fun b hb hb2 e=>by
   rcases hat with h | h
   ·exact gN HO.out.a hb (h.symm.trans e)
   ·rw [h]at e;simp at e;omega
  obtain⟨o1,m1,rfl⟩:=aw ho1;have HCF:=aa (show CfAt w1 _ _ _ _ _ _ from⟨RowAt.of_own eE (by omega) Ks.out,RowAt.of_own bI (by omega) Kp.out,RowAt.of_own cQ (by omega) Ka.out⟩);have HI3:=aa (And.intro (ay Ks.out) (And.intro (ay Kp.out) (ay Ka.out)));have HBE:=aa ((((((Below.refl _ w).alloc hB _).alloc (by simp;omega) _).alloc (by simp;omega) _).alloc (by simp;omega) _).grown hg1 (by simp;omega) (ay HO.out.a));clear hat ho1 hg1 HAT Ks Kp Ka;obtain⟨d0,d1,d2,q0,q1,q2,y0,y1,y2,f0,f1,f2⟩:=HT.out.get;go_wp2_with fail
  have F:=aa (yC HT.out hB HCF.out HBE.out HNS.out HNP.out HN.out 2 (.slice o1 (A.length+1) m1));refine bodyPost_ret (v:=.agg #[.slice s1 S.length s2,.slice p1 P.length p2,.slice o1 (A.length+1) m1]) (dW (cs:=[.slice s1 S.length s2,.slice p1 P.length p2,.slice o1 (A.length+1) m1]) Tryz.results35 rfl F.out.1 Tryz.underlying30 rfl kR) rfl ⟨_,_,_,rfl,by simpa [nxS,nxP,nxA,Ax.s,Ax.p,Ax.r] using F.out.2.1,F.out.2.2,HI3.out⟩
 ·have hpp:=hp (.inl rfl);have hbd:=pU (fun x:Pr=>x.i==n) P;obtain⟨kk,hkk⟩:∃kk:Nat,pat P n=(kk:Int):=⟨(pat P n).toNat,by omega⟩;have hkl:kk<P.length:=by have:pat P n<P.length:=hbd.2;omega
  rw [hkk]at HAT;have HKK:=aa hkk;clear hkk hbd hpp hp hn;obtain⟨g,cap,hform, -, -⟩:=HO.out.p.form (by omega);simp only [Value.slice.injEq,true_and]at hform;obtain⟨rfl,rfl⟩:=hform;have hgw:g<w.heap.size:=cG HO.out.p rfl;go_wp2_with fail
  obtain⟨W0,hW0⟩:∃W0,W0=(((w.alloc (.cells #[.slice s1 S.length s2,.slice (some ⟨g,0,none⟩) P.length p2,.slice a1 A.length a2] 30)).alloc (.cells #[.int .i64 4,.int .i64 si,.int .i64 st,.int .i64 sg,.int .i64 pi,.int .i64 ps,.int .i64 pm,.int .i64 pp,.int .i64 pc,.int .i64 rs,.int .i64 rp,.bool rn,.int .i64 rf,.int .i64 rb,.int .i64 rt,.int .i64 re,.int .i64 ro,.bool rd,.int .i64 n,.int .i64 m,.int .i64 f0,.int .i64 f1,.int .i64 f2,.int .i64 f3,.int .i64 f4,.int .i64 f5,.int .i64 f6,.string body] 44)).alloc (.cells #[.slice none 0 0,.slice none 0 0,.slice none 0 0] 30)):=⟨_,rfl⟩;have hb0:Below w.heap.size w W0:=by rw [hW0];exact(((Below.refl _ w).alloc zr _).alloc (by simp) _).alloc (by simp;omega) _
  have hz0:W0.heap.size=w.heap.size+3:=by rw [hW0];simp
  have HT:Hid (Th w W0 (.slice s1 S.length s2) (.slice (some ⟨g,0,none⟩) P.length p2) (.slice a1 A.length a2)):=by rw [hW0];exact Th.new w _ _ _ _
  rw [←hW0];clear hW0;refine(ag HAT _ hb0).mono ?_;rintro e w1 ⟨rfl,hb1⟩;have k1:=hb0.trans (hb1.mono hb0.size);replace HT:=aa (HT.out.below hb1);obtain⟨d0,d1,d2,q0,q1,q2,y0,y1,y2,f0,f1,f2⟩:=HT.out.get;have Os:=aa (ar HO.out.s k1);have Op:=aa (ar HO.out.p k1);have Oa:=aa (ar HO.out.a k1);clear HAT hb0 hb1;go_wp2_with fail
  clear d0 d1 d2 q0 q1 q2 y0 y1 y2 f0 f1 f2;refine(pC P B g p2 kk w1 Op.out hkl (by omega)).mono ?_;rintro e w2 ⟨rfl,ho2,hg2⟩;replace HT:=aa (HT.out.grown hg2 (fun b hb e=>by simp at e;omega));have Ks:=aa (World.ownsRow.kept Os.out hg2 HO.out.sp);have Ka:=aa (World.ownsRow.kept Oa.out hg2 (jQ HO.out.pa));have HCF:Hid (CfAt w2 (.slice s1 S.length s2) (.slice (some ⟨g,0,none⟩) (P.length-1) p2) (.slice a1 A.length a2) S (P.eraseIdx kk) A):=⟨RowAt.of_own eE (by omega) Ks.out,RowAt.of_own bI (by omega) (by rw [List.length_eraseIdx_of_lt hkl];exact ho2),RowAt.of_own cQ (by omega) Ka.out⟩;have HI3:=aa (And.intro (ay Ks.out) (And.intro (ay ho2) (ay Ka.out)));have HBE:Hid (Below B w w2):=(k1.mono hB).grown hg2 (Nat.le_trans hB k1.size) (fun b e=>by simp at e;subst e;exact ay HO.out.p _ rfl);clear ho2 hg2 Ks Ka Os Op Oa k1;obtain⟨d0,d1,d2,q0,q1,q2,y0,y1,y2,f0,f1,f2⟩:=HT.out.get;go_wp2_with fail
  have F:=aa (yC HT.out hB HCF.out HBE.out HNS.out HNP.out HNA.out 1 (.slice (some ⟨g,0,none⟩) (P.length-1) p2));refine bodyPost_ret (v:=.agg #[.slice s1 S.length s2,.slice (some ⟨g,0,none⟩) (P.length-1) p2,.slice a1 A.length a2]) (dW (cs:=[.slice s1 S.length s2,.slice (some ⟨g,0,none⟩) (P.length-1) p2,.slice a1 A.length a2]) Tryz.results35 rfl F.out.1 Tryz.underlying30 rfl kR) rfl ⟨_,_,_,rfl,by simpa [nxS,nxP,nxA,HKK.out] using F.out.2.1,F.out.2.2,HI3.out⟩
 ·obtain⟨hn0,hn1⟩:=hn rfl;obtain⟨kk,rfl⟩:=Int.eq_ofNat_of_zero_le hn0;have hkl:kk<A.length:=(by omega);clear hn0 hn1 hp hn HAT;obtain⟨g,cap,hform, -, -⟩:=HO.out.a.form (by omega);simp only [Value.slice.injEq,true_and]at hform;obtain⟨rfl,rfl⟩:=hform;have hgw:g<w.heap.size:=cG HO.out.a rfl;go_wp2_with fail
  obtain⟨W0,hW0⟩:∃W0,W0=(((w.alloc (.cells #[.slice s1 S.length s2,.slice p1 P.length p2,.slice (some ⟨g,0,none⟩) A.length a2] 30)).alloc (.cells #[.int .i64 5,.int .i64 si,.int .i64 st,.int .i64 sg,.int .i64 pi,.int .i64 ps,.int .i64 pm,.int .i64 pp,.int .i64 pc,.int .i64 rs,.int .i64 rp,.bool rn,.int .i64 rf,.int .i64 rb,.int .i64 rt,.int .i64 re,.int .i64 ro,.bool rd,.int .i64 (kk:Int),.int .i64 m,.int .i64 f0,.int .i64 f1,.int .i64 f2,.int .i64 f3,.int .i64 f4,.int .i64 f5,.int .i64 f6,.string body] 44)).alloc (.cells #[.slice none 0 0,.slice none 0 0,.slice none 0 0] 30)):=⟨_,rfl⟩;have hb0:Below w.heap.size w W0:=by rw [hW0];exact(((Below.refl _ w).alloc zr _).alloc (by simp) _).alloc (by simp;omega) _
  have hz0:W0.heap.size=w.heap.size+3:=by rw [hW0];simp
  have HT:Hid (Th w W0 (.slice s1 S.length s2) (.slice p1 P.length p2) (.slice (some ⟨g,0,none⟩) A.length a2)):=by rw [hW0];exact Th.new w _ _ _ _
  rw [←hW0];clear hW0;have k1:=hb0;have Os:=aa (ar HO.out.s k1);have Op:=aa (ar HO.out.p k1);have Oa:=aa (ar HO.out.a k1);clear hb0;refine(pQ A B g a2 kk W0 Oa.out hkl (by omega)).mono ?_;rintro e w2 ⟨rfl,ho2,hg2⟩;replace HT:=aa (HT.out.grown hg2 (fun b hb e=>by simp at e;omega));have Ks:=aa (World.ownsRow.kept Os.out hg2 HO.out.sa);have Kp:=aa (World.ownsRow.kept Op.out hg2 HO.out.pa);have HCF:Hid (CfAt w2 (.slice s1 S.length s2) (.slice p1 P.length p2) (.slice (some ⟨g,0,none⟩) (A.length-1) a2) S P (A.eraseIdx kk)):=⟨RowAt.of_own eE (by omega) Ks.out,RowAt.of_own bI (by omega) Kp.out,RowAt.of_own cQ (by omega) (by rw [List.length_eraseIdx_of_lt hkl];exact ho2)⟩;have HI3:=aa (And.intro (ay Ks.out) (And.intro (ay Kp.out) (ay ho2)));have HBE:Hid (Below B w w2):=(k1.mono hB).grown hg2 (Nat.le_trans hB k1.size) (fun b e=>by simp at e;subst e;exact ay HO.out.a _ rfl);clear ho2 hg2 Ks Kp Os Op Oa k1;obtain⟨d0,d1,d2,q0,q1,q2,y0,y1,y2,f0,f1,f2⟩:=HT.out.get;go_wp2_with fail
  have F:=aa (yC HT.out hB HCF.out HBE.out HNS.out HNP.out HNA.out 2 (.slice (some ⟨g,0,none⟩) (A.length-1) a2));refine bodyPost_ret (v:=.agg #[.slice s1 S.length s2,.slice p1 P.length p2,.slice (some ⟨g,0,none⟩) (A.length-1) a2]) (dW (cs:=[.slice s1 S.length s2,.slice p1 P.length p2,.slice (some ⟨g,0,none⟩) (A.length-1) a2]) Tryz.results35 rfl F.out.1 Tryz.underlying30 rfl kR) rfl ⟨_,_,_,rfl,by simpa [nxS,nxP,nxA,Int.toNat_natCast] using F.out.2.1,F.out.2.2,HI3.out⟩
 ·have hpp:=hp (.inr rfl);have hbd:=pU (fun x:Pr=>x.i==n) P;obtain⟨kk,hkk⟩:∃kk:Nat,pat P n=(kk:Int):=⟨(pat P n).toNat,by omega⟩;have hkl:kk<P.length:=by have:pat P n<P.length:=hbd.2;omega
  rw [hkk]at HAT;have HKK:=aa hkk;clear hkk hbd hpp hp hn;obtain⟨g,cap,hform, -, -⟩:=HO.out.p.form (by omega);simp only [Value.slice.injEq,true_and]at hform;obtain⟨rfl,rfl⟩:=hform;have hgw:g<w.heap.size:=cG HO.out.p rfl;have q3:(0:Int)≤(kk:Int):=(by omega);have q4:(kk:Int)<(P.length:Int):=(by omega);go_wp2_with fail
  obtain⟨W0,hW0⟩:∃W0,W0=(((w.alloc (.cells #[.slice s1 S.length s2,.slice (some ⟨g,0,none⟩) P.length p2,.slice a1 A.length a2] 30)).alloc (.cells #[.int .i64 6,.int .i64 si,.int .i64 st,.int .i64 sg,.int .i64 pi,.int .i64 ps,.int .i64 pm,.int .i64 pp,.int .i64 pc,.int .i64 rs,.int .i64 rp,.bool rn,.int .i64 rf,.int .i64 rb,.int .i64 rt,.int .i64 re,.int .i64 ro,.bool rd,.int .i64 n,.int .i64 m,.int .i64 f0,.int .i64 f1,.int .i64 f2,.int .i64 f3,.int .i64 f4,.int .i64 f5,.int .i64 f6,.string body] 44)).alloc (.cells #[.slice none 0 0,.slice none 0 0,.slice none 0 0] 30)):=⟨_,rfl⟩;have hb0:Below w.heap.size w W0:=by rw [hW0];exact(((Below.refl _ w).alloc zr _).alloc (by simp) _).alloc (by simp;omega) _
  have hz0:W0.heap.size=w.heap.size+3:=by rw [hW0];simp
  have HT:Hid (Th w W0 (.slice s1 S.length s2) (.slice (some ⟨g,0,none⟩) P.length p2) (.slice a1 A.length a2)):=by rw [hW0];exact Th.new w _ _ _ _
  have xn:W0.cell? ⟨w.heap.size+1,18,none⟩=some (.int .i64 n):=by rw [hW0];exact aG (ah _ _ (by simp) _ _ _ _ rfl) _
  have xm:W0.cell? ⟨w.heap.size+1,19,none⟩=some (.int .i64 m):=by rw [hW0];exact aG (ah _ _ (by simp) _ _ _ _ rfl) _
  rw [←hW0];clear hW0;obtain⟨c0,c1,c2, -⟩:=HT.out.get;have O1:=aa (ar HO.out.p hb0);have hrow:=(O1.out.cellAt (kk*5+4) (by omega)).trans (pA bI P kk _ (cr pr0 hkl) 4 _ rfl);have hrf:=O1.out.frozenAt (kk*5+4);have hg1:g≠w.heap.size:=(by omega);have hg2:g≠w.heap.size+1:=(by omega);have hgW:g<W0.heap.size:=(by omega);go_region_held3 (fun w'=>w'.cell? ⟨w.heap.size,0,none⟩=some (.slice s1 S.length s2)∧w'.cell? ⟨w.heap.size,1,none⟩=some (.slice (some ⟨g,0,none⟩) P.length p2)∧w'.cell? ⟨w.heap.size,2,none⟩=some (.slice a1 A.length a2)∧w'.cell? ⟨w.heap.size+1,18,none⟩=some (.int .i64 n)∧w'.cell? ⟨w.heap.size+1,19,none⟩=some (.int .i64 m)) (go_keep)
   (first |(go_at_call 57;refine(ag HAT _ hb0.drew).mono ?_;rintro e w1 ⟨rfl,hc1⟩;have g1:Below W0.heap.size W0 w1:=((Below.refl _ W0).drew).trans hc1;have v0:=zC c0 g1;have v1:=zC c1 g1;have v2:=zC c2 g1;have v3:=zC xn g1;have v4:=zC xm g1;have vr:=zC hrow g1;have vf:=(g1.frozen (p:=⟨g,kk*5+4,none⟩) hgW).trans hrf))
  have k1:=hb0.trans (g1.mono hb0.size);replace HT:=aa ((HT.out.below g1).grown (fS (j:=kk*5+4) (v:=.int .i64 m) (fu w1 (some g))) (fun b hb e=>by simp at e;omega));have K1:=ld (ar HO.out.p k1) (kk*5+4) (.int .i64 m);rw [rE P kk m hkl]at K1;have K0:=World.ownsRow.kept (ar HO.out.s k1) (fS (j:=kk*5+4) (v:=.int .i64 m) (fu w1 (some g))) HO.out.sp;have K2:=World.ownsRow.kept (ar HO.out.a k1) (fS (j:=kk*5+4) (v:=.int .i64 m) (fu w1 (some g))) (jQ HO.out.pa);have HCF:Hid (CfAt (w1.setCell ⟨g,kk*5+4,none⟩ (.int .i64 m)) (.slice s1 S.length s2) (.slice (some ⟨g,0,none⟩) P.length p2) (.slice a1 A.length a2) S (P.set kk ⟨(P.getD kk pr0).i,(P.getD kk pr0).s,(P.getD kk pr0).m,(P.getD kk pr0).p,m⟩) A):=⟨RowAt.of_own eE (by omega) K0,RowAt.of_own bI (by omega) (by rw [List.length_set];exact K1),RowAt.of_own cQ (by omega) K2⟩;have HI3:=aa (And.intro (ay (K0)) (And.intro (ay (K1)) (ay (K2))));have HBE:Hid (Below B w (w1.setCell ⟨g,kk*5+4,none⟩ (.int .i64 m))):=(k1.mono hB).setCell (p:=⟨g,kk*5+4,none⟩) (ay HO.out.p _ rfl) _;clear K0 K1 K2 O1 k1 g1 hc1 hb0 v0 v1 v2 v3 v4 vr vf hrow hrf HAT c0 c1 c2 xn xm;generalize (w1.setCell ⟨g,kk*5+4,none⟩ (.int .i64 m))=w2 at*;obtain⟨d0,d1,d2,q0,q1,q2, -, -, -,f0,f1,f2⟩:=HT.out.get;go_wp2_with fail
  have F:=aa (BP hB HCF.out HBE.out HNS.out HNP.out HNA.out q0 q1 q2);refine bodyPost_ret (v:=.agg #[.slice s1 S.length s2,.slice (some ⟨g,0,none⟩) P.length p2,.slice a1 A.length a2]) (dW (cs:=[.slice s1 S.length s2,.slice (some ⟨g,0,none⟩) P.length p2,.slice a1 A.length a2]) Tryz.results35 rfl F.out.1 Tryz.underlying30 rfl kR) rfl ⟨_,_,_,rfl,by simpa [nxS,nxP,nxA,HKK.out] using F.out.2.1,F.out.2.2,HI3.out⟩
 ·clear HAT;obtain⟨W0,hW0⟩:∃W0,W0=(((w.alloc (.cells #[.slice s1 S.length s2,.slice p1 P.length p2,.slice a1 A.length a2] 30)).alloc (.cells #[.int .i64 k,.int .i64 si,.int .i64 st,.int .i64 sg,.int .i64 pi,.int .i64 ps,.int .i64 pm,.int .i64 pp,.int .i64 pc,.int .i64 rs,.int .i64 rp,.bool rn,.int .i64 rf,.int .i64 rb,.int .i64 rt,.int .i64 re,.int .i64 ro,.bool rd,.int .i64 n,.int .i64 m,.int .i64 f0,.int .i64 f1,.int .i64 f2,.int .i64 f3,.int .i64 f4,.int .i64 f5,.int .i64 f6,.string body] 44)).alloc (.cells #[.slice s1 S.length s2,.slice p1 P.length p2,.slice a1 A.length a2] 30)):=⟨_,rfl⟩;have hb0:Below w.heap.size w W0:=by rw [hW0];exact(((Below.refl _ w).alloc zr _).alloc (by simp) _).alloc (by simp;omega) _
  have q0:W0.cell? ⟨w.heap.size+1+1,0,none⟩=some (.slice s1 S.length s2):=by rw [hW0];exact ah _ _ (by simp) _ _ _ _ rfl
  have q1:W0.cell? ⟨w.heap.size+1+1,1,none⟩=some (.slice p1 P.length p2):=by rw [hW0];exact ah _ _ (by simp) _ _ _ _ rfl
  have q2:W0.cell? ⟨w.heap.size+1+1,2,none⟩=some (.slice a1 A.length a2):=by rw [hW0];exact ah _ _ (by simp) _ _ _ _ rfl
  have HCF:=aa (HO.out.cf.below hb0 zr);have HI3:=aa (And.intro (ay HO.out.s) (And.intro (ay HO.out.p) (ay HO.out.a)));have HBE:=aa (hb0.mono hB);go_wp2_with fail
  rw [←hW0];clear hW0;refine bodyPost_ret (v:=.agg #[.slice s1 S.length s2,.slice p1 P.length p2,.slice a1 A.length a2]) ?_ rfl ⟨_,_,_,rfl,by simpa [nxS,nxP,nxA,k1,k2,k3,k4,k5,k6] using HCF.out,HBE.out,HI3.out⟩;simp [results,Tryz.results35,go_sem,q0,q1,q2]
def AQ:Value→Bool
 | .slice _ _ _=>false
 | _=>true
theorem RowAt.set_box {α:Type} {C:α→List Value} {sz:Nat} (hC:∀x,(C x).all AQ=true) {w:World} {v:Value} {l:List α} (h:RowAt C sz w v l) {b o:Nat} {x:Option Addr} {y z:Nat} (hp:w.cell? ⟨b,o,none⟩=some (.slice x y z)) (u:Value):RowAt C sz (w.setCell ⟨b,o,none⟩ u) v l:=by
 obtain⟨a,cap,rfl,hn,h0 |⟨b',off,rfl,hc,hL⟩⟩:=h
 ·exact⟨a,cap,rfl,hn,.inl h0⟩
 ·refine⟨_,cap,rfl,hn,.inr ⟨b',off,rfl,hc,fun i r hr j q hq=>?_⟩⟩;have h1:=hL i r hr j q hq;rw [World.cell?_setCell_other _ _ _ _ (fun e=>?_)]
  ·exact h1
  ·rw [←e,hp]at h1;simp at h1;have:=List.all_eq_true.1 (hC r) q (List.mem_of_getElem? hq);rw [←h1]at this;simp [AQ]at this
theorem CfAt.set_box {w:World} {sv pv av:Value} {S:List Sw} {P:List Pr} {A:List Ac} (h:CfAt w sv pv av S P A) {b o:Nat} {x:Option Addr} {y z:Nat} (hp:w.cell? ⟨b,o,none⟩=some (.slice x y z)) (u:Value):CfAt (w.setCell ⟨b,o,none⟩ u) sv pv av S P A:=
 ⟨RowAt.set_box (fun _=>rfl) h.1 hp u,RowAt.set_box (fun _=>rfl) h.2.1 hp u,RowAt.set_box (fun _=>rfl) h.2.2 hp u⟩
theorem eQ {w w':World} {B b o:Nat} {cs:List Value} (h:w.rangeAt b o cs) (hb:Below B w w') (hB:w.heap.size≤B):w'.rangeAt b o cs:=fun j v hv=>aW (h j v hv) hb hB
theorem iB {w:World} {b o b' o':Nat} {cs:List Value} {x:Value} (h:w.rangeAt b o cs) (hne:b'≠b):(w.setCell ⟨b',o',none⟩ x).rangeAt b o cs:=fun j v hv=>
 (World.cell?_setCell_other _ _ _ _ (fun e=>hne (by simpa using congrArg Addr.block e))).trans (h j v hv)
theorem bP:(Tryz.prog.info? 44).map (·.size)=some 28:=by kernel_rfl
def du (S:List Sw) (P:List Pr) (A:List Ac) (a:Ax):Int:=if may S P A=true then bJ S P A a else 8
def apS (S:List Sw) (P:List Pr) (A:List Ac) (a:Ax):List Sw:=if du S P A a=0 then nxS S a else []
def apP (S:List Sw) (P:List Pr) (A:List Ac) (a:Ax):List Pr:=if du S P A a=0 then nxP P a else []
def apA (S:List Sw) (P:List Pr) (A:List Ac) (a:Ax):List Ac:=if du S P A a=0 then nxA A a else []
theorem yU {S:List Sw} {P:List Pr} {A:List Ac} {a:Ax} (h:bJ S P A a=0) (hk:a.k=4∨a.k=6):0≤pat P a.n:=by
 unfold bJ at h;by_cases hb:inB (pat P a.n) 0 ((P.length:Int)-1)=true
 ·simp [inB]at hb;omega
 ·rcases hk with hk | hk
  ·rw [if_neg (by omega),if_neg (by omega),if_neg (by omega),if_pos hk,if_neg hb]at h;omega
  ·rw [if_neg (by omega),if_neg (by omega),if_neg (by omega),if_neg (by omega),if_pos hk,if_neg hb]at h;omega
theorem zH {S:List Sw} {P:List Pr} {A:List Ac} {a:Ax} (h:bJ S P A a=0) (hk:a.k=5):0≤a.n∧a.n<A.length:=by
 unfold bJ at h;rw [if_neg (by omega),if_neg (by omega),if_neg (by omega),if_neg (by omega),if_neg (by omega),if_pos hk]at h;by_cases hb:inB a.n 0 ((A.length:Int)-1)=true
 ·simp [inB]at hb;omega
 ·rw [if_neg hb]at h;omega
theorem Hi3.none (B:Nat):Hi3 B (.slice none 0 0) (.slice none 0 0) (.slice none 0 0):=⟨fun g h=>by simp [Value.ownBlock]at h,fun g h=>by simp [Value.ownBlock]at h,fun g h=>by simp [Value.ownBlock]at h⟩
theorem Hi3.mono {B B':Nat} {x y z:Value} (h:Hi3 B x y z) (hb:B'≤B):Hi3 B' x y z:=⟨fun g e=>Nat.le_trans hb (h.1 g e),fun g e=>Nat.le_trans hb (h.2.1 g e),fun g e=>Nat.le_trans hb (h.2.2 g e)⟩
theorem kL (sv pv av:Value) (S:List Sw) (P:List Pr) (A:List Ac) (a:Ax) (w:World) (hC:CfAt w sv pv av S P A) (h1:S.length*24≤140737488355328) (h2:P.length*40≤140737488355328) (h3:A.length*72≤140737488355328):
  Calls Tryz.prog 20 #[.agg #[sv,pv,av],dC a] w fun e w'=>∃su pu au,e= .returned (.tuple #[.agg #[su,pu,au],.int .i64 (du S P A a)])∧CfAt w' su pu au (apS S P A a) (apP S P A a) (apA S P A a)∧Below w.heap.size w w'∧Hi3 w.heap.size su pu au:=by
 have HCK:=aa (fun W (hW:Below w.heap.size w W)=>gj sv pv av S P A W (hC.below hW zr) h1 h2 h3);have HCA:=aa (fun W (hW:Below w.heap.size w W)=>pM sv pv av S P A a W (hC.below hW zr) h1 h2 h3);have HCY:=aa (fun W (hW:Below w.heap.size w W)=>yy sv pv av S P A W (hC.below hW zr) h1 h2 h3);have HCH:Hid (∀(W:World) (B:Nat) (x y z:Value),may S P A=true→bJ S P A a=0→Own3 W B x y z S P A→B≤W.heap.size→Calls Tryz.prog 35 #[.agg #[x,y,z],dC a] W fun e w'=>∃su pu au,e= .returned (.agg #[su,pu,au])∧CfAt w' su pu au (nxS S a) (nxP P a) (nxA A a)∧Below B W w'∧Hi3 B su pu au):=fun W B x y z hm hf ho hB=>
  qR B x y z S P A a W ho hB (eF hm).1 (eF hm).2.1 (eF hm).2.2 (yU hf) (zH hf)
 have HE0:Hid (may S P A=false→du S P A a=8∧apS S P A a= []∧apP S P A a= []∧apA S P A a= []):=fun h=>by
  have e:du S P A a=8:=by unfold du;rw [h];rfl
  exact⟨e,by unfold apS;rw [e];rfl,by unfold apP;rw [e];rfl,by unfold apA;rw [e];rfl⟩
 have HE1:Hid (may S P A=true→bJ S P A a≠0→du S P A a=bJ S P A a∧apS S P A a= []∧apP S P A a= []∧apA S P A a= []):=fun h hn=>by
  have e:du S P A a=bJ S P A a:=by unfold du;rw [if_pos h]
  exact⟨e,by unfold apS;rw [e,if_neg hn],by unfold apP;rw [e,if_neg hn],by unfold apA;rw [e,if_neg hn]⟩
 have HE2:Hid (may S P A=true→bJ S P A a=0→du S P A a=0∧apS S P A a=nxS S a∧apP S P A a=nxP P a∧apA S P A a=nxA A a):=fun h hn=>by
  have e:du S P A a=0:=by unfold du;rw [if_pos h,hn]
  exact⟨e,by unfold apS;rw [if_pos e],by unfold apP;rw [if_pos e],by unfold apA;rw [if_pos e]⟩
 obtain⟨E,hE⟩:∃E:Int,E=if may S P A=true then 0 else 8:=⟨_,rfl⟩;rw [←hE]at HCK;have HE:=aa hE;clear hE;generalize may S P A=M at*;generalize bJ S P A a=G at*;generalize du S P A a=EE at*;generalize apS S P A a=LS at*;generalize apP S P A a=LP at*;generalize apA S P A a=LA at*;generalize nxS S a=NS at*;generalize nxP P a=NP at*;generalize nxA A a=NA at*;obtain⟨s1,s2,rfl⟩:=hC.1.slice;obtain⟨p1,p2,rfl⟩:=hC.2.1.slice;obtain⟨a1,a2,rfl⟩:=hC.2.2.slice;clear hC;obtain⟨k,si,st,sg,pi,ps,pm,pp,pc,rs,rp,rn,rf,rb,rt,re,ro,rd,n,m,f0,f1,f2,f3,f4,f5,f6,body⟩:=a;go_enter Tryz.func20,Tryz.ntmps20;go_wp2_with fail
 obtain⟨W0,hW0⟩:∃W0,W0=((w.alloc (.cells #[.slice s1 S.length s2,.slice p1 P.length p2,.slice a1 A.length a2] 30)).alloc (.cells #[.int .i64 k,.int .i64 si,.int .i64 st,.int .i64 sg,.int .i64 pi,.int .i64 ps,.int .i64 pm,.int .i64 pp,.int .i64 pc,.int .i64 rs,.int .i64 rp,.bool rn,.int .i64 rf,.int .i64 rb,.int .i64 rt,.int .i64 re,.int .i64 ro,.bool rd,.int .i64 n,.int .i64 m,.int .i64 f0,.int .i64 f1,.int .i64 f2,.int .i64 f3,.int .i64 f4,.int .i64 f5,.int .i64 f6,.string body] 44)).alloc (.cells #[.slice none 0 0,.slice none 0 0,.slice none 0 0] 30):=⟨_,rfl⟩;have hb0:Below w.heap.size w W0:=by rw [hW0];exact(((Below.refl _ w).alloc zr _).alloc (by simp) _).alloc (by simp;omega) _
 have hz0:W0.heap.size=w.heap.size+3:=by rw [hW0];simp
 have c0:W0.cell? ⟨w.heap.size,0,none⟩=some (.slice s1 S.length s2):=by rw [hW0];exact aG (aG (ah w _ rfl _ _ _ _ rfl) _) _
 have c1:W0.cell? ⟨w.heap.size,1,none⟩=some (.slice p1 P.length p2):=by rw [hW0];exact aG (aG (ah w _ rfl _ _ _ _ rfl) _) _
 have c2:W0.cell? ⟨w.heap.size,2,none⟩=some (.slice a1 A.length a2):=by rw [hW0];exact aG (aG (ah w _ rfl _ _ _ _ rfl) _) _
 have X:Hid (W0.rangeAt (w.heap.size+1) 0 [Value.int .i64 k,.int .i64 si,.int .i64 st,.int .i64 sg,.int .i64 pi,.int .i64 ps,.int .i64 pm,.int .i64 pp,.int .i64 pc,.int .i64 rs,.int .i64 rp,.bool rn,.int .i64 rf,.int .i64 rb,.int .i64 rt,.int .i64 re,.int .i64 ro,.bool rd,.int .i64 n,.int .i64 m,.int .i64 f0,.int .i64 f1,.int .i64 f2,.int .i64 f3,.int .i64 f4,.int .i64 f5,.int .i64 f6,.string body]):=by
  rw [hW0];intro j v hj;rw [Nat.zero_add];exact aG (ah _ _ (by simp) #[.int .i64 k,.int .i64 si,.int .i64 st,.int .i64 sg,.int .i64 pi,.int .i64 ps,.int .i64 pm,.int .i64 pp,.int .i64 pc,.int .i64 rs,.int .i64 rp,.bool rn,.int .i64 rf,.int .i64 rb,.int .i64 rt,.int .i64 re,.int .i64 ro,.bool rd,.int .i64 n,.int .i64 m,.int .i64 f0,.int .i64 f1,.int .i64 f2,.int .i64 f3,.int .i64 f4,.int .i64 f5,.int .i64 f6,.string body] _ j v (by simpa using hj)) _
 have r0:W0.cell? ⟨w.heap.size+1+1,0,none⟩=some (.slice none 0 0):=by rw [hW0];exact ah _ _ (by simp) _ _ _ _ rfl
 have r1:W0.cell? ⟨w.heap.size+1+1,1,none⟩=some (.slice none 0 0):=by rw [hW0];exact ah _ _ (by simp) _ _ _ _ rfl
 have r2:W0.cell? ⟨w.heap.size+1+1,2,none⟩=some (.slice none 0 0):=by rw [hW0];exact ah _ _ (by simp) _ _ _ _ rfl
 have z0:W0.frozen? ⟨w.heap.size+1+1,0,none⟩=false:=by rw [hW0];exact bF _ _ (by simp) _ _ _
 have z1:W0.frozen? ⟨w.heap.size+1+1,1,none⟩=false:=by rw [hW0];exact bF _ _ (by simp) _ _ _
 have z2:W0.frozen? ⟨w.heap.size+1+1,2,none⟩=false:=by rw [hW0];exact bF _ _ (by simp) _ _ _
 have hRlt:w.heap.size+1+1<W0.heap.size:=by omega
 rw [←hW0];clear hW0 hz0;refine(ag HCK _ hb0).mono ?_;rintro e w1 ⟨rfl,hb1⟩;have k1:=hb0.trans (hb1.mono hb0.size);have ac0:=zC c0 hb1;have ac1:=zC c1 hb1;have ac2:=zC c2 hb1;have aX:=aa (eQ X.out hb1 zr);have ar0:=zC r0 hb1;have ar1:=zC r1 hb1;have ar2:=zC r2 hb1;have az0:=(hb1.frozen (p:=⟨w.heap.size+1+1,0,none⟩) (by show _<W0.heap.size;exact hRlt)).trans z0;have az1:=(hb1.frozen (p:=⟨w.heap.size+1+1,1,none⟩) (by show _<W0.heap.size;exact hRlt)).trans z1;have az2:=(hb1.frozen (p:=⟨w.heap.size+1+1,2,none⟩) (by show _<W0.heap.size;exact hRlt)).trans z2;clear c0 c1 c2 r0 r1 r2 z0 z1 z2 X;have hR1:w.heap.size+1+1<w1.heap.size:=Nat.lt_of_lt_of_le hRlt hb1.size;clear hb0 hb1 HCK hRlt;cases M
 ·obtain rfl:E=8:=HE.out;obtain⟨rfl,rfl,rfl,rfl⟩:=HE0.out rfl;clear HCA HCY HCH HE HE0 HE1 HE2 ac0 ac1 ac2 aX;go_wp2_with fail
  obtain⟨u0,u1,u2⟩:=yL ar0 ar1 ar2 (.slice none 0 0) (.slice none 0 0) (.slice none 0 0);have HBE:=aa ((((k1).setCell (p:=⟨w.heap.size+1+1,0,none⟩) (by show w.heap.size≤w.heap.size+1+1;omega) (.slice none 0 0)).setCell (p:=⟨w.heap.size+1+1,1,none⟩) (by show w.heap.size≤w.heap.size+1+1;omega) (.slice none 0 0)).setCell (p:=⟨w.heap.size+1+1,2,none⟩) (by show w.heap.size≤w.heap.size+1+1;omega) (.slice none 0 0));have HCF:=aa ((⟨RowAt.nil _ _ _,RowAt.nil _ _ _,RowAt.nil _ _ _⟩:CfAt (((w1.setCell ⟨w.heap.size+1+1,0,none⟩ (.slice none 0 0)).setCell ⟨w.heap.size+1+1,1,none⟩ (.slice none 0 0)).setCell ⟨w.heap.size+1+1,2,none⟩ (.slice none 0 0)) (.slice none 0 0) (.slice none 0 0) (.slice none 0 0) [] [] []));refine bodyPost_ret (v:=.tuple #[.agg #[.slice none 0 0,.slice none 0 0,.slice none 0 0],.int .i64 8]) ?_ rfl ⟨_,_,_,rfl,HCF.out,HBE.out,Hi3.none _⟩;clear HCF HBE ar0 az0 ar1 az1 ar2 az2;generalize (((w1.setCell ⟨w.heap.size+1+1,0,none⟩ (.slice none 0 0)).setCell ⟨w.heap.size+1+1,1,none⟩ (.slice none 0 0)).setCell ⟨w.heap.size+1+1,2,none⟩ (.slice none 0 0))=W at*;simp [results,Tryz.results20,go_sem,u0,u1,u2]
 ·obtain rfl:E=0:=HE.out;have HF1:=aa (HE1.out rfl);have HF2:=aa (HE2.out rfl);have HCH1:=aa (fun W B x y z=>HCH.out W B x y z rfl);clear HE HE0 HE1 HE2 HCH;go_wp2_with (refine wpList_load_mid rfl 44 (.tmp 3) rfl (w.heap.size+1) 0 rfl [Value.int .i64 k,.int .i64 si,.int .i64 st,.int .i64 sg,.int .i64 pi,.int .i64 ps,.int .i64 pm,.int .i64 pp,.int .i64 pc,.int .i64 rs,.int .i64 rp,.bool rn,.int .i64 rf,.int .i64 rb,.int .i64 rt,.int .i64 re,.int .i64 ro,.bool rd,.int .i64 n,.int .i64 m,.int .i64 f0,.int .i64 f1,.int .i64 f2,.int .i64 f3,.int .i64 f4,.int .i64 f5,.int .i64 f6,.string body] _ aX.out Tryz.underlying44 rfl bP ?_)
  refine(ag HCA _ k1).mono ?_;rintro e w2 ⟨rfl,hb2⟩;have k2:=k1.trans (hb2.mono k1.size);have bc0:=zC ac0 hb2;have bc1:=zC ac1 hb2;have bc2:=zC ac2 hb2;have bX:=aa (eQ aX.out hb2 zr);have br0:=zC ar0 hb2;have br1:=zC ar1 hb2;have br2:=zC ar2 hb2;have bz0:=(hb2.frozen (p:=⟨w.heap.size+1+1,0,none⟩) (by show _<w1.heap.size;exact hR1)).trans az0;have bz1:=(hb2.frozen (p:=⟨w.heap.size+1+1,1,none⟩) (by show _<w1.heap.size;exact hR1)).trans az1;have bz2:=(hb2.frozen (p:=⟨w.heap.size+1+1,2,none⟩) (by show _<w1.heap.size;exact hR1)).trans az2;clear ac0 ac1 ac2 ar0 ar1 ar2 az0 az1 az2 aX;have hR2:w.heap.size+1+1<w2.heap.size:=Nat.lt_of_lt_of_le hR1 hb2.size;clear k1 hb2 HCA hR1;by_cases hG:G=0
  ·subst hG;obtain⟨rfl,rfl,rfl,rfl⟩:=HF2.out rfl;have HCH2:=aa (fun W B x y z=>HCH1.out W B x y z rfl);clear HF1 HF2 HCH1;go_wp2_with fail
   refine wp_region_held_drew (S:=(fun w'=>w'.cell? ⟨w.heap.size,0,none⟩=some (.slice s1 S.length s2)∧w'.cell? ⟨w.heap.size,1,none⟩=some (.slice p1 P.length p2)∧w'.cell? ⟨w.heap.size,2,none⟩=some (.slice a1 A.length a2)∧w'.rangeAt (w.heap.size+1) 0 [Value.int .i64 k,.int .i64 si,.int .i64 st,.int .i64 sg,.int .i64 pi,.int .i64 ps,.int .i64 pm,.int .i64 pp,.int .i64 pc,.int .i64 rs,.int .i64 rp,.bool rn,.int .i64 rf,.int .i64 rb,.int .i64 rt,.int .i64 re,.int .i64 ro,.bool rd,.int .i64 n,.int .i64 m,.int .i64 f0,.int .i64 f1,.int .i64 f2,.int .i64 f3,.int .i64 f4,.int .i64 f5,.int .i64 f6,.string body])) (by kernel_rfl) ⟨bc0,bc1,bc2,bX.out⟩ (fun hHeld=>?_);refine tq 0 21 rfl (by kernel_rfl) (fun _ _ _ h=>h) rfl ‹_› (by intro w h;go_simp <;>with_reducible rfl) ?_;simp only [nz];refine wpAnyH_take (i:=2) (oi:=⟨some 23,_,_,_,_,_⟩) (v:=.agg #[.int .i64 k,.int .i64 si,.int .i64 st,.int .i64 sg,.int .i64 pi,.int .i64 ps,.int .i64 pm,.int .i64 pp,.int .i64 pc,.int .i64 rs,.int .i64 rp,.bool rn,.int .i64 rf,.int .i64 rb,.int .i64 rt,.int .i64 re,.int .i64 ro,.bool rd,.int .i64 n,.int .i64 m,.int .i64 f0,.int .i64 f1,.int .i64 f2,.int .i64 f3,.int .i64 f4,.int .i64 f5,.int .i64 f6,.string body]) rfl (by kernel_rfl) (by kernel_rfl) (by kernel_rfl) (fun _ _ _ h=>h) (yieldsIf_load_mid (by rfl) 44 (.tmp 3) rfl (w.heap.size+1) 0 rfl [Value.int .i64 k,.int .i64 si,.int .i64 st,.int .i64 sg,.int .i64 pi,.int .i64 ps,.int .i64 pm,.int .i64 pp,.int .i64 pc,.int .i64 rs,.int .i64 rp,.bool rn,.int .i64 rf,.int .i64 rb,.int .i64 rt,.int .i64 re,.int .i64 ro,.bool rd,.int .i64 n,.int .i64 m,.int .i64 f0,.int .i64 f1,.int .i64 f2,.int .i64 f3,.int .i64 f4,.int .i64 f5,.int .i64 f6,.string body] _ (fun w h=>h.2.2.2) Tryz.underlying44 rfl bP) (by assumption) ?_;(try simp only [nz]);refine rsq 1 22 (by kernel_rfl) rfl (fun K hK=>?_);go_simp;refine(ag HCY _ k2.drew).mono ?_;rintro e w3 ⟨y1,y2,y3,rfl,ho3,hb3⟩;obtain⟨o1,m1,hv1⟩:=aw ho3.s;obtain⟨o2,m2,hv2⟩:=aw ho3.p;obtain⟨o3,m3,hv3⟩:=aw ho3.a;subst hv1 hv2 hv3;have HO3:=aa ho3;clear ho3;have g3:Below w2.heap.size w2 w3:=((Below.refl _ w2).drew).trans hb3;have k3:=k2.trans (g3.mono k2.size);go_wp2_with fail
   refine hK.out _ _ ⟨zC bc0 g3,zC bc1 g3,zC bc2 g3,eQ bX.out g3 zr⟩ (fun hHeld=>?_);clear hK K;(try simp only [nz]);refine rsq 3 24 (by kernel_rfl) rfl (fun K hK=>?_);go_simp;refine(ag HCH2 _ _ _ _ _ HO3.out (show w2.drew.heap.size≤w3.heap.size from g3.size)).mono ?_;rintro e w4 ⟨z1,z2,z3,rfl,hcf4,hb4,hi4⟩;have HI4:=aa hi4;clear hi4;have HC4:=aa hcf4;obtain⟨v1,n1,hv1⟩:=hcf4.1.slice;obtain⟨v2,n2,hv2⟩:=hcf4.2.1.slice;obtain⟨v3,n3,hv3⟩:=hcf4.2.2.slice;subst hv1 hv2 hv3;clear hcf4;have g4:Below w2.heap.size w2 w4:=g3.trans hb4;have HI5:=aa (HI4.out.mono (show w.heap.size≤w2.drew.heap.size from k2.size));clear HI4;have k4:=k2.trans (g4.mono k2.size);go_wp2_with fail
   refine hK.out _ _ ⟨zC bc0 g4,zC bc1 g4,zC bc2 g4,eQ bX.out g4 zr⟩ (fun hHeld=>?_);clear hK K;(try simp only [nz]);have dr0:=zC br0 g4;have dr1:=zC br1 g4;have dr2:=zC br2 g4;have dz0:=(g4.frozen (p:=⟨w.heap.size+1+1,0,none⟩) hR2).trans bz0;have dz1:=(g4.frozen (p:=⟨w.heap.size+1+1,1,none⟩) hR2).trans bz1;have dz2:=(g4.frozen (p:=⟨w.heap.size+1+1,2,none⟩) hR2).trans bz2;have e0:=zC bc0 g4;have e1:=zC bc1 g4;have e2:=zC bc2 g4;have HXX:=aa (eQ bX.out g4 zr);refine rnq 4 (by kernel_rfl) rfl (fun K hK=>?_);go_simp;refine hK.out _ _ ⟨(World.cell?_setCell_other _ _ _ _ (by simp <;>omega)).trans ((World.cell?_setCell_other _ _ _ _ (by simp <;>omega)).trans ((World.cell?_setCell_other _ _ _ _ (by simp <;>omega)).trans e0)),(World.cell?_setCell_other _ _ _ _ (by simp <;>omega)).trans ((World.cell?_setCell_other _ _ _ _ (by simp <;>omega)).trans ((World.cell?_setCell_other _ _ _ _ (by simp <;>omega)).trans e1)),(World.cell?_setCell_other _ _ _ _ (by simp <;>omega)).trans ((World.cell?_setCell_other _ _ _ _ (by simp <;>omega)).trans ((World.cell?_setCell_other _ _ _ _ (by simp <;>omega)).trans e2)),iB (iB (iB HXX.out (by omega)) (by omega)) (by omega)⟩ (fun hHeld=>?_);clear hK K;(try simp only [nz]);refine tq 5 5 rfl (by kernel_rfl) (fun _ _ _ h=>h) rfl ‹_› (by intro w h;go_simp <;>with_reducible rfl) ?_;simp only [nz];refine wpAnyH_done (by kernel_rfl) ?_ _;clear hHeld bc0 bc1 bc2 br0 br1 br2 bz0 bz1 bz2 bX e0 e1 e2 HXX HCY HCH2 HO3 hb3 hb4 g3 k3;obtain⟨u0,u1,u2⟩:=yL dr0 dr1 dr2 (.slice v1 LS.length n1) (.slice v2 LP.length n2) (.slice v3 LA.length n3);have HCF:=aa (((HC4.out.set_box dr0 (.slice v1 LS.length n1)).set_box ((World.cell?_setCell_other _ _ _ _ (by simp)).trans dr1) (.slice v2 LP.length n2)).set_box ((World.cell?_setCell_other _ _ _ _ (by simp)).trans ((World.cell?_setCell_other _ _ _ _ (by simp)).trans dr2)) (.slice v3 LA.length n3));have HBE:=aa ((((k4).setCell (p:=⟨w.heap.size+1+1,0,none⟩) (by show w.heap.size≤w.heap.size+1+1;omega) (.slice v1 LS.length n1)).setCell (p:=⟨w.heap.size+1+1,1,none⟩) (by show w.heap.size≤w.heap.size+1+1;omega) (.slice v2 LP.length n2)).setCell (p:=⟨w.heap.size+1+1,2,none⟩) (by show w.heap.size≤w.heap.size+1+1;omega) (.slice v3 LA.length n3));clear HC4 k4 g4 dr0 dr1 dr2 dz0 dz1 dz2;generalize (((w4.setCell ⟨w.heap.size+1+1,0,none⟩ (.slice v1 LS.length n1)).setCell ⟨w.heap.size+1+1,1,none⟩ (.slice v2 LP.length n2)).setCell ⟨w.heap.size+1+1,2,none⟩ (.slice v3 LA.length n3))=W at*;go_wp2_with fail
   refine bodyPost_ret (v:=.tuple #[.agg #[.slice v1 LS.length n1,.slice v2 LP.length n2,.slice v3 LA.length n3],.int .i64 0]) ?_ rfl ⟨_,_,_,rfl,HCF.out,HBE.out,HI5.out⟩;clear HCF HBE;simp [results,Tryz.results20,go_sem,u0,u1,u2]
  ·obtain⟨rfl,rfl,rfl,rfl⟩:=HF1.out hG;clear HF1 HF2 HCH1 HCY bc0 bc1 bc2 bX;go_wp2_with fail
   obtain⟨u0,u1,u2⟩:=yL br0 br1 br2 (.slice none 0 0) (.slice none 0 0) (.slice none 0 0);have HBE:=aa ((((k2).setCell (p:=⟨w.heap.size+1+1,0,none⟩) (by show w.heap.size≤w.heap.size+1+1;omega) (.slice none 0 0)).setCell (p:=⟨w.heap.size+1+1,1,none⟩) (by show w.heap.size≤w.heap.size+1+1;omega) (.slice none 0 0)).setCell (p:=⟨w.heap.size+1+1,2,none⟩) (by show w.heap.size≤w.heap.size+1+1;omega) (.slice none 0 0));have HCF:=aa ((⟨RowAt.nil _ _ _,RowAt.nil _ _ _,RowAt.nil _ _ _⟩:CfAt (((w2.setCell ⟨w.heap.size+1+1,0,none⟩ (.slice none 0 0)).setCell ⟨w.heap.size+1+1,1,none⟩ (.slice none 0 0)).setCell ⟨w.heap.size+1+1,2,none⟩ (.slice none 0 0)) (.slice none 0 0) (.slice none 0 0) (.slice none 0 0) [] [] []));refine bodyPost_ret (v:=.tuple #[.agg #[.slice none 0 0,.slice none 0 0,.slice none 0 0],.int .i64 EE]) ?_ rfl ⟨_,_,_,rfl,HCF.out,HBE.out,Hi3.none _⟩;clear HCF HBE br0 bz0 br1 bz1 br2 bz2;generalize (((w2.setCell ⟨w.heap.size+1+1,0,none⟩ (.slice none 0 0)).setCell ⟨w.heap.size+1+1,1,none⟩ (.slice none 0 0)).setCell ⟨w.heap.size+1+1,2,none⟩ (.slice none 0 0))=W at*;simp [results,Tryz.results20,go_sem,u0,u1,u2]
theorem vI (sv pv av:Value) (S:List Sw) (P:List Pr) (A:List Ac) (a:Ax) (w:World) (hC:CfAt w sv pv av S P A) (h1:S.length*24≤140737488355328) (h2:P.length*40≤140737488355328) (h3:A.length*72≤140737488355328):
  Calls Tryz.prog 20 #[.agg #[sv,pv,av],dC a] w fun e w'=>∃su pu au,e= .returned (.tuple #[.agg #[su,pu,au],.int .i64 (du S P A a)])∧CfAt w' su pu au (apS S P A a) (apP S P A a) (apA S P A a)∧Below w.heap.size w w':=
 (kL sv pv av S P A a w hC h1 h2 h3).mono fun e w' h=>by
  obtain⟨su,pu,au,he,hc,hb,_⟩:=h;exact⟨su,pu,au,he,hc,hb⟩

def cS (S:List Sw) (P:List Pr) (A:List Ac) (a:Ax):List Sw:=if du S P A a=0 then apS S P A a else S
def cP (S:List Sw) (P:List Pr) (A:List Ac) (a:Ax):List Pr:=if du S P A a=0 then apP S P A a else P
def cA (S:List Sw) (P:List Pr) (A:List Ac) (a:Ax):List Ac:=if du S P A a=0 then apA S P A a else A
theorem pY {α:Type} {C:α→List Value} {sz:Nat} {w:World} {v:Value} {l:List α} (h:RowAt C sz w v l) (b o:Nat) {vs:List Value} (hne:l.length=0∨∀g,v.ownBlock=some g→g≠b):RowAt C sz (w.setCells b o vs) v l:=by
 obtain⟨a,cap,rfl,hn,hr⟩:=h;refine⟨a,cap,rfl,hn,?_⟩;rcases hr with h0 |⟨b',off,rfl,hc,hx⟩
 ·exact .inl h0
 ·rcases hne with h0 | hne
  ·exact .inl h0
  ·refine .inr ⟨b',off,rfl,hc,fun i x hi j u hj=>?_⟩;rw [World.cell?_setCells_out b vs o w _ (fun hb _=>absurd hb (hne b' rfl))];exact hx i x hi j u hj
theorem tE {α:Type} {C:α→List Value} {sz:Nat} {w:World} {v:Value} {l:List α} (hC:∀x,C x≠ []) (h:RowAt C sz w v l):l.length=0∨∀g,v.ownBlock=some g→g<w.heap.size:=by
 obtain⟨a,cap,rfl,hn,hr⟩:=h;rcases hr with h0 |⟨b',off,rfl,hc,hx⟩
 ·exact .inl h0
 ·by_cases h0:l.length=0
  ·exact .inl h0
  ·refine .inr fun g hg=>?_;obtain rfl:b'=g:=(by simpa [Value.ownBlock] using hg);have hl:0<l.length:=(by omega);have hc0:0<(C l[0]).length:=List.length_pos_iff.2 (hC _);exact aq (hx 0 l[0] (List.getElem?_eq_getElem hl) 0 _ (List.getElem?_eq_getElem hc0))
theorem xR {w:World} {sv pv av:Value} {S:List Sw} {P:List Pr} {A:List Ac} (h:CfAt w sv pv av S P A) (b o:Nat) {vs:List Value} (h1:S.length=0∨∀g,sv.ownBlock=some g→g≠b) (h2:P.length=0∨∀g,pv.ownBlock=some g→g≠b) (h3:A.length=0∨∀g,av.ownBlock=some g→g≠b):CfAt (w.setCells b o vs) sv pv av S P A:=
 ⟨pY h.1 b o h1,pY h.2.1 b o h2,pY h.2.2 b o h3⟩
theorem pP (s1 p1 a1:Option Addr) (s2 p2 a2:Nat) (S:List Sw) (P:List Pr) (A:List Ac) (a:Ax) (w:World) (hC:CfAt w (.slice s1 S.length s2) (.slice p1 P.length p2) (.slice a1 A.length a2) S P A) (h1:S.length≤1000) (h2:P.length≤1000) (h3:A.length≤1000):
  Calls Tryz.prog 37 #[.agg #[.slice s1 S.length s2,.slice p1 P.length p2,.slice a1 A.length a2],dC a] w fun e w'=>∃su pu au,e= .returned (.tuple #[.agg #[su,pu,au],.int .i64 (du S P A a)])∧CfAt w' su pu au (cS S P A a) (cP S P A a) (cA S P A a)∧Below w.heap.size w w'∧(Hi3 w.heap.size su pu au∨((cS S P A a=S∧cP S P A a=P∧cA S P A a=A)∧su= .slice s1 S.length s2∧pu= .slice p1 P.length p2∧au= .slice a1 A.length a2)):=by
 have HC:=aa hC;have HCW:=aa hC;have HAP:=aa (fun W (h:CfAt W (.slice s1 S.length s2) (.slice p1 P.length p2) (.slice a1 A.length a2) S P A)=>kL _ _ _ S P A a W h (by omega) (by omega) (by omega));clear hC;have HS:Hid (cS S P A a=if du S P A a=0 then apS S P A a else S):=rfl;have HPP:Hid (cP S P A a=if du S P A a=0 then apP S P A a else P):=rfl;have HAA:Hid (cA S P A a=if du S P A a=0 then apA S P A a else A):=rfl;rw [HS.out,HPP.out,HAA.out];clear HS HPP HAA;generalize apS S P A a=S2 at*;generalize apP S P A a=P2 at*;generalize apA S P A a=A2 at*;generalize du S P A a=E at*;obtain⟨W0,hW0⟩:∃W0,W0=(((w.alloc (.cells #[.slice s1 S.length s2,.slice p1 P.length p2,.slice a1 A.length a2] 30)).alloc (.cells #[.int .i64 a.k,.int .i64 a.si,.int .i64 a.st,.int .i64 a.sg,.int .i64 a.pi,.int .i64 a.ps,.int .i64 a.pm,.int .i64 a.pp,.int .i64 a.pc,.int .i64 a.rs,.int .i64 a.rp,.bool a.rn,.int .i64 a.rf,.int .i64 a.rb,.int .i64 a.rt,.int .i64 a.re,.int .i64 a.ro,.bool a.rd,.int .i64 a.n,.int .i64 a.m,.int .i64 a.f0,.int .i64 a.f1,.int .i64 a.f2,.int .i64 a.f3,.int .i64 a.f4,.int .i64 a.f5,.int .i64 a.f6,.string a.body] 44)).alloc (.cells #[.slice none 0 0,.slice none 0 0,.slice none 0 0] 30)):=⟨_,rfl⟩;have kb:Below w.heap.size w W0:=by rw [hW0];exact(((Below.refl _ w).alloc zr _).alloc (by simp) _).alloc (by simp;omega) _
 have HCB:Hid (Box W0 w.heap.size [.slice s1 S.length s2,.slice p1 P.length p2,.slice a1 A.length a2]):=by rw [hW0];have h:=((Box.new w [.slice s1 S.length s2,.slice p1 P.length p2,.slice a1 A.length a2] 30).alloc (.cells #[.int .i64 a.k,.int .i64 a.si,.int .i64 a.st,.int .i64 a.sg,.int .i64 a.pi,.int .i64 a.ps,.int .i64 a.pm,.int .i64 a.pp,.int .i64 a.pc,.int .i64 a.rs,.int .i64 a.rp,.bool a.rn,.int .i64 a.rf,.int .i64 a.rb,.int .i64 a.rt,.int .i64 a.re,.int .i64 a.ro,.bool a.rd,.int .i64 a.n,.int .i64 a.m,.int .i64 a.f0,.int .i64 a.f1,.int .i64 a.f2,.int .i64 a.f3,.int .i64 a.f4,.int .i64 a.f5,.int .i64 a.f6,.string a.body] 44)).alloc (.cells #[.slice none 0 0,.slice none 0 0,.slice none 0 0] 30);simpa using aa h
 have HAB:Hid (Box W0 (w.heap.size+1) [.int .i64 a.k,.int .i64 a.si,.int .i64 a.st,.int .i64 a.sg,.int .i64 a.pi,.int .i64 a.ps,.int .i64 a.pm,.int .i64 a.pp,.int .i64 a.pc,.int .i64 a.rs,.int .i64 a.rp,.bool a.rn,.int .i64 a.rf,.int .i64 a.rb,.int .i64 a.rt,.int .i64 a.re,.int .i64 a.ro,.bool a.rd,.int .i64 a.n,.int .i64 a.m,.int .i64 a.f0,.int .i64 a.f1,.int .i64 a.f2,.int .i64 a.f3,.int .i64 a.f4,.int .i64 a.f5,.int .i64 a.f6,.string a.body]):=by rw [hW0];have h:=(Box.new (w.alloc (.cells #[.slice s1 S.length s2,.slice p1 P.length p2,.slice a1 A.length a2] 30)) [.int .i64 a.k,.int .i64 a.si,.int .i64 a.st,.int .i64 a.sg,.int .i64 a.pi,.int .i64 a.ps,.int .i64 a.pm,.int .i64 a.pp,.int .i64 a.pc,.int .i64 a.rs,.int .i64 a.rp,.bool a.rn,.int .i64 a.rf,.int .i64 a.rb,.int .i64 a.rt,.int .i64 a.re,.int .i64 a.ro,.bool a.rd,.int .i64 a.n,.int .i64 a.m,.int .i64 a.f0,.int .i64 a.f1,.int .i64 a.f2,.int .i64 a.f3,.int .i64 a.f4,.int .i64 a.f5,.int .i64 a.f6,.string a.body] 44).alloc (.cells #[.slice none 0 0,.slice none 0 0,.slice none 0 0] 30);simpa using aa h
 have HRB:Hid (Box W0 (w.heap.size+1+1) [.slice none 0 0,.slice none 0 0,.slice none 0 0]):=by rw [hW0];have h:=Box.new ((w.alloc (.cells #[.slice s1 S.length s2,.slice p1 P.length p2,.slice a1 A.length a2] 30)).alloc (.cells #[.int .i64 a.k,.int .i64 a.si,.int .i64 a.st,.int .i64 a.sg,.int .i64 a.pi,.int .i64 a.ps,.int .i64 a.pm,.int .i64 a.pp,.int .i64 a.pc,.int .i64 a.rs,.int .i64 a.rp,.bool a.rn,.int .i64 a.rf,.int .i64 a.rb,.int .i64 a.rt,.int .i64 a.re,.int .i64 a.ro,.bool a.rd,.int .i64 a.n,.int .i64 a.m,.int .i64 a.f0,.int .i64 a.f1,.int .i64 a.f2,.int .i64 a.f3,.int .i64 a.f4,.int .i64 a.f5,.int .i64 a.f6,.string a.body] 44)) [.slice none 0 0,.slice none 0 0,.slice none 0 0] 30;simpa using aa h
 have HW0:Hid ((((w.alloc (.cells #[.slice s1 S.length s2,.slice p1 P.length p2,.slice a1 A.length a2] 30)).alloc (.cells #[.int .i64 a.k,.int .i64 a.si,.int .i64 a.st,.int .i64 a.sg,.int .i64 a.pi,.int .i64 a.ps,.int .i64 a.pm,.int .i64 a.pp,.int .i64 a.pc,.int .i64 a.rs,.int .i64 a.rp,.bool a.rn,.int .i64 a.rf,.int .i64 a.rb,.int .i64 a.rt,.int .i64 a.re,.int .i64 a.ro,.bool a.rd,.int .i64 a.n,.int .i64 a.m,.int .i64 a.f0,.int .i64 a.f1,.int .i64 a.f2,.int .i64 a.f3,.int .i64 a.f4,.int .i64 a.f5,.int .i64 a.f6,.string a.body] 44)).alloc (.cells #[.slice none 0 0,.slice none 0 0,.slice none 0 0] 30))=W0):=hW0.symm;clear hW0;replace HC:=aa (HC.out.below kb zr);go_enter Tryz.func37,Tryz.ntmps37;go_wp2_with (first | rw [HW0.out] |(refine wpList_load_mid rfl 30 (.tmp 2) rfl w.heap.size 0 rfl _ _ HCB.out.range Tryz.underlying30 rfl aN ?_) |(refine wpList_load_mid rfl 44 (.tmp 3) rfl (w.heap.size+1) 0 rfl _ _ HAB.out.range Tryz.underlying44 rfl bP ?_))
 refine(ag HAP _ HC.out).mono ?_;rintro e w1 ⟨su,pu,au,rfl,hc1,hb1,hh1⟩;have HC1:=aa hc1;have HH:=aa hh1;have sz0:=HRB.out.lt;obtain⟨t1,t2,rfl⟩:=hc1.1.slice;obtain⟨t3,t4,rfl⟩:=hc1.2.1.slice;obtain⟨t5,t6,rfl⟩:=hc1.2.2.slice;clear hc1 hh1;replace HCB:=aa (HCB.out.below hb1);replace HRB:=aa (HRB.out.below hb1);replace HC:=aa (HC.out.below hb1 zr);replace kb:=kb.trans (hb1.mono kb.size);clear hb1 HAP HAB HW0;obtain⟨W2,hW2⟩:∃W2,W2=w1.alloc (.cells #[.slice t1 S2.length t2,.slice t3 P2.length t4,.slice t5 A2.length t6] 30):=⟨_,rfl⟩;have hbN:Below w1.heap.size w1 W2:=by rw [hW2];exact(Below.refl _ _).alloc zr _
 have HNB:Hid (Box W2 w1.heap.size [.slice t1 S2.length t2,.slice t3 P2.length t4,.slice t5 A2.length t6]):=by rw [hW2];exact aa (Box.new w1 [.slice t1 S2.length t2,.slice t3 P2.length t4,.slice t5 A2.length t6] 30)
 replace HCB:=aa (HCB.out.below hbN);replace HRB:=aa (HRB.out.below hbN);replace HC:=aa (HC.out.below hbN zr);replace HC1:=aa (HC1.out.below hbN zr);replace kb:=kb.trans (hbN.mono kb.size);have HW2:=aa hW2.symm;clear hbN hW2;by_cases hE:E=0
 ·subst hE;go_wp2_with (first | rw [HW2.out] |(refine wpList_load_mid rfl 30 (.tmp 6) rfl w1.heap.size 0 rfl _ _ HNB.out.range Tryz.underlying30 rfl aN ?_) |(refine wpList_store_mid rfl 30 (.tmp 4) (.tmp 18) rfl (w.heap.size+1+1) 0 _ rfl rfl (HRB.out.fit 3 rfl) aN (cC rfl) ?_))
  refine bodyPost_ret (v:=.tuple #[.agg #[.slice t1 S2.length t2,.slice t3 P2.length t4,.slice t5 A2.length t6],.int .i64 0]) ?_ rfl ⟨_,_,_,rfl,?_,ap _ (by omega) _ _ kb,.inl (HH.out.mono (by omega))⟩
  ·exact cZ (cs:=[.slice t1 S2.length t2,.slice t3 P2.length t4,.slice t5 A2.length t6]) Tryz.results37 rfl (HRB.out.set ([.slice t1 S2.length t2,.slice t3 P2.length t4,.slice t5 A2.length t6]:List Value) rfl).range Tryz.underlying30 rfl aN
  ·exact xR HC1.out _ _ (.inr fun g hg=>by have:=HH.out.1 g hg;omega) (.inr fun g hg=>by have:=HH.out.2.1 g hg;omega) (.inr fun g hg=>by have:=HH.out.2.2 g hg;omega)
 ·have hEb:(E != 0)=true:=(by simpa using hE);go_wp2_with (first | rw [HW2.out] |(refine wpList_load_mid rfl 30 (.tmp 2) rfl w.heap.size 0 rfl _ _ HCB.out.range Tryz.underlying30 rfl aN ?_) |(refine wpList_store_mid rfl 30 (.tmp 4) (.tmp 16) rfl (w.heap.size+1+1) 0 _ rfl rfl (HRB.out.fit 3 rfl) aN (cC rfl) ?_))
  refine bodyPost_ret (v:=.tuple #[.agg #[.slice s1 S.length s2,.slice p1 P.length p2,.slice a1 A.length a2],.int .i64 E]) ?_ rfl ⟨_,_,_,rfl,?_,ap _ (by omega) _ _ kb,.inr (by simp)⟩
  ·exact cZ (cs:=[.slice s1 S.length s2,.slice p1 P.length p2,.slice a1 A.length a2]) Tryz.results37 rfl (HRB.out.set ([.slice s1 S.length s2,.slice p1 P.length p2,.slice a1 A.length a2]:List Value) rfl).range Tryz.underlying30 rfl aN
  ·exact xR HC.out _ _ ((tE (C:=swC) (fun _=>by simp [swC]) HCW.out.1).imp id fun h g hg=>by have:=h g hg;omega) ((tE (C:=prC) (fun _=>by simp [prC]) HCW.out.2.1).imp id fun h g hg=>by have:=h g hg;omega) ((tE (C:=acC) (fun _=>by simp [acC]) HCW.out.2.2).imp id fun h g hg=>by have:=h g hg;omega)
structure Rp where
 c:Int
 l:List Ar
 body:ByteArray
structure Rv where
 r:Rp
 v:Value
def rvC (x:Rv):List Value:=[.int .i64 x.r.c,x.v]
def Bj (w:World) (B:Nat) (u:Value) (x:Rv):Prop:=w.ownsRow B 49 9 x.v x.r.l.length (AR x.r.body x.r.l)∧∀g,x.v.ownBlock=some g→u.ownBlock≠some g
def RR (w:World) (B:Nat) (u:Value) (rs:List Rp):Prop:=∃lo:List Rv,lo.map Rv.r=rs∧w.ownsRow B 47 2 u lo.length (lo.flatMap rvC)∧∀x∈lo,Bj w B u x
theorem RR.below {w w':World} {B:Nat} {u:Value} {rs:List Rp} (h:RR w B u rs) (hb:Below w.heap.size w w'):RR w' B u rs:=by
 obtain⟨lo,e,ho,hx⟩:=h;exact⟨lo,e,ar ho hb,fun x hx'=>⟨ar (hx x hx').1 hb,(hx x hx').2⟩⟩
theorem RR.nil (w:World) (B:Nat):RR w B (.slice none 0 0) []:=⟨[],rfl,World.ownsRow_nil _ _ _ _,fun x hx=>by cases hx⟩
theorem RR.less {w:World} {B B':Nat} {u:Value} {rs:List Rp} (h:RR w B u rs) (hB:B'≤B):RR w B' u rs:=by
 obtain⟨lo,e,ho,hx⟩:=h;exact⟨lo,e,aH ho hB,fun x hx'=>⟨aH (hx x hx').1 hB,(hx x hx').2⟩⟩
theorem RR.slc {w:World} {B:Nat} {u:Value} {rs:List Rp} (h:RR w B u rs):∃o c,u= .slice o rs.length c:=by
 obtain⟨lo,e,ho,hx⟩:=h;obtain⟨o,c,h⟩:=aw ho;exact⟨o,c,by rw [h, ←e,List.length_map]⟩
theorem BB:(Tryz.prog.info? 47).map (fun i=>(i.zero,i.size,i.bytes))=some (some (.agg #[.int .i64 0,.slice none 0 0]),2,32):=by kernel_rfl
theorem ez {ops:Array Oper} {rest:List Oper} {o:Oper} {a:Act} {Q:Exit→Act→World→Prop} {w:World} (hgd:o.guard=none) (s x:Operand)
  (ho:o.op= .call {callee:=.builtin .append,args:= #[s,x],argTypes:= #[25,25]}) (B:Nat) (v:Value) (rs:List Rp) (hs:a.eval s=v) (hR:RR w B v rs) (g:Nat) (r:Rp) (cv:Value)
  (hx:a.eval x= .slice (some ⟨g,0,none⟩) 1 1) (hnews:w.rangeAt g 0 [.int .i64 r.c,cv]) (hone:cv.oneCell'=true) (hcv:w.ownsRow B 49 9 cv r.l.length (AR r.body r.l)) (hne:∀g,cv.ownBlock=some g→v.ownBlock≠some g) (hlen:rs.length+1≤1000000) (hB:B≤w.heap.size)
  (h:∀v' w',RR w' B v' (rs++ [r])→w.grownBy w' v.ownBlock→(v'.ownBlock=v.ownBlock∨v'.ownBlock=some w.heap.size)→wpList Tryz.prog ops Q rest (a.put o.dst v') w'):wpList Tryz.prog ops Q (o::rest) a w:=by
 obtain⟨i0,hi,hz0,hz1,hz2⟩:=info_parts BB;obtain⟨lo,e,hown,hlo⟩:=hR;have hlo':lo.length=rs.length:=by rw [←e,List.length_map]
 refine wpList_append_own_at w hgd s x 25 ho B 47 i0 _ 2 32 Tryz.underlying25 hi hz0 hz1 hz2 rfl (by decide) v lo.length _ hs hown ⟨g,0,none⟩ 1 1 [.int .i64 r.c,cv] hx rfl (fun j u hj=>by rw [nX];have:=hnews j u hj;rwa [Nat.zero_add]at this) ?_ ?_ ?_ hB ?_
 ·intro u hu;rcases List.mem_cons.1 hu with rfl | hu
  ·rfl
  ·obtain rfl:u=cv:=(by simpa using hu);exact hone
 ·unfold maxLen;omega
 ·omega
 ·intro v' w' ho' hg' _ hat;have hfar:∀(y:Rv),Bj w B v y→Bj w' B v' y:=fun y hy=>by
   obtain⟨h1,h2⟩:=hy;refine⟨h1.kept hg' ?_,fun g hg=>?_⟩
   ·cases hv:y.v.ownBlock with
    | none=>exact .inl rfl
    | some g=>exact .inr (fun e=>h2 g hv e.symm)
   ·have hlt:=cG h1 hg;rcases hat with e' | e'
    ·rw [e'];exact h2 g hg
    ·rw [e'];intro e2;cases e2;omega
  refine h v' w' ⟨lo++ [⟨r,cv⟩],by simp [e],by simpa [rvC] using ho',fun y hy=>?_⟩ hg' hat;rcases List.mem_append.1 hy with hy | hy
  ·exact hfar y (hlo y hy)
  ·obtain rfl:y=⟨r,cv⟩:=(by simpa using hy);exact hfar _ ⟨hcv,hne⟩
theorem uK {X:Nat→Prop} {M:Nat} {w:World} {sv pv av:Value} {S:List Sw} {P:List Pr} {A:List Ac} (h:CfAt w sv pv av S P A) (hM:Hi3 M sv pv av) (hX:∀k,X k→k<M):Kept X w fun w'=>CfAt w' sv pv av S P A:=fun w' hk=>
 ⟨na h.1 (fun g hg hx=>by have:=hM.1 g hg;have:=hX g hx;omega) w' hk,na h.2.1 (fun g hg hx=>by have:=hM.2.1 g hg;have:=hX g hx;omega) w' hk,na h.2.2 (fun g hg hx=>by have:=hM.2.2 g hg;have:=hX g hx;omega) w' hk⟩
theorem pS {X:Nat→Prop} {B:Nat} {w:World} {u:Value} {rs:List Rp} (h:RR w B u rs) (hX:∀k,X k→k<B∨w.heap.size≤k):Kept X w fun w'=>RR w' B u rs:=fun w' hk=>by
 obtain⟨lo,e,ho,hx⟩:=h;have hno:∀{n:Nat} {e:TypeId} {sz:Nat} {v:Value} {xs:List Value},w.ownsRow B e sz v n xs→∀g,v.ownBlock=some g→¬X g:=fun ho g hg hxg=>by
  have h1:=ay ho g hg;have h2:=cG ho hg;rcases hX g hxg with h | h <;>omega
 exact⟨lo,e,km ho (hno ho) w' hk,fun x hx'=>⟨km (hx x hx').1 (hno (hx x hx').1) w' hk,(hx x hx').2⟩⟩
theorem RR.in {w:World} {B:Nat} {u:Value} {rs:List Rp} (h:RR w B u rs):∀g,u.ownBlock=some g→B≤g∧g<w.heap.size:=fun g hg=>by
 obtain⟨lo,e,ho,hx⟩:=h;exact⟨ay ho g hg,cG ho hg⟩
def axC (a:Ax):List Value:=[.int .i64 a.k,.int .i64 a.si,.int .i64 a.st,.int .i64 a.sg,.int .i64 a.pi,.int .i64 a.ps,.int .i64 a.pm,.int .i64 a.pp,.int .i64 a.pc,.int .i64 a.rs,.int .i64 a.rp,.bool a.rn,.int .i64 a.rf,.int .i64 a.rb,.int .i64 a.rt,.int .i64 a.re,.int .i64 a.ro,.bool a.rd,.int .i64 a.n,.int .i64 a.m,.int .i64 a.f0,.int .i64 a.f1,.int .i64 a.f2,.int .i64 a.f3,.int .i64 a.f4,.int .i64 a.f5,.int .i64 a.f6,.string a.body]
def ax0:Ax:=⟨0,0,0,0,0,0,0,0,0,0,0,false,0,0,0,0,0,false,0,0,0,0,0,0,0,0,0,⟨#[]⟩⟩
theorem Kept.set1 {X:Nat→Prop} {w:World} {F:World→Prop} (h:Kept X w F) {b:Nat} (hb:X b) (j:Nat) (v:Value):Kept X (w.setCell ⟨b,j,none⟩ v) F:=h.set hb j [v]
theorem sQ:(Tryz.prog.info? 47).map (·.size)=some 2:=by kernel_rfl
def XU (w:World) (u:Value) (k:Nat):Prop:=k<w.heap.size+3∨u.ownBlock=some k
def XR (w wr:World) (u:Value) (k:Nat):Prop:=XU w u k∨k=wr.heap.size+1
def XB (w wr:World) (k:Nat):Prop:=k<w.heap.size+3∨k=wr.heap.size+1
theorem Box.grown {w w':World} {b:Nat} {cs:List Value} {row:Option Nat} (h:Box w b cs) (hg:w.grownBy w' row) (hne:row≠some b):Box w' b cs:=by
 have hblk:w'.heap[b]? =w.heap[b]?:=hg.block b h.1.1 (fun e=>hne e.symm);refine⟨⟨Nat.lt_of_lt_of_le h.1.1 hg.size,fun j v hj=>?_⟩,fun j hj=>?_⟩
 ·rw [dF hblk];exact h.1.2 j v hj
 ·have:=h.2 j hj;unfold World.frozen? at this⊢;simp only [hblk];exact this
def RunAt (I:Nat→List Sw→List Pr→List Ac→(Nat→List Fl)→List Rp→Prop) (w wr:World) (k:Nat) (u:Value):Prop:=
 ∃(S:List Sw) (P:List Pr) (A:List Ac) (K:Nat→List Fl) (rs:List Rp) (sv pv av:Value) (ks:List Value),(I k S P A K rs∧rs.length=k)∧RR wr (w.heap.size+3) u rs∧Kept (XU w u) wr (fun W=>CfAt W sv pv av S P A)∧Kept (XU w u) wr (fun W=>KAt W ks K)∧
  (Box wr w.heap.size [.slice none 0 0,.slice none 0 0,.slice none 0 0]∧Box wr (w.heap.size+1) [sv,pv,av]∧Box wr (w.heap.size+2) ks)∧Below w.heap.size w wr
theorem RunAt.next {I:Nat→List Sw→List Pr→List Ac→(Nat→List Fl)→List Rp→Prop} {w wr w7 w8:World} {k:Nat} {u v:Value} {S:List Sw} {P:List Pr} {A:List Ac} {K:Nat→List Fl} {rs:List Rp} {r:Rp} {sv pv av:Value} {ks:List Value} (hI:I (k+1) S P A K (rs++ [r])) (hl:rs.length=k)
  (hR:RR w8 (w.heap.size+3) v (rs++ [r])) (hg:w7.grownBy w8 u.ownBlock) (ha:v.ownBlock=u.ownBlock∨v.ownBlock=some w7.heap.size) (hu:∀g,u.ownBlock=some g→w.heap.size+3≤g) (hC:Kept (XR w wr u) w7 fun W=>CfAt W sv pv av S P A) (hK:Kept (XR w wr u) w7 fun W=>KAt W ks K)
  (h0:Box w7 w.heap.size [.slice none 0 0,.slice none 0 0,.slice none 0 0]) (h1:Box w7 (w.heap.size+1) [sv,pv,av]) (h2:Box w7 (w.heap.size+2) ks) (hb:Below w.heap.size w w7):RunAt I w w8 (k+1) v:=by
 have hX:∀k,XU w v k→XR w wr u k∨w7.heap.size≤k:=fun k hk=>by
  rcases hk with hk | hk
  ·exact .inl (.inl (.inl hk))
  ·rcases ha with e | e
   ·exact .inl (.inl (.inr (e ▸ hk)))
   ·rw [e]at hk;cases hk;exact .inr zr
 have hne:∀b,b<w.heap.size+3→u.ownBlock≠some b:=fun b hb e=>by have:=hu b e;omega
 exact⟨S,P,A,K,rs++ [r],sv,pv,av,ks,⟨hI,by simp [hl]⟩,hR,hC.grown hg (fun g e=>.inl (.inr e)) hX,hK.grown hg (fun g e=>.inl (.inr e)) hX,⟨h0.grown hg (hne _ (by omega)),h1.grown hg (hne _ (by omega)),h2.grown hg (hne _ (by omega))⟩,hb.grown hg hb.size (fun g e=>by have:=hu g e;omega)⟩
def Bd (I:Nat→List Sw→List Pr→List Ac→(Nat→List Fl)→List Rp→Prop) (k:Nat) (x:Ax):Prop:=∀(S:List Sw) (P:List Pr) (A:List Ac) (K:Nat→List Fl) (rs:List Rp),I k S P A K rs→∀(X:Nat→Prop) (W:World) (ks:List Value) (s1 p1 a1:Option Addr) (s2 p2 a2:Nat),(∀k,X k→k<W.heap.size)→Kept X W (fun W=>KAt W ks K)→CfAt W (.slice s1 S.length s2) (.slice p1 P.length p2) (.slice a1 A.length a2) S P A→
 Calls Tryz.prog 32 #[.agg ks.toArray,.agg #[.slice s1 S.length s2,.slice p1 P.length p2,.slice a1 A.length a2],.int .i64 x.n] W fun e w'=>∃(ks':List Value) (E:Int),e= .returned (.tuple #[.agg ks'.toArray,.int .i64 E])∧∃K',Kept X w' (fun W=>KAt W ks' K')∧I (k+1) S P A K' (rs++ [⟨E,[],⟨#[]⟩⟩])∧Below W.heap.size W w'
def Bi (I:Nat→List Sw→List Pr→List Ac→(Nat→List Fl)→List Rp→Prop) (k:Nat) (x:Ax):Prop:=∀(S:List Sw) (P:List Pr) (A:List Ac) (K:Nat→List Fl) (rs:List Rp),I k S P A K rs→x.body.size≤maxLen∧(lM K P x.n x.f0 x.f1 x.f2 x.f3 x.f4 x.f5 x.f6 x.body.size=0→l7 (jt K P x.n x.f0 x.f1 x.f2 x.f3 x.f4 x.f5 x.f6 x.body.size))∧∀l',l'.Perm (jt K P x.n x.f0 x.f1 x.f2 x.f3 x.f4 x.f5 x.f6 x.body.size)→iJ l'→I (k+1) S P A K (rs++ [⟨lM K P x.n x.f0 x.f1 x.f2 x.f3 x.f4 x.f5 x.f6 x.body.size,l',x.body⟩])
def Bl (I:Nat→List Sw→List Pr→List Ac→(Nat→List Fl)→List Rp→Prop) (k:Nat) (x:Ax):Prop:=∀(S:List Sw) (P:List Pr) (A:List Ac) (K:Nat→List Fl) (rs:List Rp),I k S P A K rs→I (k+1) (cS S P A x) (cP S P A x) (cA S P A x) K (rs++ [⟨du S P A x,[],⟨#[]⟩⟩])
def mu (I:Nat→List Sw→List Pr→List Ac→(Nat→List Fl)→List Rp→Prop) (n:Nat) (w:World) (e:Ending) (w':World):Prop:=∃(u su pu au:Value),e= .returned (.tuple #[u,.agg #[su,pu,au],.int .i64 0])∧∃(S:List Sw) (P:List Pr) (A:List Ac) (K:Nat→List Fl) (rs:List Rp),(I n S P A K rs∧rs.length=n)∧RR w' w.heap.size u rs∧Kept (fun k=>k<w.heap.size) w' (fun W=>CfAt W su pu au S P A)∧Below w.heap.size w w'
theorem zZ (l:List Ax) (lv:Value) (w:World) (hL:RowAt axC 28 w lv l) (hlen:l.length≤300) (I:Nat→List Sw→List Pr→List Ac→(Nat→List Fl)→List Rp→Prop) (h0:I 0 [] [] [] (fun _=>[]) [])
  (hsm:∀k S P A K rs,I k S P A K rs→(S.length≤1000∧P.length≤1000∧A.length≤1000)∧∀p∈P,p.c= -1∨0≤p.c∧p.c≤5)
  (h7:∀k,k<l.length→(l.getD k ax0).k=7→Bd I k (l.getD k ax0)) (h8:∀k,k<l.length→(l.getD k ax0).k=8→Bi I k (l.getD k ax0)) (h9:∀k,k<l.length→(l.getD k ax0).k≠7→(l.getD k ax0).k≠8→Bl I k (l.getD k ax0)):
  Calls Tryz.prog 21 #[lv] w (mu I l.length w):=by
 have HLL:=aa hL;obtain⟨la,lc,rfl⟩:=hL.slice;clear hL;have HSM:=aa hsm;have H7:=aa h7;have H8:=aa h8;have H9:=aa h9;have H0:=aa h0;clear hsm h7 h8 h9 h0;obtain⟨W0,hW0⟩:∃W0,W0=((w.alloc (.cells #[.slice none 0 0,.slice none 0 0,.slice none 0 0] 30)).alloc (.cells #[.slice none 0 0,.slice none 0 0,.slice none 0 0] 30)).alloc (.cells #[.slice none 0 0,.slice none 0 0,.slice none 0 0,.slice none 0 0,.slice none 0 0,.slice none 0 0] 85):=⟨_,rfl⟩;have kb:Below w.heap.size w W0:=by rw [hW0];exact(((Below.refl _ w).alloc zr _).alloc (by simp) _).alloc (by simp;omega) _
 have B0:Box W0 w.heap.size [.slice none 0 0,.slice none 0 0,.slice none 0 0]:=by rw [hW0];exact((Box.new w [.slice none 0 0,.slice none 0 0,.slice none 0 0] 30).alloc _).alloc _
 have B1:Box W0 (w.heap.size+1) [.slice none 0 0,.slice none 0 0,.slice none 0 0]:=by rw [hW0];have h:=(Box.new (w.alloc (.cells #[.slice none 0 0,.slice none 0 0,.slice none 0 0] 30)) [.slice none 0 0,.slice none 0 0,.slice none 0 0] 30).alloc (.cells #[.slice none 0 0,.slice none 0 0,.slice none 0 0,.slice none 0 0,.slice none 0 0,.slice none 0 0] 85);simpa using h
 have B2:Box W0 (w.heap.size+2) [.slice none 0 0,.slice none 0 0,.slice none 0 0,.slice none 0 0,.slice none 0 0,.slice none 0 0]:=by rw [hW0];have h:=Box.new ((w.alloc (.cells #[.slice none 0 0,.slice none 0 0,.slice none 0 0] 30)).alloc (.cells #[.slice none 0 0,.slice none 0 0,.slice none 0 0] 30)) [.slice none 0 0,.slice none 0 0,.slice none 0 0,.slice none 0 0,.slice none 0 0,.slice none 0 0] 85;simpa using h
 have HST:Hid (RunAt I w W0 0 (.slice none 0 0)):=aa ⟨[],[],[],fun _=>[],[],.slice none 0 0,.slice none 0 0,.slice none 0 0,[.slice none 0 0,.slice none 0 0,.slice none 0 0,.slice none 0 0,.slice none 0 0,.slice none 0 0],⟨H0.out,rfl⟩,RR.nil _ _,fun w' _=>⟨⟨none,0,rfl,fun _=>rfl,.inl rfl⟩,⟨none,0,rfl,fun _=>rfl,.inl rfl⟩,⟨none,0,rfl,fun _=>rfl,.inl rfl⟩⟩,fun w' _=>⟨rfl,fun i hi v hv=>⟨by
   have:v= .slice none 0 0:=by
    have h6:i=0∨i=1∨i=2∨i=3∨i=4∨i=5:=(by omega);rcases h6 with rfl | rfl | rfl | rfl | rfl | rfl <;>simpa using hv.symm
   rw [this];exact⟨none,0,rfl,fun _=>rfl,.inl rfl⟩,by simp⟩⟩,⟨B0,B1,B2⟩,kb⟩
 have HW0:Hid (((w.alloc (.cells #[.slice none 0 0,.slice none 0 0,.slice none 0 0] 30)).alloc (.cells #[.slice none 0 0,.slice none 0 0,.slice none 0 0] 30)).alloc (.cells #[.slice none 0 0,.slice none 0 0,.slice none 0 0,.slice none 0 0,.slice none 0 0,.slice none 0 0] 85)=W0):=hW0.symm;clear hW0 B0 B1 B2 H0 kb;have q300:¬((300:Int)<(l.length:Int)):=by omega
 go_enter Tryz.func21,Tryz.ntmps21;go_wp2_with fail
 rw [HW0.out];clear HW0;go_loopw [7,17] (fun u i wr=>∃k:Nat,k≤l.length∧i= .int .i64 k∧RunAt I w wr k u) (fun _ i _=>l.length-(intOf i).toNat)
 case atStart=>exact⟨0,by omega,rfl,HST.out⟩
 case round=>
  clear HST;obtain⟨k,hk,rfl,HRA⟩:=hrel;obtain⟨S,P,A,K,rs,sv,pv,av,ks,⟨hI,hrl⟩,hRR,hCF,hKA,⟨hb0,hb1,hb2⟩,hbr⟩:=HRA;have HI:=aa hI;have HRL:=aa hrl;have HR0:=aa hRR;have HCF:=aa hCF;have HKA:=aa hKA;have HB0:=aa hb0;have HB1:=aa hb1;have HB2:=aa hb2;clear hI hrl hRR hCF hKA hb0 hb1 hb2;obtain⟨⟨n1,n2,n3⟩,hpc⟩:=HSM.out _ _ _ _ _ _ HI.out;have HPC:=aa hpc;clear hpc;obtain⟨s1,s2,rfl⟩:=HCF.out.here.1.slice;obtain⟨p1,p2,rfl⟩:=HCF.out.here.2.1.slice;obtain⟨a1,a2,rfl⟩:=HCF.out.here.2.2.slice;obtain⟨j0,j1,j2,j3,j4,j5,rfl⟩:=six HKA.out.here.1;obtain⟨ro,rc,hru⟩:=HR0.out.slc;subst hru;have HUI:=aa HR0.out.in;have sr:w.heap.size+3≤wr.heap.size:=HB2.out.lt;by_cases hlt:k<l.length
  ·have H7k:=aa (H7.out k hlt);have H8k:=aa (H8.out k hlt);have H9k:=aa (H9.out k hlt);obtain⟨ab,off,cap,e1,hcap,hR0⟩:=cI ax0 (RowAt.below HLL.out hbr zr) hlt;have R0:=aa hR0;clear hR0;simp only [Value.slice.injEq,true_and]at e1;obtain⟨rfl,rfl⟩:=e1;generalize l.getD k ax0=x at*;have HXC:Hid (axC x= [.int .i64 x.k,.int .i64 x.si,.int .i64 x.st,.int .i64 x.sg,.int .i64 x.pi,.int .i64 x.ps,.int .i64 x.pm,.int .i64 x.pp,.int .i64 x.pc,.int .i64 x.rs,.int .i64 x.rp,.bool x.rn,.int .i64 x.rf,.int .i64 x.rb,.int .i64 x.rt,.int .i64 x.re,.int .i64 x.ro,.bool x.rd,.int .i64 x.n,.int .i64 x.m,.int .i64 x.f0,.int .i64 x.f1,.int .i64 x.f2,.int .i64 x.f3,.int .i64 x.f4,.int .i64 x.f5,.int .i64 x.f6,.string x.body]):=rfl;rw [HXC.out]at R0;have q0:(0:Int)≤(k:Int):=(by omega);have q1:(k:Int)<(l.length:Int):=(by omega);obtain⟨WZ,hWZ⟩:∃WZ,WZ=wr.alloc (.cells #[.int .i64 0,.int .i64 0,.int .i64 0,.int .i64 0,.int .i64 0,.int .i64 0,.int .i64 0,.int .i64 0,.int .i64 0,.int .i64 0,.int .i64 0,.bool false,.int .i64 0,.int .i64 0,.int .i64 0,.int .i64 0,.int .i64 0,.bool false,.int .i64 0,.int .i64 0,.int .i64 0,.int .i64 0,.int .i64 0,.int .i64 0,.int .i64 0,.int .i64 0,.int .i64 0,.string ⟨#[]⟩] 44):=⟨_,rfl⟩;have hZ:Box WZ wr.heap.size [.int .i64 0,.int .i64 0,.int .i64 0,.int .i64 0,.int .i64 0,.int .i64 0,.int .i64 0,.int .i64 0,.int .i64 0,.int .i64 0,.int .i64 0,.bool false,.int .i64 0,.int .i64 0,.int .i64 0,.int .i64 0,.int .i64 0,.bool false,.int .i64 0,.int .i64 0,.int .i64 0,.int .i64 0,.int .i64 0,.int .i64 0,.int .i64 0,.int .i64 0,.int .i64 0,.string ⟨#[]⟩]:=by rw [hWZ];exact Box.new wr [.int .i64 0,.int .i64 0,.int .i64 0,.int .i64 0,.int .i64 0,.int .i64 0,.int .i64 0,.int .i64 0,.int .i64 0,.int .i64 0,.int .i64 0,.bool false,.int .i64 0,.int .i64 0,.int .i64 0,.int .i64 0,.int .i64 0,.bool false,.int .i64 0,.int .i64 0,.int .i64 0,.int .i64 0,.int .i64 0,.int .i64 0,.int .i64 0,.int .i64 0,.int .i64 0,.string ⟨#[]⟩] 44
   have TZ:=aa (hZ.fit 28 rfl);obtain⟨WA,hWA⟩:∃WA,WA=WZ.setCells wr.heap.size 0 [.int .i64 x.k,.int .i64 x.si,.int .i64 x.st,.int .i64 x.sg,.int .i64 x.pi,.int .i64 x.ps,.int .i64 x.pm,.int .i64 x.pp,.int .i64 x.pc,.int .i64 x.rs,.int .i64 x.rp,.bool x.rn,.int .i64 x.rf,.int .i64 x.rb,.int .i64 x.rt,.int .i64 x.re,.int .i64 x.ro,.bool x.rd,.int .i64 x.n,.int .i64 x.m,.int .i64 x.f0,.int .i64 x.f1,.int .i64 x.f2,.int .i64 x.f3,.int .i64 x.f4,.int .i64 x.f5,.int .i64 x.f6,.string x.body]:=⟨_,rfl⟩;have hA:Box WA wr.heap.size [.int .i64 x.k,.int .i64 x.si,.int .i64 x.st,.int .i64 x.sg,.int .i64 x.pi,.int .i64 x.ps,.int .i64 x.pm,.int .i64 x.pp,.int .i64 x.pc,.int .i64 x.rs,.int .i64 x.rp,.bool x.rn,.int .i64 x.rf,.int .i64 x.rb,.int .i64 x.rt,.int .i64 x.re,.int .i64 x.ro,.bool x.rd,.int .i64 x.n,.int .i64 x.m,.int .i64 x.f0,.int .i64 x.f1,.int .i64 x.f2,.int .i64 x.f3,.int .i64 x.f4,.int .i64 x.f5,.int .i64 x.f6,.string x.body]:=by rw [hWA];exact hZ.set ([.int .i64 x.k,.int .i64 x.si,.int .i64 x.st,.int .i64 x.sg,.int .i64 x.pi,.int .i64 x.ps,.int .i64 x.pm,.int .i64 x.pp,.int .i64 x.pc,.int .i64 x.rs,.int .i64 x.rp,.bool x.rn,.int .i64 x.rf,.int .i64 x.rb,.int .i64 x.rt,.int .i64 x.re,.int .i64 x.ro,.bool x.rd,.int .i64 x.n,.int .i64 x.m,.int .i64 x.f0,.int .i64 x.f1,.int .i64 x.f2,.int .i64 x.f3,.int .i64 x.f4,.int .i64 x.f5,.int .i64 x.f6,.string x.body]:List Value) rfl
   have hsA:WA.heap.size=wr.heap.size+1:=by rw [hWA,ca,hWZ];simp
   obtain⟨W1,hW1⟩:∃W1,W1=WA.alloc (.cells #[.int .i64 0,.slice none 0 0] 47):=⟨_,rfl⟩;have hbN:Below wr.heap.size wr W1:=by rw [hW1,hWA,hWZ];exact(ap _ zr _ _ ((Below.refl _ _).alloc zr _)).alloc (by rw [ca];simp) _
   have HAB:Hid (Box W1 wr.heap.size [.int .i64 x.k,.int .i64 x.si,.int .i64 x.st,.int .i64 x.sg,.int .i64 x.pi,.int .i64 x.ps,.int .i64 x.pm,.int .i64 x.pp,.int .i64 x.pc,.int .i64 x.rs,.int .i64 x.rp,.bool x.rn,.int .i64 x.rf,.int .i64 x.rb,.int .i64 x.rt,.int .i64 x.re,.int .i64 x.ro,.bool x.rd,.int .i64 x.n,.int .i64 x.m,.int .i64 x.f0,.int .i64 x.f1,.int .i64 x.f2,.int .i64 x.f3,.int .i64 x.f4,.int .i64 x.f5,.int .i64 x.f6,.string x.body]):=by rw [hW1];exact aa (hA.alloc _)
   have HPB:Hid (Box W1 (wr.heap.size+1) [.int .i64 0,.slice none 0 0]):=by rw [hW1, ←hsA];exact aa (Box.new WA [.int .i64 0,.slice none 0 0] 47)
   have HWZ:Hid (wr.alloc (.cells #[.int .i64 0,.int .i64 0,.int .i64 0,.int .i64 0,.int .i64 0,.int .i64 0,.int .i64 0,.int .i64 0,.int .i64 0,.int .i64 0,.int .i64 0,.bool false,.int .i64 0,.int .i64 0,.int .i64 0,.int .i64 0,.int .i64 0,.bool false,.int .i64 0,.int .i64 0,.int .i64 0,.int .i64 0,.int .i64 0,.int .i64 0,.int .i64 0,.int .i64 0,.int .i64 0,.string ⟨#[]⟩] 44)=WZ):=hWZ.symm;have HWA:Hid (WZ.setCells wr.heap.size 0 [.int .i64 x.k,.int .i64 x.si,.int .i64 x.st,.int .i64 x.sg,.int .i64 x.pi,.int .i64 x.ps,.int .i64 x.pm,.int .i64 x.pp,.int .i64 x.pc,.int .i64 x.rs,.int .i64 x.rp,.bool x.rn,.int .i64 x.rf,.int .i64 x.rb,.int .i64 x.rt,.int .i64 x.re,.int .i64 x.ro,.bool x.rd,.int .i64 x.n,.int .i64 x.m,.int .i64 x.f0,.int .i64 x.f1,.int .i64 x.f2,.int .i64 x.f3,.int .i64 x.f4,.int .i64 x.f5,.int .i64 x.f6,.string x.body]=WA):=hWA.symm;have HSA:=aa hsA;clear hWZ hZ hWA hA;replace HB0:=aa (HB0.out.below hbN);replace HB1:=aa (HB1.out.below hbN);replace HB2:=aa (HB2.out.below hbN);replace HCF:=aa ((HCF.out.but (X':=XR w wr (.slice ro rs.length rc)) (fun k hk=>by rcases hk with h | h;exact .inl h;exact .inr (by omega))).below hbN);replace HKA:=aa ((HKA.out.but (X':=XR w wr (.slice ro rs.length rc)) (fun k hk=>by rcases hk with h | h;exact .inl h;exact .inr (by omega))).below hbN);have HRR:=aa ((pS (X:=XB w wr) HR0.out (fun k hk=>by rcases hk with h | h;exact .inl h;exact .inr (by omega))).below hbN);have hbw:Below w.heap.size w W1:=hbr.trans (hbN.mono (by omega));have HW1:=aa hW1.symm;have sW1:wr.heap.size+1<W1.heap.size:=HPB.out.lt;have HXL:Hid (∀k,XR w wr (.slice ro rs.length rc) k→k<W1.heap.size):=aa (fun k hk=>by rcases hk with(h | h) | h;omega;(have:=(HUI.out k h).2;omega);omega);clear hbN hW1 hbr HLL HSM H7 H8 H9 HXC HR0 hsA;have ak:=HAB.out.cell 0 _ rfl;have an:=HAB.out.cell 18 _ rfl;by_cases hx7:x.k=7
   ·have HSY:=aa (H7k.out hx7 S P A K rs HI.out);have hk7:(x.k==7)=true:=(by simpa using hx7);clear hx7 H7k H8k H9k;go_wp2_with (first | rw [HWZ.out] | rw [HW1.out] | rw [HSA.out] |(refine wpList_load_mid rfl 44 (.tmp 19) rfl ab (off+k*28) rfl _ _ R0.out Tryz.underlying44 rfl bP ?_) |(refine wpList_store_mid rfl 44 (.tmp 9) (.tmp 20) rfl wr.heap.size 0 _ rfl rfl TZ.out bP (cC rfl) ?_;rw [show(#[.int .i64 x.k,.int .i64 x.si,.int .i64 x.st,.int .i64 x.sg,.int .i64 x.pi,.int .i64 x.ps,.int .i64 x.pm,.int .i64 x.pp,.int .i64 x.pc,.int .i64 x.rs,.int .i64 x.rp,.bool x.rn,.int .i64 x.rf,.int .i64 x.rb,.int .i64 x.rt,.int .i64 x.re,.int .i64 x.ro,.bool x.rd,.int .i64 x.n,.int .i64 x.m,.int .i64 x.f0,.int .i64 x.f1,.int .i64 x.f2,.int .i64 x.f3,.int .i64 x.f4,.int .i64 x.f5,.int .i64 x.f6,.string x.body]:Array Value).toList= [.int .i64 x.k,.int .i64 x.si,.int .i64 x.st,.int .i64 x.sg,.int .i64 x.pi,.int .i64 x.ps,.int .i64 x.pm,.int .i64 x.pp,.int .i64 x.pc,.int .i64 x.rs,.int .i64 x.rp,.bool x.rn,.int .i64 x.rf,.int .i64 x.rb,.int .i64 x.rt,.int .i64 x.re,.int .i64 x.ro,.bool x.rd,.int .i64 x.n,.int .i64 x.m,.int .i64 x.f0,.int .i64 x.f1,.int .i64 x.f2,.int .i64 x.f3,.int .i64 x.f4,.int .i64 x.f5,.int .i64 x.f6,.string x.body]from rfl,HWA.out]) |(refine wpList_load_mid rfl 85 (.tmp 6) rfl (w.heap.size+1+1) 0 rfl _ _ HB2.out.range Tryz.underlying85 rfl gk ?_) |(refine wpList_load_mid rfl 30 (.tmp 5) rfl (w.heap.size+1) 0 rfl _ _ HB1.out.range Tryz.underlying30 rfl aN ?_))
    refine(HSY.out _ _ _ s1 p1 a1 s2 p2 a2 HXL.out HKA.out HCF.out.here).mono ?_;rintro e w2 ⟨ks2,E,rfl,K2,hk2,hI2,hb2⟩;have HK2:=aa hk2;have HI2:=aa hI2;obtain⟨i0,i1,i2,i3,i4,i5,rfl⟩:=six hk2.here.1;replace HB0:=aa (HB0.out.below hb2);replace HB1:=aa (HB1.out.below hb2);replace HB2:=aa (HB2.out.below hb2);replace HPB:=aa (HPB.out.below hb2);replace HRR:=aa (HRR.out.below hb2);replace HCF:=aa (HCF.out.below hb2);replace hbw:=hbw.trans (hb2.mono hbw.size);have s2l:=hb2.size;have HON:=aa (xu hk2.here);clear hk2 hI2 hb2 HKA HAB R0 HW1 HWZ HWA HSA TZ ak an HSY;have HKA:=HK2;clear HK2;obtain⟨W3,hW3⟩:∃W3,W3=w2.setCells (w.heap.size+1+1) 0 [i0,i1,i2,i3,i4,i5]:=⟨_,rfl⟩;obtain⟨W4,hW4⟩:∃W4,W4=W3.setCell ⟨wr.heap.size+1,0,none⟩ (.int .i64 E):=⟨_,rfl⟩;have T2:=aa (HB2.out.fit 6 rfl);have hP3:Box W3 (wr.heap.size+1) [.int .i64 0,.slice none 0 0]:=by rw [hW3];exact HPB.out.set_far (by omega) _ _
    have HPX:Hid (Box W4 (wr.heap.size+1) [.int .i64 E,.slice none 0 0]):=by rw [hW4];exact aa (hP3.set1 0 _ (by simp))
    have c3:=hP3.cell 0 _ rfl;have f3:=hP3.2 0 (by simp);replace HB0:Hid (Box W4 w.heap.size [.slice none 0 0,.slice none 0 0,.slice none 0 0]):=by rw [hW4,hW3];exact aa ((HB0.out.set_far (by omega) _ _).set1_far (by omega) _ _)
    replace HB1:Hid (Box W4 (w.heap.size+1) [.slice s1 S.length s2,.slice p1 P.length p2,.slice a1 A.length a2]):=by rw [hW4,hW3];exact aa ((HB1.out.set_far (by omega) _ _).set1_far (by omega) _ _)
    replace HB2:Hid (Box W4 (w.heap.size+1+1) [i0,i1,i2,i3,i4,i5]):=by rw [hW4,hW3];exact aa ((HB2.out.set ([i0,i1,i2,i3,i4,i5]:List Value) rfl).set1_far (by omega) _ _)
    replace HRR:=aa ((HRR.out.set (b:=(w.heap.size+1+1)) (.inl (by omega)) 0 [i0,i1,i2,i3,i4,i5]).set1 (b:=wr.heap.size+1) (.inr rfl) 0 (.int .i64 E));rw [←hW3, ←hW4]at HRR;replace HCF:=aa ((HCF.out.set (b:=(w.heap.size+1+1)) (.inl (.inl (by omega))) 0 [i0,i1,i2,i3,i4,i5]).set1 (b:=wr.heap.size+1) (.inr rfl) 0 (.int .i64 E));rw [←hW3, ←hW4]at HCF;replace HKA:=aa ((HKA.out.set (b:=(w.heap.size+1+1)) (.inl (.inl (by omega))) 0 [i0,i1,i2,i3,i4,i5]).set1 (b:=wr.heap.size+1) (.inr rfl) 0 (.int .i64 E));rw [←hW3, ←hW4]at HKA;have hbw4:Below w.heap.size w W4:=by rw [hW4,hW3];exact(ap (w.heap.size+1+1) (by omega) _ 0 hbw).setCell (p:=⟨wr.heap.size+1,0,none⟩) (by simp only;omega) _
    clear hbw HPB hP3;obtain⟨W7,hW7⟩:∃W7,W7=W4.alloc (.cells #[.int .i64 E,.slice none 0 0] 47):=⟨_,rfl⟩;have hb7:Below W4.heap.size W4 W7:=by rw [hW7];exact(Below.refl _ _).alloc zr _
    have HN7:Hid (W7.rangeAt W4.heap.size 0 [.int .i64 E,.slice none 0 0]):=by rw [hW7];exact aa (et W4 [.int .i64 E,.slice none 0 0] 47)
    replace HB0:=aa (HB0.out.below hb7);replace HB1:=aa (HB1.out.below hb7);replace HB2:=aa (HB2.out.below hb7);replace HRR:=aa (HRR.out.below hb7);replace HCF:=aa (HCF.out.below hb7);replace HKA:=aa (HKA.out.below hb7);have hbw7:=hbw4.trans (hb7.mono hbw4.size);have s7:w.heap.size+3≤W7.heap.size:=HB2.out.lt;have HW3:Hid (w2.setCells (w.heap.size+1+1) 0 [i0,i1,i2,i3,i4,i5]=W3):=hW3.symm;have HW4:Hid (W3.setCell ⟨wr.heap.size+1,0,none⟩ (.int .i64 E)=W4):=hW4.symm;have HW7:Hid (W4.alloc (.cells #[.int .i64 E,.slice none 0 0] 47)=W7):=hW7.symm;clear hW3 hW4 hW7 hb7 hbw4;go_wp2_with (first | rw [HW7.out] | rw [HW4.out] |(refine wpList_store_mid rfl 85 (.tmp 6) (.tmp 38) rfl (w.heap.size+1+1) 0 _ rfl rfl T2.out gk HON.out ?_;rw [show(#[i0,i1,i2,i3,i4,i5]:Array Value).toList= [i0,i1,i2,i3,i4,i5]from rfl,HW3.out]) |(refine wpList_load_mid rfl 47 (.tmp 10) rfl (wr.heap.size+1) 0 rfl _ _ HPX.out.range Tryz.underlying47 rfl sQ ?_) |(at_builtin;refine ez rfl _ _ rfl (w.heap.size+3) _ rs rfl HRR.out.here W4.heap.size ⟨E,[],⟨#[]⟩⟩ _ rfl HN7.out rfl (World.ownsRow_nil _ _ _ _) (fun g e=>by simp [Value.ownBlock]at e) ?b21 ?b22 ?b23))
    case b21=>rw [HRL.out];omega
    case b22=>exact s7
    intro v8 w8 hr8 hg8 ha8;have HNX:=aa (RunAt.next HI2.out HRL.out hr8 hg8 ha8 (fun g e=>(HUI.out g e).1) HCF.out HKA.out HB0.out HB1.out HB2.out hbw7);clear hr8 hg8 ha8 HRR HCF HKA HB0 HB1 HB2 HN7 HW3 HW4 HW7 HPX;go_wp2_with fail
    go_roundw
    case rel=>exact⟨k+1,by omega,by go_num,HNX.out⟩
    case measure=>simp [intOf];omega
   ·by_cases hx8:x.k=8
    ·obtain⟨hbd,hso,hnx⟩:=H8k.out hx8 S P A K rs HI.out;have HSO:=aa hso;have HNI:=aa hnx;have hk8:(x.k==8)=true:=(by simpa using hx8);have hk7:(x.k==7)=false:=(by simpa using hx7);clear hx7 hx8 hso hnx H7k H8k H9k;have HFX:Hid (W1.rangeAt wr.heap.size 20 [.int .i64 x.f0,.int .i64 x.f1,.int .i64 x.f2,.int .i64 x.f3,.int .i64 x.f4,.int .i64 x.f5,.int .i64 x.f6,.string x.body]):=aa (fun j v hj=>by have:=HAB.out.range (20+j) v (by rw [Nat.add_comm];simpa using hj);simpa using this);go_wp2_with (first | rw [HWZ.out] | rw [HW1.out] | rw [HSA.out] |(refine wpList_load_mid rfl 44 (.tmp 19) rfl ab (off+k*28) rfl _ _ R0.out Tryz.underlying44 rfl bP ?_) |(refine wpList_store_mid rfl 44 (.tmp 9) (.tmp 20) rfl wr.heap.size 0 _ rfl rfl TZ.out bP (cC rfl) ?_;rw [show(#[.int .i64 x.k,.int .i64 x.si,.int .i64 x.st,.int .i64 x.sg,.int .i64 x.pi,.int .i64 x.ps,.int .i64 x.pm,.int .i64 x.pp,.int .i64 x.pc,.int .i64 x.rs,.int .i64 x.rp,.bool x.rn,.int .i64 x.rf,.int .i64 x.rb,.int .i64 x.rt,.int .i64 x.re,.int .i64 x.ro,.bool x.rd,.int .i64 x.n,.int .i64 x.m,.int .i64 x.f0,.int .i64 x.f1,.int .i64 x.f2,.int .i64 x.f3,.int .i64 x.f4,.int .i64 x.f5,.int .i64 x.f6,.string x.body]:Array Value).toList= [.int .i64 x.k,.int .i64 x.si,.int .i64 x.st,.int .i64 x.sg,.int .i64 x.pi,.int .i64 x.ps,.int .i64 x.pm,.int .i64 x.pp,.int .i64 x.pc,.int .i64 x.rs,.int .i64 x.rp,.bool x.rn,.int .i64 x.rf,.int .i64 x.rb,.int .i64 x.rt,.int .i64 x.re,.int .i64 x.ro,.bool x.rd,.int .i64 x.n,.int .i64 x.m,.int .i64 x.f0,.int .i64 x.f1,.int .i64 x.f2,.int .i64 x.f3,.int .i64 x.f4,.int .i64 x.f5,.int .i64 x.f6,.string x.body]from rfl,HWA.out]) |(refine wpList_load_mid rfl 85 (.tmp 6) rfl (w.heap.size+1+1) 0 rfl _ _ HB2.out.range Tryz.underlying85 rfl gk ?_) |(refine wpList_load_mid rfl 30 (.tmp 5) rfl (w.heap.size+1) 0 rfl _ _ HB1.out.range Tryz.underlying30 rfl aN ?_) |(refine wpList_load_mid rfl 42 (.tmp 48) rfl wr.heap.size 20 rfl [.int .i64 x.f0,.int .i64 x.f1,.int .i64 x.f2,.int .i64 x.f3,.int .i64 x.f4,.int .i64 x.f5,.int .i64 x.f6,.string x.body] _ HFX.out Tryz.underlying42 rfl kB ?_))
     refine(qc _ K s1 p1 a1 S.length s2 p2 A.length a2 P x.n x.f0 x.f1 x.f2 x.f3 x.f4 x.f5 x.f6 x.body _ HKA.out.here HCF.out.here.2.1 (by omega) HPC.out hbd HSO.out).mono ?_;rintro e w2 ⟨u2,rfl,l2,⟨hp2,hs2,ho2⟩,hb2⟩;have HIN:=aa (HNI.out l2 hp2 hs2);have HOC:=aa (km (X:=XR w wr (.slice ro rs.length rc)) ho2 (fun g hg hx=>by have:=ay ho2 g hg;have:=HXL.out g hx;omega));have HFA:Hid (∀g,u2.ownBlock=some g→(Value.slice ro rs.length rc).ownBlock≠some g):=aa (fun g hg e=>by have:=ay ho2 g hg;have:=(HUI.out g e).2;omega);obtain⟨o1,o2,rfl⟩:=aw ho2;replace HB0:=aa (HB0.out.below hb2);replace HB1:=aa (HB1.out.below hb2);replace HB2:=aa (HB2.out.below hb2);replace HPB:=aa (HPB.out.below hb2);replace HRR:=aa (HRR.out.below hb2);replace HCF:=aa (HCF.out.below hb2);replace HKA:=aa (HKA.out.below hb2);replace hbw:=hbw.trans (hb2.mono hbw.size);have s2l:=hb2.size;clear hp2 hs2 ho2 hb2 HAB R0 HW1 HWZ HWA HSA TZ ak an HFX HNI HSO;generalize lM K P x.n x.f0 x.f1 x.f2 x.f3 x.f4 x.f5 x.f6 x.body.size=E at*;obtain⟨W3,hW3⟩:∃W3,W3=w2.setCell ⟨wr.heap.size+1,1,none⟩ (.slice o1 l2.length o2):=⟨_,rfl⟩;obtain⟨W4,hW4⟩:∃W4,W4=W3.setCell ⟨wr.heap.size+1,0,none⟩ (.int .i64 E):=⟨_,rfl⟩;have c2:=HPB.out.cell 1 _ rfl;have f2:=HPB.out.2 1 (by simp);have hP3:Box W3 (wr.heap.size+1) [.int .i64 0,.slice o1 l2.length o2]:=by rw [hW3];exact HPB.out.set1 1 _ (by simp)
     have HPX:Hid (Box W4 (wr.heap.size+1) [.int .i64 E,.slice o1 l2.length o2]):=by rw [hW4];exact aa (hP3.set1 0 _ (by simp))
     have c3:=hP3.cell 0 _ rfl;have f3:=hP3.2 0 (by simp);replace HB0:Hid (Box W4 w.heap.size [.slice none 0 0,.slice none 0 0,.slice none 0 0]):=by rw [hW4,hW3];exact aa ((HB0.out.set1_far (by omega) _ _).set1_far (by omega) _ _)
     replace HB1:Hid (Box W4 (w.heap.size+1) [.slice s1 S.length s2,.slice p1 P.length p2,.slice a1 A.length a2]):=by rw [hW4,hW3];exact aa ((HB1.out.set1_far (by omega) _ _).set1_far (by omega) _ _)
     replace HB2:Hid (Box W4 (w.heap.size+1+1) [j0,j1,j2,j3,j4,j5]):=by rw [hW4,hW3];exact aa ((HB2.out.set1_far (by omega) _ _).set1_far (by omega) _ _)
     replace HRR:=aa ((HRR.out.set1 (b:=wr.heap.size+1) (.inr rfl) 1 (.slice o1 l2.length o2)).set1 (b:=wr.heap.size+1) (.inr rfl) 0 (.int .i64 E));rw [←hW3, ←hW4]at HRR;replace HCF:=aa ((HCF.out.set1 (b:=wr.heap.size+1) (.inr rfl) 1 (.slice o1 l2.length o2)).set1 (b:=wr.heap.size+1) (.inr rfl) 0 (.int .i64 E));rw [←hW3, ←hW4]at HCF;replace HKA:=aa ((HKA.out.set1 (b:=wr.heap.size+1) (.inr rfl) 1 (.slice o1 l2.length o2)).set1 (b:=wr.heap.size+1) (.inr rfl) 0 (.int .i64 E));rw [←hW3, ←hW4]at HKA;replace HOC:=aa ((HOC.out.set1 (b:=wr.heap.size+1) (.inr rfl) 1 (.slice o1 l2.length o2)).set1 (b:=wr.heap.size+1) (.inr rfl) 0 (.int .i64 E));rw [←hW3, ←hW4]at HOC;have hbw4:Below w.heap.size w W4:=by rw [hW4,hW3];exact(hbw.setCell (p:=⟨wr.heap.size+1,1,none⟩) (by simp only;omega) _).setCell (p:=⟨wr.heap.size+1,0,none⟩) (by simp only;omega) _
     clear hbw HPB hP3;obtain⟨W7,hW7⟩:∃W7,W7=W4.alloc (.cells #[.int .i64 E,.slice o1 l2.length o2] 47):=⟨_,rfl⟩;have hb7:Below W4.heap.size W4 W7:=by rw [hW7];exact(Below.refl _ _).alloc zr _
     have HN7:Hid (W7.rangeAt W4.heap.size 0 [.int .i64 E,.slice o1 l2.length o2]):=by rw [hW7];exact aa (et W4 [.int .i64 E,.slice o1 l2.length o2] 47)
     replace HB0:=aa (HB0.out.below hb7);replace HB1:=aa (HB1.out.below hb7);replace HB2:=aa (HB2.out.below hb7);replace HRR:=aa (HRR.out.below hb7);replace HCF:=aa (HCF.out.below hb7);replace HKA:=aa (HKA.out.below hb7);replace HOC:=aa (HOC.out.below hb7);have hbw7:=hbw4.trans (hb7.mono hbw4.size);have s7:w.heap.size+3≤W7.heap.size:=HB2.out.lt;have HW3:Hid (w2.setCell ⟨wr.heap.size+1,1,none⟩ (.slice o1 l2.length o2)=W3):=hW3.symm;have HW4:Hid (W3.setCell ⟨wr.heap.size+1,0,none⟩ (.int .i64 E)=W4):=hW4.symm;have HW7:Hid (W4.alloc (.cells #[.int .i64 E,.slice o1 l2.length o2] 47)=W7):=hW7.symm;clear hW3 hW4 hW7 hb7 hbw4;have HOW:=aa (aH (B':=w.heap.size+3) HOC.out.here (by omega));go_wp2_with (first | rw [HW7.out] | rw [HW4.out] | rw [HW3.out] |(refine wpList_load_mid rfl 47 (.tmp 10) rfl (wr.heap.size+1) 0 rfl _ _ HPX.out.range Tryz.underlying47 rfl sQ ?_) |(at_builtin;refine ez rfl _ _ rfl (w.heap.size+3) _ rs rfl HRR.out.here W4.heap.size ⟨E,l2,x.body⟩ _ rfl HN7.out rfl HOW.out HFA.out ?b31 ?b32 ?b33))
     case b31=>rw [HRL.out];omega
     case b32=>exact s7
     intro v8 w8 hr8 hg8 ha8;have HNX:=aa (RunAt.next HIN.out HRL.out hr8 hg8 ha8 (fun g e=>(HUI.out g e).1) HCF.out HKA.out HB0.out HB1.out HB2.out hbw7);clear hr8 hg8 ha8 HRR HCF HKA HB0 HB1 HB2 HN7 HW3 HW4 HW7 HPX;go_wp2_with fail
     go_roundw
     case rel=>exact⟨k+1,by omega,by go_num,HNX.out⟩
     case measure=>simp [intOf];omega
    ·have HEK:=aa (H9k.out hx7 hx8 S P A K rs HI.out);have hk7:(x.k==7)=false:=(by simpa using hx7);have hk8:(x.k==8)=false:=(by simpa using hx8);clear hx7 hx8 H7k H8k H9k;go_wp2_with (first | rw [HWZ.out] | rw [HW1.out] | rw [HSA.out] |(refine wpList_load_mid rfl 44 (.tmp 19) rfl ab (off+k*28) rfl _ _ R0.out Tryz.underlying44 rfl bP ?_) |(refine wpList_store_mid rfl 44 (.tmp 9) (.tmp 20) rfl wr.heap.size 0 _ rfl rfl TZ.out bP (cC rfl) ?_;rw [show(#[.int .i64 x.k,.int .i64 x.si,.int .i64 x.st,.int .i64 x.sg,.int .i64 x.pi,.int .i64 x.ps,.int .i64 x.pm,.int .i64 x.pp,.int .i64 x.pc,.int .i64 x.rs,.int .i64 x.rp,.bool x.rn,.int .i64 x.rf,.int .i64 x.rb,.int .i64 x.rt,.int .i64 x.re,.int .i64 x.ro,.bool x.rd,.int .i64 x.n,.int .i64 x.m,.int .i64 x.f0,.int .i64 x.f1,.int .i64 x.f2,.int .i64 x.f3,.int .i64 x.f4,.int .i64 x.f5,.int .i64 x.f6,.string x.body]:Array Value).toList= [.int .i64 x.k,.int .i64 x.si,.int .i64 x.st,.int .i64 x.sg,.int .i64 x.pi,.int .i64 x.ps,.int .i64 x.pm,.int .i64 x.pp,.int .i64 x.pc,.int .i64 x.rs,.int .i64 x.rp,.bool x.rn,.int .i64 x.rf,.int .i64 x.rb,.int .i64 x.rt,.int .i64 x.re,.int .i64 x.ro,.bool x.rd,.int .i64 x.n,.int .i64 x.m,.int .i64 x.f0,.int .i64 x.f1,.int .i64 x.f2,.int .i64 x.f3,.int .i64 x.f4,.int .i64 x.f5,.int .i64 x.f6,.string x.body]from rfl,HWA.out]) |(refine wpList_load_mid rfl 30 (.tmp 5) rfl (w.heap.size+1) 0 rfl _ _ HB1.out.range Tryz.underlying30 rfl aN ?_) |(refine wpList_load_mid rfl 44 (.tmp 9) rfl wr.heap.size 0 rfl _ _ HAB.out.range Tryz.underlying44 rfl bP ?_))
     refine(pP s1 p1 a1 s2 p2 a2 S P A x _ HCF.out.here n1 n2 n3).mono ?_;rintro e w2 ⟨su,pu,au,rfl,hc2,hb2,hd2⟩;have HC2:Hid (Kept (XR w wr (.slice ro rs.length rc)) w2 fun W=>CfAt W su pu au (cS S P A x) (cP S P A x) (cA S P A x)):=by
      rcases hd2 with h |⟨⟨e1,e2,e3⟩,rfl,rfl,rfl⟩
      ·exact aa (uK hc2 h HXL.out)
      ·rw [e1,e2,e3];exact aa (HCF.out.below hb2)
     obtain⟨t1,t2,rfl⟩:=hc2.1.slice;obtain⟨t3,t4,rfl⟩:=hc2.2.1.slice;obtain⟨t5,t6,rfl⟩:=hc2.2.2.slice;replace HB0:=aa (HB0.out.below hb2);replace HB1:=aa (HB1.out.below hb2);replace HB2:=aa (HB2.out.below hb2);replace HPB:=aa (HPB.out.below hb2);replace HRR:=aa (HRR.out.below hb2);replace HKA:=aa (HKA.out.below hb2);replace hbw:=hbw.trans (hb2.mono hbw.size);have s2l:=hb2.size;clear hc2 hb2 hd2 HCF HAB R0 HW1 HWZ HWA HSA TZ ak an;have HCF:=HC2;clear HC2;generalize du S P A x=E at*;obtain⟨W3,hW3⟩:∃W3,W3=w2.setCells (w.heap.size+1) 0 [.slice t1 (cS S P A x).length t2,.slice t3 (cP S P A x).length t4,.slice t5 (cA S P A x).length t6]:=⟨_,rfl⟩;obtain⟨W4,hW4⟩:∃W4,W4=W3.setCell ⟨wr.heap.size+1,0,none⟩ (.int .i64 E):=⟨_,rfl⟩;have T2:=aa (HB1.out.fit 3 rfl);have hP3:Box W3 (wr.heap.size+1) [.int .i64 0,.slice none 0 0]:=by rw [hW3];exact HPB.out.set_far (by omega) _ _
     have HPX:Hid (Box W4 (wr.heap.size+1) [.int .i64 E,.slice none 0 0]):=by rw [hW4];exact aa (hP3.set1 0 _ (by simp))
     have c3:=hP3.cell 0 _ rfl;have f3:=hP3.2 0 (by simp);replace HB0:Hid (Box W4 w.heap.size [.slice none 0 0,.slice none 0 0,.slice none 0 0]):=by rw [hW4,hW3];exact aa ((HB0.out.set_far (by omega) _ _).set1_far (by omega) _ _)
     replace HB1:Hid (Box W4 (w.heap.size+1) [.slice t1 (cS S P A x).length t2,.slice t3 (cP S P A x).length t4,.slice t5 (cA S P A x).length t6]):=by rw [hW4,hW3];exact aa ((HB1.out.set ([.slice t1 (cS S P A x).length t2,.slice t3 (cP S P A x).length t4,.slice t5 (cA S P A x).length t6]:List Value) rfl).set1_far (by omega) _ _)
     replace HB2:Hid (Box W4 (w.heap.size+1+1) [j0,j1,j2,j3,j4,j5]):=by rw [hW4,hW3];exact aa ((HB2.out.set_far (by omega) _ _).set1_far (by omega) _ _)
     replace HRR:=aa ((HRR.out.set (b:=(w.heap.size+1)) (.inl (by omega)) 0 [.slice t1 (cS S P A x).length t2,.slice t3 (cP S P A x).length t4,.slice t5 (cA S P A x).length t6]).set1 (b:=wr.heap.size+1) (.inr rfl) 0 (.int .i64 E));rw [←hW3, ←hW4]at HRR;replace HCF:=aa ((HCF.out.set (b:=(w.heap.size+1)) (.inl (.inl (by omega))) 0 [.slice t1 (cS S P A x).length t2,.slice t3 (cP S P A x).length t4,.slice t5 (cA S P A x).length t6]).set1 (b:=wr.heap.size+1) (.inr rfl) 0 (.int .i64 E));rw [←hW3, ←hW4]at HCF;replace HKA:=aa ((HKA.out.set (b:=(w.heap.size+1)) (.inl (.inl (by omega))) 0 [.slice t1 (cS S P A x).length t2,.slice t3 (cP S P A x).length t4,.slice t5 (cA S P A x).length t6]).set1 (b:=wr.heap.size+1) (.inr rfl) 0 (.int .i64 E));rw [←hW3, ←hW4]at HKA;have hbw4:Below w.heap.size w W4:=by rw [hW4,hW3];exact(ap (w.heap.size+1) (by omega) _ 0 hbw).setCell (p:=⟨wr.heap.size+1,0,none⟩) (by simp only;omega) _
     clear hbw HPB hP3;obtain⟨W7,hW7⟩:∃W7,W7=W4.alloc (.cells #[.int .i64 E,.slice none 0 0] 47):=⟨_,rfl⟩;have hb7:Below W4.heap.size W4 W7:=by rw [hW7];exact(Below.refl _ _).alloc zr _
     have HN7:Hid (W7.rangeAt W4.heap.size 0 [.int .i64 E,.slice none 0 0]):=by rw [hW7];exact aa (et W4 [.int .i64 E,.slice none 0 0] 47)
     replace HB0:=aa (HB0.out.below hb7);replace HB1:=aa (HB1.out.below hb7);replace HB2:=aa (HB2.out.below hb7);replace HRR:=aa (HRR.out.below hb7);replace HCF:=aa (HCF.out.below hb7);replace HKA:=aa (HKA.out.below hb7);have hbw7:=hbw4.trans (hb7.mono hbw4.size);have s7:w.heap.size+3≤W7.heap.size:=HB2.out.lt;have HW3:Hid (w2.setCells (w.heap.size+1) 0 [.slice t1 (cS S P A x).length t2,.slice t3 (cP S P A x).length t4,.slice t5 (cA S P A x).length t6]=W3):=hW3.symm;have HW4:Hid (W3.setCell ⟨wr.heap.size+1,0,none⟩ (.int .i64 E)=W4):=hW4.symm;have HW7:Hid (W4.alloc (.cells #[.int .i64 E,.slice none 0 0] 47)=W7):=hW7.symm;clear hW3 hW4 hW7 hb7 hbw4;go_wp2_with (first | rw [HW7.out] | rw [HW4.out] |(refine wpList_store_mid rfl 30 (.tmp 5) (.tmp 27) rfl (w.heap.size+1) 0 _ rfl rfl T2.out aN (cC rfl) ?_;rw [show(#[.slice t1 (cS S P A x).length t2,.slice t3 (cP S P A x).length t4,.slice t5 (cA S P A x).length t6]:Array Value).toList= [.slice t1 (cS S P A x).length t2,.slice t3 (cP S P A x).length t4,.slice t5 (cA S P A x).length t6]from rfl,HW3.out]) |(refine wpList_load_mid rfl 47 (.tmp 10) rfl (wr.heap.size+1) 0 rfl _ _ HPX.out.range Tryz.underlying47 rfl sQ ?_) |(at_builtin;refine ez rfl _ _ rfl (w.heap.size+3) _ rs rfl HRR.out.here W4.heap.size ⟨E,[],⟨#[]⟩⟩ _ rfl HN7.out rfl (World.ownsRow_nil _ _ _ _) (fun g e=>by simp [Value.ownBlock]at e) ?b11 ?b12 ?b13))
     case b11=>rw [HRL.out];omega
     case b12=>exact s7
     intro v8 w8 hr8 hg8 ha8;have HNX:=aa (RunAt.next HEK.out HRL.out hr8 hg8 ha8 (fun g e=>(HUI.out g e).1) HCF.out HKA.out HB0.out HB1.out HB2.out hbw7);clear hr8 hg8 ha8 HRR HCF HKA HB0 HB1 HB2 HN7 HW3 HW4 HW7 HPX;go_wp2_with fail
     go_roundw
     case rel=>exact⟨k+1,by omega,by go_num,HNX.out⟩
     case measure=>simp [intOf];omega
  ·have hke:k=l.length:=(by omega);subst hke;have hkk:¬((l.length:Int)<(l.length:Int)):=(by omega);go_wp2_with fail
   refine wp_region_held_drew (S:=(fun w'=>w'.rangeAt (w.heap.size+1) 0 [.slice s1 S.length s2,.slice p1 P.length p2,.slice a1 A.length a2])) (by kernel_rfl) HB1.out.range (fun hHeld=>?_);refine tq 0 60 rfl (by kernel_rfl) (fun _ _ _ h=>h) rfl ‹_› (by intro w h;go_simp <;>with_reducible rfl) ?_;simp only [nz];refine wpAnyH_take (i:=1) (oi:=⟨some 61,_,_,_,_,_⟩) (v:=.agg #[.slice s1 S.length s2,.slice p1 P.length p2,.slice a1 A.length a2]) rfl (by kernel_rfl) (by kernel_rfl) (by kernel_rfl) (fun _ _ _ h=>h) (yieldsIf_load_mid (by rfl) 30 (.tmp 5) rfl (w.heap.size+1) 0 rfl [.slice s1 S.length s2,.slice p1 P.length p2,.slice a1 A.length a2] _ (fun w h=>h) Tryz.underlying30 rfl aN) (by assumption) ?_;(try simp only [nz]);refine tq 2 2 rfl (by kernel_rfl) (fun _ _ _ h=>h) rfl ‹_› (by intro w h;go_simp <;>with_reducible rfl) ?_;simp only [nz];have hbD:Below wr.heap.size wr wr.drew:=(Below.refl _ _).drew;replace HB0:=aa (HB0.out.below hbD);replace HB1:=aa (HB1.out.below hbD);replace hbr:=hbr.trans (hbD.mono hbr.size);replace HR0:=aa (HR0.out.below hbD);replace HCF:=aa (HCF.out.below hbD);clear hbD;generalize wr.drew=V at*;refine rnq 3 (by kernel_rfl) rfl (fun Kk hKk=>?_);refine wp_store_mid 30 (.tmp 3) (.tmp 61) rfl w.heap.size 0 _ rfl rfl (HB0.out.fit 3 rfl) aN (cC rfl) ?_;refine hKk.out _ _ (HB1.out.set_far (by omega) _ _).range (fun hHeld=>?_);clear hKk Kk;refine tq 4 4 rfl (by kernel_rfl) (fun _ _ _ h=>h) rfl ‹_› (by intro w h;go_simp <;>with_reducible rfl) ?_;simp only [nz];refine wpAnyH_done (by kernel_rfl) ?_ _;clear hHeld;go_wp2_with fail
   refine bodyPost_ret (v:=.tuple #[(.slice ro rs.length rc),.agg #[.slice s1 S.length s2,.slice p1 P.length p2,.slice a1 A.length a2],.int .i64 0]) ?_ rfl ⟨_,_,_,_,rfl,S,P,A,K,rs,⟨HI.out,HRL.out⟩,?_,?_,ap _ (by omega) _ _ hbr⟩
   ·exact lE (cs:=[.slice s1 S.length s2,.slice p1 P.length p2,.slice a1 A.length a2]) Tryz.results21 rfl (HB0.out.set ([.slice s1 S.length s2,.slice p1 P.length p2,.slice a1 A.length a2]:List Value) rfl).range Tryz.underlying30 rfl aN
   ·exact((pS (X:=fun k=>k<w.heap.size+3) HR0.out (fun k hk=>.inl hk)).set (b:=w.heap.size) (by omega) 0 _).here.less (by omega)
   ·exact(HCF.out.set (b:=w.heap.size) (.inl (by omega)) 0 _).but (fun k hk=>.inl (.inl (by omega)))
theorem sJ (I:Nat→List Sw→List Pr→List Ac→(Nat→List Fl)→List Rp→Prop) (la:Option Addr) (n lc:Nat) (w:World) (hR:∀W,Below w.heap.size w W→Calls Tryz.prog 21 #[.slice la n lc] W (mu I n W)):
  Calls Tryz.prog 7 #[.slice la n lc] w (mu I n w):=by
 have HR:=aa hR;clear hR;obtain⟨W0,hW0⟩:∃W0,W0=w.alloc (.cells #[.slice none 0 0,.slice none 0 0,.slice none 0 0] 30):=⟨_,rfl⟩;have kb:Below w.heap.size w W0:=by rw [hW0];exact(Below.refl _ w).alloc zr _
 have HB:Hid (Box W0 w.heap.size [.slice none 0 0,.slice none 0 0,.slice none 0 0]):=by rw [hW0];exact aa (Box.new w [.slice none 0 0,.slice none 0 0,.slice none 0 0] 30)
 have HW0:=aa hW0.symm;have sb:=HB.out.lt;clear hW0;go_enter Tryz.func7,Tryz.ntmps7;go_wp2_with (rw [HW0.out])
 refine(HR.out _ kb).mono ?_;rintro e w1 ⟨u,su,pu,au,rfl,S,P,A,K,rs,⟨hI,hl⟩,hrr,hcf,hb1⟩;have HI:=aa hI;have HRR:=aa (pS (X:=fun k=>k<W0.heap.size) hrr (fun k hk=>.inl hk));have HCF:=aa hcf;obtain⟨s1,s2,rfl⟩:=hcf.here.1.slice;obtain⟨p1,p2,rfl⟩:=hcf.here.2.1.slice;obtain⟨a1,a2,rfl⟩:=hcf.here.2.2.slice;obtain⟨o1,o2,rfl⟩:=hrr.slc;have HL:=aa hl;rw [hl]at HRR⊢;replace HB:=aa (HB.out.below hb1);replace kb:=kb.trans (hb1.mono kb.size);have l01:=hb1.size;clear hI hl hrr hcf hb1 HR HW0;obtain⟨W2,hW2⟩:∃W2,W2=w1.alloc (.cells #[.slice s1 S.length s2,.slice p1 P.length p2,.slice a1 A.length a2] 30):=⟨_,rfl⟩;have hb2:Below w1.heap.size w1 W2:=by rw [hW2];exact(Below.refl _ _).alloc zr _
 have HB2:Hid (Box W2 w1.heap.size [.slice s1 S.length s2,.slice p1 P.length p2,.slice a1 A.length a2]):=by rw [hW2];exact aa (Box.new w1 [.slice s1 S.length s2,.slice p1 P.length p2,.slice a1 A.length a2] 30)
 replace HB:=aa (HB.out.below hb2);replace HRR:=aa (HRR.out.below hb2);replace HCF:=aa (HCF.out.below hb2);replace kb:=kb.trans (hb2.mono kb.size);have HW2:=aa hW2.symm;have HW2:=aa hW2.symm;clear hb2 hW2;go_wp2_with (rw [HW2.out])
 clear HW2;refine wp_region_held_drew (S:=(fun w'=>w'.rangeAt w1.heap.size 0 [.slice s1 S.length s2,.slice p1 P.length p2,.slice a1 A.length a2])) (by kernel_rfl) HB2.out.range (fun hHeld=>?_);refine tq 0 23 rfl (by kernel_rfl) (fun _ _ _ h=>h) rfl ‹_› (by intro w h;go_simp <;>with_reducible rfl) ?_;simp only [nz];refine wpAnyH_take (i:=1) (oi:=⟨some 24,_,_,_,_,_⟩) (v:=.agg #[.slice s1 S.length s2,.slice p1 P.length p2,.slice a1 A.length a2]) rfl (by kernel_rfl) (by kernel_rfl) (by kernel_rfl) (fun _ _ _ h=>h) (yieldsIf_load_mid (by rfl) 30 (.tmp 6) rfl w1.heap.size 0 rfl [.slice s1 S.length s2,.slice p1 P.length p2,.slice a1 A.length a2] _ (fun w h=>h) Tryz.underlying30 rfl aN) (by assumption) ?_;(try simp only [nz]);refine sqA [(2,25),(3,2)] ?_;(iterate 2 (refine sqN rfl (by kernel_rfl) (fun _ _ _ h=>h) rfl ‹_› (by intro w h;go_simp <;>with_reducible rfl) ?_;simp only [nz]));refine sqZ ?_;have hbD:Below W2.heap.size W2 W2.drew:=(Below.refl _ _).drew;replace HB:=aa (HB.out.below hbD);replace HB2:=aa (HB2.out.below hbD);replace kb:=kb.trans (hbD.mono kb.size);replace HRR:=aa (HRR.out.below hbD);replace HCF:=aa (HCF.out.below hbD);clear hbD;generalize W2.drew=V at*;refine rnq 4 (by kernel_rfl) rfl (fun Kk hKk=>?_);refine wp_store_mid 30 (.tmp 3) (.tmp 24) rfl w.heap.size 0 _ rfl rfl (HB.out.fit 3 rfl) aN (cC rfl) ?_;refine hKk.out _ _ (HB2.out.set_far (by omega) _ _).range (fun hHeld=>?_);clear hKk Kk;refine tq 5 4 rfl (by kernel_rfl) (fun _ _ _ h=>h) rfl ‹_› (by intro w h;go_simp <;>with_reducible rfl) ?_;simp only [nz];refine wpAnyH_done (by kernel_rfl) ?_ _;clear hHeld;go_wp2_with fail
 refine bodyPost_ret (v:=.tuple #[.slice o1 n o2,.agg #[.slice s1 S.length s2,.slice p1 P.length p2,.slice a1 A.length a2],.int .i64 0]) ?_ rfl ⟨_,_,_,_,rfl,S,P,A,K,rs,⟨HI.out,HL.out⟩,?_,?_,ap _ (by omega) _ _ kb⟩
 ·exact lE (cs:=[.slice s1 S.length s2,.slice p1 P.length p2,.slice a1 A.length a2]) Tryz.results7 rfl (HB.out.set ([.slice s1 S.length s2,.slice p1 P.length p2,.slice a1 A.length a2]:List Value) rfl).range Tryz.underlying30 rfl aN
 ·exact(HRR.out.set (b:=w.heap.size) (by omega) 0 _).here.less (by omega)
 ·exact(HCF.out.set (b:=w.heap.size) (by omega) 0 _).but (fun k hk=>.inl (by omega))
def qe (x:Sw):Ax:=⟨1,x.i,x.t,x.g,0,0,0,0,0,0,0,false,0,0,0,0,0,false,0,0,0,0,0,0,0,0,0,⟨#[]⟩⟩
theorem qQ:(Tryz.prog.info? 44).map (fun i=>(i.zero,i.size,i.bytes))=some (some (.agg #[.int .i64 0,.int .i64 0,.int .i64 0,.int .i64 0,.int .i64 0,.int .i64 0,.int .i64 0,.int .i64 0,.int .i64 0,.int .i64 0,.int .i64 0,.bool false,.int .i64 0,.int .i64 0,.int .i64 0,.int .i64 0,.int .i64 0,.bool false,.int .i64 0,.int .i64 0,.int .i64 0,.int .i64 0,.int .i64 0,.int .i64 0,.int .i64 0,.int .i64 0,.int .i64 0,.string ByteArray.empty]),28,232):=by kernel_rfl
theorem sV (x:Ax):(axC x).length=28:=rfl
theorem wF {α:Type} (f:α→Ax) (d:α) (L0:List Ax) {l:List α} {k:Nat} (h:k<l.length):(L0++(l.take (k+1)).map f).flatMap axC=(L0++(l.take k).map f).flatMap axC++axC (f (l.getD k d)):=by
 rw [dR d h,List.map_append, ←List.append_assoc,List.flatMap_append];simp
theorem mQ:(Tryz.prog.info? 36).map (·.size)=some 3:=by kernel_rfl

theorem jB {α:Type} {L0 R0 L R:List α} {x:α} (h:L0++R0=L++x::R):(∃L1,L=L0++L1∧R0=L1++x::R)∨∃L1,L0=L++x::L1∧R=L1++R0:=by
 rw [List.append_eq_append_iff]at h;rcases h with⟨a,h1,h2⟩ |⟨a,h1,h2⟩
 ·exact .inl ⟨a,h1,h2⟩
 ·cases a with
  | nil=>simp at h1 h2;exact .inl ⟨[],by simp [h1],by simp [h2]⟩
  | cons b c=>
   simp at h2;obtain⟨rfl,h2⟩:=h2;exact .inr ⟨c,h1,h2⟩
def Like (y z:Pr):Prop:=y.i=z.i∧y.s=z.s∧y.m=z.m∧y.p=z.p
theorem Like.refl (y:Pr):Like y y:=⟨rfl,rfl,rfl,rfl⟩
theorem pD {S:List Sw} {P P':List Pr} {x x':Pr} (h:bm S P x=0) (hx:Like x' x) (hb:fT x'=true) (hp:∀y∈P',∃z∈P,Like y z) (hl:P'.length≤P.length):bm S P' x'=0:=by
 rw [ew]at h⊢;obtain⟨h1,h2,h3,h4,h5⟩:=h;obtain⟨e1,e2,e3,e4⟩:=hx;rw [e1,e2,e3,e4];refine⟨hb,h2,?_,?_,by omega⟩
 ·rw [List.any_eq_false]at h3⊢;intro y hy;obtain⟨z,hz,f1,f2,f3,f4⟩:=hp y hy;rw [f1,f2,f3];exact h3 z hz
 ·unfold bZ at h4⊢;rw [Bool.or_eq_false_iff]at h4⊢;refine⟨h4.1,?_⟩;have h6:=h4.2;rw [List.any_eq_false]at h6⊢;intro y hy;obtain⟨z,hz,f1,f2,f3,f4⟩:=hp y hy;rw [f2,f4];exact h6 z hz
theorem yX {S:List Sw} {P:List Pr} (h:ba S P=true) (k:Nat):ba S (P.eraseIdx k)=true:=by
 rcases Nat.lt_or_ge k P.length with hk | hk
 ·have e:P=P.take k++P[k]::P.drop (k+1):=by
   conv=>lhs;rw [←List.take_append_drop k P]
   rw [List.drop_eq_getElem_cons hk]
  rw [List.eraseIdx_eq_take_drop_succ];rw [cT]at h⊢;intro L x R hq;rcases jB hq with⟨L1,rfl,h2⟩ |⟨L1,h1,rfl⟩
  ·have h3:=h (P.take k++P[k]::L1) x R (by rw [List.append_assoc,List.cons_append, ←h2];exact e);refine pD h3 (Like.refl x) ((ew _ _ _).1 h3).1 (fun y hy=>⟨y,?_,Like.refl y⟩) (by simp);simp only [List.mem_append,List.mem_cons]at hy⊢;rcases hy with hy | hy
   ·exact .inl hy
   ·exact .inr (.inr hy)
  ·exact h L x (L1++P[k]::P.drop (k+1)) (by rw [←List.cons_append, ←List.append_assoc, ←h1];exact e)
 ·rw [List.eraseIdx_of_length_le hk];exact h
theorem xX {S:List Sw} {P:List Pr} (h:ba S P=true) (k:Nat) {m:Int} (hm:inB m (-1) 5=true):ba S (P.set k ⟨(P.getD k pr0).i,(P.getD k pr0).s,(P.getD k pr0).m,(P.getD k pr0).p,m⟩)=true:=by
 rcases Nat.lt_or_ge k P.length with hk | hk
 ·have hg:P.getD k pr0=P[k]:=(by simp [List.getD,List.getElem?_eq_getElem hk]);rw [hg];obtain⟨z,hz⟩:∃z:Pr,z=⟨P[k].i,P[k].s,P[k].m,P[k].p,m⟩:=⟨_,rfl⟩;rw [←hz];have hzb:Like z P[k]:=by rw [hz];exact⟨rfl,rfl,rfl,rfl⟩
  have hzi:fT z=true:=by
   have:=(uM h (List.getElem_mem hk)).1;rw [hz];unfold fT at this⊢;simp only [Bool.and_eq_true]at this⊢;exact⟨this.1,hm⟩
  clear hz;have e:P=P.take k++P[k]::P.drop (k+1):=by
   conv=>lhs;rw [←List.take_append_drop k P]
   rw [List.drop_eq_getElem_cons hk]
  have e2:P.set k z=P.take k++z::P.drop (k+1):=by
   rw [List.set_eq_take_append_cons_drop,if_pos hk]
  rw [e2];rw [cT]at h⊢;intro L x R hq;rcases jB hq with⟨L1,rfl,h2⟩ |⟨L1,h1,rfl⟩
  ·cases L1 with
   | nil=>
    simp at h2;obtain⟨rfl,rfl⟩:=h2;have h3:=h (P.take k) P[k] _ e;rw [List.append_nil];exact pD h3 hzb hzi (fun y hy=>⟨y,hy,Like.refl y⟩) zr
   | cons b c=>
    simp at h2;obtain⟨rfl,h2⟩:=h2;have h3:=h (P.take k++P[k]::c) x R (by rw [List.append_assoc,List.cons_append, ←h2];exact e);refine pD h3 (Like.refl x) ((ew _ _ _).1 h3).1 (fun y hy=>?_) (by simp);simp only [List.mem_append,List.mem_cons]at hy;rcases hy with hy | rfl | hy
    ·exact⟨y,by simp [hy],Like.refl y⟩
    ·exact⟨P[k],by simp,hzb⟩
    ·exact⟨y,by simp [hy],Like.refl y⟩
  ·exact h L x (L1++P[k]::P.drop (k+1)) (by rw [←List.cons_append, ←List.append_assoc, ←h1];exact e)
 ·rw [List.set_eq_of_length_le hk];exact h
theorem Ak {S:List Sw} {P:List Pr} {x:Pr} (h:ba S P=true) (hx:bm S P x=0):ba S (P++ [x])=true:=by
 rw [cT]at h⊢;intro L y R hq;rcases iK hq with⟨rfl,rfl⟩ |⟨R',e⟩
 ·exact hx
 ·exact h L y R' e
theorem qE {S:List Sw} {s:Sw} {id:Int} (h:0≤idx (fun x=>x.i==id) S):idx (fun x=>x.i==id) (S++ [s])=idx (fun x=>x.i==id) S:=by
 unfold idx at h⊢;rw [List.findIdx?_append];cases hq:S.findIdx? (fun x=>x.i==id)with
 | none=>rw [hq]at h;simp at h
 | some k=>rfl
theorem AG {S:List Sw} {s:Sw} {id:Int} (h:0≤idx (fun x=>x.i==id) S):tn (S++ [s]) id=tn S id:=by
 unfold tn;rw [qE h];have:=(pU (fun x:Sw=>x.i==id) S).2;simp only [List.getD];rw [List.getElem?_append_left (by omega)]
theorem BR {S:List Sw} {id:Int} (h:0≤idx (fun x=>x.i==id) S):S.any (fun s=>s.i==id&&s.t==tn S id)=true:=by
 unfold tn;unfold idx at h⊢;cases hq:S.findIdx? (fun x=>x.i==id)with
 | none=>rw [hq]at h;simp at h
 | some k=>
  obtain⟨hk,hp,_⟩:=List.findIdx?_eq_some_iff_getElem.1 hq;refine List.any_eq_true.2 ⟨S[k],List.getElem_mem hk,?_⟩;simp only [Int.toNat_natCast,List.getD,List.getElem?_eq_getElem hk,Option.getD_some,beq_self_eq_true,Bool.and_true];exact hp
theorem zs {S:List Sw} {P L:List Pr} {s:Sw} {x:Pr} (hs:bl S P s=0) (hP:ba S P=true) (hL:∀y∈L,y∈P) (hx:x∈P) (h:bm S L x=0):bm (S++ [s]) L x=0:=by
 rw [ew]at h⊢;obtain⟨h1,h2,h3,h4,h5⟩:=h;rw [AG h2,qE h2];refine⟨h1,h2,h3,?_,h5⟩;obtain⟨⟨_,_,s1⟩,⟨s2,s3⟩,_⟩:=ll hs;have hip:1≤x.p:=by
  unfold fT at h1;simp only [Bool.and_eq_true,inB,decide_eq_true_eq]at h1;omega
 unfold bZ at h4⊢;rw [Bool.or_eq_false_iff]at h4⊢;obtain⟨h6,h7⟩:=h4;constructor
 ·rw [List.any_append,h6,Bool.false_or];simp only [List.any_cons,List.any_nil,Bool.or_false];refine Bool.not_eq_true _ |>.mp fun hc=>?_
  simp only [Bool.and_eq_true,beq_iff_eq]at hc;have hg:(s.g != 0)=true:=by simp;omega
  rw [hg,Bool.true_and]at s3;unfold bZ at s3;rw [Bool.or_eq_false_iff]at s3;have s4:=s3.2;rw [List.any_eq_false]at s4;refine s4 x hx ?_;rw [hc.2,hc.1];simp only [beq_self_eq_true,Bool.true_and];exact BR h2
 ·rw [List.any_eq_false]at h7⊢;intro y hy hc;refine h7 y hy ?_;simp only [Bool.and_eq_true]at hc⊢;refine⟨hc.1,?_⟩;have hc2:=hc.2;rw [List.any_append,Bool.or_eq_true]at hc2;rcases hc2 with hc2 | hc2
  ·exact hc2
  ·simp only [List.any_cons,List.any_nil,Bool.or_false,Bool.and_eq_true,beq_iff_eq]at hc2;have hy2:=(uM hP (hL y hy)).2;have ha:S.any (fun q=>q.i==y.s)=true:=by rw [←dN];simpa using hy2
   rw [←hc2.1,s2]at ha;simp at ha
theorem xT {S:List Sw} {P:List Pr} {s:Sw} (hs:bl S P s=0) (h:ba S P=true):ba (S++ [s]) P=true:=by
 have h':=(cT S P).1 h;rw [cT];rintro L x R rfl;exact zs hs h (fun y hy=>by simp [hy]) (by simp) (h' L x R rfl)
theorem ux {S S':List Sw} {A A':List Ac} {x:Ac} (h:bw S A x=0) (hs:∀y∈S,y∈S') (hl:A'.length≤A.length):bw S' A' x=0:=by
 rw [tW]at h⊢;refine⟨h.1,h.2.1,?_,by omega⟩;have h3:=h.2.2.1;rw [List.any_eq_true]at h3⊢;obtain⟨y,hy,e⟩:=h3;exact⟨y,hs y hy,e⟩
theorem zj {S:List Sw} {A:List Ac} (h:cE S A=true) (k:Nat):cE S (A.eraseIdx k)=true:=by
 rcases Nat.lt_or_ge k A.length with hk | hk
 ·have e:A=A.take k++A[k]::A.drop (k+1):=by
   conv=>lhs;rw [←List.take_append_drop k A]
   rw [List.drop_eq_getElem_cons hk]
  rw [List.eraseIdx_eq_take_drop_succ];rw [jV]at h⊢;intro L x R hq;rcases jB hq with⟨L1,rfl,h2⟩ |⟨L1,h1,rfl⟩
  ·have h3:=h (A.take k++A[k]::L1) x R (by rw [List.append_assoc,List.cons_append, ←h2];exact e);exact ux h3 (fun y hy=>hy) (by simp)
  ·exact h L x (L1++A[k]::A.drop (k+1)) (by rw [←List.cons_append, ←List.append_assoc, ←h1];exact e)
 ·rw [List.eraseIdx_of_length_le hk];exact h
theorem zP {S:List Sw} {A:List Ac} {x:Ac} (h:cE S A=true) (hx:bw S A x=0):cE S (A++ [x])=true:=by
 rw [jV]at h⊢;intro L y R hq;rcases iK hq with⟨rfl,rfl⟩ |⟨R',e⟩
 ·exact hx
 ·exact h L y R' e
theorem yw {S:List Sw} {A:List Ac} {s:Sw} (h:cE S A=true):cE (S++ [s]) A=true:=by
 rw [jV]at h⊢;intro L x R hq;exact ux (h L x R hq) (fun y hy=>by simp [hy]) zr
theorem zx {S:List Sw} {P:List Pr} {s:Sw} (h:bl S P s=0):bl S [] s=0:=by
 obtain⟨⟨a,b,c⟩,⟨d,e⟩,f⟩:=ll h;unfold bl;rw [a,b,c,d];have e':(s.g != 0&&bZ S [] s.t s.g)=false:=by
  cases hg:(s.g != 0)with
  | false=>rfl
  | true=>
   rw [hg,Bool.true_and]at e;unfold bZ at e⊢;rw [Bool.or_eq_false_iff]at e;simp [e.1]
 rw [e'];simp;omega
theorem zX {S:List Sw} {P:List Pr} {s:Sw} (h:bM S=true) (hs:bl S P s=0):bM (S++ [s])=true:=by
 rw [nv]at h⊢;intro L y R hq;rcases iK hq with⟨rfl,rfl⟩ |⟨R',e⟩
 ·exact zx hs
 ·exact h L y R' e
theorem rl {S:List Sw} {P:List Pr} {A:List Ac} {a:Ax} (h:may S P A=true) (ha:bJ S P A a=0):may (nxS S a) (nxP P a) (nxA A a)=true:=by
 obtain⟨h1,h2,h3⟩:=bR h;have go:∀{S':List Sw} {P':List Pr} {A':List Ac},bM S'=true→ba S' P'=true→cE S' A'=true→may S' P' A'=true:=fun a b c=>by unfold may;rw [a,b,c];rfl
 unfold bJ at ha;unfold nxS nxP nxA;by_cases k1:a.k=1
 ·rw [if_pos k1]at ha;simp only [k1,if_pos];exact go (zX h1 ha) (xT ha h2) (yw h3)
 ·rw [if_neg k1]at ha;rw [if_neg k1];by_cases k2:a.k=2
  ·rw [if_pos k2]at ha;rw [if_pos k2,if_neg (by omega),if_neg (by omega)];exact go h1 (Ak h2 ha) h3
  ·rw [if_neg k2]at ha;rw [if_neg k2];by_cases k3:a.k=3
   ·rw [if_pos k3]at ha;rw [if_neg (by omega),if_neg (by omega),if_pos k3];exact go h1 h2 (zP h3 ha)
   ·rw [if_neg k3]at ha;rw [if_neg k3];by_cases k4:a.k=4
    ·rw [if_pos k4,if_neg (by omega)];exact go h1 (yX h2 _) h3
    ·rw [if_neg k4]at ha;rw [if_neg k4];by_cases k6:a.k=6
     ·rw [if_pos k6]at ha;rw [if_pos k6,if_neg (by omega)];by_cases hb:inB a.m (-1) 5=true
      ·exact go h1 (xX h2 _ hb) h3
      ·rw [if_neg hb]at ha;split at ha <;>omega
     ·rw [if_neg k6];by_cases k5:a.k=5
      ·rw [if_pos k5];exact go h1 h2 (zj h3 _)
      ·rw [if_neg k5];exact h
def wJ (S:List Sw) (P:List Pr) (A:List Ac):Prop:=may S P A=true∧(∀s∈S,s.i≤6)∧S.any (fun s=>s.i==1)=true
theorem wZ {S:List Sw} {P:List Pr} {A:List Ac} {a:Ax} (h:du S P A a=0):may S P A=true∧bJ S P A a=0:=by
 unfold du at h;cases hm:may S P A with
 | true=>rw [hm]at h;exact⟨rfl,by simpa using h⟩
 | false=>rw [hm]at h;simp at h
theorem vR {S:List Sw} {P:List Pr} {A:List Ac} {a:Ax} (h:wJ S P A) (ha:du S P A a=0) (hs:a.si≤6):wJ (apS S P A a) (apP S P A a) (apA S P A a):=by
 obtain⟨h1,h2,h3⟩:=h;unfold apS apP apA;rw [if_pos ha,if_pos ha,if_pos ha];refine⟨rl h1 (wZ ha).2,?_,?_⟩
 ·unfold nxS;split
  ·intro s hs';rcases List.mem_append.1 hs' with hs' | hs'
   ·exact h2 s hs'
   ·obtain rfl:s=a.s:=(by simpa using hs');exact hs
  ·exact h2
 ·unfold nxS;split
  ·rw [List.any_append,h3];rfl
  ·exact h3
theorem oz {S:List Sw} {P:List Pr} {A:List Ac} {a:Ax} (h:may S P A=true) (ha:du S P A a=0):may (apS S P A a) (apP S P A a) (apA S P A a)=true:=by
 unfold apS apP apA;rw [if_pos ha,if_pos ha,if_pos ha];exact rl h (wZ ha).2
theorem uY (F:List Int):ran [] F= []:=rfl
theorem Az:may [] [] []=true:=by decide
theorem BW {S:List Sw} {P:List Pr} {A:List Ac} (h:may S P A=true) (x:Ax):may (cS S P A x) (cP S P A x) (cA S P A x)=true:=by
 unfold cS cP cA;by_cases e:du S P A x=0
 ·rw [if_pos e,if_pos e,if_pos e];exact oz h e
 ·rw [if_neg e,if_neg e,if_neg e];exact h
theorem ut {w:World} {B:Nat} {u:Value} {rs:List Rp} (h:RR w B u rs) {i:Nat} (hi:i<rs.length):∃g cap v,u= .slice (some ⟨g,0,none⟩) rs.length cap∧rs.length≤cap∧(w.cell? ⟨g,i*2,none⟩=some (.int .i64 (rs.getD i ⟨0,[],⟨#[]⟩⟩).c)∧w.cell? ⟨g,i*2+1,none⟩=some v)∧w.ownsRow B 49 9 v (rs.getD i ⟨0,[],⟨#[]⟩⟩).l.length (AR (rs.getD i ⟨0,[],⟨#[]⟩⟩).body (rs.getD i ⟨0,[],⟨#[]⟩⟩).l):=by
 obtain⟨lo,e,ho,hx⟩:=h;have hlen:lo.length=rs.length:=by rw [←e,List.length_map]
 have hi':i<lo.length:=by omega
 obtain⟨oo,oc,rfl,hoc,hg⟩:=dG ho;obtain⟨g,rfl,hgB,hgw⟩:=hg (by omega);have R:=kW (C:=rvC) (fun _=>rfl) ⟨⟨0,[],⟨#[]⟩⟩,undef⟩ ho hi';have hmem:lo.getD i ⟨⟨0,[],⟨#[]⟩⟩,undef⟩∈lo:=by rw [List.getD_eq_getElem?_getD,List.getElem?_eq_getElem hi'];exact List.getElem_mem hi'
 have hr:rs.getD i ⟨0,[],⟨#[]⟩⟩=(lo.getD i ⟨⟨0,[],⟨#[]⟩⟩,undef⟩).r:=by
  rw [←e,List.getD_eq_getElem?_getD,List.getElem?_map,List.getElem?_eq_getElem hi',List.getD_eq_getElem?_getD,List.getElem?_eq_getElem hi'];rfl
 rw [hr];exact⟨g,oc,_,by rw [hlen],by omega,⟨R 0 _ rfl,R 1 _ rfl⟩,(hx _ hmem).1⟩
structure Stt where
 S:List Sw
 P:List Pr
 A:List Ac
 K:Nat→List Fl
def stZ:Stt:=⟨[],[],[],fun _=>[]⟩
def stA (σ:Stt) (x:Ax):Stt:=if x.k=7 then⟨σ.S,σ.P,σ.A,lf σ.S σ.P σ.A σ.K x.n⟩else if x.k=8 then σ else⟨cS σ.S σ.P σ.A x,cP σ.S σ.P σ.A x,cA σ.S σ.P σ.A x,σ.K⟩
def stR (l:List Ax):Stt:=l.foldl stA stZ
def aE (σ:Stt) (x:Ax):Int:=lM σ.K σ.P x.n x.f0 x.f1 x.f2 x.f3 x.f4 x.f5 x.f6 x.body.size
def aL (σ:Stt) (x:Ax):List Ar:=jt σ.K σ.P x.n x.f0 x.f1 x.f2 x.f3 x.f4 x.f5 x.f6 x.body.size
def kT (σ:Stt) (x:Ax) (r:Rp):Prop:=
 if x.k=7 then r=⟨cmE σ.S σ.P σ.A x.n,[],⟨#[]⟩⟩else if x.k=8 then(r.c=aE σ x∧r.body=x.body)∧r.l.Perm (aL σ x)∧iJ r.l else r=⟨du σ.S σ.P σ.A x,[],⟨#[]⟩⟩
def rp0:Rp:=⟨0,[],⟨#[]⟩⟩
def Tr (l:List Ax) (k:Nat) (S:List Sw) (P:List Pr) (A:List Ac) (K:Nat→List Fl) (rs:List Rp):Prop:=
 (⟨S,P,A,K⟩:Stt)=stR (l.take k)∧rs.length=k∧∀j,j<k→kT (stR (l.take j)) (l.getD j ax0) (rs.getD j rp0)
def Lrn (Q:List Pr→Prop) (K:Nat→List Fl):Prop:=∀i:Nat,i<6→K i= []∨∃S P A,(may S P A=true∧Q P)∧K i=cmL S P A i
theorem Lrn.syn {Q:List Pr→Prop} {K:Nat→List Fl} (h:Lrn Q K) {S:List Sw} {P:List Pr} {A:List Ac} (hq:Q P) (ch:Int):Lrn Q (lf S P A K ch):=by
 unfold lf;split
 ·rename_i he;obtain⟨hm,h0,h1⟩:=kw he;intro i hi;by_cases e:i=ch.toNat
  ·simp only [if_pos e];exact .inr ⟨S,P,A,⟨hm,hq⟩,by rw [show((i:Nat):Int)=ch by omega]⟩
  ·simp only [if_neg e];exact h i hi
 ·exact h
theorem Lrn.mono {Q R:List Pr→Prop} {K:Nat→List Fl} (h:Lrn Q K) (hq:∀P,Q P→R P):Lrn R K:=fun i hi=>by
 rcases h i hi with h |⟨S,P,A,⟨h1,h2⟩,h3⟩
 ·exact .inl h
 ·exact .inr ⟨S,P,A,⟨h1,hq P h2⟩,h3⟩
theorem rT (Q:List Pr→Prop):Lrn Q fun _=>[]:=fun _ _=>.inl rfl
theorem xA:Kok fun _=>[]:=by
 have:=BS (S:=[]) (P:=[]) (A:=[]) (k:=0) (.inl rfl) (by omega);exact this
def StOk (σ:Stt):Prop:=(may σ.S σ.P σ.A=true∧Kok σ.K)∧Lrn (fun _=>True) σ.K
theorem StOk.next {σ:Stt} (h:StOk σ) (x:Ax):StOk (stA σ x):=by
 obtain⟨⟨h1,h2⟩,h3⟩:=h;unfold stA;split
 ·exact⟨⟨h1,h2.syn _ _ _ _⟩,h3.syn trivial _⟩
 ·split
  ·exact⟨⟨h1,h2⟩,h3⟩
  ·exact⟨⟨BW h1 x,h2⟩,h3⟩
theorem uq:∀(l:List Ax) (σ:Stt),StOk σ→StOk (l.foldl stA σ)
 | [],σ,h=>h
 | x::r,σ,h=>uq r (stA σ x) (h.next x)
theorem mM (l:List Ax):StOk (stR l):=uq l stZ ⟨⟨Az,xA⟩,rT _⟩
theorem wR (l:List Ax) {k:Nat} (h:k<l.length):stR (l.take (k+1))=stA (stR (l.take k)) (l.getD k ax0):=by
 unfold stR;rw [List.take_add_one,List.getElem?_eq_getElem h,List.foldl_append];rw [List.getD_eq_getElem?_getD,List.getElem?_eq_getElem h];rfl
theorem zJ {P:List Pr} {id:Int} (h:0≤idx (eu id) P):eY P id∈P∧(eY P id).i=id∧(eY P id).c≠ -1:=by
 unfold eY idx at*;cases hf:P.findIdx? (eu id)with
 | none=>rw [hf]at h;simp at h
 | some j=>
  obtain⟨hj,hq,_⟩:=List.findIdx?_eq_some_iff_getElem.1 hf;simp only [Int.toNat_natCast];rw [List.getD_eq_getElem?_getD,List.getElem?_eq_getElem hj];simp only [eu,Bool.and_eq_true,beq_iff_eq,Bool.not_eq_true',beq_eq_false_iff_ne]at hq;exact⟨List.getElem_mem hj,hq.1,by simpa using hq.2⟩
section
variable {Q:List Pr→Prop} {K:Nat→List Fl}
theorem oE (hK:Lrn Q K) {i:Int} {m:Nat} (hi:aB i=true) {g:Gl} (hg:A6 m g):nu K m (jA i g)= []∨nu K m (jA i g)= [goA g]∧(g.f.getD 2 0≠1∧∃P,Q P∧∃q∈P,q.i=g.u):=by
 obtain⟨d,s,k,a,b,t,o,e,hf,hn,hu,hc0,hc1⟩:=hg;obtain⟨n,u,c,f⟩:=g;simp only at e hn hu hc0 hc1;subst e;obtain⟨c,rfl⟩:=Int.eq_ofNat_of_zero_le hc0;have hff:ff [i,d,s,k,a,b,t,o,n,u] m=0:=hf;have hff0:ff [0,d,s,k,a,b,t,o,n,u] m=0:=hf;have e1:jA i ⟨n,u,(c:Int),[d,s,k,a,b,t,o]⟩=⟨6,c,[i,d,s,k,a,b,t,o,n,u]⟩:=rfl;have e2:gu [i,d,s,k,a,b,t,o,n,u]= [0,d,s,k,a,b,t,o,n,u]:=rfl;rw [e1];unfold nu;simp only [if_true,hff,e2,Int.toNat_natCast];rcases hK c (by omega)with h0 |⟨S,P,A,⟨hm,hq⟩,hKc⟩
 ·left;rw [h0,uY];split <;>rfl
 ·have hE:=yv (ch:=(c:Int)) hm hc0 hc1;have hF:=AN (i:=0) hf (by decide) hn hu;obtain⟨h1,h2,h3,h4⟩:=iV hf;have hr:=ub (ch:=(c:Int)) (fs:=cmL S P A c) hm (wL hE) hF (by omega) h2.2.2.2.2.2.2 (fun h=>⟨(h4 h).1,(h4 h).2.1⟩);have hz:=vM (Aa hE) hF h3;rw [hKc,hz,hr,if_pos rfl];by_cases hcm:mx P A c k a b o n u=true
  ·right;rw [if_pos hcm];have hE2:atE m [⟨5,u,[0,d,s,k,a,b,t,o,n,u]⟩]=0:=by
    simp [atE,kP,pR,hff0]
   refine⟨by unfold atL;rw [if_pos hE2];rfl,?_,P,hq,?_⟩
   ·show k≠1;intro e;unfold mx at hcm;rw [e]at hcm;simp at hcm
   ·unfold mx at hcm;rw [Bool.and_eq_true]at hcm;obtain⟨q,hq1,hq2⟩:=List.any_eq_true.1 hcm.1;simp only [Bool.and_eq_true,beq_iff_eq]at hq2;exact⟨q,hq1,hq2.2.2⟩
  ·left;rw [if_neg hcm];rfl
theorem vT {S:List Sw} {P:List Pr} {A:List Ac} {ch i d s k a b t o:Int}:led S P A ch i d s k a b t o= []∨∃p∈P,p.i=i∧p.c=ch:=by
 unfold led;cases hfd:P.find? (fun p=>p.i==i)with
 | none=>exact .inl rfl
 | some p=>
  simp only;by_cases h:p.c=ch∧s=p.m∧a=p.p
  ·exact .inr ⟨p,List.mem_of_find?_eq_some hfd,by simpa using List.find?_some hfd,h.1⟩
  ·rw [if_neg h];exact .inl rfl
theorem yT (hK:Lrn Q K) {i:Int} {m:Nat} (hi:aB i=true):∀gs:List Gl,(∀g∈gs,A6 m g)→∃f:Gl→Bool,dV K m (gs.map (jA i))=(gs.filter f).map goA∧∀g∈gs,f g=true→g.f.getD 2 0≠1∧∃P,Q P∧∃q∈P,q.i=g.u:=fun gs hg=>by
 refine⟨fun g=> !(nu K m (jA i g)).isEmpty,?_,fun g h hf=>?_⟩
 ·unfold dV;rw [List.flatMap_map]
  induction gs with
  | nil=>rfl
  | cons g r ih=>
   rw [List.flatMap_cons,ih (fun x hx=>hg x (by simp [hx])),List.filter_cons];rcases oE hK hi (hg g (by simp))with h |⟨h,_⟩
   ·simp [h]
   ·simp [h]
 ·rcases oE hK hi (hg g h)with h1 |⟨_,h2⟩
  ·simp [h1]at hf
  ·exact h2
theorem kH (hK:Lrn Q K) {S:List Sw} {P:List Pr} {A:List Ac} (hm:may S P A=true) (id d s k a b t o:Int) (m:Nat):
  (((jt K P id d s k a b t o m).map (·.n)).Nodup∧(jt K P id d s k a b t o m).length≤100)∧∀x∈jt K P id d s k a b t o m,x.f.getD 2 0≠1∧∃P,Q P∧∃q∈P,q.i=x.n:=by
 by_cases h0:lM K P id d s k a b t o m=0
 ·have hL:jt K P id d s k a b t o m=dV K m (ran (K (eY P id).c.toNat) [id,d,s,k,a,b,t,o,0,0]):=by unfold jt;rw [if_pos h0]
  rw [hL];clear hL;have hx:¬idx (eu id) P<0:=fun h=>by unfold lM at h0;rw [if_pos h]at h0;omega
  have hpk:pkE d s k a b t o m id 0 0=0:=by
   unfold lM at h0;rw [if_neg hx]at h0;by_cases h:pkE d s k a b t o m id 0 0=0
   ·exact h
   ·rw [if_neg h]at h0;exact absurd h0 h
  have hf:bn d s k a b t o m=0:=by
   unfold pkE at hpk;by_cases h:bn d s k a b t o m=0
   ·exact h
   ·rw [if_neg h]at hpk;exact absurd hpk h
  obtain⟨hp,hpi,hpc⟩:=zJ (show 0≤idx (eu id) P by omega);generalize eY P id=p at*;obtain⟨hS,hP,hA⟩:=bR hm;have hpp:=(dy hS hP).2 p hp;obtain⟨c,hcc⟩:=Int.eq_ofNat_of_zero_le (show 0≤p.c by omega);have hi:aB id=true:=by rw [fX];omega
  rw [hcc,Int.toNat_natCast];rcases hK c (by omega)with hk0 |⟨S1,P1,A1,⟨hm1,_⟩,hKc⟩
  ·rw [hk0,uY];exact⟨⟨List.nodup_nil,by simp [dV]⟩,fun x hx=>by cases hx⟩
  ·have hE:=yv (ch:=(c:Int)) hm1 (by omega) (by omega);have hF:=AN (i:=id) (n:=0) (u:=0) hf hi (by decide) (by decide);obtain⟨h1,h2,h3,h4⟩:=iV hf;have hr:=xW (ch:=(c:Int)) (fs:=cmL S1 P1 A1 c) hm1 (wL hE) (i:=id) (by omega) hF (by omega) h2.2.2.2.2.2.2 (fun h=>⟨(h4 h).1,(h4 h).2.1⟩);have hr':ran (K c) [id,d,s,k,a,b,t,o,0,0]=(led S1 P1 A1 c id d s k a b t o).map (jA id):=by rw [hKc];exact hr
   rw [hr'];obtain⟨f,e1,e2⟩:=yT hK hi (led S1 P1 A1 c id d s k a b t o) (Bv hm1 ⟨by omega,by omega⟩ hi hf);rw [e1];refine⟨?_,fun x hx=>?_⟩
   ·rcases vT (S:=S1) (P:=P1) (A:=A1) (ch:=(c:Int)) (i:=id) (d:=d) (s:=s) (k:=k) (a:=a) (b:=b) (t:=t) (o:=o)with h |⟨p1,hp1,hi1,hc1⟩
    ·rw [h];exact⟨List.nodup_nil,by simp⟩
    ·have g1:=xU hm1 hp1 d s k a b t o;have g2:=zR hm1 hp1 d s k a b t o;rw [hi1,hc1]at g1 g2;refine⟨?_,by rw [List.length_map];exact Nat.le_trans (List.length_filter_le _ _) g2⟩;rw [List.map_map];exact g1.sublist ((List.filter_sublist).map _)
   ·obtain⟨g,hg,rfl⟩:=List.mem_map.1 hx;obtain⟨hg1,hg2⟩:=List.mem_filter.1 hg;exact e2 g hg1 hg2
 ·have hL:jt K P id d s k a b t o m= []:=by unfold jt;rw [if_neg h0]
  rw [hL];exact⟨⟨List.nodup_nil,by simp⟩,fun x hx=>by cases hx⟩
end
theorem ph {l:List Ax} {k:Nat} {S S':List Sw} {P P':List Pr} {A A':List Ac} {K K':Nat→List Fl} {rs:List Rp} {r:Rp} (h:Tr l k S P A K rs) (hk:k<l.length) (hs:(⟨S',P',A',K'⟩:Stt)=stA ⟨S,P,A,K⟩ (l.getD k ax0)) (hr:kT ⟨S,P,A,K⟩ (l.getD k ax0) r):Tr l (k+1) S' P' A' K' (rs++ [r]):=by
 obtain⟨h1,h2,h3⟩:=h;refine⟨by rw [hs,wR l hk, ←h1],by simp [h2],fun j hj=>?_⟩;by_cases e:j=k
 ·subst e;have e2:(rs++ [r]).getD j rp0=r:=by subst h2;simp [List.getD]
  rw [←h1,e2];exact hr
 ·have e2:(rs++ [r]).getD j rp0=rs.getD j rp0:=by simp only [List.getD];rw [List.getElem?_append_left (by omega)]
  rw [e2];exact h3 j (by omega)
theorem Af (l:List Ax) (lv:Value) (w:World) (hL:RowAt axC 28 w lv l) (hlen:l.length≤300) (hb:∀k,k<l.length→(l.getD k ax0).body.size≤maxLen):Calls Tryz.prog 21 #[lv] w (mu (Tr l) l.length w):=by
 have hok:∀{k S P A K rs},Tr l k S P A K rs→StOk ⟨S,P,A,K⟩:=fun h=>by rw [h.1];exact mM _
 refine zZ l lv w hL hlen (Tr l) ⟨rfl,rfl,fun j hj=>by omega⟩ (fun k S P A K rs h=>?_) ?_ ?_ ?_
 ·have hm:may S P A=true:=(hok h).1.1;obtain⟨q1,q2,q3⟩:=eF hm;refine⟨⟨by omega,by omega,by omega⟩,fun p hp=>?_⟩;obtain⟨m1,m2,_⟩:=bR hm;have:=((dy m1 m2).2 p hp).2.2.2.2;omega
 ·intro k hk h7 S P A K rs hI X W ks s1 p1 a1 s2 p2 a2 hX hK hC;obtain⟨⟨hm,hO⟩,_⟩:=hok hI;simp only at hm hO;obtain⟨q1,q2,q3⟩:=eF hm;refine(uf S P A s1 p1 a1 s2 p2 a2 K ks (l.getD k ax0).n X W hX hK hC (by omega) (by omega) (by omega) (fun _ s b=>vS (by unfold aY;exact Nat.le_trans (List.length_filter_le _ _) q3)) hO).mono ?_;rintro e w' ⟨ks',rfl,hk',hb'⟩;exact⟨ks',_,rfl,_,hk',ph hI hk (by unfold stA;rw [if_pos h7]) (by unfold kT;rw [if_pos h7]),hb'⟩
 ·intro k hk h8 S P A K rs hI;obtain⟨⟨hm,hO⟩,hLr⟩:=hok hI;simp only at hm hO hLr;refine⟨hb k hk,fun _=>rU (Nat.le_trans (kH hLr hm _ _ _ _ _ _ _ _ _).1.2 (by omega)),fun l' hp hbp=>ph hI hk (by unfold stA;rw [if_neg (by omega),if_pos h8]) ?_⟩;unfold kT;rw [if_neg (by omega),if_pos h8];exact⟨⟨rfl,rfl⟩,hp,hbp⟩
 ·intro k hk h7 h8 S P A K rs hI;exact ph hI hk (by unfold stA;rw [if_neg h7,if_neg h8]) (by unfold kT;rw [if_neg h7,if_neg h8])
theorem nR (s1 p1 a1 t1 q1 b1:Option Addr) (s2 p2 a2 t2 q2 b2:Nat) (S:List Sw) (P:List Pr) (A:List Ac) (w:World) (hC:CfAt w (.slice s1 S.length s2) (.slice p1 P.length p2) (.slice a1 A.length a2) S P A) (hD:CfAt w (.slice t1 S.length t2) (.slice q1 P.length q2) (.slice b1 A.length b2) S P A) (h1:S.length≤1000) (h2:P.length≤1000) (h3:A.length≤1000):
  Calls Tryz.prog 11 #[.agg #[.slice s1 S.length s2,.slice p1 P.length p2,.slice a1 A.length a2],.agg #[.slice t1 S.length t2,.slice q1 P.length q2,.slice b1 A.length b2]] w fun e w'=>e= .returned (.bool true)∧Below w.heap.size w w':=by
 obtain⟨W0,hW0⟩:∃W0,W0=(w.alloc (.cells #[.slice s1 S.length s2,.slice p1 P.length p2,.slice a1 A.length a2] 30)).alloc (.cells #[.slice t1 S.length t2,.slice q1 P.length q2,.slice b1 A.length b2] 30):=⟨_,rfl⟩;have kb:Below w.heap.size w W0:=by rw [hW0];exact((Below.refl _ w).alloc zr _).alloc (by simp) _
 have HB1:Hid (Box W0 w.heap.size [.slice s1 S.length s2,.slice p1 P.length p2,.slice a1 A.length a2]):=by rw [hW0];exact aa ((Box.new w [.slice s1 S.length s2,.slice p1 P.length p2,.slice a1 A.length a2] 30).alloc _)
 have HB2:Hid (Box W0 (w.heap.size+1) [.slice t1 S.length t2,.slice q1 P.length q2,.slice b1 A.length b2]):=by
  rw [hW0];have h:=Box.new (w.alloc (.cells #[.slice s1 S.length s2,.slice p1 P.length p2,.slice a1 A.length a2] 30)) [.slice t1 S.length t2,.slice q1 P.length q2,.slice b1 A.length b2] 30;exact aa (by simpa using h)
 have HC:=aa (hC.below kb zr);have HD:=aa (hD.below kb zr);have HW0:=aa hW0.symm;clear hW0 hC hD;have c0:=HB1.out.cell 0 _ rfl;have c1:=HB1.out.cell 1 _ rfl;have c2:=HB1.out.cell 2 _ rfl;have d0:=HB2.out.cell 0 _ rfl;have d1:=HB2.out.cell 1 _ rfl;have d2:=HB2.out.cell 2 _ rfl;go_enter Tryz.func11,Tryz.ntmps11;go_wp2_with (rw [HW0.out])
 clear HW0;refine(qV _ _ S _ HC.out.1 HD.out.1 (by omega)).mono ?_;rintro e w1 ⟨rfl,hb⟩;replace⟨c1,c2,d1,d2⟩:=te c1 c2 d1 d2 hb;replace HC:=aa (HC.out.below hb zr);replace HD:=aa (HD.out.below hb zr);replace kb:=kb.trans (hb.mono kb.size);clear hb c0 d0 HB1 HB2;go_wp2_with fail
 refine(qz _ _ P _ HC.out.2.1 HD.out.2.1 (by omega)).mono ?_;rintro e w2 ⟨rfl,hb⟩;replace c2:=zC c2 hb;replace d2:=zC d2 hb;replace HC:=aa (HC.out.below hb zr);replace HD:=aa (HD.out.below hb zr);replace kb:=kb.trans (hb.mono kb.size);clear hb c1 d1;go_wp2_with fail
 refine(qC _ _ A _ HC.out.2.2 HD.out.2.2 (by omega)).mono ?_;rintro e w3 ⟨rfl,hb⟩;replace kb:=kb.trans (hb.mono kb.size);clear hb c2 d2 HC HD;go_wp2_with fail
 go_ret;exact⟨rfl,kb⟩
theorem jq (l:List Ax) (la:Option Addr) (lc:Nat) (w:World) (hL:RowAt axC 28 w (.slice la l.length lc) l) (hlen:l.length≤300) (hb:∀x∈l,x.body.size≤maxLen):
  Calls Tryz.prog 7 #[.slice la l.length lc] w fun e w'=>∃u su pu au,e= .returned (.tuple #[u,.agg #[su,pu,au],.int .i64 0])∧∃rs,(rs.length=l.length∧∀j,j<l.length→kT (stR (l.take j)) (l.getD j ax0) (rs.getD j rp0))∧RR w' w.heap.size u rs∧Kept (fun k=>k<w.heap.size) w' (fun W=>CfAt W su pu au (stR l).S (stR l).P (stR l).A)∧Below w.heap.size w w':=by
 refine(sJ (Tr l) la l.length lc w fun W hW=>Af l _ W (RowAt.below hL hW zr) hlen fun k hk=>hb _ (by rw [List.getD_eq_getElem?_getD,List.getElem?_eq_getElem hk];exact List.getElem_mem hk)).mono ?_;rintro e w' ⟨u,su,pu,au,rfl,S,P,A,K,rs,⟨⟨hs, -,hr⟩,hl⟩,hrr,hcf,hb'⟩;rw [List.take_length]at hs;refine⟨u,su,pu,au,rfl,rs,⟨hl,hr⟩,hrr,?_,hb'⟩;rw [←hs];exact hcf
theorem eG (a k:Int) (hk:1≤k) (h0: -9223372036854775808≤a) (h1:a≤9223372036854775807): -9223372036854775808≤a.tdiv k∧a.tdiv k≤9223372036854775807:=by
 rcases Int.le_total 0 a with h | h
 ·rw [Int.tdiv_eq_ediv_of_nonneg h];have:=Int.ediv_le_self k h;have:=Int.ediv_nonneg h (by omega:(0:Int)≤k);omega
 ·have e:a.tdiv k= -((-a).tdiv k):=by rw [Int.neg_tdiv];omega
  rw [e,Int.tdiv_eq_ediv_of_nonneg (by omega)];have:=Int.ediv_le_self k (by omega:(0:Int)≤ -a);have:=Int.ediv_nonneg (by omega:(0:Int)≤ -a) (by omega:(0:Int)≤k);omega
theorem aC (n:Int) (h0: -9223372036854775808≤n) (h1:n≤9223372036854775807):IntKind.i64.wrap n=n:=by
 simp [IntKind.wrap,IntKind.bits,IntKind.signed];split <;>omega
theorem nV {fn:Func} {p:Tmp} {ty:TypeId} (h:fn.results= #[.cell p ty]) (tmps:Array Value) (P:Program) (w:World):
  (results fn tmps).run P w=((asAddr (tmps.getD p undef)).run P w).andThen fun a w₁=>(loadVar ty a).run P w₁:=by
 simp only [results,h];simp [Sem.run_bind]
theorem wG (W:World) (n:Nat) (h:W.heap.size=n) (cs:Array Value) (t:TypeId) (m:Nat) (hm:m≤cs.size):(W.alloc (.cells cs t)).there n 0 m:=fun j hj=>by
 rw [Nat.zero_add];exact⟨mJ W n h cs t j (by omega),bF W n h cs t j⟩
theorem de {W:World} {tmps:Array Value} {b:Nat} {a:Ax} {cs:List Value} (hp:tmps.getD 2 undef= .pointer (some ⟨b,0,none⟩)) (hc:Value.agg cs.toArray=dC a) (hl:cs.length=28) (ht:W.there b 0 28):
  (results Tryz.f17 tmps).run Tryz.prog (W.setCells b 0 cs)= .ok (dC a) (W.setCells b 0 cs):=by
 rw [nV Tryz.results17,hp, ←hc];show(loadVar 44 ⟨b,0,none⟩).run Tryz.prog (W.setCells b 0 cs)=_;exact run_loadVar_mid _ b 0 44 cs _ (World.rangeAt_setCells_same W b 0 cs (by rw [hl];exact ht)) Tryz.underlying44 rfl (by rw [hl];exact bP)
theorem fj (a:Ax):(#[.int .i64 a.k,.int .i64 a.si,.int .i64 a.st,.int .i64 a.sg,.int .i64 a.pi,.int .i64 a.ps,.int .i64 a.pm,.int .i64 a.pp,.int .i64 a.pc,.int .i64 a.rs,.int .i64 a.rp,.bool a.rn,.int .i64 a.rf,.int .i64 a.rb,.int .i64 a.rt,.int .i64 a.re,.int .i64 a.ro,.bool a.rd,.int .i64 a.n,.int .i64 a.m,.int .i64 a.f0,.int .i64 a.f1,.int .i64 a.f2,.int .i64 a.f3,.int .i64 a.f4,.int .i64 a.f5,.int .i64 a.f6,.string a.body]:Array Value).all (·.oneCell')=true:=by
 rw [show(#[.int .i64 a.k,.int .i64 a.si,.int .i64 a.st,.int .i64 a.sg,.int .i64 a.pi,.int .i64 a.ps,.int .i64 a.pm,.int .i64 a.pp,.int .i64 a.pc,.int .i64 a.rs,.int .i64 a.rp,.bool a.rn,.int .i64 a.rf,.int .i64 a.rb,.int .i64 a.rt,.int .i64 a.re,.int .i64 a.ro,.bool a.rd,.int .i64 a.n,.int .i64 a.m,.int .i64 a.f0,.int .i64 a.f1,.int .i64 a.f2,.int .i64 a.f3,.int .i64 a.f4,.int .i64 a.f5,.int .i64 a.f6,.string a.body]:Array Value)= [.int .i64 a.k,.int .i64 a.si,.int .i64 a.st,.int .i64 a.sg,.int .i64 a.pi,.int .i64 a.ps,.int .i64 a.pm,.int .i64 a.pp,.int .i64 a.pc,.int .i64 a.rs,.int .i64 a.rp,.bool a.rn,.int .i64 a.rf,.int .i64 a.rb,.int .i64 a.rt,.int .i64 a.re,.int .i64 a.ro,.bool a.rd,.int .i64 a.n,.int .i64 a.m,.int .i64 a.f0,.int .i64 a.f1,.int .i64 a.f2,.int .i64 a.f3,.int .i64 a.f4,.int .i64 a.f5,.int .i64 a.f6,.string a.body].toArray from rfl,List.all_toArray];rfl
theorem kZ (w:World) (k a b c:Int):∃W0,W0=((w.alloc (.cells #[.int .i64 k,.int .i64 a,.int .i64 b,.int .i64 c] 62)).alloc (.cells #[.int .i64 0,.int .i64 0,.int .i64 0,.int .i64 0,.int .i64 0,.int .i64 0,.int .i64 0,.int .i64 0,.int .i64 0,.int .i64 0,.int .i64 0,.bool false,.int .i64 0,.int .i64 0,.int .i64 0,.int .i64 0,.int .i64 0,.bool false,.int .i64 0,.int .i64 0,.int .i64 0,.int .i64 0,.int .i64 0,.int .i64 0,.int .i64 0,.int .i64 0,.int .i64 0,.string ⟨#[]⟩] 44))∧(W0.there (w.heap.size+1) 0 28∧Below w.heap.size w W0)∧W0.cell? ⟨w.heap.size,0,none⟩=some (.int .i64 k)∧W0.cell? ⟨w.heap.size,1,none⟩=some (.int .i64 a)∧W0.cell? ⟨w.heap.size,2,none⟩=some (.int .i64 b)∧W0.cell? ⟨w.heap.size,3,none⟩=some (.int .i64 c):=
 ⟨_,rfl,⟨wG _ _ (by simp) _ _ _ (by simp),((Below.refl _ _).alloc zr _).alloc (by simp) _⟩,aG (ah w _ rfl _ _ _ _ rfl) _,aG (ah w _ rfl _ _ _ _ rfl) _,aG (ah w _ rfl _ _ _ _ rfl) _,aG (ah w _ rfl _ _ _ _ rfl) _⟩
theorem vA (k a b c:Int) (w:World) (hk: -9223372036854775808≤k∧k≤9223372036854775807) (ha: -9223372036854775808≤a∧a≤9223372036854775807) (hb: -9223372036854775808≤b∧b≤9223372036854775807) (hc: -9223372036854775808≤c∧c≤9223372036854775807) (hq:pk k 16=12):
  Calls Tryz.prog 17 #[.agg #[.int .i64 k,.int .i64 a,.int .i64 b,.int .i64 c]] w fun e w'=>∃x:Ax,e= .returned (dC x)∧(x.si≤6∧x.body=⟨#[]⟩)∧Below w.heap.size w w':=by
 obtain⟨p00,p01⟩:=bE (a) 20 (by omega);obtain⟨hk0,hk1⟩:=hk;obtain⟨ha0,ha1⟩:=ha;obtain⟨hb0,hb1⟩:=hb;obtain⟨hc0,hc1⟩:=hc;obtain⟨pk0,pk1⟩:=bE k 16 (by omega);have u0:=aC (1+pk a 20) (by omega) (by omega);have hn1:¬pk k 16<3:=by omega
 have hn2:¬pk k 16<10:=by omega
 have hn3:¬pk k 16<12:=by omega
 obtain⟨_,rfl,⟨HT,HBE⟩, -⟩:=kZ w k a b c;go_enter Tryz.func17,Tryz.ntmps17;go_wp2_with (first |(go_at_call 18;refine(aI _ _ _ ?_ ?_ ?_ ?_).mono ?_;(first | omega | skip);(first | omega | skip);(first | omega | skip);(first | omega | skip);rintro e w' ⟨rfl,rfl⟩) |(refine wpList_store_mid rfl 44 _ _ rfl _ 0 _ rfl rfl ?_ bP ?_ ?_))
 ·exact HT
 ·exact fj ⟨4,0,0,0,0,0,0,0,0,0,0,false,0,0,0,0,0,false,1+pk a 20,0,0,0,0,0,0,0,0,⟨#[]⟩⟩
 refine bodyPost_ret (v:=dC ⟨4,0,0,0,0,0,0,0,0,0,0,false,0,0,0,0,0,false,1+pk a 20,0,0,0,0,0,0,0,0,⟨#[]⟩⟩) (de (b:=w.heap.size+1) rfl rfl rfl HT) rfl ⟨_,rfl,⟨?_,rfl⟩,?_⟩
 ·first |(simp;done) |(simp;omega)
 ·exact bS (Nat.le_succ _) _ _ _ HBE
theorem vL (k a b c:Int) (w:World) (hk: -9223372036854775808≤k∧k≤9223372036854775807) (ha: -9223372036854775808≤a∧a≤9223372036854775807) (hb: -9223372036854775808≤b∧b≤9223372036854775807) (hc: -9223372036854775808≤c∧c≤9223372036854775807) (hq:pk k 16=13):
  Calls Tryz.prog 17 #[.agg #[.int .i64 k,.int .i64 a,.int .i64 b,.int .i64 c]] w fun e w'=>∃x:Ax,e= .returned (dC x)∧(x.si≤6∧x.body=⟨#[]⟩)∧Below w.heap.size w w':=by
 obtain⟨p00,p01⟩:=bE (a) 4 (by omega);obtain⟨hk0,hk1⟩:=hk;obtain⟨ha0,ha1⟩:=ha;obtain⟨hb0,hb1⟩:=hb;obtain⟨hc0,hc1⟩:=hc;obtain⟨pk0,pk1⟩:=bE k 16 (by omega);have hn1:¬pk k 16<3:=by omega
 have hn2:¬pk k 16<10:=by omega
 have hn3:¬pk k 16<12:=by omega
 obtain⟨_,rfl,⟨HT,HBE⟩, -⟩:=kZ w k a b c;go_enter Tryz.func17,Tryz.ntmps17;go_wp2_with (first |(go_at_call 18;refine(aI _ _ _ ?_ ?_ ?_ ?_).mono ?_;(first | omega | skip);(first | omega | skip);(first | omega | skip);(first | omega | skip);rintro e w' ⟨rfl,rfl⟩) |(refine wpList_store_mid rfl 44 _ _ rfl _ 0 _ rfl rfl ?_ bP ?_ ?_))
 ·exact HT
 ·exact fj ⟨5,0,0,0,0,0,0,0,0,0,0,false,0,0,0,0,0,false,pk a 4,0,0,0,0,0,0,0,0,⟨#[]⟩⟩
 refine bodyPost_ret (v:=dC ⟨5,0,0,0,0,0,0,0,0,0,0,false,0,0,0,0,0,false,pk a 4,0,0,0,0,0,0,0,0,⟨#[]⟩⟩) (de (b:=w.heap.size+1) rfl rfl rfl HT) rfl ⟨_,rfl,⟨?_,rfl⟩,?_⟩
 ·first |(simp;done) |(simp;omega)
 ·exact bS (Nat.le_succ _) _ _ _ HBE
theorem wj (k a b c:Int) (w:World) (hk: -9223372036854775808≤k∧k≤9223372036854775807) (ha: -9223372036854775808≤a∧a≤9223372036854775807) (hb: -9223372036854775808≤b∧b≤9223372036854775807) (hc: -9223372036854775808≤c∧c≤9223372036854775807) (hq:13<pk k 16):
  Calls Tryz.prog 17 #[.agg #[.int .i64 k,.int .i64 a,.int .i64 b,.int .i64 c]] w fun e w'=>∃x:Ax,e= .returned (dC x)∧(x.si≤6∧x.body=⟨#[]⟩)∧Below w.heap.size w w':=by
 obtain⟨p00,p01⟩:=bE (a) 20 (by omega);obtain⟨p10,p11⟩:=bE (b) 5 (by omega);obtain⟨hk0,hk1⟩:=hk;obtain⟨ha0,ha1⟩:=ha;obtain⟨hb0,hb1⟩:=hb;obtain⟨hc0,hc1⟩:=hc;obtain⟨pk0,pk1⟩:=bE k 16 (by omega);have u0:=aC (1+pk a 20) (by omega) (by omega);have u1:=aC (pk b 5-1) (by omega) (by omega);have hn1:¬pk k 16<3:=by omega
 have hn2:¬pk k 16<10:=by omega
 have hn3:¬pk k 16<12:=by omega
 have hn4:¬pk k 16=12:=by omega
 have hn5:¬pk k 16=13:=by omega
 obtain⟨W0,hW0,⟨HT,HBE⟩,c0,c1,c2,c3⟩:=kZ w k a b c;have HW0:=aa hW0.symm;clear hW0;go_enter Tryz.func17,Tryz.ntmps17;go_wp2_with (first |(go_at_call 18;refine(aI _ _ _ ?_ ?_ ?_ ?_).mono ?_;(first | omega | skip);(first | omega | skip);(first | omega | skip);(first | omega | skip);rintro e w' ⟨rfl,rfl⟩))
 rw [HW0.out];clear HW0;have HTD:W0.drew.there (w.heap.size+1) 0 28:=HT;have cd0:W0.drew.cell? ⟨w.heap.size,0,none⟩=some (.int .i64 k):=c0;have cd1:W0.drew.cell? ⟨w.heap.size,1,none⟩=some (.int .i64 a):=c1;have cd2:W0.drew.cell? ⟨w.heap.size,2,none⟩=some (.int .i64 b):=c2;have cd3:W0.drew.cell? ⟨w.heap.size,3,none⟩=some (.int .i64 c):=c3;have HBD:Below w.heap.size w W0.drew:=HBE.drew;refine wp_region_held_drew (S:=(fun w'=>w'.cell? ⟨w.heap.size,0,none⟩=some (.int .i64 k)∧w'.cell? ⟨w.heap.size,1,none⟩=some (.int .i64 a)∧w'.cell? ⟨w.heap.size,2,none⟩=some (.int .i64 b)∧w'.cell? ⟨w.heap.size,3,none⟩=some (.int .i64 c))) (by kernel_rfl) ?hS1 (fun hHeld=>?hR1)
 case hS1=>(try dsimp only);go_keep
 refine sqA [(0,125),(1,126),(4,129),(5,130)] ?_;(iterate 4 (refine sqN rfl (by kernel_rfl) (fun _ _ _ h=>h) rfl ‹_› (by intro w h;go_simp <;>with_reducible rfl) ?_;simp only [nz]));refine sqZ ?_;refine rsq 2 127 (by kernel_rfl) rfl (fun K hK=>?_);go_simp;(go_at_call 18;refine(aI _ _ _ (by omega) (by omega) (by omega) (by omega)).mono ?_;rintro e w' ⟨rfl,rfl⟩)
 skip
 refine hK.out _ _ ?hS6 (fun hHeld=>?hR6)
 case hS6=>(try dsimp only);go_keep
 clear hK K;(try simp only [nz]);refine tq 3 128 rfl (by kernel_rfl) (fun _ _ _ h=>h) rfl ‹_› (by intro w h;go_simp <;>with_reducible rfl) ?_;simp only [nz];refine rsq 6 131 (by kernel_rfl) rfl (fun K hK=>?_);go_simp;(go_at_call 18;refine(aI _ _ _ (by omega) (by omega) (by omega) (by omega)).mono ?_;rintro e w' ⟨rfl,rfl⟩)
 skip
 refine hK.out _ _ ?hS8 (fun hHeld=>?hR8)
 case hS8=>(try dsimp only);go_keep
 clear hK K;(try simp only [nz]);refine sqA [(7,132),(8,133)] ?_;(iterate 2 (refine sqN rfl (by kernel_rfl) (fun _ _ _ h=>h) rfl ‹_› (by intro w h;go_simp <;>with_reducible rfl) ?_;simp only [nz]));refine sqZ ?_;refine rnq 9 (by kernel_rfl) rfl (fun K hK=>?_);refine wp_store_mid 44 (.tmp 2) (.tmp 133) rfl (w.heap.size+1) 0 _ rfl rfl HTD bP (fj ⟨6,0,0,0,0,0,0,0,0,0,0,false,0,0,0,0,0,false,1+pk a 20,pk b 5-1,0,0,0,0,0,0,0,⟨#[]⟩⟩) ?_;refine hK.out _ _ ?hS11 (fun hHeld=>?hR11)
 case hS11=>exact⟨(World.cell?_setCells_out _ _ _ _ _ (fun e=>absurd e (by simp))).trans cd0,(World.cell?_setCells_out _ _ _ _ _ (fun e=>absurd e (by simp))).trans cd1,(World.cell?_setCells_out _ _ _ _ _ (fun e=>absurd e (by simp))).trans cd2,(World.cell?_setCells_out _ _ _ _ _ (fun e=>absurd e (by simp))).trans cd3⟩
 clear hK K;refine wpAnyH_done (by kernel_rfl) ?_ _;go_wp2_with fail
 refine bodyPost_ret (v:=dC ⟨6,0,0,0,0,0,0,0,0,0,0,false,0,0,0,0,0,false,1+pk a 20,pk b 5-1,0,0,0,0,0,0,0,⟨#[]⟩⟩) (de (b:=w.heap.size+1) rfl rfl rfl HTD) rfl ⟨_,rfl,⟨?_,rfl⟩,?_⟩
 ·first |(simp;done) |(simp;omega)
 ·exact bS (Nat.le_succ _) _ _ _ HBD
theorem vj (k a b c:Int) (w:World) (hk: -9223372036854775808≤k∧k≤9223372036854775807) (ha: -9223372036854775808≤a∧a≤9223372036854775807) (hb: -9223372036854775808≤b∧b≤9223372036854775807) (hc: -9223372036854775808≤c∧c≤9223372036854775807) (hq:pk k 16<3):
  Calls Tryz.prog 17 #[.agg #[.int .i64 k,.int .i64 a,.int .i64 b,.int .i64 c]] w fun e w'=>∃x:Ax,e= .returned (dC x)∧(x.si≤6∧x.body=⟨#[]⟩)∧Below w.heap.size w w':=by
 obtain⟨p00,p01⟩:=bE (a) 6 (by omega);obtain⟨p10,p11⟩:=bE (b) 3 (by omega);obtain⟨p20,p21⟩:=bE (c) 3 (by omega);obtain⟨hk0,hk1⟩:=hk;obtain⟨ha0,ha1⟩:=ha;obtain⟨hb0,hb1⟩:=hb;obtain⟨hc0,hc1⟩:=hc;obtain⟨pk0,pk1⟩:=bE k 16 (by omega);have hm:0≤pk c 3*(100+pk a 6)∧pk c 3*(100+pk a 6)≤1000:=⟨Int.mul_nonneg (by omega) (by omega),Int.le_trans (Int.mul_le_mul_of_nonneg_right (show pk c 3≤2 by omega) (by omega)) (by omega)⟩;have u0:=aC (1+pk a 6) (by omega) (by omega);have u1:=aC (1+pk b 3) (by omega) (by omega);have u2:=aC (100+pk a 6) (by omega) (by omega);have u3:=aC (pk c 3*(100+pk a 6)) (by omega) (by omega);obtain⟨W0,hW0,⟨HT,HBE⟩,c0,c1,c2,c3⟩:=kZ w k a b c;have HW0:=aa hW0.symm;clear hW0;go_enter Tryz.func17,Tryz.ntmps17;go_wp2_with (first |(go_at_call 18;refine(aI _ _ _ ?_ ?_ ?_ ?_).mono ?_;(first | omega | skip);(first | omega | skip);(first | omega | skip);(first | omega | skip);rintro e w' ⟨rfl,rfl⟩))
 rw [HW0.out];clear HW0;have HTD:W0.drew.there (w.heap.size+1) 0 28:=HT;have cd0:W0.drew.cell? ⟨w.heap.size,0,none⟩=some (.int .i64 k):=c0;have cd1:W0.drew.cell? ⟨w.heap.size,1,none⟩=some (.int .i64 a):=c1;have cd2:W0.drew.cell? ⟨w.heap.size,2,none⟩=some (.int .i64 b):=c2;have cd3:W0.drew.cell? ⟨w.heap.size,3,none⟩=some (.int .i64 c):=c3;have HBD:Below w.heap.size w W0.drew:=HBE.drew;refine wp_region_held_drew (S:=(fun w'=>w'.cell? ⟨w.heap.size,0,none⟩=some (.int .i64 k)∧w'.cell? ⟨w.heap.size,1,none⟩=some (.int .i64 a)∧w'.cell? ⟨w.heap.size,2,none⟩=some (.int .i64 b)∧w'.cell? ⟨w.heap.size,3,none⟩=some (.int .i64 c))) (by kernel_rfl) ?hS12 (fun hHeld=>?hR12)
 case hS12=>(try dsimp only);go_keep
 refine sqA [(0,11),(1,12),(4,15),(5,16),(8,19),(9,20),(11,22),(12,23)] ?_;(iterate 8 (refine sqN rfl (by kernel_rfl) (fun _ _ _ h=>h) rfl ‹_› (by intro w h;go_simp <;>with_reducible rfl) ?_;simp only [nz]));refine sqZ ?_;refine rsq 2 13 (by kernel_rfl) rfl (fun K hK=>?_);go_simp;(go_at_call 18;refine(aI _ _ _ (by omega) (by omega) (by omega) (by omega)).mono ?_;rintro e w' ⟨rfl,rfl⟩)
 skip
 refine hK.out _ _ ?hS21 (fun hHeld=>?hR21)
 case hS21=>(try dsimp only);go_keep
 clear hK K;(try simp only [nz]);refine tq 3 14 rfl (by kernel_rfl) (fun _ _ _ h=>h) rfl ‹_› (by intro w h;go_simp <;>with_reducible rfl) ?_;simp only [nz];refine rsq 6 17 (by kernel_rfl) rfl (fun K hK=>?_);go_simp;(go_at_call 18;refine(aI _ _ _ (by omega) (by omega) (by omega) (by omega)).mono ?_;rintro e w' ⟨rfl,rfl⟩)
 skip
 refine hK.out _ _ ?hS23 (fun hHeld=>?hR23)
 case hS23=>(try dsimp only);go_keep
 clear hK K;(try simp only [nz]);refine tq 7 18 rfl (by kernel_rfl) (fun _ _ _ h=>h) rfl ‹_› (by intro w h;go_simp <;>with_reducible rfl) ?_;simp only [nz];refine rsq 10 21 (by kernel_rfl) rfl (fun K hK=>?_);go_simp;(go_at_call 18;refine(aI _ _ _ (by omega) (by omega) (by omega) (by omega)).mono ?_;rintro e w' ⟨rfl,rfl⟩)
 skip
 refine hK.out _ _ ?hS25 (fun hHeld=>?hR25)
 case hS25=>(try dsimp only);go_keep
 clear hK K;(try simp only [nz]);refine rsq 13 24 (by kernel_rfl) rfl (fun K hK=>?_);go_simp;(go_at_call 18;refine(aI _ _ _ (by omega) (by omega) (by omega) (by omega)).mono ?_;rintro e w' ⟨rfl,rfl⟩)
 skip
 refine hK.out _ _ ?hS26 (fun hHeld=>?hR26)
 case hS26=>(try dsimp only);go_keep
 clear hK K;(try simp only [nz]);refine sqA [(14,25),(15,26),(16,27),(17,28)] ?_;(iterate 4 (refine sqN rfl (by kernel_rfl) (fun _ _ _ h=>h) rfl ‹_› (by intro w h;go_simp <;>with_reducible rfl) ?_;simp only [nz]));refine sqZ ?_;refine rnq 18 (by kernel_rfl) rfl (fun K hK=>?_);refine wp_store_mid 44 (.tmp 2) (.tmp 28) rfl (w.heap.size+1) 0 _ rfl rfl HTD bP (fj ⟨1,1+pk a 6,1+pk b 3,pk c 3*(100+pk a 6),0,0,0,0,0,0,0,false,0,0,0,0,0,false,0,0,0,0,0,0,0,0,0,⟨#[]⟩⟩) ?_;refine hK.out _ _ ?hS31 (fun hHeld=>?hR31)
 case hS31=>exact⟨(World.cell?_setCells_out _ _ _ _ _ (fun e=>absurd e (by simp))).trans cd0,(World.cell?_setCells_out _ _ _ _ _ (fun e=>absurd e (by simp))).trans cd1,(World.cell?_setCells_out _ _ _ _ _ (fun e=>absurd e (by simp))).trans cd2,(World.cell?_setCells_out _ _ _ _ _ (fun e=>absurd e (by simp))).trans cd3⟩
 clear hK K;refine wpAnyH_done (by kernel_rfl) ?_ _;go_wp2_with fail
 refine bodyPost_ret (v:=dC ⟨1,1+pk a 6,1+pk b 3,pk c 3*(100+pk a 6),0,0,0,0,0,0,0,false,0,0,0,0,0,false,0,0,0,0,0,0,0,0,0,⟨#[]⟩⟩) (de (b:=w.heap.size+1) rfl rfl rfl HTD) rfl ⟨_,rfl,⟨?_,rfl⟩,?_⟩
 ·first |(simp;done) |(simp;omega)
 ·exact bS (Nat.le_succ _) _ _ _ HBD
theorem wE (k a b c:Int) (w:World) (hk: -9223372036854775808≤k∧k≤9223372036854775807) (ha: -9223372036854775808≤a∧a≤9223372036854775807) (hb: -9223372036854775808≤b∧b≤9223372036854775807) (hc: -9223372036854775808≤c∧c≤9223372036854775807) (hq:¬pk k 16<3∧pk k 16<10):
  Calls Tryz.prog 17 #[.agg #[.int .i64 k,.int .i64 a,.int .i64 b,.int .i64 c]] w fun e w'=>∃x:Ax,e= .returned (dC x)∧(x.si≤6∧x.body=⟨#[]⟩)∧Below w.heap.size w w':=by
 have tb6:=eG b 6 (by omega) hb.1 hb.2;have vb6:=aC _ tb6.1 tb6.2;have ta20:=eG a 20 (by omega) ha.1 ha.2;have va20:=aC _ ta20.1 ta20.2;obtain⟨p00,p01⟩:=bE (a) 20 (by omega);obtain⟨p10,p11⟩:=bE (b) 6 (by omega);obtain⟨p20,p21⟩:=bE (c) 9 (by omega);obtain⟨p30,p31⟩:=bE (c) 30 (by omega);obtain⟨p40,p41⟩:=bE (b.tdiv 6) 4 (by omega);obtain⟨p50,p51⟩:=bE (a.tdiv 20) 2 (by omega);obtain⟨hk0,hk1⟩:=hk;obtain⟨ha0,ha1⟩:=ha;obtain⟨hb0,hb1⟩:=hb;obtain⟨hc0,hc1⟩:=hc;obtain⟨pk0,pk1⟩:=bE k 16 (by omega);have u0:=aC (1+pk a 20) (by omega) (by omega);have u1:=aC (1+pk b 6) (by omega) (by omega);have u2:=aC (1+pk c 9) (by omega) (by omega);have u3:=aC (1+pk c 30) (by omega) (by omega);have u4:=aC (pk (b.tdiv 6) 4-1) (by omega) (by omega);have u5:=aC (pk (b.tdiv 6) 4-1+pk (a.tdiv 20) 2) (by omega) (by omega);obtain⟨hq1,hq2⟩:=hq;obtain⟨W0,hW0,⟨HT,HBE⟩,c0,c1,c2,c3⟩:=kZ w k a b c;have HW0:=aa hW0.symm;clear hW0;go_enter Tryz.func17,Tryz.ntmps17;go_wp2_with (first |(go_at_call 18;refine(aI _ _ _ ?_ ?_ ?_ ?_).mono ?_;(first | omega | skip);(first | omega | skip);(first | omega | skip);(first | omega | skip);rintro e w' ⟨rfl,rfl⟩))
 rw [HW0.out];clear HW0;have HTD:W0.drew.there (w.heap.size+1) 0 28:=HT;have cd0:W0.drew.cell? ⟨w.heap.size,0,none⟩=some (.int .i64 k):=c0;have cd1:W0.drew.cell? ⟨w.heap.size,1,none⟩=some (.int .i64 a):=c1;have cd2:W0.drew.cell? ⟨w.heap.size,2,none⟩=some (.int .i64 b):=c2;have cd3:W0.drew.cell? ⟨w.heap.size,3,none⟩=some (.int .i64 c):=c3;have HBD:Below w.heap.size w W0.drew:=HBE.drew;refine wp_region_held_drew (S:=(fun w'=>w'.cell? ⟨w.heap.size,0,none⟩=some (.int .i64 k)∧w'.cell? ⟨w.heap.size,1,none⟩=some (.int .i64 a)∧w'.cell? ⟨w.heap.size,2,none⟩=some (.int .i64 b)∧w'.cell? ⟨w.heap.size,3,none⟩=some (.int .i64 c))) (by kernel_rfl) ?hS32 (fun hHeld=>?hR32)
 case hS32=>(try dsimp only);go_keep
 refine sqA [(0,32),(1,33),(4,36),(5,37),(8,40),(9,41),(12,44),(13,45),(16,48),(17,49),(18,50),(21,53),(22,54),(23,55)] ?_;(iterate 14 (refine sqN rfl (by kernel_rfl) (fun _ _ _ h=>h) rfl ‹_› (by intro w h;go_simp <;>with_reducible rfl) ?_;simp only [nz]));refine sqZ ?_;refine rsq 2 34 (by kernel_rfl) rfl (fun K hK=>?_);go_simp;(go_at_call 18;refine(aI _ _ _ (by omega) (by omega) (by omega) (by omega)).mono ?_;rintro e w' ⟨rfl,rfl⟩)
 skip
 refine hK.out _ _ ?hS47 (fun hHeld=>?hR47)
 case hS47=>(try dsimp only);go_keep
 clear hK K;(try simp only [nz]);refine tq 3 35 rfl (by kernel_rfl) (fun _ _ _ h=>h) rfl ‹_› (by intro w h;go_simp <;>with_reducible rfl) ?_;simp only [nz];refine rsq 6 38 (by kernel_rfl) rfl (fun K hK=>?_);go_simp;(go_at_call 18;refine(aI _ _ _ (by omega) (by omega) (by omega) (by omega)).mono ?_;rintro e w' ⟨rfl,rfl⟩)
 skip
 refine hK.out _ _ ?hS49 (fun hHeld=>?hR49)
 case hS49=>(try dsimp only);go_keep
 clear hK K;(try simp only [nz]);refine tq 7 39 rfl (by kernel_rfl) (fun _ _ _ h=>h) rfl ‹_› (by intro w h;go_simp <;>with_reducible rfl) ?_;simp only [nz];refine rsq 10 42 (by kernel_rfl) rfl (fun K hK=>?_);go_simp;(go_at_call 18;refine(aI _ _ _ (by omega) (by omega) (by omega) (by omega)).mono ?_;rintro e w' ⟨rfl,rfl⟩)
 skip
 refine hK.out _ _ ?hS51 (fun hHeld=>?hR51)
 case hS51=>(try dsimp only);go_keep
 clear hK K;(try simp only [nz]);refine tq 11 43 rfl (by kernel_rfl) (fun _ _ _ h=>h) rfl ‹_› (by intro w h;go_simp <;>with_reducible rfl) ?_;simp only [nz];refine rsq 14 46 (by kernel_rfl) rfl (fun K hK=>?_);go_simp;(go_at_call 18;refine(aI _ _ _ (by omega) (by omega) (by omega) (by omega)).mono ?_;rintro e w' ⟨rfl,rfl⟩)
 skip
 refine hK.out _ _ ?hS53 (fun hHeld=>?hR53)
 case hS53=>(try dsimp only);go_keep
 clear hK K;(try simp only [nz]);refine tq 15 47 rfl (by kernel_rfl) (fun _ _ _ h=>h) rfl ‹_› (by intro w h;go_simp <;>with_reducible rfl) ?_;simp only [nz];refine rsq 19 51 (by kernel_rfl) rfl (fun K hK=>?_);go_simp;(go_at_call 18;refine(aI _ _ _ (by omega) (by omega) (by omega) (by omega)).mono ?_;rintro e w' ⟨rfl,rfl⟩)
 skip
 refine hK.out _ _ ?hS55 (fun hHeld=>?hR55)
 case hS55=>(try dsimp only);go_keep
 clear hK K;(try simp only [nz]);refine tq 20 52 rfl (by kernel_rfl) (fun _ _ _ h=>h) rfl ‹_› (by intro w h;go_simp <;>with_reducible rfl) ?_;simp only [nz];refine rsq 24 56 (by kernel_rfl) rfl (fun K hK=>?_);go_simp;(go_at_call 18;refine(aI _ _ _ (by omega) (by omega) (by omega) (by omega)).mono ?_;rintro e w' ⟨rfl,rfl⟩)
 skip
 refine hK.out _ _ ?hS57 (fun hHeld=>?hR57)
 case hS57=>(try dsimp only);go_keep
 clear hK K;(try simp only [nz]);refine sqA [(25,57),(26,58),(27,59)] ?_;(iterate 3 (refine sqN rfl (by kernel_rfl) (fun _ _ _ h=>h) rfl ‹_› (by intro w h;go_simp <;>with_reducible rfl) ?_;simp only [nz]));refine sqZ ?_;refine rnq 28 (by kernel_rfl) rfl (fun K hK=>?_);refine wp_store_mid 44 (.tmp 2) (.tmp 59) rfl (w.heap.size+1) 0 _ rfl rfl HTD bP (fj ⟨2,0,0,0,1+pk a 20,1+pk b 6,1+pk c 9,1+pk c 30,pk (b.tdiv 6) 4-1+pk (a.tdiv 20) 2,0,0,false,0,0,0,0,0,false,0,0,0,0,0,0,0,0,0,⟨#[]⟩⟩) ?_;refine hK.out _ _ ?hS61 (fun hHeld=>?hR61)
 case hS61=>exact⟨(World.cell?_setCells_out _ _ _ _ _ (fun e=>absurd e (by simp))).trans cd0,(World.cell?_setCells_out _ _ _ _ _ (fun e=>absurd e (by simp))).trans cd1,(World.cell?_setCells_out _ _ _ _ _ (fun e=>absurd e (by simp))).trans cd2,(World.cell?_setCells_out _ _ _ _ _ (fun e=>absurd e (by simp))).trans cd3⟩
 clear hK K;refine wpAnyH_done (by kernel_rfl) ?_ _;go_wp2_with fail
 refine bodyPost_ret (v:=dC ⟨2,0,0,0,1+pk a 20,1+pk b 6,1+pk c 9,1+pk c 30,pk (b.tdiv 6) 4-1+pk (a.tdiv 20) 2,0,0,false,0,0,0,0,0,false,0,0,0,0,0,0,0,0,0,⟨#[]⟩⟩) (de (b:=w.heap.size+1) rfl rfl rfl HTD) rfl ⟨_,rfl,⟨?_,rfl⟩,?_⟩
 ·first |(simp;done) |(simp;omega)
 ·exact bS (Nat.le_succ _) _ _ _ HBD
theorem wm (k a b c:Int) (w:World) (hk: -9223372036854775808≤k∧k≤9223372036854775807) (ha: -9223372036854775808≤a∧a≤9223372036854775807) (hb: -9223372036854775808≤b∧b≤9223372036854775807) (hc: -9223372036854775808≤c∧c≤9223372036854775807) (hq:¬pk k 16<10∧pk k 16<12):
  Calls Tryz.prog 17 #[.agg #[.int .i64 k,.int .i64 a,.int .i64 b,.int .i64 c]] w fun e w'=>∃x:Ax,e= .returned (dC x)∧(x.si≤6∧x.body=⟨#[]⟩)∧Below w.heap.size w w':=by
 have tb5:=eG b 5 (by omega) hb.1 hb.2;have vb5:=aC _ tb5.1 tb5.2;have tc2:=eG c 2 (by omega) hc.1 hc.2;have vc2:=aC _ tc2.1 tc2.2;have tc6:=eG c 6 (by omega) hc.1 hc.2;have vc6:=aC _ tc6.1 tc6.2;have ta6:=eG a 6 (by omega) ha.1 ha.2;have va6:=aC _ ta6.1 ta6.2;have tc12:=eG c 12 (by omega) hc.1 hc.2;have vc12:=aC _ tc12.1 tc12.2;have tb20:=eG b 20 (by omega) hb.1 hb.2;have vb20:=aC _ tb20.1 tb20.2;obtain⟨p00,p01⟩:=bE (a) 6 (by omega);obtain⟨p10,p11⟩:=bE (b) 5 (by omega);obtain⟨p20,p21⟩:=bE (c) 2 (by omega);obtain⟨p30,p31⟩:=bE (b.tdiv 5) 4 (by omega);obtain⟨p40,p41⟩:=bE (c.tdiv 2) 3 (by omega);obtain⟨p50,p51⟩:=bE (c.tdiv 6) 2 (by omega);obtain⟨p60,p61⟩:=bE (a.tdiv 6) 30 (by omega);obtain⟨p70,p71⟩:=bE (c.tdiv 12) 3 (by omega);obtain⟨p80,p81⟩:=bE (b.tdiv 20) 8 (by omega);obtain⟨hk0,hk1⟩:=hk;obtain⟨ha0,ha1⟩:=ha;obtain⟨hb0,hb1⟩:=hb;obtain⟨hc0,hc1⟩:=hc;obtain⟨pk0,pk1⟩:=bE k 16 (by omega);have u0:=aC (1+pk a 6) (by omega) (by omega);have u1:=aC (pk (b.tdiv 5) 4-1) (by omega) (by omega);have u2:=aC (pk (b.tdiv 20) 8*4) (by omega) (by omega);obtain⟨hq1,hq2⟩:=hq;have hn1:¬pk k 16<3:=by omega
 obtain⟨W0,hW0,⟨HT,HBE⟩,c0,c1,c2,c3⟩:=kZ w k a b c;have HW0:=aa hW0.symm;clear hW0;go_enter Tryz.func17,Tryz.ntmps17;go_wp2_with (first |(go_at_call 18;refine(aI _ _ _ ?_ ?_ ?_ ?_).mono ?_;(first | omega | skip);(first | omega | skip);(first | omega | skip);(first | omega | skip);rintro e w' ⟨rfl,rfl⟩))
 rw [HW0.out];clear HW0;have hlt:w.heap.size+1<W0.heap.size:=aq (Option.isSome_iff_exists.1 (HT 0 (by omega)).1).choose_spec;go_region_held3 (fun w'=>w'.cell? ⟨w.heap.size,0,none⟩=some (.int .i64 k)∧w'.cell? ⟨w.heap.size,1,none⟩=some (.int .i64 a)∧w'.cell? ⟨w.heap.size,2,none⟩=some (.int .i64 b)∧w'.cell? ⟨w.heap.size,3,none⟩=some (.int .i64 c)) (go_keep) (first |(go_at_call 18;refine(aI _ _ _ ?_ ?_ ?_ ?_).mono ?_;(first | omega | skip);(first | omega | skip);(first | omega | skip);(first | omega | skip);rintro e w' ⟨rfl,rfl⟩))
 all_goals
  obtain⟨W1,hW1⟩:∃W1,W1=(W0.alloc (.cells #[.int .i64 (1+pk a 6),.int .i64 (pk b 5),.bool (pk c 2==0),.int .i64 0,.int .i64 0,.int .i64 0,.int .i64 0,.int .i64 (pk (b.tdiv 5) 4-1),.bool (decide (0<pk (c.tdiv 2) 3))] 40)).drew:=⟨_,rfl⟩;obtain⟨ab,hab⟩:∃ab,ab=W0.heap.size:=⟨_,rfl⟩;rw [←hW1, ←hab];have d0:W1.cell? ⟨ab,0,none⟩=some (.int .i64 (1+pk a 6)):=by rw [hW1,hab];exact ah W0 _ rfl _ _ _ _ rfl
  have d1:W1.cell? ⟨ab,1,none⟩=some (.int .i64 (pk b 5)):=by rw [hW1,hab];exact ah W0 _ rfl _ _ _ _ rfl
  have d2:W1.cell? ⟨ab,2,none⟩=some (.bool (pk c 2==0)):=by rw [hW1,hab];exact ah W0 _ rfl _ _ _ _ rfl
  have d3:W1.cell? ⟨ab,3,none⟩=some (.int .i64 0):=by rw [hW1,hab];exact ah W0 _ rfl _ _ _ _ rfl
  have d4:W1.cell? ⟨ab,4,none⟩=some (.int .i64 0):=by rw [hW1,hab];exact ah W0 _ rfl _ _ _ _ rfl
  have d5:W1.cell? ⟨ab,5,none⟩=some (.int .i64 0):=by rw [hW1,hab];exact ah W0 _ rfl _ _ _ _ rfl
  have d6:W1.cell? ⟨ab,6,none⟩=some (.int .i64 0):=by rw [hW1,hab];exact ah W0 _ rfl _ _ _ _ rfl
  have d7:W1.cell? ⟨ab,7,none⟩=some (.int .i64 (pk (b.tdiv 5) 4-1)):=by rw [hW1,hab];exact ah W0 _ rfl _ _ _ _ rfl
  have d8:W1.cell? ⟨ab,8,none⟩=some (.bool (decide (0<pk (c.tdiv 2) 3))):=by rw [hW1,hab];exact ah W0 _ rfl _ _ _ _ rfl
  have z3:W1.frozen? ⟨ab,3,none⟩=false:=by rw [hW1,hab];exact bF W0 _ rfl _ _ _
  have z4:W1.frozen? ⟨ab,4,none⟩=false:=by rw [hW1,hab];exact bF W0 _ rfl _ _ _
  have z5:W1.frozen? ⟨ab,5,none⟩=false:=by rw [hW1,hab];exact bF W0 _ rfl _ _ _
  have z6:W1.frozen? ⟨ab,6,none⟩=false:=by rw [hW1,hab];exact bF W0 _ rfl _ _ _
  have B1:Below W0.heap.size W0 W1:=by rw [hW1];exact((Below.refl _ _).alloc zr _).drew
  have e0:=zC c0 B1;have e1:=zC c1 B1;have e2:=zC c2 B1;have e3:=zC c3 B1;have HT1:W1.there (w.heap.size+1) 0 28:=fun j hj=>⟨by rw [show W1.cell? ⟨w.heap.size+1,0+j,none⟩=W0.cell? ⟨w.heap.size+1,0+j,none⟩from B1.cell (p:=⟨w.heap.size+1,0+j,none⟩) hlt];exact(HT j hj).1,(B1.frozen (p:=⟨w.heap.size+1,0+j,none⟩) hlt).trans (HT j hj).2⟩;have HBE1:Below w.heap.size w W1:=HBE.trans (B1.mono HBE.size);have hn2:w.heap.size+1<ab:=(by omega);have hn3:¬ab=w.heap.size:=(by omega);have hn4:¬w.heap.size=ab:=(by omega);have hn5:w.heap.size≤ab:=(by omega);clear hW1 hab c0 c1 c2 c3 HT HBE B1 hlt;by_cases g1:pk (c.tdiv 6) 2=0
  ·by_cases g2:pk (c.tdiv 12) 3=0
   ·go_wp2_with (first |(go_at_call 18;refine(aI _ _ _ ?_ ?_ ?_ ?_).mono ?_;(first | omega | skip);(first | omega | skip);(first | omega | skip);(first | omega | skip);rintro e w' ⟨rfl,rfl⟩) |(refine wpList_store_mid rfl 44 _ _ rfl _ 0 _ rfl rfl ?_ bP ?_ ?_))
    ·exact(World.there_setCells (World.there_setCells (World.there_setCells (World.there_setCells HT1 ab 3 [.int .i64 (pk (a.tdiv 6) 30)]) ab 4 [.int .i64 16]) ab 5 [.int .i64 (pk (b.tdiv 20) 8*4)]) ab 6 [.int .i64 14])
    ·exact fj ⟨3,0,0,0,0,0,0,0,0,1+pk a 6,pk b 5,pk c 2==0,pk (a.tdiv 6) 30,16,pk (b.tdiv 20) 8*4,14,pk (b.tdiv 5) 4-1,decide (0<pk (c.tdiv 2) 3),0,0,0,0,0,0,0,0,0,⟨#[]⟩⟩
    refine bodyPost_ret (v:=dC ⟨3,0,0,0,0,0,0,0,0,1+pk a 6,pk b 5,pk c 2==0,pk (a.tdiv 6) 30,16,pk (b.tdiv 20) 8*4,14,pk (b.tdiv 5) 4-1,decide (0<pk (c.tdiv 2) 3),0,0,0,0,0,0,0,0,0,⟨#[]⟩⟩) (de (b:=w.heap.size+1) rfl rfl rfl (World.there_setCells (World.there_setCells (World.there_setCells (World.there_setCells HT1 ab 3 [.int .i64 (pk (a.tdiv 6) 30)]) ab 4 [.int .i64 16]) ab 5 [.int .i64 (pk (b.tdiv 20) 8*4)]) ab 6 [.int .i64 14])) rfl ⟨_,rfl,⟨?_,rfl⟩,?_⟩
    ·simp
    ·exact bS (Nat.le_succ _) _ _ _ ((((HBE1.setCell (p:=⟨ab,3,none⟩) hn5 (.int .i64 (pk (a.tdiv 6) 30))).setCell (p:=⟨ab,4,none⟩) hn5 (.int .i64 16)).setCell (p:=⟨ab,5,none⟩) hn5 (.int .i64 (pk (b.tdiv 20) 8*4))).setCell (p:=⟨ab,6,none⟩) hn5 (.int .i64 14))
   ·go_wp2_with (first |(go_at_call 18;refine(aI _ _ _ ?_ ?_ ?_ ?_).mono ?_;(first | omega | skip);(first | omega | skip);(first | omega | skip);(first | omega | skip);rintro e w' ⟨rfl,rfl⟩) |(refine wpList_store_mid rfl 44 _ _ rfl _ 0 _ rfl rfl ?_ bP ?_ ?_))
    ·exact(World.there_setCells (World.there_setCells HT1 ab 3 [.int .i64 (pk (a.tdiv 6) 30)]) ab 4 [.int .i64 16])
    ·exact fj ⟨3,0,0,0,0,0,0,0,0,1+pk a 6,pk b 5,pk c 2==0,pk (a.tdiv 6) 30,16,0,0,pk (b.tdiv 5) 4-1,decide (0<pk (c.tdiv 2) 3),0,0,0,0,0,0,0,0,0,⟨#[]⟩⟩
    refine bodyPost_ret (v:=dC ⟨3,0,0,0,0,0,0,0,0,1+pk a 6,pk b 5,pk c 2==0,pk (a.tdiv 6) 30,16,0,0,pk (b.tdiv 5) 4-1,decide (0<pk (c.tdiv 2) 3),0,0,0,0,0,0,0,0,0,⟨#[]⟩⟩) (de (b:=w.heap.size+1) rfl rfl rfl (World.there_setCells (World.there_setCells HT1 ab 3 [.int .i64 (pk (a.tdiv 6) 30)]) ab 4 [.int .i64 16])) rfl ⟨_,rfl,⟨?_,rfl⟩,?_⟩
    ·simp
    ·exact bS (Nat.le_succ _) _ _ _ ((HBE1.setCell (p:=⟨ab,3,none⟩) hn5 (.int .i64 (pk (a.tdiv 6) 30))).setCell (p:=⟨ab,4,none⟩) hn5 (.int .i64 16))
  ·by_cases g2:pk (c.tdiv 12) 3=0
   ·go_wp2_with (first |(go_at_call 18;refine(aI _ _ _ ?_ ?_ ?_ ?_).mono ?_;(first | omega | skip);(first | omega | skip);(first | omega | skip);(first | omega | skip);rintro e w' ⟨rfl,rfl⟩) |(refine wpList_store_mid rfl 44 _ _ rfl _ 0 _ rfl rfl ?_ bP ?_ ?_))
    ·exact(World.there_setCells (World.there_setCells HT1 ab 5 [.int .i64 (pk (b.tdiv 20) 8*4)]) ab 6 [.int .i64 14])
    ·exact fj ⟨3,0,0,0,0,0,0,0,0,1+pk a 6,pk b 5,pk c 2==0,0,0,pk (b.tdiv 20) 8*4,14,pk (b.tdiv 5) 4-1,decide (0<pk (c.tdiv 2) 3),0,0,0,0,0,0,0,0,0,⟨#[]⟩⟩
    refine bodyPost_ret (v:=dC ⟨3,0,0,0,0,0,0,0,0,1+pk a 6,pk b 5,pk c 2==0,0,0,pk (b.tdiv 20) 8*4,14,pk (b.tdiv 5) 4-1,decide (0<pk (c.tdiv 2) 3),0,0,0,0,0,0,0,0,0,⟨#[]⟩⟩) (de (b:=w.heap.size+1) rfl rfl rfl (World.there_setCells (World.there_setCells HT1 ab 5 [.int .i64 (pk (b.tdiv 20) 8*4)]) ab 6 [.int .i64 14])) rfl ⟨_,rfl,⟨?_,rfl⟩,?_⟩
    ·simp
    ·exact bS (Nat.le_succ _) _ _ _ ((HBE1.setCell (p:=⟨ab,5,none⟩) hn5 (.int .i64 (pk (b.tdiv 20) 8*4))).setCell (p:=⟨ab,6,none⟩) hn5 (.int .i64 14))
   ·go_wp2_with (first |(go_at_call 18;refine(aI _ _ _ ?_ ?_ ?_ ?_).mono ?_;(first | omega | skip);(first | omega | skip);(first | omega | skip);(first | omega | skip);rintro e w' ⟨rfl,rfl⟩) |(refine wpList_store_mid rfl 44 _ _ rfl _ 0 _ rfl rfl ?_ bP ?_ ?_))
    ·exact HT1
    ·exact fj ⟨3,0,0,0,0,0,0,0,0,1+pk a 6,pk b 5,pk c 2==0,0,0,0,0,pk (b.tdiv 5) 4-1,decide (0<pk (c.tdiv 2) 3),0,0,0,0,0,0,0,0,0,⟨#[]⟩⟩
    refine bodyPost_ret (v:=dC ⟨3,0,0,0,0,0,0,0,0,1+pk a 6,pk b 5,pk c 2==0,0,0,0,0,pk (b.tdiv 5) 4-1,decide (0<pk (c.tdiv 2) 3),0,0,0,0,0,0,0,0,0,⟨#[]⟩⟩) (de (b:=w.heap.size+1) rfl rfl rfl HT1) rfl ⟨_,rfl,⟨?_,rfl⟩,?_⟩
    ·simp
    ·exact bS (Nat.le_succ _) _ _ _ HBE1
theorem mZ (x:Int×Int×Int×Int) (w:World) (hk: -9223372036854775808≤x.1∧x.1≤9223372036854775807) (ha: -9223372036854775808≤x.2.1∧x.2.1≤9223372036854775807) (hb: -9223372036854775808≤x.2.2.1∧x.2.2.1≤9223372036854775807) (hc: -9223372036854775808≤x.2.2.2∧x.2.2.2≤9223372036854775807):
  Calls Tryz.prog 17 #[.agg #[.int .i64 x.1,.int .i64 x.2.1,.int .i64 x.2.2.1,.int .i64 x.2.2.2]] w fun e w'=>∃x:Ax,e= .returned (dC x)∧(x.si≤6∧x.body=⟨#[]⟩)∧Below w.heap.size w w':=by
 obtain⟨p0,p1⟩:=bE x.1 16 (by omega);rcases(show pk x.1 16<3∨(¬pk x.1 16<3∧pk x.1 16<10)∨(¬pk x.1 16<10∧pk x.1 16<12)∨pk x.1 16=12∨pk x.1 16=13∨13<pk x.1 16 by omega)with h | h | h | h | h | h
 ·exact vj _ _ _ _ w hk ha hb hc h
 ·exact wE _ _ _ _ w hk ha hb hc h
 ·exact wm _ _ _ _ w hk ha hb hc h
 ·exact vA _ _ _ _ w hk ha hb hc h
 ·exact vL _ _ _ _ w hk ha hb hc h
 ·exact wj _ _ _ _ w hk ha hb hc h
section
open Go.ChangeShapes Go.WideShapes Go.ChangeAt Go.RowKit
theorem yI {w:World} {base n:Nat} {a:Addr} {cs:List Value} (hn:0<n) (h:w.cells? base (a.add 0) n=some cs):a.spot=none:=by
 obtain⟨_,hlen,hc⟩:=World.cells?_some h;have h0:=hc 0 hn;have e:(a.add 0).add 0=a:=by simp [Addr.add]
 rw [e]at h0;have hs:∃c,cs[0]? =some c:=⟨cs[0],by simp [List.getElem?_eq_getElem (show 0<cs.length by omega)]⟩;obtain⟨c,hs⟩:=hs;rw [hs]at h0;exact World.cell?_spot h0
section
variable {H:Type} {enc:TypeId×Value→H} {w:World} {base:Nat} {spare:Nat→Bool} {held:Bool}
theorem wB {α:Type} [Inhabited α] {C:α→List Value} {sz:Nat} {t e:TypeId} {fuel:Nat} {cs:List Value} {y:DataW H×List MemPlace} (ht:Tryz.prog.underlying t=some (.slice e)) (hc:Tryz.prog.cellsOf e=sz) (hs:0<sz)
  (hel:∀n cs' z,DataW.trod enc Tryz.prog w base spare held n e cs'=some z→∃x:α,cs'=C x) (h:DataW.trod enc Tryz.prog w base spare held fuel t cs=some y):
  ∃v l,cs= [v]∧RowAt C sz w v l∧(l.length=0∨∃elems sp,y.1= .slice elems sp∧elems.length=l.length):=by
 rcases Deep.open_slice ht h with⟨rfl,_⟩ |⟨a,len,cap,m,n,D,Pl,rfl,_,hl,_,hm,hd,hx⟩
 ·exact⟨_,[],rfl,RowAt.nil _ _ _,.inl rfl⟩
 ·have hlm:len≤m:=by rw [hm];split <;>omega
  rw [hc]at hx;by_cases hz:len=0
  ·subst hz;exact⟨_,[],rfl,⟨some a,cap,rfl,fun h=>by simp at h,.inl rfl⟩,.inl rfl⟩
  ·obtain⟨b,off,spot⟩:=a;obtain⟨cs0,hcs0,_⟩:=hx 0 (by omega);rw [Nat.zero_mul]at hcs0;have hsp:spot=none:=yI (a:=⟨b,off,spot⟩) hs hcs0;subst hsp;obtain⟨F,hF⟩:=Deep.choose_lt (α:=α) (n:=len) (p:=fun i x=>∀j u,(C x)[j]? =some u→w.cell? ⟨b,off+i*sz+j,none⟩=some u) (fun i hi=>by
    obtain⟨cs',hcs',htr⟩:=hx i (by omega);obtain⟨x,rfl⟩:=hel _ _ _ htr;refine⟨x,fun j u hu=>?_⟩;obtain⟨_,hlen,hcell⟩:=World.cells?_some hcs';have hj:j<sz:=by
     rcases Nat.lt_or_ge j (C x).length with h | h
     ·omega
     ·simp [List.getElem?_eq_none h]at hu
    have:=hcell j hj;rw [gC,gC]at this;rw [this];exact hu)
   have hll:((List.range len).map F).length=len:=(by simp);refine⟨_,(List.range len).map F,rfl,⟨some ⟨b,off,none⟩,cap,by rw [hll],fun h=>by simp at h,.inr ⟨b,off,rfl,by rw [hll];exact hl,fun i x hx=>?_⟩⟩,.inr ⟨_,_,by rw [hd],by simp⟩⟩;have hi:i<len:=by
    rcases Nat.lt_or_ge i len with h | h
    ·exact h
    ·simp [List.getElem?_eq_none (show((List.range len).map F).length≤i by omega)]at hx
   have:x=F i:=by
    rw [List.getElem?_map,List.getElem?_range hi]at hx;simpa using hx.symm
   subst this;exact hF i hi
instance:Inhabited Sw:=⟨sw0⟩
instance:Inhabited Pr:=⟨pr0⟩
instance:Inhabited Ac:=⟨ac0⟩
end
end
section
open Go.ChangeShapes Go.WideShapes Go.ChangeAt Go.RowKit
theorem pK {n:Int} (h:(Lit.int .i64 n).wf=true): -9223372036854775808≤n∧n≤9223372036854775807:=by
 simpa [Lit.wf,IntKind.min,IntKind.max,IntKind.signed,IntKind.bits] using h
end
section
open Go.ChangeShapes Go.WideShapes Go.ChangeAt Go.RowKit
def W64 (n:Int):Prop:= -9223372036854775808≤n∧n≤9223372036854775807
structure Rw where
 k:Int
 a:Int
 b:Int
 c:Int
 ok:W64 k∧W64 a∧W64 b∧W64 c
def rw0:Rw:=⟨0,0,0,0,by simp [W64]⟩
instance:Inhabited Rw:=⟨rw0⟩
def rwC (x:Rw):List Value:=[.int .i64 x.k,.int .i64 x.a,.int .i64 x.b,.int .i64 x.c]
theorem Al {H:Type} {enc:TypeId×Value→H} {w:World} {base:Nat} {spare:Nat→Bool} {held:Bool} {n:Nat} {cs:List Value} {z:DataW H×List MemPlace} (h:DataW.trod enc Tryz.prog w base spare held n 62 cs=some z):∃x:Rw,cs=rwC x:=by
 obtain⟨xs,n',_,_,hcl,hlen,hf⟩:=DataW.trod_struct Tryz.underlying62 h;rw [show Tryz.prog.cellsOf 62=4 by kernel_rfl]at hcl;have h3:xs.length=4:=by simpa using hlen
 obtain⟨c0,c1,c2,c3,hcs⟩:∃c0 c1 c2 c3,cs= [c0,c1,c2,c3]:=by
  match cs,hcl with
  | [c0,c1,c2,c3],_=>exact⟨c0,c1,c2,c3,rfl⟩
 subst hcs;obtain⟨n0,rfl,w0⟩:=jM (i:=0) (by omega) (hf 0 _ rfl);obtain⟨n1,rfl,w1⟩:=jM (i:=1) (by omega) (hf 1 _ rfl);obtain⟨n2,rfl,w2⟩:=jM (i:=2) (by omega) (hf 2 _ rfl);obtain⟨n3,rfl,w3⟩:=jM (i:=3) (by omega) (hf 3 _ rfl);exact⟨⟨n0,n1,n2,n3,pK w0,pK w1,pK w2,pK w3⟩,rfl⟩
theorem oR {H:Type} {enc:TypeId×Value→H} {w:World} {base b0:Nat} {spare:Nat→Bool} {held:Bool} {r:Reach} {v:Value} {d:DataW H} {p:List MemPlace}
  (hv:Value.okWide Tryz.prog w r b0 22 v) (h:DataW.Trod enc Tryz.prog w base spare held 22 v d p):∃l:List Rw,RowAt rwC 4 w v l:=by
 obtain⟨a,len,cap,rfl⟩:=okWide_slice Tryz.underlying22 hv;obtain⟨fuel,hf⟩:=h;obtain⟨v0,l,e0,hl,_⟩:=wB (C:=rwC) (sz:=4) Tryz.underlying22 (by kernel_rfl) (by omega) (fun n cs' z hz=>Al hz) hf;simp [Value.cells]at e0;subst e0;exact⟨l,hl⟩
end
end Go.Proofs.YtjaclcbckngnlaaGreat
