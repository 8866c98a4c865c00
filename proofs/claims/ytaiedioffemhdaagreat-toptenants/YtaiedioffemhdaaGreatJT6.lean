/- Texts joined: Sk, Qh, Ym0, Ym, Rl0, Bs, Wo, Wp, Wq, Df, Pu0, Pt, Pl, Xs, Xe, Al, Xf, Xt, Tt, Zs, Qs, Zt, Zi, Zw. -/
import Derived.Test.YtaiedioffemhdaaGreatJT5
namespace Go.Proofs.YtaiedioffemhdaaGreat
open Go.RowKit
set_option linter.unusedVariables false
set_option maxRecDepth 100000
set_option maxHeartbeats 16000000
theorem oG (l:List Fv) (i:Nat) (x:Fv) (h:i<l.length) (hx:x.f=(l.getD i fv0).f):(l.set i x).map Fv.f=l.map Fv.f:=by
 refine List.ext_getElem? fun j=>?_;simp only [List.getElem?_map,List.getElem?_set];by_cases e:i=j
 ·subst e;simp only [h,if_true,Option.map_some];rw [List.getElem?_eq_getElem h,Option.map_some,hx];simp [List.getD,List.getElem?_eq_getElem h]
 ·simp [e]
theorem nF {l:List Fv} {i:Nat} {x y:Fv} (h:y∈l.set i x):y=x∨y∈l:=by
 rcases List.mem_or_eq_of_mem_set h with h | h
 ·exact .inr h
 ·exact .inl h
theorem FoOk.grown {w w':World} {blk:Nat} {x:Fv} (h:FoOk w blk x) (hb:Below w.heap.size w w'):FoOk w' blk x:=⟨h.1.below hb zr,h.2⟩
theorem m8 {w:World} {B blk cap:Nat} {l:List Fv} (h:w.ownsRow B 84 4 (.slice (some ⟨blk,0,none⟩) l.length cap) l.length (C l)) (hok:∀x∈l,Held w x):FsAt w (.slice (some ⟨blk,0,none⟩) l.length cap) (l.map Fv.f):=by
 have hc:l.length≤cap:=by
  obtain⟨_,⟨h,_⟩ |⟨g',cap',cur,hv,_,_,hnc,_⟩⟩:=h
  ·simp at h
  ·simp only [Value.slice.injEq]at hv;omega
 refine⟨_,cap,by simp,by simp,.inr ⟨blk,0,rfl,by simpa using hc,fun i hi=>?_⟩⟩;have hi':i<l.length:=by simpa using hi
 obtain⟨c0,c1,c2,c3⟩:=dq h hi';have e:(l.map Fv.f).getD i fl0=(l.getD i fv0).f:=by simp [List.getD,List.getElem?_eq_getElem hi']
 rw [e,Nat.zero_add];have hh:=hok _ (er hi');exact⟨c0,c1,_,_,c2,c3,hh.1,hh.2⟩
theorem lP (p:Option Addr) (cap:Nat) (fv:Value) (w:World):Calls Tryz.prog 74 #[.slice p 0 cap,fv] w fun e w'=>e= .returned (.slice p 0 cap)∧w'=w:=by
 go_enter Tryz.func74,Tryz.ntmps74;go_wp2_with fail
 go_ret;exact⟨rfl,rfl⟩
def Nw (B:Nat) (x:Fv):Prop:=(∀g,x.mv.ownBlock=some g→B≤g)∧∀g,x.dv.ownBlock=some g→B≤g
def FsOwn (w:World) (B:Nat) (u:Value) (fs:List Fl):Prop:=FsAt w u fs∧(fs.length=0∨∃(blk cap:Nat) (lo:List Fv),u= .slice (some ⟨blk,0,none⟩) lo.length cap∧lo.map Fv.f=fs∧w.ownsRow B 84 4 u lo.length (C lo)∧∀x∈lo,Held w x∧Nw B x)
theorem yO {B k:Nat} {r:List Fv} {y:Fv} (h:∀j,j<k→Nw B (r.getD j fv0)):∀j,j<k→Nw B ((r.set k y).getD j fv0):=fun j hj=>by
 have:=h j hj;simpa [List.getD,List.getElem?_set,show k≠j by omega] using this
theorem nG (v:Value) (fs:List Fl) (w:World) (hF:FsAt w v fs) (hl:fs.length≤2000000) (hs:∀f∈fs,f.ms.length≤2000000∧f.ds.length≤2000000):
  Calls Tryz.prog 52 #[v] w fun e w'=>∃u,e= .returned u∧FsOwn w' w.heap.size u (srt fs fs.length)∧Below w.heap.size w w':=by
 have HF:=aa hF;have HS:=aa hs;obtain⟨a,cap,rfl,_,_⟩:=hF;clear hs;go_enter Tryz.func52,Tryz.ntmps52;go_wp2_with fail
 refine(ga _).mono ?_;rintro e w1 ⟨rfl,hw1⟩;have hb1:Below w.heap.size w w1:=by rw [hw1];exact((Below.refl _ _).alloc zr _).alloc (by simp) _
 have HO1:Hid (OrdAt w1 (w.heap.size+1)):=by
  rw [hw1];have e:w.heap.size+1=(w.alloc zb).heap.size:=(by simp);refine aa ⟨w.heap.size,?_,?_⟩
  ·rw [e];simp
  ·simp
 have hs1:=hb1.size;clear hw1;obtain⟨G,hG⟩:∃G,G=w.heap.size+1:=⟨_,rfl⟩;rw [←hG]at HO1⊢;clear hG;go_wp2_with fail
 obtain⟨w2,hw2⟩:∃w2,w2=w1.alloc (.cells #[.func (.func 169) #[] #[.pointer (some ⟨G,0,none⟩)]] 136):=⟨_,rfl⟩;have hb12:Below w1.heap.size w1 w2:=by rw [hw2];exact(Below.refl _ _).alloc zr _
 have hb2:Below w.heap.size w w2:=hb1.trans (hb12.mono hs1);have HE2:Hid (EqAt w2 w1.heap.size G):=by
  refine aa ⟨by rw [hw2];simp,HO1.out.below hb12⟩
 rw [←hw2];clear hw2 hb12 HO1;obtain⟨OB,hOB⟩:∃OB,OB=w1.heap.size:=⟨_,rfl⟩;rw [←hOB]at HE2⊢;clear hOB;refine(lz _ fs w2 (HF.out.below hb2 zr) hl HS.out).mono ?_;rintro e w3 ⟨u,rfl,lo,hp,hsrt,hh,ho3,hb3⟩;have hb03:=hb2.trans (hb3.mono hb2.size);have HSR:Hid ((cG lo lo.length).map Fv.f=srt fs fs.length):=by
  obtain⟨q1,q2,_⟩:=rA lo hsrt lo.length zr;exact tj q1 (fun x=>by rw [q2,List.take_length];exact hp.mem_iff)
 have HLL:Hid (lo.length≤2000000):=by
  have:=hp.length_eq;simp only [List.length_map]at this;exact aa (by omega)
 have HBD:Hid (∀x∈lo,x.f.ms.length≤2000000∧x.f.ds.length≤2000000):=fun x hx=>HS.out x.f (hp.mem_iff.1 (List.mem_map_of_mem hx));have HH:=aa hh;clear hh hp hsrt;by_cases h0:lo.length=0
 ·obtain⟨ua,uc,rfl,hua⟩:∃a c,u= .slice a 0 c∧(a=none→c=0):=by
   obtain⟨_,⟨rfl,_⟩ |⟨g,cap,cur,rfl,_⟩⟩:=ho3
   ·exact⟨_,_,rfl,fun _=>rfl⟩
   ·exact⟨_,_,by rw [h0],by simp⟩
  obtain rfl:=List.eq_nil_of_length_eq_zero h0;have HSN:Hid (srt fs fs.length= []):=by show _=_;rw [←HSR.out];rfl
  clear ho3 HH HBD HSR HLL;go_wp2_with fail
  refine(lP _ _ _ _).mono ?_;rintro e w4 ⟨rfl,rfl⟩;go_wp2_with fail
  refine wp_loop_rounds 1 ?_;rw [rounds_succ];go_wp2_with fail
  go_ret;exact⟨_,rfl,by rw [HSN.out];exact⟨⟨ua,uc,rfl,hua,.inl rfl⟩,.inl rfl⟩,hb03⟩
 ·obtain⟨blk,uc,rfl,_⟩:=ho3.form (by omega);have HO3:=aa ho3;obtain⟨hblk0,hblk1⟩:=gi ho3;clear ho3;have HE3:Hid (EqAt2 w3 OB G blk):=by
   obtain⟨e1,q,o0,o1,o2,o3,o4,o5,o6⟩:=HE2.out;have l1:=bM e1;have l2:=bM o0;have l3:=bM o1;exact aa ⟨by omega,ae e1 hb3 zr,by omega,q,by omega,ae o0 hb3 zr,ae o1 hb3 zr,ae o2 hb3 zr,ae o3 hb3 zr,ae o4 hb3 zr,ae o5 hb3 zr,ae o6 hb3 zr⟩
  have HFO:Hid (∀x∈lo,FoOk w3 blk x):=fun x hx=>by
   obtain⟨q1,q2⟩:=(HH.out x hx).away hblk0;exact⟨(HH.out x hx).below hb3 zr,q1,q2,(HBD.out x hx).1,(HBD.out x hx).2⟩
  go_wp2_with fail
  refine(rq lo w2.heap.size blk uc OB G w3 HO3.out HE3.out HFO.out (by omega) HLL.out).mono ?_;rintro e w4 ⟨rfl,ho4,hg4⟩;have HO4:=aa ho4;have hb04:Below w.heap.size w w4:=hb03.grown hg4 hb03.size (fun k hk=>by cases hk;exact Nat.le_trans hb2.size hblk0);have HF4:Hid (∀x∈cG lo lo.length,FoOk w4 blk x):=fun x hx=>(HFO.out x (by have:=qY lo lo.length zr x hx;rwa [List.take_length]at this)).kept2 hg4;have HML:Hid ((cG lo lo.length).length≤2000000):=aa (Nat.le_trans (tY lo lo.length) HLL.out);have hblkw:w.heap.size≤blk:=Nat.le_trans hb2.size hblk0;clear ho4 hg4 HFO HE3 HO3 HH HBD HLL hb03;generalize cG lo lo.length=l2 at*;go_wp2_with fail
  go_loopw [14] (fun i wr=>∃(k:Nat) (r:List Fv),k≤l2.length∧i= .int .i64 k∧Hid (r.map Fv.f=l2.map Fv.f)∧Hid (∀x∈r,FoOk wr blk x)∧Hid (wr.ownsRow w2.heap.size 84 4 (.slice (some ⟨blk,0,none⟩) r.length uc) r.length (C r))∧Below w.heap.size w wr∧Hid (∀j,j<k→Nw w.heap.size (r.getD j fv0))) (fun i _=>l2.length-(intOf i).toNat)
  case atStart=>exact⟨0,l2,by omega,rfl,aa rfl,HF4,HO4,hb04,aa fun j hj=>absurd hj (by omega)⟩
  case round=>
   clear HO4 HF4 hb04;obtain⟨k,r,hk,rfl,HRM,HFr,HOr,hbel,HNW⟩:=hrel;have hrl:r.length=l2.length:=by
    have:=congrArg List.length HRM.out;simpa using this
   have hblkr:=(gi HOr.out).2;have hml:=HML.out;by_cases hlt:k<l2.length
   ·have hkr:k<r.length:=(by omega);obtain⟨c0,c1,c2,c3⟩:=dq HOr.out hkr;have z2:=HOr.out.frozenAt (k*4+2);have z3:=HOr.out.frozenAt (k*4+3);obtain⟨x,hx⟩:∃x,x=r.getD k fv0:=⟨_,rfl⟩;have HX:=aa hx;rw [←hx]at c0 c1 c2 c3;have HXK:Hid (FoOk wr blk x):=by rw [hx];exact aa (HFr.out _ (er hkr))
    clear hx;obtain⟨⟨xa,xc,e1,_⟩,⟨xb,xe,e2,_⟩⟩:=HXK.out.1;have HE1:=aa e1;have HE2':=aa e2;rw [e1]at c2;rw [e2]at c3;clear e1 e2;obtain⟨xml,hxml⟩:∃z,z=x.f.ms.length:=⟨_,rfl⟩;obtain⟨xdl,hxdl⟩:∃z,z=x.f.ds.length:=⟨_,rfl⟩;rw [←hxml]at c2 HE1;rw [←hxdl]at c3 HE2';have HL1:=aa hxml;have HL2:=aa hxdl;clear hxml hxdl;generalize x.f.t=xt at*;generalize x.f.p=xp at*;obtain⟨W1,hW1⟩:∃W1,W1=wr.alloc (.cells #[.int .i64 xt,.int .i64 xp,.slice xa xml xc,.slice xb xdl xe] 84):=⟨_,rfl⟩;have hbW:Below wr.heap.size wr W1:=by rw [hW1];exact(Below.refl _ _).alloc zr _
    have d3:W1.cell? ⟨wr.heap.size,3,none⟩=some (.slice xb xdl xe):=by rw [hW1];simp
    have HWE:Hid (wr.alloc (.cells #[.int .i64 xt,.int .i64 xp,.slice xa xml xc,.slice xb xdl xe] 84)=W1):=hW1.symm;clear hW1;have HCM:Hid (Calls Tryz.prog 77 #[.slice xa xml xc] W1 fun e w'=>∃u,e= .returned u∧MsAt w' u x.f.ms∧(∀k,u.ownBlock=some k→W1.heap.size≤k)∧Below W1.heap.size W1 w'):=by
     have:=sn x.mv x.f.ms W1 (HXK.out.1.1.below hbW zr) HXK.out.2.2.2.1;rw [HE1.out]at this;exact aa this
    go_wp2_with fail
    rw [HWE.out];refine(ag HCM).mono ?_;rintro e w5 ⟨um,rfl,hms,hge,hb5⟩;have hr5:Below wr.heap.size wr w5:=hbW.trans (hb5.mono hbW.size);have hszW:=hbW.size;have hsz5:=hb5.size;have HNM:Hid (∀g,um.ownBlock=some g→w.heap.size≤g):=aa fun g h=>Nat.le_trans (Nat.le_trans hbel.size hszW) (hge g h);have hneM:um.ownBlock≠some blk:=fun h=>by have:=hge blk h;omega
    have HMS:=aa hms;obtain⟨ma,mc,e3,_⟩:=hms;have HUM:=aa e3;have g2:=ae c2 hr5 zr;have g3:=ae c3 hr5 zr;have y2:w5.frozen? ⟨blk,k*4+2,none⟩=false:=(hr5.frozen (p:=⟨blk,k*4+2,none⟩) hblkr).trans z2;have y3:w5.frozen? ⟨blk,k*4+3,none⟩=false:=(hr5.frozen (p:=⟨blk,k*4+3,none⟩) hblkr).trans z3;have g3':=ae d3 hb5 zr;have hW6g:w5.grownBy (w5.setCell ⟨blk,k*4+2,none⟩ um) (some blk):=cU (jL w5 _);have HO6:Hid ((w5.setCell ⟨blk,k*4+2,none⟩ um).ownsRow w2.heap.size 84 4 (.slice (some ⟨blk,0,none⟩) (r.set k ⟨x.f,um,x.dv⟩).length uc) (r.set k ⟨x.f,um,x.dv⟩).length (C (r.set k ⟨x.f,um,x.dv⟩))):=by
     have h:=gK (aA HOr.out hr5) (k*4+2) um;rw [xM r k um hkr, ←HX.out]at h;refine aa ?_;simpa using h
    have HF6:Hid (∀y∈r.set k ⟨x.f,um,x.dv⟩,FoOk (w5.setCell ⟨blk,k*4+2,none⟩ um) blk y):=fun y hy=>by
     rcases nF hy with rfl | hy
     ·have hx5:=(HXK.out.grown hr5).kept2 hW6g;exact⟨⟨HMS.out.kept0 hW6g (.inr hneM),hx5.1.2⟩,.inr hneM,hx5.2.2.1,hx5.2.2.2⟩
     ·exact((HFr.out y hy).grown hr5).kept2 hW6g
    have hb06:Below w.heap.size w (w5.setCell ⟨blk,k*4+2,none⟩ um):=(hbel.trans (hr5.mono hbel.size)).setCell (p:=⟨blk,k*4+2,none⟩) hblkw _;have HRM6:Hid ((r.set k ⟨x.f,um,x.dv⟩).map Fv.f=l2.map Fv.f):=by
     refine aa ?_;rw [oG r k _ hkr (by rw [←HX.out]),HRM.out]
    have hne36:blk≠wr.heap.size:=(by omega);have i3:(w5.setCell ⟨blk,k*4+2,none⟩ um).cell? ⟨wr.heap.size,3,none⟩=some (.slice xb xdl xe):=by
     rw [World.cell?_setCell_other _ _ _ _ (by simp)];exact g3'
    have j3:(w5.setCell ⟨blk,k*4+2,none⟩ um).cell? ⟨blk,k*4+3,none⟩=some (.slice xb xdl xe):=by
     rw [World.cell?_setCell_other _ _ _ _ (by simp)];exact g3
    have j3f:(w5.setCell ⟨blk,k*4+2,none⟩ um).frozen? ⟨blk,k*4+3,none⟩=false:=by rw [World.frozen?_setCell];exact y3
    have HCD:Hid (Calls Tryz.prog 78 #[.slice xb xdl xe] (w5.setCell ⟨blk,k*4+2,none⟩ um) fun e w'=>∃u,e= .returned u∧DsAt w' u x.f.ds∧(∀k',u.ownBlock=some k'→(w5.setCell ⟨blk,k*4+2,none⟩ um).heap.size≤k')∧Below (w5.setCell ⟨blk,k*4+2,none⟩ um).heap.size (w5.setCell ⟨blk,k*4+2,none⟩ um) w'):=by
     have hx5:=(HXK.out.grown hr5).kept2 hW6g;have:=rl x.dv x.f.ds _ hx5.1.2 HXK.out.2.2.2.2;rw [HE2'.out]at this;exact aa this
    have hs6:(w5.setCell ⟨blk,k*4+2,none⟩ um).heap.size=w5.heap.size:=(by simp);have HXb:=aa (HXK.out.2);clear HRM HFr HOr hbel c0 c1 c2 c3 z2 z3 d3 g3 g3' y3 hge hb5 hbW hr5 HMS HXK HCM HE1 hW6g;clear HUM;subst e3;have HJ3:=aa j3;have HJ3F:=aa j3f;go_wp2_with fail
    clear j3 j3f i3 g2 y2;generalize w5.setCell ⟨blk,k*4+2,none⟩ (.slice ma x.f.ms.length mc)=w6 at*;have hblk6:blk<w6.heap.size:=(by omega);obtain⟨r1,hr1⟩:∃r1,r1=r.set k ⟨x.f,.slice ma x.f.ms.length mc,x.dv⟩:=⟨_,rfl⟩;have hr1l:r1.length=l2.length:=by rw [hr1];simpa using hrl
    have HR1:Hid (r1.getD k fv0=⟨x.f,.slice ma x.f.ms.length mc,x.dv⟩):=by
     refine aa ?_;rw [hr1];simp [List.getD,hkr]
    have HNW1:Hid (∀j,j<k→Nw w.heap.size (r1.getD j fv0)):=by rw [hr1];exact aa (yO HNW.out)
    rw [←hr1]at HO6 HF6 HRM6;clear hr1;refine(ag HCD).mono ?_;rintro e w7 ⟨ud,rfl,hds,hge7,hb7⟩;have hneD:ud.ownBlock≠some blk:=fun h=>by have:=hge7 blk h;omega
    have hW8g:w7.grownBy (w7.setCell ⟨blk,k*4+3,none⟩ ud) (some blk):=cU (jL w7 _);have g3:=ae HJ3.out hb7 zr;have y3:w7.frozen? ⟨blk,k*4+3,none⟩=false:=(hb7.frozen (p:=⟨blk,k*4+3,none⟩) hblk6).trans HJ3F.out;have hk1:k<r1.length:=(by omega);have HO8:Hid ((w7.setCell ⟨blk,k*4+3,none⟩ ud).ownsRow w2.heap.size 84 4 (.slice (some ⟨blk,0,none⟩) (r1.set k ⟨x.f,.slice ma x.f.ms.length mc,ud⟩).length uc) (r1.set k ⟨x.f,.slice ma x.f.ms.length mc,ud⟩).length (C (r1.set k ⟨x.f,.slice ma x.f.ms.length mc,ud⟩))):=by
     have h:=gK (aA HO6.out hb7) (k*4+3) ud;rw [wC r1 k ud hk1,HR1.out]at h;refine aa ?_;simpa using h
    have HF8:Hid (∀y∈r1.set k ⟨x.f,.slice ma x.f.ms.length mc,ud⟩,FoOk (w7.setCell ⟨blk,k*4+3,none⟩ ud) blk y):=fun y hy=>by
     rcases nF hy with rfl | hy
     ·have hx6:=HF6.out _ (er hk1);rw [HR1.out]at hx6;have hx8:=(hx6.grown hb7).kept2 hW8g;exact⟨⟨hx8.1.1,hds.kept0 hW8g (.inr hneD)⟩,hx8.2.1,.inr hneD,hx8.2.2.2⟩
     ·exact((HF6.out y hy).grown hb7).kept2 hW8g
    have hb08:Below w.heap.size w (w7.setCell ⟨blk,k*4+3,none⟩ ud):=(hb06.trans (hb7.mono hb06.size)).setCell (p:=⟨blk,k*4+3,none⟩) hblkw _;have HRM8:Hid ((r1.set k ⟨x.f,.slice ma x.f.ms.length mc,ud⟩).map Fv.f=l2.map Fv.f):=by
     refine aa ?_;rw [oG r1 k _ hk1 (by rw [HR1.out]),HRM6.out]
    have HNW8:Hid (∀j,j<k+1→Nw w.heap.size ((r1.set k ⟨x.f,.slice ma x.f.ms.length mc,ud⟩).getD j fv0)):=aa fun j hj=>by
     by_cases hjk:j=k
     ·subst hjk;have e:(r1.set j ⟨x.f,.slice ma x.f.ms.length mc,ud⟩).getD j fv0=⟨x.f,.slice ma x.f.ms.length mc,ud⟩:=(by simp [List.getD,hk1]);rw [e];exact⟨HNM.out,fun g hg=>Nat.le_trans hb06.size (hge7 g hg)⟩
     ·exact yO HNW1.out j (by omega)
    clear HNW HNW1 HNM;obtain⟨da,dc,e4,_⟩:=hds;clear HCD HF6 HO6 HRM6 hb06 HJ3 HJ3F hb7 hge7 hW8g HR1;subst e4;go_wp2_with fail
    go_roundw
    case rel=>exact⟨k+1,_,by omega,by go_num,HRM8,HF8,HO8,hb08,HNW8⟩
    case measure=>simp [intOf];omega
   ·have hke:(l2.length:Int)≤(k:Int):=(by omega);have HFA:Hid (FsOwn wr w.heap.size (.slice (some ⟨blk,0,none⟩) r.length uc) (r.map Fv.f)):=aa ⟨m8 HOr.out (fun x hx=>(HFr.out x hx).1),.inr ⟨blk,uc,r,rfl,rfl,aw HOr.out hb2.size,fun x hx=>⟨(HFr.out x hx).1,by
     obtain⟨j,hj,rfl⟩:=List.getElem_of_mem hx;have:=HNW.out j (by omega);simpa [List.getD,hj] using this⟩⟩⟩
    rw [HRM.out,HSR.out]at HFA;clear HRM HFr HOr HNW;rw [hrl]at HFA;go_wp2_with fail
    go_ret;exact⟨_,rfl,HFA.out,hbel⟩
theorem mJ (v:Value) (fs:List Fl) (w:World) (hF:FsAt w v fs) (hl:fs.length≤2000000) (hs:∀f∈fs,f.ms.length≤2000000∧f.ds.length≤2000000):
  Calls Tryz.prog 52 #[v] w fun e w'=>∃u,e= .returned u∧FsAt w' u (srt fs fs.length)∧Below w.heap.size w w':=
 (nG v fs w hF hl hs).mono fun e w' ⟨u,h1,h2,h3⟩=>⟨u,h1,h2.1,h3⟩
def cmE (S:List Sw) (P:List Pr) (A:List Ac) (ch:Int):Int:=if may S P A=true then(if 0≤ch∧ch≤5 then 0 else 2)else 8
def cmL (S:List Sw) (P:List Pr) (A:List Ac) (ch:Int):List Fl:=if cmE S P A ch=0 then srt (du S P A ch) (du S P A ch).length else []
def cu (P H:List Pr) (k:Nat):List Fl:=tunnelFl++(H.take k).flatMap (bH P)
def bU (S:List Sw) (P:List Pr) (A:List Ac) (ch:Int) (G:List Fl) (Z:List Sw) (k:Nat):List Fl:=G++(Z.take k).flatMap fun s=>bw S P A s ch
theorem pM {P H:List Pr} {k:Nat} (h:k<H.length):cu P H (k+1)=cu P H k++bH P (H.getD k pr0):=by
 unfold cu;rw [gY (bH P) pr0 h,List.append_assoc]
theorem iw {S:List Sw} {P:List Pr} {A:List Ac} {ch:Int} {G:List Fl} {Z:List Sw} {k:Nat} (h:k<Z.length):bU S P A ch G Z (k+1)=bU S P A ch G Z k++bw S P A (Z.getD k sw0) ch:=by
 unfold bU;rw [gY (fun s=>bw S P A s ch) sw0 h,List.append_assoc]
theorem sA (P:List Pr) (p:Pr):(bH P p).length=6:=rfl
theorem fV (P H:List Pr) (k:Nat):(cu P H k).length≤2+6*k:=by
 have h:∀l:List Pr,(l.flatMap (bH P)).length=6*l.length:=fun l=>by
  induction l with
  | nil=>rfl
  | cons x r ih=>rw [List.flatMap_cons,List.length_append,ih,sA,List.length_cons];omega
 unfold cu;rw [List.length_append,h,List.length_take];have:tunnelFl.length=2:=rfl;omega
theorem eZ (S:List Sw) (P:List Pr) (A:List Ac) (s:Sw) (ch:Int):0<(bw S P A s ch).length∧(bw S P A s ch).length≤3*P.length+2*A.length+4:=by
 have h1:=uH P s ch;have h2:=nC P s;have h3:=oY S P s;have h4:=jk A s.i true;have h5:=jk A s.i false;unfold bw;rw [List.length_append,List.length_append,List.length_append,List.length_append,j7,j7,fI,fI];omega
theorem dy (S:List Sw) (P:List Pr) (A:List Ac) (ch:Int) (G:List Fl) (Z:List Sw) (hP:P.length≤40) (hA:A.length≤40):∀k,k≤Z.length→(bU S P A ch G Z k).length≤G.length+204*k
 | 0,_=>by simp [bU]
 | k+1,hk=>by
  rw [iw (by omega),List.length_append];have:=dy S P A ch G Z hP hA k (by omega);have:=(eZ S P A (Z.getD k sw0) ch).2;omega
theorem mA (S:List Sw) (P:List Pr) (A:List Ac) (ch:Int):du S P A ch=bU S P A ch (cu P (P.filter (cP ch)) (P.filter (cP ch)).length) (S.filter fun s=>(P.filter (cP ch)).any (cz s.i)) (S.filter fun s=>(P.filter (cP ch)).any (cz s.i)).length:=by
 unfold du bU cu;rw [List.take_length,List.take_length]
def AB (f:Fl):Prop:=f.ms.length≤2000000∧f.ds.length≤2000000
theorem rK (S:List Sw) (P:List Pr) (A:List Ac) (s1 p1 a1:Option Addr) (s2 p2 a2:Nat) (ch:Int) (w:World) (hC:CfAt w (.slice s1 S.length s2) (.slice p1 P.length p2) (.slice a1 A.length a2) S P A) (h1:S.length*24≤140737488355328) (h2:P.length*40≤140737488355328) (h3:A.length*72≤140737488355328) (hSA:may S P A=true→∀s b,eY (aV A s b)) (hSM:may S P A=true→0≤ch→ch≤5→∀f∈du S P A ch,AB f):
  Calls Tryz.prog 56 #[.agg #[.slice s1 S.length s2,.slice p1 P.length p2,.slice a1 A.length a2],.int .i64 ch] w fun e w'=>∃u,e= .returned (.tuple #[u,.int .i64 (cmE S P A ch)])∧FsAt w' u (cmL S P A ch)∧Below w.heap.size w w':=by
 have HC:=aa hC;have HCK:=aa (fun W (hW:Below w.heap.size w W)=>jF _ _ _ S P A W (hC.below hW zr) h1 h2 h3);have HSA:=aa hSA;have HSM:=aa hSM;clear hC hSA hSM;go_enter Tryz.func56,Tryz.ntmps56;go_wp2_with fail
 obtain⟨W0,hW⟩:∃W0,W0=w.alloc (.cells #[.slice s1 S.length s2,.slice p1 P.length p2,.slice a1 A.length a2] 30):=⟨_,rfl⟩;rw [←hW];obtain⟨cb,hblk⟩:∃cb,cb=w.heap.size:=⟨_,rfl⟩;have k0:W0.cell? ⟨cb,0,none⟩=some (.slice s1 S.length s2):=zN2 hW hblk rfl;have k1:W0.cell? ⟨cb,1,none⟩=some (.slice p1 P.length p2):=zN2 hW hblk rfl;have k2:W0.cell? ⟨cb,2,none⟩=some (.slice a1 A.length a2):=zN2 hW hblk rfl;have hbN:Below w.heap.size w W0:=by rw [hW];exact ak _ _
 have hzW0:W0.heap.size=cb+1:=by rw [hW,hblk];simp
 have hcbl:w.heap.size≤cb:=by omega
 rw [←hblk];clear hW hblk;have HB:=hbN;clear hbN;obtain⟨W1,hW⟩:∃W1,W1=W0.alloc (.cells #[.int .i64 ch] 3):=⟨_,rfl⟩;rw [←hW];obtain⟨hb_,hblk⟩:∃hb_,hb_=cb+1:=⟨_,rfl⟩;have h0:W1.cell? ⟨hb_,0,none⟩=some (.int .i64 ch):=zN2 hW (hblk.trans hzW0.symm) rfl;have hbN:Below W0.heap.size W0 W1:=by rw [hW];exact ak _ _
 have hzW1:W1.heap.size=hb_+1:=by rw [hW,hblk];simp [hzW0]
 have hhb_l:cb<hb_:=by omega
 rw [←hblk];clear hW hblk hzW0;replace⟨k0,k1,k2⟩:=bj k0 k1 k2 hbN;replace HB:=zT HB hbN;clear hbN hzW1;refine(ag HCK _ HB).mono ?_;rintro e V1 ⟨rfl,hb1⟩;have hs2:=hb1.size;replace⟨k0,k1,k2,h0⟩:=uS k0 k1 k2 h0 hb1;replace HB:=zT HB hb1;clear hb1;by_cases hm:may S P A=true
 ·by_cases hcr:0≤ch∧ch≤5
  ·obtain⟨hsw,hpr,hac⟩:=bu hm;have hPl:=(dz hsw hpr).1;have hAl:=(jU hac).1;have hSl:=(gn hsw).1;have HPB:Hid (∀p∈P,0≤p.s∧p.s≤100000):=aa (fun p hp=>by have:=((dz hsw hpr).2 p hp).2.1;omega);have HSB:Hid (∀s∈S,0≤s.i∧s.i≤100000):=aa (fun s hs=>by have:=((gn hsw).2 s hs).1;omega);have HAB:=aa (uE hac);have HE:Hid (cmE S P A ch=0):=by
    refine aa ?_;unfold cmE;rw [if_pos hm,if_pos (by omega)]
   have HLz:Hid (cmL S P A ch=srt (du S P A ch) (du S P A ch).length):=by
    refine aa ?_;unfold cmL;rw [if_pos HE.out]
   replace HSM:=aa (HSM.out hm);replace HSA:=aa (HSA.out hm);have hc0:¬ch<0:=(by omega);have hc1:¬ch≥6:=(by omega);rw [if_pos hm];clear hm hsw hpr hac;have HCT:=aa (mA S P A ch);obtain⟨H,hH⟩:∃H,H=P.filter (cP ch):=⟨_,rfl⟩;rw [←hH]at HCT;have HHL:H.length≤40:=by rw [hH];exact Nat.le_trans (List.length_filter_le _ _) hPl
   have HH:=aa hH;clear hH;obtain⟨Z,hZ⟩:∃Z,Z=S.filter fun s=>H.any (cz s.i):=⟨_,rfl⟩;rw [←hZ]at HCT;have HZL:Z.length≤12:=by rw [hZ];exact Nat.le_trans (List.length_filter_le _ _) hSl
   have HZB:Hid (∀s∈Z,0≤s.i∧s.i≤100000):=aa (fun s hs=>HSB.out s (by rw [hZ]at hs;exact(List.mem_filter.1 hs).1));have HZ:=aa hZ;clear hZ;go_wp2_with fail
   refine(dC P (cP ch) _ _ _ _ (HC.out.below HB zr).2.1 (tL h0) xJ (by omega)).mono ?_;rintro e V3 ⟨u,rfl,hor,hb3⟩;have hs4:=hb3.size;replace⟨k0,k1,k2,h0⟩:=uS k0 k1 k2 h0 hb3;replace HB:=zT HB hb3;rw [←HH.out]at hor;obtain⟨o,c,rfl⟩:=aG hor;have HRH:=aa hor;clear hor;clear hb3;go_wp2_with fail
   obtain⟨V5,hV⟩:∃V5,V5=V3.alloc (.cells #[.slice o H.length c] 27):=⟨_,rfl⟩;rw [←hV];obtain⟨g5,hg'⟩:∃g5,g5=V3.heap.size:=⟨_,rfl⟩;have hg:g5=V3.heap.size:=hg';rw [←hg'];have hbN:=zB hV;have hg5:V3.heap.size≤g5:=(by omega);have hl5:=zL hV hg;have hzV5:V5.heap.size=g5+1:=by rw [hV,hg];simp
   have t0:V5.cell? ⟨g5,0,none⟩=some (.slice o H.length c):=zN2 hV hg rfl;have hs6:=hbN.size;replace⟨k0,k1,k2,h0⟩:=uS k0 k1 k2 h0 hbN;replace HRH:=zO HRH hbN;replace HB:=zT HB hbN;clear hV hg hg' hbN;clear hzV5;have hcbV:=ap k0;have hhbV:=ap h0;have hghV:=ap t0;refine(lV _).mono ?_;rintro e V50 ⟨u,rfl,hfr,hbT⟩;obtain⟨vo0,vc0,rfl⟩:=hfr.slc;have HF0:Hid (FR V50 V5.heap.size (.slice vo0 tunnelFl.length vc0) (cu P H 0)):=(by simpa [cu] using aa hfr);have t0v:=zC t0 hbT;have hsp:=HB.size;clear hfr;have HBp:Hid (Below w.heap.size w V5):=aa HB;clear HB;generalize tunnelFl.length=n0 at*;go_wp2_with fail
   clear t0v;go_loopw [8,31] (fun v i wr=>∃k:Nat,k≤H.length∧i= .int .i64 k∧Hid (FR wr V5.heap.size v (cu P H k))∧Below V5.heap.size V5 wr) (fun _ i _=>H.length-(intOf i).toNat)
   case atStart=>exact⟨0,by omega,rfl,HF0,hbT⟩
   case round=>
    clear HF0 hbT;obtain⟨k,hk,rfl,HF,hbr⟩:=hrel;have hgs:V5.heap.size≤wr.heap.size:=hbr.size;by_cases hlt:k<H.length
    ·obtain⟨b,off,cap,e1,hcap, -,g0,g1,g2,g3,g4⟩:=fK (RowAt.below (RowAt.of_own bK (by decide) HRH.out) hbr zr) hlt;simp only [Value.slice.injEq,true_and]at e1;obtain⟨rfl,rfl⟩:=e1;have HNX:=aa (pM (P:=P) hlt);have hln:=fV P H k;have HET:Hid (H.getD k pr0=⟨(H.getD k pr0).i,(H.getD k pr0).s,(H.getD k pr0).m,(H.getD k pr0).p,(H.getD k pr0).c⟩):=rfl;rw [HET.out]at HNX;clear HET;generalize (H.getD k pr0).i=y0 at*;generalize (H.getD k pr0).s=y1 at*;generalize (H.getD k pr0).m=y2 at*;generalize (H.getD k pr0).p=y3 at*;generalize (H.getD k pr0).c=y4 at*;generalize hFK:cu P H k=FK at*;have HFK:=aa hFK;clear hFK;obtain⟨vo,vc,rfl⟩:=HF.out.slc;obtain⟨NF,hNF⟩:∃NF,NF=FK.length:=⟨_,rfl⟩;rw [←hNF]at HF hln⊢;have HNN:=aa hNF;clear hNF;have q1:(0:Int)≤(k:Int):=(by omega);have q2:(k:Int)<(H.length:Int):=(by omega);have HUB:=aa HF.out.lt;have vk0:=zC k0 hbr;have vk1:=zC k1 hbr;have vk2:=zC k2 hbr;have vh0:=zC h0 hbr;have vt0:=zC t0 hbr;have HBw0:=HBp.out.trans (hbr.mono hsp);have hcb:=ap vk0;have hcb2:¬cb=wr.heap.size:=(by omega);have hhb:=ap vh0;have hhb2:¬hb_=wr.heap.size:=(by omega);go_wp2_with fail
     clear hcb2 hhb2;obtain⟨W9,hW9⟩:∃W9,W9=wr.alloc (.cells #[.int .i64 y0,.int .i64 y1,.int .i64 y2,.int .i64 y3,.int .i64 y4] 53):=⟨_,rfl⟩;rw [←hW9];have hbW:Below wr.heap.size wr W9:=by rw [hW9];exact ak _ _
     clear hW9 g0 g1 g2 g3 g4;have HBw:=HBw0.trans (hbW.mono HBw0.size);have hsW:=hbW.size;refine(oq S P A s1 p1 a1 s2 p2 a2 ⟨y0,y1,y2,y3,y4⟩ W9 (HC.out.below HBw zr) (by omega)).mono ?_;rintro e w1 ⟨u2,rfl,hf2,hb2⟩;obtain⟨lo2,hm2,ho2,hk2⟩:=hf2;have hl2:lo2.length=(bH P ⟨y0,y1,y2,y3,y4⟩).length:=(by rw [←hm2,List.length_map]);obtain⟨g9,c9,rfl,hg90,hg91⟩:=aW ho2 (by rw [hl2];exact(show 0<6 by decide));have hsw2:=hb2.size;have hb12:=hbW.trans (hb2.mono hbW.size);have HF2:=aa (HF.out.below hb12 zr);have HCS:=aa (ho2.cells rfl);have HK2:Hid (∀y∈lo2,FvIn w1 V5.heap.size (.slice vo NF vc) y):=aa (fun y hy=>((hk2 y hy).far (fun g e=>Nat.lt_of_lt_of_le (HUB.out g e) hsW)).less (by omega));have HM2:=aa hm2;have hl3:lo2.length≤1000:=by rw [hl2];exact(show 6≤1000 by decide)
     have hl4:0<lo2.length:=(by rw [hl2];exact(show 0<6 by decide));obtain⟨n2,hn2⟩:∃n2,n2=lo2.length:=⟨_,rfl⟩;rw [←hn2]at hl3 hl4⊢;have HN2:=aa hn2;clear hn2 hl2 ho2 hk2 hm2;go_wp2_with (at_builtin;refine ep rfl _ _ rfl V5.heap.size (.slice vo NF vc) FK rfl (ag HF2) ⟨g9,0,none⟩ n2 c9 lo2 rfl HN2.out.symm (ag HCS) (ag HK2) hl4 (by rw [←HNN.out];omega) (by omega) ?_)
     intro gq cq wq hfq hgq haq;have HE2:Hid (FR wq V5.heap.size (.slice (some ⟨gq,0,none⟩) (FK.length+n2) cq) (cu P H (k+1))):=by rw [HNX.out, ←HM2.out];exact aa hfq
     have hb3:Below V5.heap.size V5 wq:=(hbr.trans (hb12.mono hbr.size)).grown hgq (by omega) HF2.out.ge;clear hfq hgq haq HF2 HCS HK2 HUB HNX HF;rw [←HNN.out]at HE2⊢;go_wp2_with fail
     go_roundw
     case rel=>exact⟨k+1,by omega,by go_num,HE2,hb3⟩
     case measure=>simp [intOf];omega
    ·obtain rfl:k=H.length:=(by omega);have hln:=fV P H H.length;have HBk:Hid (Below w.heap.size w wr):=aa (HBp.out.trans (hbr.mono hsp));replace⟨k0,k1,k2,h0,t0⟩:=cJ k0 k1 k2 h0 t0 hbr;have HRHw:=aa (aA HRH.out (hbr.mono zr));have hnz:0<(cu P H H.length).length:=by unfold cu;rw [List.length_append];have:tunnelFl.length=2:=rfl;omega
     obtain⟨lof,hmf,hof,hkf⟩:=HF.out;have hlf:lof.length=(cu P H H.length).length:=(by rw [←hmf,List.length_map]);obtain⟨gF,cF,rfl,hgF0,hgF1⟩:=aW hof (by omega);rw [hlf]at HF⊢;clear hmf hof hkf hlf hnz;generalize hG:cu P H H.length=G at*;have HG:=aa hG;clear hG;have HBc:=HBk;clear hbr;obtain⟨NG,hNG⟩:∃NG,NG=G.length:=⟨_,rfl⟩;rw [←hNG]at HF hln⊢;have HNG:=aa hNG;clear hNG;go_wp2_with fail
     have HB:=HBc.out;clear HBc;refine(qi S (fun s=>H.any (cz s.i)) _ _ _ _ (HC.out.below HB zr).1 (tz t0 (RowAt.of_own bK (by decide) HRHw.out) (by omega)) Ad (by omega)).mono ?_;rintro e V201 ⟨u,rfl,hor,hb201⟩;have hs202:=hb201.size;replace⟨k0,k1,k2,h0,t0⟩:=cJ k0 k1 k2 h0 t0 hb201;replace HRHw:=zO HRHw hb201;replace HF:=aa (HF.out.below hb201 zr);replace HB:=zT HB hb201;rw [←HZ.out]at hor;obtain⟨zo,zc,rfl⟩:=aG hor;have HRN:Hid (∀m g,(Value.slice zo m zc).ownBlock=some g→gF<g):=aa (fun m g e=>by have:=ay hor g (by cases zo <;>exact e);omega);have HRZ:=aa hor;clear hor;clear hb201;have HBz:Hid (Below w.heap.size w V201):=aa HB;have hsz:=HB.size;have hgw:w.heap.size≤gF:=(by omega);have hgv:gF<V201.heap.size:=(by omega);clear HB;go_wp2_with fail
     go_loopw [8,46] (fun v i wq=>∃k:Nat,k≤Z.length∧i= .int .i64 k∧Hid (FR wq V5.heap.size v (bU S P A ch G Z k))∧Hid (∀g,v.ownBlock=some g→g=gF∨V201.heap.size≤g)∧Hid (V201.grownBy wq (some gF))) (fun _ i _=>Z.length-(intOf i).toNat)
     case atStart=>exact⟨0,by omega,rfl,by simpa [bU] using HF,aa (by simp [Value.ownBlock]),aa ⟨rfl,rfl,rfl,Nat.le_refl _,fun _ _ _=>rfl⟩⟩
     case round=>
      clear HF;obtain⟨k,hk,rfl,HF,HVB,HGR⟩:=hrel;have hgs2:V201.heap.size≤wr.heap.size:=HGR.out.size;by_cases hlt:k<Z.length
      ·have HR1:=aa (HRZ.out.kept HGR.out (.inr (fun e=>absurd (HRN.out _ _ e) (by omega))));obtain⟨b,off,cap,e1,hcap, -,g0,g1,g2⟩:=lE (RowAt.of_own eC (by decide) HR1.out) hlt;simp only [Value.slice.injEq,true_and]at e1;obtain⟨rfl,rfl⟩:=e1;have hyb:=HZB.out (Z.getD k sw0) (by rw [List.getD_eq_getElem?_getD,List.getElem?_eq_getElem hlt];exact List.getElem_mem _);have HNX:=aa (iw (S:=S) (P:=P) (A:=A) (ch:=ch) (G:=G) hlt);have hln2:=dy S P A ch G Z (by omega) (by omega) k (by omega);have HET:Hid (Z.getD k sw0=⟨(Z.getD k sw0).i,(Z.getD k sw0).t,(Z.getD k sw0).g⟩):=rfl;rw [HET.out]at HNX;rw [←HNG.out]at hln2;clear HET HR1;generalize (Z.getD k sw0).i=y0 at*;generalize (Z.getD k sw0).t=y1 at*;generalize (Z.getD k sw0).g=y2 at*;obtain⟨hy0,hy1⟩:=hyb;generalize hFK:bU S P A ch G Z k=FK at*;have HFK:=aa hFK;clear hFK;obtain⟨vo,vc,rfl⟩:=HF.out.slc;obtain⟨NF,hNF⟩:∃NF,NF=FK.length:=⟨_,rfl⟩;rw [←hNF]at HF hln2 HVB⊢;have HNN:=aa hNF;clear hNF;have q1:(0:Int)≤(k:Int):=(by omega);have q2:(k:Int)<(Z.length:Int):=(by omega);have HUB:=aa HF.out.lt;have vk0:=aP HGR.out k0 (by omega);have vk1:=aP HGR.out k1 (by omega);have vk2:=aP HGR.out k2 (by omega);have vh0:=aP HGR.out h0 (by omega);have vt0:=aP HGR.out t0 (by omega);have HBw0:=HBz.out.grown HGR.out hsz (fun k e=>by cases e;omega);have hcb:=ap vk0;have hcb2:¬cb=wr.heap.size:=(by omega);have hhb:=ap vh0;have hhb2:¬hb_=wr.heap.size:=(by omega);go_wp2_with fail
       clear hcb2 hhb2;obtain⟨W9,hW9⟩:∃W9,W9=wr.alloc (.cells #[.int .i64 y0,.int .i64 y1,.int .i64 y2] 51):=⟨_,rfl⟩;rw [←hW9];have hbW:Below wr.heap.size wr W9:=by rw [hW9];exact ak _ _
       clear hW9 g0 g1 g2;have HBw:=HBw0.trans (hbW.mono HBw0.size);have hsW:=hbW.size;refine(l5 S P A s1 p1 a1 s2 p2 a2 ⟨y0,y1,y2⟩ ch W9 (HC.out.below HBw zr) (by omega) (by omega) (by omega) hy0 hy1 HPB.out HAB.out (HSA.out _ _) (HSA.out _ _)).mono ?_;rintro e w1 ⟨u2,rfl,hf2,hb2⟩;obtain⟨lo2,hm2,ho2,hk2⟩:=hf2;have hl2:lo2.length=(bw S P A ⟨y0,y1,y2⟩ ch).length:=(by rw [←hm2,List.length_map]);obtain⟨g9,c9,rfl,hg90,hg91⟩:=aW ho2 (by rw [hl2];exact(eZ _ _ _ _ _).1);have hsw2:=hb2.size;have hb12:=hbW.trans (hb2.mono hbW.size);have HF2:=aa (HF.out.below hb12 zr);have HCS:=aa (ho2.cells rfl);have HK2:Hid (∀y∈lo2,FvIn w1 V5.heap.size (.slice vo NF vc) y):=aa (fun y hy=>((hk2 y hy).far (fun g e=>Nat.lt_of_lt_of_le (HUB.out g e) hsW)).less (by omega));have HM2:=aa hm2;have hl3:lo2.length≤1000:=by rw [hl2];have:=(eZ S P A ⟨y0,y1,y2⟩ ch).2;omega
       have hl4:0<lo2.length:=(by rw [hl2];exact(eZ _ _ _ _ _).1);obtain⟨n2,hn2⟩:∃n2,n2=lo2.length:=⟨_,rfl⟩;rw [←hn2]at hl3 hl4⊢;have HN2:=aa hn2;clear hn2 hl2 ho2 hk2 hm2;go_wp2_with (at_builtin;refine ep rfl _ _ rfl V5.heap.size (.slice vo NF vc) FK rfl (ag HF2) ⟨g9,0,none⟩ n2 c9 lo2 rfl HN2.out.symm (ag HCS) (ag HK2) hl4 (by rw [←HNN.out];omega) (by omega) ?_)
       intro gq cq wq hfq hgq haq;have HE2:Hid (FR wq V5.heap.size (.slice (some ⟨gq,0,none⟩) (FK.length+n2) cq) (bU S P A ch G Z (k+1))):=by rw [HNX.out, ←HM2.out];exact aa hfq
       have HGR2:Hid (V201.grownBy wq (some gF)):=aa (pP (dx HGR.out hb12) hgq HVB.out);have HVB2:Hid (∀g,(Value.slice (some ⟨gq,0,none⟩) (FK.length+n2) cq).ownBlock=some g→g=gF∨V201.heap.size≤g):=aa (fun g e=>by
        have e2:gq=g:=(by simpa [Value.ownBlock] using e);subst e2;rcases haq with h | h
        ·exact HVB.out _ h
        ·exact .inr (by omega))
       clear hfq hgq haq HF2 HCS HK2 HUB HNX HF;rw [←HNN.out]at HE2 HVB2⊢;go_wp2_with fail
       go_roundw
       case rel=>exact⟨k+1,by omega,by go_num,HE2,HVB2,HGR2⟩
       case measure=>simp [intOf];omega
      ·obtain rfl:k=Z.length:=(by omega);have hln2:=dy S P A ch G Z (by omega) (by omega) Z.length zr;have HCE:Hid (bU S P A ch G Z Z.length=du S P A ch):=by rw [HCT.out];exact aa rfl
       rw [←HNG.out]at hln2;rw [HCE.out]at HF hln2;have HFS:=aa HF.out.fsAt;have HBe:Hid (Below w.heap.size w wr):=aa (HBz.out.grown HGR.out hsz (fun k e=>by cases e;omega));obtain⟨fo,fc,rfl⟩:=HF.out.slc;have HST:=aa (mJ _ (du S P A ch) wr HFS.out (by omega) (HSM.out (by omega) (by omega)));rw [←HLz.out]at HST;clear HF HVB HGR HFS;generalize (du S P A ch).length=NC at*;go_wp2_with fail
       refine(ag HST).mono ?_;rintro e wz ⟨u,rfl,hu,hbz⟩;have HU:=aa hu;have HBf:=aa (HBe.out.trans (hbz.mono HBe.out.size));obtain⟨uo,uc,hus,_,_⟩:=hu;rw [hus]at HU⊢;clear hus hbz HST;generalize (cmL S P A ch).length=NL at*;go_wp2_with fail
       go_ret2;exact⟨_,by rw [HE.out];rfl,HU.out,HBf.out⟩
  ·have HE:Hid (cmE S P A ch=2):=by
    refine aa ?_;unfold cmE;rw [if_pos hm,if_neg (by omega)]
   have HLz:Hid (cmL S P A ch= []):=by
    refine aa ?_;unfold cmL;rw [if_neg (by rw [HE.out];decide)]
   rw [if_pos hm];clear hm;go_wp2_with fail
   all_goals go_ret2
   all_goals exact⟨_,by rw [HE.out];rfl,by rw [HLz.out];exact⟨none,0,rfl,fun _=>rfl,.inl rfl⟩,HB⟩
 ·replace hm:may S P A=false:=(by simpa using hm);have HE:Hid (cmE S P A ch=8):=by
   refine aa ?_;unfold cmE;rw [if_neg (by rw [hm];simp)]
  have HLz:Hid (cmL S P A ch= []):=by
   refine aa ?_;unfold cmL;rw [if_neg (by rw [HE.out];decide)]
  rw [hm];clear hm;go_wp2_with fail
  go_ret2;exact⟨_,by rw [HE.out];rfl,by rw [HLz.out];exact⟨none,0,rfl,fun _=>rfl,.inl rfl⟩,HB⟩
def Few (fs:List Fl):Prop:=fs.length≤2000000∧∀f∈fs,f.ms.length≤2000000∧f.ds.length≤2000000
theorem Few.srt {xs:List Fl} (h:Few xs):Few (srt xs xs.length):=⟨Nat.le_trans (gX xs xs.length) h.1,fun f hf=>h.2 f (uq xs xs.length zr f hf)⟩
theorem wY (l:List Fl) (x:Fl):x∈srt l l.length↔x∈l:=by
 rw [(mo l l.length zr).2,List.take_length]
theorem qm {b:List Fl} (h:Srt b):srt b b.length=b:=(tj h fun _=>Iff.rfl).symm
theorem bY {w:World} {v:Value} {fs:List Fl} (h:FsAt w v fs):∃a cap,v= .slice a fs.length cap:=by
 obtain⟨a,cap,h,_⟩:=h;exact⟨a,cap,h⟩
theorem rm {w:World} {a:Option Addr} {cap k:Nat} {fs:List Fl} (h:FsAt w (.slice a fs.length cap) fs) (hk:k<fs.length):∃b off,a=some ⟨b,off,none⟩∧fs.length≤cap∧FlAt w b (off+k*4) (fs.getD k fl0):=by
 obtain⟨a1,c1,h1,_,h0 |⟨b,off,h2,h3,h4⟩⟩:=h
 ·omega
 ·simp only [Value.slice.injEq]at h1;obtain⟨rfl,_,rfl⟩:=h1;exact⟨b,off,h2,h3,h4 k hk⟩
theorem mz {fs:List Fl} {k:Nat} (h:k<fs.length):fs.getD k fl0∈fs:=by
 rw [List.getD_eq_getElem?_getD,List.getElem?_eq_getElem h];exact List.getElem_mem h
theorem mD {S:List Sw} {P:List Pr} {A:List Ac} {ch:Int} (h:cmE S P A ch=0):may S P A=true∧0≤ch∧ch≤5:=by
 unfold cmE at h;by_cases hm:may S P A=true
 ·rw [if_pos hm]at h;by_cases hc:0≤ch∧ch≤5
  ·exact⟨hm,hc⟩
  ·rw [if_neg hc]at h;omega
 ·rw [if_neg hm]at h;omega
theorem xQ {S:List Sw} {P:List Pr} {A:List Ac} (ch:Int) (h:may S P A=true):(du S P A ch).length≤10000:=by
 obtain⟨h1,h2,h3⟩:=bu h;have a1:=(gn h1).1;have a2:=(dz h1 h2).1;have a3:=(jU h3).1;rw [mA];have b1:=fV P (P.filter (cP ch)) (P.filter (cP ch)).length;have b2:=List.length_filter_le (cP ch) P;have b3:=List.length_filter_le (fun s:Sw=>(P.filter (cP ch)).any (cz s.i)) S;have b4:=dy S P A ch (cu P (P.filter (cP ch)) (P.filter (cP ch)).length) (S.filter fun s=>(P.filter (cP ch)).any (cz s.i)) a2 a3 _ zr;omega
theorem qo {f:Fl} (h:aR f=0):AB f:=by
 by_cases hs:12<f.ms.length∨100<f.ds.length
 ·rw [gV hs]at h;omega
 ·exact⟨by omega,by omega⟩
theorem wE {S:List Sw} {P:List Pr} {A:List Ac} {ch:Int} (h:cmE S P A ch=0):(Srt (cmL S P A ch)∧(cmL S P A ch).length≤100000)∧Few (cmL S P A ch):=by
 obtain⟨hm,c0,c1⟩:=mD h;have hl:=xQ ch hm;have hf:Few (du S P A ch):=⟨by omega,fun f hf=>qo (nt hm c0 c1 f hf)⟩;unfold cmL;rw [if_pos h];have:=gX (du S P A ch) (du S P A ch).length;exact⟨⟨(mo _ _ zr).1,by omega⟩,hf.srt⟩
theorem pz {S:List Sw} {P:List Pr} {A:List Ac} {ch:Int} (h:cmE S P A ch=0):bs (cmL S P A ch)=0:=by
 obtain⟨hm,c0,c1⟩:=mD h;have hl:(cmL S P A ch).length≤5000:=by
  obtain⟨h1,h2,h3⟩:=bu hm;have a1:=(gn h1).1;have a2:=(dz h1 h2).1;have a3:=(jU h3).1;have b1:=fV P (P.filter (cP ch)) (P.filter (cP ch)).length;have b2:=List.length_filter_le (cP ch) P;have b3:=List.length_filter_le (fun s:Sw=>(P.filter (cP ch)).any (cz s.i)) S;have b4:=dy S P A ch (cu P (P.filter (cP ch)) (P.filter (cP ch)).length) (S.filter fun s=>(P.filter (cP ch)).any (cz s.i)) a2 a3 _ zr;have b5:=gX (du S P A ch) (du S P A ch).length;rw [mA]at b5;unfold cmL;rw [if_pos h,mA];omega
 unfold bs;rw [if_neg (by omega)];refine sS _ fun j hj=>nt hm c0 c1 _ ?_;have:(cmL S P A ch).getD j fl0∈cmL S P A ch:=by
  rw [List.getD_eq_getElem?_getD,List.getElem?_eq_getElem hj];exact List.getElem_mem _
 unfold cmL at this⊢;rw [if_pos h]at this⊢;exact(wY _ _).1 this
theorem xF {S:List Sw} {P:List Pr} {A:List Ac} {ch:Int} (h:cmE S P A ch=0) (g:Fl):g∈cmL S P A ch↔g∈du S P A ch:=by
 unfold cmL;rw [if_pos h];exact wY _ _
theorem yk {S:List Sw} {P:List Pr} {A:List Ac} {ch:Int} (hm:may S P A=true) (h0:0≤ch) (h1:ch≤5):cmE S P A ch=0:=by
 unfold cmE;rw [if_pos hm,if_pos ⟨h0,h1⟩]
def th (f:Fl) (ys:List Fl):Nat→Bool
 | 0=>false
 | m+1=>th f ys m|| (plc f (ys.getD m fl0)==0)
theorem nv {w0 w:World} {B:Nat} {v:Value} {l:List Fv} (h:w.ownsRow B 84 4 v l.length (C l)) (hh:∀x∈l,Held w x):FsAt w v (l.map Fv.f):=by
 obtain⟨o,c,rfl,hc,hg⟩:=kB h;by_cases hz:l.length=0
 ·refine⟨o,c,by simp,?_,.inl (by simpa using hz)⟩;intro ho;subst ho;obtain⟨_,⟨hv,_⟩ |⟨g',cap',cur,hv,_⟩⟩:=h
  ·simp only [Value.slice.injEq]at hv;exact hv.2.2
  ·simp at hv
 ·obtain⟨g,rfl⟩:=hg (by omega);exact m8 h hh
theorem vL {a b c:Fl} (h1:plc a b≤0) (h2:plc b c<0):plc a c<0:=by
 rcases Int.lt_or_eq_of_le h1 with h | h
 ·exact jv h h2
 ·rw [eK h];exact h2
def yC (l:List Fl):Prop:=∀i j,i<j→j<l.length→plc (l.getD i fl0) (l.getD j fl0)≤0
theorem uA {l:List Fl} (h:yC l) {i j:Nat} {t:Fl} (hij:i≤j) (hj:j<l.length) (hl:plc (l.getD j fl0) t<0):plc (l.getD i fl0) t<0:=by
 rcases Nat.lt_or_eq_of_le hij with e | e
 ·exact vL (h i j e hj) hl
 ·rw [e];exact hl
theorem Ap {l:List Fl} (h:yC l) {i j:Nat} {t:Fl} (hij:i≤j) (hj:j<l.length) (hl:0≤plc (l.getD i fl0) t):0≤plc (l.getD j fl0) t:=Int.not_lt.1 fun e=>absurd (uA h hij hj e) (Int.not_lt.2 hl)
theorem getD_iff {l:List Fl} {t:Fl}:t∈l↔∃i,i<l.length∧l.getD i fl0=t:=by
 constructor
 ·intro h;obtain⟨i,hi,e⟩:=List.getElem_of_mem h;exact⟨i,hi,by rw [List.getD_eq_getElem?_getD,List.getElem?_eq_getElem hi];exact e⟩
 ·rintro⟨i,hi,e⟩;rw [←e];exact mz hi
theorem wQ (f:Fl) (ys:List Fl):∀m,th f ys m=true↔∃i,i<m∧ys.getD i fl0=f
 | 0=>by simp [th]
 | m+1=>by
  have ih:=wQ f ys m;rw [th,Bool.or_eq_true,ih,beq_iff_eq];constructor
  ·rintro(⟨i,hi,e⟩ | e)
   ·exact⟨i,by omega,e⟩
   ·exact⟨m,by omega,(eK e).symm⟩
  ·rintro⟨i,hi,e⟩;by_cases him:i=m
   ·subst him;right;rw [e];exact dY f
   ·exact .inl ⟨i,by omega,e⟩
theorem tV (f:Fl) (ys:List Fl):th f ys ys.length=true↔f∈ys:=by rw [wQ,getD_iff]
theorem tJ (l:List Fl) (t:Fl) (o ta tb:Option Addr) (cap tc td g:Nat) (w:World) (hF:FsAt w (.slice o l.length cap) l) (hS:yC l) (hO:OrdAt w g) (h1:MsAt w (.slice ta t.ms.length tc) t.ms) (h2:DsAt w (.slice tb t.ds.length td) t.ds)
  (l1:t.ms.length≤2000000) (l2:t.ds.length≤2000000) (hl:l.length≤2000000) (hs:∀f∈l,f.ms.length≤2000000∧f.ds.length≤2000000):
  Calls Tryz.prog 82 #[.slice o l.length cap,.agg #[.int .i64 t.t,.int .i64 t.p,.slice ta t.ms.length tc,.slice tb t.ds.length td],.func (.func 169) #[] #[.pointer (some ⟨g,0,none⟩)]] w fun e w'=>∃i fd,e= .returned (.tuple #[.int .i64 i,.bool fd])∧(fd=true↔t∈l)∧Grw w w':=by
 have HF:=aa hF;have HS:=aa hS;have HC:Hid (∀(W:World) (x:Fl) (xa xb:Option Addr) (xc xe:Nat),Grw w W→MsAt w (.slice xa x.ms.length xc) x.ms→DsAt w (.slice xb x.ds.length xe) x.ds→x.ms.length≤2000000→x.ds.length≤2000000→Calls Tryz.prog 169 #[.agg #[.int .i64 x.t,.int .i64 x.p,.slice xa x.ms.length xc,.slice xb x.ds.length xe],.agg #[.int .i64 t.t,.int .i64 t.p,.slice ta t.ms.length tc,.slice tb t.ds.length td],.pointer (some ⟨g,0,none⟩)] W fun e w'=>e= .returned (.int .i64 (plc x t))∧Grw W w'):=fun W x xa xb xc xe hW k1 k2 k3 k4=>by
  have:=lf x t xa ta xb tb xc tc xe td g W (hO.below hW.below) (k1.below hW.below zr) (k2.below hW.below zr) (h1.below hW.below zr) (h2.below hW.below zr) k3 k4 l1 l2;rw [mP]at this;exact this
 have HB:=aa hs;clear hs hF hS hO h1 h2;go_enter Tryz.func82,Tryz.ntmps82;go_wp2_with fail
 go_loopw [9,10,11] (fun i j _ wr=>∃p q:Nat,p≤q∧q≤l.length∧i= .int .i64 p∧j= .int .i64 q∧Hid (∀k,k<p→plc (l.getD k fl0) t<0)∧Hid (∀k,q≤k→k<l.length→0≤plc (l.getD k fl0) t)∧Grw (w.alloc (.cells #[.int .i64 t.t,.int .i64 t.p,.slice ta t.ms.length tc,.slice tb t.ds.length td] 84)) wr) (fun i j _ _=>(intOf j).toNat-(intOf i).toNat)
 case atStart=>exact⟨0,l.length,by omega,by omega,rfl,rfl,aa (fun k h=>by omega),aa (fun k a b=>by omega),Grw.refl _⟩
 case round=>
  obtain⟨p,q,hpq,hq,rfl,rfl,HP,HQ,hgr⟩:=hrel;have HG:=aa hgr;have hgw:Grw w wr:=((Grw.refl w).alloc _).trans hgr;have t0:wr.cell? ⟨w.heap.size,0,none⟩=some (.int .i64 t.t):=ae (by simp) hgr.below zr;have t1:wr.cell? ⟨w.heap.size,1,none⟩=some (.int .i64 t.p):=ae (by simp) hgr.below zr;have t2:wr.cell? ⟨w.heap.size,2,none⟩=some (.slice ta t.ms.length tc):=ae (by simp) hgr.below zr;have t3:wr.cell? ⟨w.heap.size,3,none⟩=some (.slice tb t.ds.length td):=ae (by simp) hgr.below zr;have hbox:w.heap.size<wr.heap.size:=by have:=hgr.below.size;simp at this;omega
  by_cases hlt:p<q
  ·obtain⟨h,hh⟩:∃h:Nat,h=(p+q)/2:=⟨_,rfl⟩;have hm:h<l.length:=(by omega);have e:((p:Int)+(q:Int))/2=(h:Int):=(by omega);have hph:p≤h:=(by omega);have hhq:h<q:=(by omega);clear hh;obtain⟨b,off,rfl,hcap,hcell⟩:=rm HF.out hm;obtain⟨g0,g1,gm,gd,g2,g3,hms,hds⟩:=hcell;have hbd:=HB.out _ (mz hm);have HMM:=aa hms;have HDD:=aa hds;have a0:=ae g0 hgw.below zr;have a1:=ae g1 hgw.below zr;have a2:=ae g2 hgw.below zr;have a3:=ae g3 hgw.below zr;obtain⟨xa,xc,rfl, -, -⟩:=hms;obtain⟨xb,xe,rfl, -, -⟩:=hds;have HX:Hid (∀W:World,Grw w W→Calls Tryz.prog 169 #[.agg #[.int .i64 (l.getD h fl0).t,.int .i64 (l.getD h fl0).p,.slice xa (l.getD h fl0).ms.length xc,.slice xb (l.getD h fl0).ds.length xe],.agg #[.int .i64 t.t,.int .i64 t.p,.slice ta t.ms.length tc,.slice tb t.ds.length td],.pointer (some ⟨g,0,none⟩)] W fun e w'=>e= .returned (.int .i64 (plc (l.getD h fl0) t))∧Grw W w'):=fun W hW=>HC.out W (l.getD h fl0) xa xb xc xe hW HMM.out HDD.out hbd.1 hbd.2;have HLT:Hid (plc (l.getD h fl0) t<0→∀k,k<h+1→plc (l.getD k fl0) t<0):=fun hR k hk=>uA HS.out (by omega) hm hR;have HGE:Hid (0≤plc (l.getD h fl0) t→∀k,h≤k→k<l.length→0≤plc (l.getD k fl0) t):=fun hR k hk hkl=>Ap HS.out hk hkl hR;clear g0 g1 g2 g3 hbd HMM HDD HC HS HB;generalize plc (l.getD h fl0) t=R at*;generalize (l.getD h fl0).t=x0 at*;generalize (l.getD h fl0).p=x1 at*;generalize (l.getD h fl0).ms.length=x2 at*;generalize (l.getD h fl0).ds.length=x3 at*;have q1:(0:Int)≤(h:Int):=(by omega);have q2:(h:Int)<(l.length:Int):=(by omega);go_wp2_with fail
   clear e;go_region_held3 (fun w'=>(w'.cell? ⟨b,off+h*4,none⟩=some (.int .i64 x0)∧w'.cell? ⟨b,off+h*4+1,none⟩=some (.int .i64 x1)∧w'.cell? ⟨b,off+h*4+2,none⟩=some (.slice xa x2 xc)∧w'.cell? ⟨b,off+h*4+3,none⟩=some (.slice xb x3 xe))∧w'.cell? ⟨w.heap.size,0,none⟩=some (.int .i64 t.t)∧w'.cell? ⟨w.heap.size,1,none⟩=some (.int .i64 t.p)∧w'.cell? ⟨w.heap.size,2,none⟩=some (.slice ta t.ms.length tc)∧w'.cell? ⟨w.heap.size,3,none⟩=some (.slice tb t.ds.length td)) (go_keep)
    (first |(go_at_call 169;refine(ag HX _ hgw.drew).mono ?_;rintro e w1 ⟨rfl,hg1⟩;have hgB:Grw wr w1:=(Grw.refl wr).drew.trans hg1;have hb1:=hgB.below;have z0:=ae a0 hb1 zr;have z1:=ae a1 hb1 zr;have z2:=ae a2 hb1 zr;have z3:=ae a3 hb1 zr;have z4:=ae t0 hb1 zr;have z5:=ae t1 hb1 zr;have z6:=ae t2 hb1 zr;have z7:=ae t3 hb1 zr))
   have hG1:=HG.out.trans hgB;have HG1:=aa hG1;clear hG1 hgB hb1 hg1 hgr hgw HG a0 a1 a2 a3 t0 t1 t2 t3 z0 z1 z2 z3 z4 z5 z6 z7 HX hbox;by_cases hR:R<0
   ·have HN:=aa (HLT.out hR);clear HLT HGE HP;go_wp2_with fail
    go_roundw
    case rel=>exact⟨h+1,q,by omega,by omega,by go_num,rfl,HN,HQ,HG1.out⟩
    case measure=>simp [intOf];omega
   ·have HN:=aa (HGE.out (Int.not_lt.1 hR));clear HLT HGE HQ;go_wp2_with fail
    go_roundw
    case rel=>exact⟨p,h,by omega,by omega,rfl,by go_num,HP,HN,HG1.out⟩
    case measure=>simp [intOf];omega
  ·have hpq':p=q:=(by omega);subst hpq';by_cases hpl:p<l.length
   ·obtain⟨b,off,rfl,hcap,hcell⟩:=rm HF.out hpl;obtain⟨g0,g1,gm,gd,g2,g3,hms,hds⟩:=hcell;have hbd:=HB.out _ (mz hpl);have HMM:=aa hms;have HDD:=aa hds;have a0:=ae g0 hgw.below zr;have a1:=ae g1 hgw.below zr;have a2:=ae g2 hgw.below zr;have a3:=ae g3 hgw.below zr;obtain⟨xa,xc,rfl, -, -⟩:=hms;obtain⟨xb,xe,rfl, -, -⟩:=hds;have HX:Hid (∀W:World,Grw w W→Calls Tryz.prog 169 #[.agg #[.int .i64 (l.getD p fl0).t,.int .i64 (l.getD p fl0).p,.slice xa (l.getD p fl0).ms.length xc,.slice xb (l.getD p fl0).ds.length xe],.agg #[.int .i64 t.t,.int .i64 t.p,.slice ta t.ms.length tc,.slice tb t.ds.length td],.pointer (some ⟨g,0,none⟩)] W fun e w'=>e= .returned (.int .i64 (plc (l.getD p fl0) t))∧Grw W w'):=fun W hW=>HC.out W (l.getD p fl0) xa xb xc xe hW HMM.out HDD.out hbd.1 hbd.2;have HIF:Hid ((plc (l.getD p fl0) t==0)=true↔t∈l):=by
     show _↔_;rw [beq_iff_eq];constructor
     ·intro hz;rw [←eK hz];exact mz hpl
     ·intro hmem;obtain⟨i,hi,hit⟩:=getD_iff.1 hmem;have hip:p≤i:=Nat.le_of_not_lt fun hc=>by
       have:=HP.out i hc;rw [hit,dY]at this;omega
      have h0:=HQ.out p zr hpl;rcases Nat.lt_or_eq_of_le hip with hlt2 | heq
      ·have:=HS.out p i hlt2 hi;rw [hit]at this;omega
      ·rw [heq,hit];exact dY t
    clear g0 g1 g2 g3 hbd HMM HDD HC HS HB HP HQ;generalize plc (l.getD p fl0) t=R at*;generalize (l.getD p fl0).t=x0 at*;generalize (l.getD p fl0).p=x1 at*;generalize (l.getD p fl0).ms.length=x2 at*;generalize (l.getD p fl0).ds.length=x3 at*;have q1:(0:Int)≤(p:Int):=(by omega);have q2:(p:Int)<(l.length:Int):=(by omega);go_wp2_with fail
    go_region_held3 (fun w'=>(w'.cell? ⟨b,off+p*4,none⟩=some (.int .i64 x0)∧w'.cell? ⟨b,off+p*4+1,none⟩=some (.int .i64 x1)∧w'.cell? ⟨b,off+p*4+2,none⟩=some (.slice xa x2 xc)∧w'.cell? ⟨b,off+p*4+3,none⟩=some (.slice xb x3 xe))∧w'.cell? ⟨w.heap.size,0,none⟩=some (.int .i64 t.t)∧w'.cell? ⟨w.heap.size,1,none⟩=some (.int .i64 t.p)∧w'.cell? ⟨w.heap.size,2,none⟩=some (.slice ta t.ms.length tc)∧w'.cell? ⟨w.heap.size,3,none⟩=some (.slice tb t.ds.length td)) (go_keep)
     (first |(go_at_call 169;refine(ag HX _ hgw.drew).mono ?_;rintro e w1 ⟨rfl,hg1⟩;have hgB:Grw wr w1:=(Grw.refl wr).drew.trans hg1;have hb1:=hgB.below;have z0:=ae a0 hb1 zr;have z1:=ae a1 hb1 zr;have z2:=ae a2 hb1 zr;have z3:=ae a3 hb1 zr;have z4:=ae t0 hb1 zr;have z5:=ae t1 hb1 zr;have z6:=ae t2 hb1 zr;have z7:=ae t3 hb1 zr))
    have HG1:=aa (hgw.trans hgB);clear hgB hb1 hg1 hgr hgw HG a0 a1 a2 a3 t0 t1 t2 t3 z0 z1 z2 z3 z4 z5 z6 z7 HX hbox;go_wp2_with fail
    go_ret2;exact⟨_,_,rfl,HIF.out,HG1.out⟩
   ·have HNO:Hid (¬t∈l):=fun hmem=>by
     obtain⟨i,hi,hit⟩:=getD_iff.1 hmem;have:=HP.out i (by omega);rw [hit,dY]at this;omega
    have HGW:=aa hgw;clear HP HQ HC HS HB hgr HG hgw t0 t1 t2 t3;go_wp2_with fail
    go_quiet (fail);go_wp2_with fail
    go_ret2;exact⟨_,false,rfl,by simp [HNO.out],HGW.out.drewN _⟩
theorem yw (x:Fv) (l:List Fl) (o:Option Addr) (cap sb ob g:Nat) (w:World) (hF:FsAt w (.slice o l.length cap) l) (hS:yC l) (hE:EqAt w ob g) (hb:w.cell? ⟨sb,0,none⟩=some (.slice o l.length cap)) (hx:Held w x) (l1:x.f.ms.length≤2000000) (l2:x.f.ds.length≤2000000)
  (hl:l.length≤2000000) (hs:∀f∈l,f.ms.length≤2000000∧f.ds.length≤2000000):
  Calls Tryz.prog 81 #[.agg #[.int .i64 x.f.t,.int .i64 x.f.p,x.mv,x.dv],.pointer (some ⟨sb,0,none⟩),.pointer (some ⟨ob,0,none⟩)] w fun e w'=>∃fd,e= .returned (.bool fd)∧(fd=true↔x.f∈l)∧Grw w w':=by
 have HX:=aa hx;have HE:=aa hE;have HF:=aa hF;have he0:=hE.1;have hobl:=bM he0;have hsbl:=bM hb;obtain⟨⟨xa,xc,e1,_⟩,⟨xb,xe,e2,_⟩⟩:=hx;obtain⟨xf,xm,xd⟩:=x;simp only at e1 e2 l1 l2;subst e1 e2;have hA:Grw w (w.alloc (.cells #[.int .i64 xf.t,.int .i64 xf.p,.slice xa xf.ms.length xc,.slice xb xf.ds.length xe] 84)):=(Grw.refl w).alloc _;have HC:Hid (∀W:World,Below w.heap.size w W→Calls Tryz.prog 82 #[.slice o l.length cap,.agg #[.int .i64 xf.t,.int .i64 xf.p,.slice xa xf.ms.length xc,.slice xb xf.ds.length xe],.func (.func 169) #[] #[.pointer (some ⟨g,0,none⟩)]] W fun e w'=>∃i fd,e= .returned (.tuple #[.int .i64 i,.bool fd])∧(fd=true↔xf∈l)∧Grw W w'):=fun W hW=>
  tJ l xf o xa xb cap xc xe g W (HF.out.below hW zr) hS (HE.out.2.below hW) (HX.out.1.below hW zr) (HX.out.2.below hW zr) l1 l2 hl hs
 clear HX HE HF hE hF hS hs;simp only;go_enter Tryz.func81,Tryz.ntmps81;go_wp2_with fail
 refine(ag HC _ hA.below).mono ?_;rintro e w1 ⟨i,fd,rfl,hfd,hg1⟩;have hg:=hA.trans hg1;have HD:=aa hfd;have HG:=aa hg;clear hfd hg hg1 hA HC;go_wp2_with fail
 go_ret;exact⟨fd,rfl,HD.out,HG.out⟩
section
variable {w:World} {blk:Nat}
def wK (w:World) (blk sb ob:Nat) (lo:List Fv) (del:Fl→Bool):Prop:=∀(W:World) (x:Fv),w.grownBy W (some blk)→x∈lo→Calls Tryz.prog 81 #[.agg #[.int .i64 x.f.t,.int .i64 x.f.p,x.mv,x.dv],.pointer (some ⟨sb,0,none⟩),.pointer (some ⟨ob,0,none⟩)] W fun e w'=>e= .returned (.bool (del x.f))∧Grw W w'
theorem we (lo:List Fv) (del:Fl→Bool) (B cap sb ob:Nat) (hown:w.ownsRow B 84 4 (.slice (some ⟨blk,0,none⟩) lo.length cap) lo.length (C lo)) (hT:wK w blk sb ob lo del) (hok:∀x∈lo,Held w x) (hl:lo.length≤2000000):
  Calls Tryz.prog 130 #[.slice (some ⟨blk,0,none⟩) lo.length cap,.func (.func 81) #[] #[.pointer (some ⟨sb,0,none⟩),.pointer (some ⟨ob,0,none⟩)]] w fun e w'=>∃r:Int,e= .returned (.int .i64 r)∧((r= -1∧∀i,i<lo.length→del (lo.getD i fv0).f=false)∨∃k:Nat,k<lo.length∧r=k∧(∀i,i<k→del (lo.getD i fv0).f=false)∧del (lo.getD k fv0).f=true)∧Grw w w':=by
 have HO:=aa hown;have HT:=aa hT;have HK:=aa hok;have hcap:lo.length≤cap:=by
  obtain⟨_,⟨h,_⟩ |⟨g',cap',cur,hv,_,_,hnc,_⟩⟩:=hown
  ·simp at h
  ·simp only [Value.slice.injEq]at hv;omega
 have hblkw:=(gi hown).2;clear hown hT hok;go_enter Tryz.func130,Tryz.ntmps130;go_wp2_with fail
 go_loopw [8] (fun i wr=>∃k:Nat,k≤lo.length∧i= .int .i64 k∧Hid (∀j,j<k→del (lo.getD j fv0).f=false)∧Grw w wr) (fun i _=>lo.length-(intOf i).toNat)
 case atStart=>exact⟨0,by omega,rfl,aa (fun j h=>absurd h (by omega)),Grw.refl _⟩
 case round=>
  obtain⟨k,hk,rfl,HALL,hgr⟩:=hrel;have hbel:=hgr.below;have hgb:w.grownBy wr (some blk):=Below.grown1 hbel;have HOr:=aa (aA HO.out hbel);have hblkr:=Nat.lt_of_lt_of_le hblkw hbel.size;by_cases hlt:k<lo.length
  ·obtain⟨a0,a1,a2,a3⟩:=dq HOr.out hlt;have hX:=er hlt;have HXo:=aa (HK.out _ hX);have HST:Hid (∀W:World,w.grownBy W (some blk)→Calls Tryz.prog 81 #[.agg #[.int .i64 (lo.getD k fv0).f.t,.int .i64 (lo.getD k fv0).f.p,(lo.getD k fv0).mv,(lo.getD k fv0).dv],.pointer (some ⟨sb,0,none⟩),.pointer (some ⟨ob,0,none⟩)] W fun e w'=>e= .returned (.bool (del (lo.getD k fv0).f))∧Grw W w'):=fun W hW=>HT.out W _ hW hX;have HNX:Hid (del (lo.getD k fv0).f=false→∀j,j<k+1→del (lo.getD j fv0).f=false):=fun h j hj=>by
    by_cases e:j=k
    ·subst e;exact h
    ·exact HALL.out j (by omega)
   have HFD:Hid (del (lo.getD k fv0).f=true→(∀i,i<k→del (lo.getD i fv0).f=false)∧del (lo.getD k fv0).f=true):=fun h=>⟨HALL.out,h⟩;obtain⟨R,hRd⟩:∃R,R=del (lo.getD k fv0).f:=⟨_,rfl⟩;rw [←hRd]at HST HNX;have HRD:=aa hRd;clear hRd;obtain⟨⟨xa,xc,e1,_⟩,⟨xb,xe,e2,_⟩⟩:=HXo.out;rw [e1]at a2 HST;rw [e2]at a3 HST;clear e1 e2 HXo hX HALL;obtain⟨xt,hxt⟩:∃z,z=(lo.getD k fv0).f.t:=⟨_,rfl⟩;obtain⟨xp,hxp⟩:∃z,z=(lo.getD k fv0).f.p:=⟨_,rfl⟩;obtain⟨xml,hxml⟩:∃z,z=(lo.getD k fv0).f.ms.length:=⟨_,rfl⟩;obtain⟨xdl,hxdl⟩:∃z,z=(lo.getD k fv0).f.ds.length:=⟨_,rfl⟩;rw [←hxt]at a0 HST;rw [←hxp]at a1 HST;rw [←hxml]at a2 HST;rw [←hxdl]at a3 HST;clear hxt hxp hxml hxdl;have q1:(0:Int)≤(k:Int):=(by omega);have q2:(k:Int)<(lo.length:Int):=(by omega);have HGD:Hid (∀n,w.grownBy (wr.drewN n) (some blk)):=fun n=>⟨hgb.os,hgb.tape,hgb.output,hgb.size,hgb.block⟩;clear hgb;go_wp2_with fail
   refine(ag HST _ (Below.grown1 hbel)).mono ?_;rintro e w1 ⟨rfl,hg1⟩;have HG1:=aa (hgr.trans hg1);clear hg1 hgr hbel HGD HST HOr a0 a1 a2 a3;cases R
   ·have HN:=aa (HNX.out rfl);clear HNX HFD HRD;go_wp2_with fail
    go_roundw
    case rel=>exact⟨k+1,by omega,by go_num,HN,HG1.out⟩
    case measure=>simp [intOf];omega
   ·have HN:=aa (HFD.out HRD.out.symm);clear HNX HFD HRD;go_wp2_with fail
    go_ret;exact⟨_,rfl,.inr ⟨k,hlt,rfl,HN.out.1,HN.out.2⟩,HG1.out⟩
  ·have hkl:k=lo.length:=(by omega);have HN:Hid (∀i,i<lo.length→del (lo.getD i fv0).f=false):=fun i hi=>HALL.out i (by omega);have HG1:=aa hgr;clear HALL hkl hgr hbel hgb HOr;go_wp2_with fail
   go_ret;exact⟨_,rfl,.inl ⟨rfl,HN.out⟩,HG1.out⟩
end
def kp (del:Fl→Bool) (lo:List Fv) (j:Nat):List Fv:=(lo.take j).filter fun x=> !del x.f
theorem pC (del:Fl→Bool) (lo:List Fv) (j:Nat) (h:j<lo.length):kp del lo (j+1)=if del (lo.getD j fv0).f=true then kp del lo j else kp del lo j++ [lo.getD j fv0]:=by
 unfold kp;rw [List.take_succ_eq_append_getElem h,List.filter_append];have e:lo.getD j fv0=lo[j]:=by simp [List.getD,List.getElem?_eq_getElem h]
 rw [e];by_cases hd:del lo[j].f=true
 ·rw [if_pos hd];simp [hd]
 ·rw [if_neg hd];simp [hd]
theorem tA (del:Fl→Bool) (lo:List Fv):∀j,j≤lo.length→(∀i,i<j→del (lo.getD i fv0).f=false)→kp del lo j=lo.take j
 | 0,_,_=>by simp [kp]
 | j+1,hj,h=>by
  rw [pC del lo j (by omega),if_neg (by rw [h j (by omega)];simp),tA del lo j (by omega) (fun i hi=>h i (by omega)),List.take_succ_eq_append_getElem (by omega)];simp [List.getD,List.getElem?_eq_getElem (show j<lo.length by omega)]
section
variable {w:World} {blk:Nat}
theorem sH (lo:List Fv) (del:Fl→Bool) (B cap sb ob:Nat) (hown:w.ownsRow B 84 4 (.slice (some ⟨blk,0,none⟩) lo.length cap) lo.length (C lo)) (hT:wK w blk sb ob lo del) (hok:∀x∈lo,Held w x) (hl:lo.length≤2000000):
  Calls Tryz.prog 79 #[.slice (some ⟨blk,0,none⟩) lo.length cap,.func (.func 81) #[] #[.pointer (some ⟨sb,0,none⟩),.pointer (some ⟨ob,0,none⟩)]] w fun e w'=>e= .returned (.slice (some ⟨blk,0,none⟩) (kp del lo lo.length).length cap)∧w'.ownsRow B 84 4 (.slice (some ⟨blk,0,none⟩) (kp del lo lo.length).length cap) (kp del lo lo.length).length (C (kp del lo lo.length))∧w.grownBy w' (some blk):=by
 have HO:=aa hown;have HT:=aa hT;have HK:=aa hok;have hcap:lo.length≤cap:=by
  obtain⟨_,⟨h,_⟩ |⟨g',cap',cur,hv,_,_,hnc,_⟩⟩:=hown
  ·simp at h
  ·simp only [Value.slice.injEq]at hv;omega
 have hblkw:=(gi hown).2;clear hown hT hok;go_enter Tryz.func79,Tryz.ntmps79;go_wp2_with fail
 refine(we lo del B cap sb ob HO.out HT.out HK.out hl).mono ?_;rintro e w1 ⟨r,rfl,hr,hg1⟩;have HO1:=aa (aA HO.out hg1.below);have HG1:=aa (Below.grown1 (row:=some blk) hg1.below);clear hg1;rcases hr with⟨rfl,hall⟩ |⟨k,hk,rfl,hall,hdel⟩
 ·have HE:Hid (kp del lo lo.length=lo):=by
   show _=_;rw [tA del lo lo.length zr hall,List.take_length]
  clear hall;go_wp2_with fail
  go_ret;rw [HE.out];exact⟨rfl,HO1.out,HG1.out⟩
 ·have HD0:Hid (kp del lo (k+1)=lo.take k):=by
   show _=_;rw [pC del lo k hk,if_pos hdel,tA del lo k (by omega) hall]
  clear hall hdel;have hne:((k:Int)== -1)=false:=beq_eq_false_iff_ne.mpr (by omega);go_wp2_with fail
  rename World=>W0
  go_loopw [5,6,7] (fun p j _ wq=>∃(jj pp:Nat) (r:List Fv),p= .int .i64 pp∧j= .int .i64 jj∧jj≤lo.length∧pp+1≤jj∧Hid (r.length=lo.length∧r.take pp=kp del lo jj∧pp=(kp del lo jj).length∧∀i,jj≤i→r.getD i fv0=lo.getD i fv0)∧Hid (wq.ownsRow B 84 4 (.slice (some ⟨blk,0,none⟩) r.length cap) r.length (C r))∧Hid (w.grownBy wq (some blk))) (fun _ j _ _=>lo.length-(intOf j).toNat)
  case atStart=>exact⟨k+1,k,lo,rfl,by go_num,by omega,by omega,aa ⟨rfl,HD0.out.symm,by rw [HD0.out];simp;omega,fun i _=>rfl⟩,HO1,HG1⟩
  case round=>
   clear HO1 HG1 HD0;obtain⟨jj,pp,r,rfl,rfl,hjl,hpp,HI,HOq,HGq⟩:=hrel;have hblkq:=(gi HOq.out).2;by_cases hlt2:jj<lo.length
   ·obtain⟨hrl,hrt,hrp,hrd⟩:=HI.out;have hxl:jj<r.length:=(by omega);obtain⟨a0,a1,a2,a3⟩:=dq HOq.out hxl;rw [hrd jj zr]at a0 a1 a2 a3;have hX:=er hlt2;have HXo:=aa (HK.out _ hX);have HST:Hid (∀W:World,w.grownBy W (some blk)→Calls Tryz.prog 81 #[.agg #[.int .i64 (lo.getD jj fv0).f.t,.int .i64 (lo.getD jj fv0).f.p,(lo.getD jj fv0).mv,(lo.getD jj fv0).dv],.pointer (some ⟨sb,0,none⟩),.pointer (some ⟨ob,0,none⟩)] W fun e w'=>e= .returned (.bool (del (lo.getD jj fv0).f))∧Grw W w'):=fun W hW=>HT.out W _ hW hX;have HDN:=aa (pC del lo jj hlt2);obtain⟨x,hxd⟩:∃x,x=lo.getD jj fv0:=⟨_,rfl⟩;rw [←hxd]at HST HDN a0 a1 a2 a3 HXo;clear hxd hX hrt hrp hrd;have HIR:=HI;clear HI;generalize del x.f=R at*;obtain⟨⟨xa',xc',e1,_⟩,⟨xb',xe',e2,_⟩⟩:=HXo.out;rw [e1]at a2 HST;rw [e2]at a3 HST;have HE1:=aa e1;have HE2:=aa e2;clear e1 e2 HXo;obtain⟨xt',hxt⟩:∃z,z=x.f.t:=⟨_,rfl⟩;obtain⟨xp',hxp⟩:∃z,z=x.f.p:=⟨_,rfl⟩;obtain⟨xml',hxml⟩:∃z,z=x.f.ms.length:=⟨_,rfl⟩;obtain⟨xdl',hxdl⟩:∃z,z=x.f.ds.length:=⟨_,rfl⟩;rw [←hxt]at a0 HST;rw [←hxp]at a1 HST;rw [←hxml]at a2 HST HE1;rw [←hxdl]at a3 HST HE2;have HX4:Hid (xt'=x.f.t∧xp'=x.f.p):=⟨hxt,hxp⟩;clear hxt hxp hxml hxdl;have p1:(0:Int)≤(jj:Int):=(by omega);have p2:(jj:Int)<(lo.length:Int):=(by omega);have hA:Grw wr (wr.alloc (.cells #[.int .i64 xt',.int .i64 xp',.slice xa' xml' xc',.slice xb' xdl' xe'] 84)):=(Grw.refl wr).alloc _;have HGA:=aa (jc HGq.out (Below.grown1 (row:=some blk) hA.below));go_wp2_with fail
    refine(ag HST _ HGA.out).mono ?_;rintro e w2 ⟨rfl,hg2⟩;have z0:w2.cell? ⟨wr.heap.size,0,none⟩=some (.int .i64 xt'):=ae (by simp) hg2.below zr;have z1:w2.cell? ⟨wr.heap.size,1,none⟩=some (.int .i64 xp'):=ae (by simp) hg2.below zr;have z2:w2.cell? ⟨wr.heap.size,2,none⟩=some (.slice xa' xml' xc'):=ae (by simp) hg2.below zr;have z3:w2.cell? ⟨wr.heap.size,3,none⟩=some (.slice xb' xdl' xe'):=ae (by simp) hg2.below zr;have hb2:=(hA.trans hg2).below;have HO2:=aa (aA HOq.out hb2);have HG2:=aa (jc HGq.out (Below.grown1 hb2));have hn1:¬blk=wr.heap.size:=(by omega);have hn2:¬wr.heap.size=blk:=(by omega);clear a0 a1 a2 a3 hg2 hb2 HST HOq HGq HGA hA;cases R
    ·rw [if_neg (by simp)]at HDN;have hppl:pp<r.length:=(by omega);obtain⟨c0,c1,c2,c3⟩:=dq HO2.out hppl;have f0:=HO2.out.frozenAt (pp*4);have f1:=HO2.out.frozenAt (pp*4+1);have f2:=HO2.out.frozenAt (pp*4+2);have f3:=HO2.out.frozenAt (pp*4+3);have HO4:=aa (rI HO2.out pp x hppl);rw [←HX4.out.1, ←HX4.out.2,HE1.out,HE2.out]at HO4;have HG4:=aa (cU (j:=pp*4+3) (v:=.slice xb' xdl' xe') (cU (j:=pp*4+2) (v:=.slice xa' xml' xc') (cU (j:=pp*4+1) (v:=.int .i64 xp') (cU (j:=pp*4) (v:=.int .i64 xt') HG2.out))));have HN:Hid ((r.set pp x).length=lo.length∧(r.set pp x).take (pp+1)=kp del lo (jj+1)∧pp+1=(kp del lo (jj+1)).length∧∀i,jj+1≤i→(r.set pp x).getD i fv0=lo.getD i fv0):=by
      obtain⟨n1,n2,n3,n4⟩:=HIR.out;rw [HDN.out];refine aa ⟨by simpa using n1,?_,by simp;omega,fun i hi=>?_⟩
      ·rw [←n2];rw [List.take_succ_eq_append_getElem (by simpa using hppl),List.take_set_of_le zr];simp
      ·rw [←n4 i (by omega)];simp [List.getD,show¬pp=i by omega]
     generalize (r.getD pp fv0).f.t=ct at*;generalize (r.getD pp fv0).f.p=cp at*;generalize (r.getD pp fv0).mv=cmv at*;generalize (r.getD pp fv0).dv=cdv at*;have t1:(0:Int)≤(pp:Int):=(by omega);have t2:(pp:Int)<(lo.length:Int):=(by omega);clear HDN HIR HE1 HE2 HX4 HO2 HG2;go_wp2_with fail
     go_roundw
     case rel=>exact⟨jj+1,pp+1,r.set pp x,by go_num,by go_num,by omega,by omega,HN,HO4,HG4⟩
     case measure=>simp [intOf];omega
    ·rw [if_pos rfl]at HDN;have HN:Hid (r.length=lo.length∧r.take pp=kp del lo (jj+1)∧pp=(kp del lo (jj+1)).length∧∀i,jj+1≤i→r.getD i fv0=lo.getD i fv0):=by
      obtain⟨n1,n2,n3,n4⟩:=HIR.out;rw [HDN.out];exact aa ⟨n1,n2,n3,fun i hi=>n4 i (by omega)⟩
     clear HDN HIR HE1 HE2 HX4;go_wp2_with fail
     go_roundw
     case rel=>exact⟨jj+1,pp,r,rfl,by go_num,by omega,by omega,HN,HO2,HG2⟩
     case measure=>simp [intOf];omega
   ·obtain⟨hrl,hrt,hrp,hrd⟩:=HI.out;have hend:jj=lo.length:=(by omega);rw [hend]at hrt hrp;have HPP:=aa hrp;have HOP:Hid (wr.ownsRow B 84 4 (.slice (some ⟨blk,0,none⟩) pp cap) pp (C (kp del lo lo.length))):=by
     have:=nd HOq.out (show pp≤r.length by omega);rw [wW,hrt]at this;exact aa this
    have hpl:pp<lo.length:=(by omega);obtain⟨vs,hclr⟩:∃vs,∀ty,(Builtin.clear_ #[79] ty #[.slice (some ⟨blk,pp*4,none⟩) (lo.length-pp) (cap-pp)]).run Tryz.prog wr= .ok (.tuple #[]) (wr.setCells blk (pp*4) vs):=
     lA wr blk (pp*4) (lo.length-pp) (cap-pp) (by omega) (fun j hj=>by rw [HOq.out.cellAt (pp*4+j) (by omega),List.getElem?_eq_getElem (by rw [uK];omega)];rfl) (fun j hj=>HOq.out.frozenAt _)
    have s1:(lo.length:Int)≤(jj:Int):=(by omega);have s2:(0:Int)≤(pp:Int):=(by omega);have s3:(pp:Int)≤(lo.length:Int):=(by omega);have s4:(pp:Int)≤(cap:Int):=(by omega);have HOE:=aa (ig vs (pp*4) wr HOP.out zr);have HGE:=aa (fP vs (pp*4) wr HGq.out);clear hrl hrt hrp hrd hend HOP HOq HGq HI hlt2 hjl hpp;go_wp2_with (simp only [hclr])
    go_ret;refine⟨?_,?_,HGE.out⟩
    ·rw [←HPP.out];rfl
    ·rw [←HPP.out];exact HOE.out
end
theorem zN {sl:List Fv} (h:sl.Pairwise fun a b=>¬plc b.f a.f<0):yC (sl.map Fv.f):=by
 intro i j hij hj;have hj':j<sl.length:=by simpa using hj
 have hi':i<sl.length:=by omega
 have:=List.pairwise_iff_getElem.1 h i j hi' hj' hij;have e1:(sl.map Fv.f).getD i fl0=sl[i].f:=by simp [List.getD,List.getElem?_eq_getElem hi']
 have e2:(sl.map Fv.f).getD j fl0=sl[j].f:=by simp [List.getD,List.getElem?_eq_getElem hj']
 rw [e1,e2];exact Int.not_lt.1 fun hc=>this ((fF _ _).2 hc)
theorem AT (del:Fl→Bool) (lo:List Fv):(kp del lo lo.length).map Fv.f=(lo.map Fv.f).filter fun f=> !del f:=by
 unfold kp;rw [List.take_length,List.filter_map];rfl
theorem Bf {del:Fl→Bool} {lo:List Fv} {x:Fv} (h:x∈kp del lo lo.length):x∈lo:=by
 unfold kp at h;rw [List.take_length]at h;exact(List.mem_filter.1 h).1
theorem om (p:Option Addr) (cap:Nat) (fv:Value) (w:World):Calls Tryz.prog 130 #[.slice p 0 cap,fv] w fun e w'=>e= .returned (.int .i64 (-1))∧w'=w:=by
 go_enter Tryz.func130,Tryz.ntmps130;go_wp2_with fail
 refine wp_loop_rounds 1 ?_;rw [rounds_succ];go_wp2_with fail
 go_ret;exact⟨rfl,rfl⟩
theorem mU (p:Option Addr) (cap:Nat) (fv:Value) (w:World):Calls Tryz.prog 79 #[.slice p 0 cap,fv] w fun e w'=>e= .returned (.slice p 0 cap)∧w'=w:=by
 go_enter Tryz.func79,Tryz.ntmps79;go_wp2_with fail
 refine(om p cap fv w).mono ?_;rintro e w1 ⟨rfl,rfl⟩;go_wp2_with fail
 go_ret;exact⟨rfl,rfl⟩
theorem lF (vl vg:Value) (ls gs:List Fl) (w:World) (hF:FsAt w vl ls) (hG:FsAt w vg gs) (hl:ls.length≤2000000) (hlg:gs.length≤2000000) (hs:∀f∈ls,f.ms.length≤2000000∧f.ds.length≤2000000) (hsg:∀f∈gs,f.ms.length≤2000000∧f.ds.length≤2000000):
  Calls Tryz.prog 53 #[vl,vg] w fun e w'=>∃u,e= .returned u∧∃lo:List Fv,lo.map Fv.f=ls.filter (fun f=> !th f gs gs.length)∧∃w4,(∀x∈lo,Held w4 x)∧w'.ownsRow w4.heap.size 84 4 u lo.length (C lo)∧Below w.heap.size w w4∧Below w4.heap.size w4 w':=by
 have HF:=aa hF;have HG:=aa hG;have HS:=aa hs;have HSG:=aa hsg;obtain⟨a,cap,rfl,_,_⟩:=hF;obtain⟨a2,cap2,rfl,_,_⟩:=hG;clear hs hsg;go_enter Tryz.func53,Tryz.ntmps53;go_wp2_with fail
 refine(ga _).mono ?_;rintro e w1 ⟨rfl,hw1⟩;have hb1:Below w.heap.size w w1:=by rw [hw1];exact((Below.refl _ _).alloc zr _).alloc (by simp) _
 have HO1:Hid (OrdAt w1 (w.heap.size+1)):=by
  rw [hw1];have e:w.heap.size+1=(w.alloc zb).heap.size:=(by simp);refine aa ⟨w.heap.size,?_,?_⟩
  ·rw [e];simp
  ·simp
 have hs1:=hb1.size;clear hw1;obtain⟨G,hG⟩:∃G,G=w.heap.size+1:=⟨_,rfl⟩;rw [←hG]at HO1⊢;clear hG;go_wp2_with fail
 refine(lz _ gs _ (HG.out.below hb1 zr) hlg HSG.out).mono ?_;rintro e w3 ⟨u,rfl,sl,hp,hsrt,hh,ho3,hb3⟩;obtain⟨so,sc,rfl,hsc,hsg⟩:=kB ho3;have hb03:=hb1.trans (hb3.mono hb1.size);have HO3:=aa (HO1.out.below hb3);have HFS:Hid (FsAt w3 (.slice so sl.length sc) (sl.map Fv.f)):=aa (nv (w0:=w) ho3 (fun x hx=>(hh x hx).below hb3 zr));have HSO:=aa (zN hsrt);have HPM:Hid (∀f,f∈sl.map Fv.f↔f∈gs):=fun f=>hp.mem_iff;have HLN:Hid ((sl.map Fv.f).length≤2000000):=by
  have:=hp.length_eq;exact aa (by omega)
 have HSL:Hid (∀f∈sl.map Fv.f,f.ms.length≤2000000∧f.ds.length≤2000000):=fun f hf=>HSG.out f (hp.mem_iff.1 hf);have HML:Hid ((sl.map Fv.f).length=sl.length):=aa (List.length_map _);clear hp hh ho3 hsg hsrt hb3 HO1;go_wp2_with fail
 obtain⟨w4,hw4⟩:∃w4,w4=(w3.alloc (.cells #[.func (.func 169) #[] #[.pointer (some ⟨G,0,none⟩)]] 136)).alloc (.cells #[.slice so sl.length sc] 79):=⟨_,rfl⟩;have hb34:Below w3.heap.size w3 w4:=by rw [hw4];exact((Below.refl _ _).alloc zr _).alloc (by simp) _
 have HB4:=aa (hb03.trans (hb34.mono hb03.size));have HE4:Hid (EqAt w4 w3.heap.size G):=by
  refine aa ⟨by rw [hw4];simp,HO3.out.below hb34⟩
 have HC4:Hid (w4.cell? ⟨w3.heap.size+1,0,none⟩=some (.slice so sl.length sc)):=by
  rw [hw4];have e:w3.heap.size+1=(w3.alloc (.cells #[.func (.func 169) #[] #[.pointer (some ⟨G,0,none⟩)]] 136)).heap.size:=(by simp);rw [e];exact aa (by simp)
 have HF4:=aa (HFS.out.below hb34 zr);rw [←hw4];clear hw4 hb34 HO3 HFS;obtain⟨OB,hOB⟩:∃OB,OB=w3.heap.size:=⟨_,rfl⟩;rw [←hOB]at HE4 HC4⊢;clear hOB;refine(lq _ ls w4 (HF.out.below HB4.out zr) hl).mono ?_;rintro e w5 ⟨v,lo,rfl,hlm,hh5,ho5,hb5⟩;have HLM:=aa hlm;have HH5:=aa hh5;have HO5:=aa ho5;have HLL:Hid (lo.length≤2000000):=by
  have:=congrArg List.length hlm;rw [List.length_map]at this;exact aa (by omega)
 have HBD:Hid (∀x∈lo,x.f.ms.length≤2000000∧x.f.ds.length≤2000000):=fun x hx=>HS.out x.f (by rw [←hlm];exact List.mem_map_of_mem hx);clear hlm hh5;by_cases h0:lo.length=0
 ·obtain⟨ua,uc,rfl, -, -⟩:=kB ho5;obtain rfl:=List.eq_nil_of_length_eq_zero h0;have HNL:Hid (ls= []):=HLM.out.symm;clear ho5 HLM;go_wp2_with fail
  refine(mU _ _ _ _).mono ?_;rintro e w6 ⟨rfl,rfl⟩;have HB5:=aa hb5;go_wp2_with fail
  go_ret;exact⟨_,rfl,[],by rw [HNL.out];rfl,w4,by simp,HO5.out,HB4.out,HB5.out⟩
 ·obtain⟨blk,uc,rfl,_⟩:=ho5.form (by omega);obtain⟨hblk0,hblk1⟩:=gi ho5;clear ho5;have HW:Hid (∀W:World,w5.grownBy W (some blk)→Below w4.heap.size w4 W):=fun W hW=>hb5.grown hW hb5.size (by simp;omega);have HTS:Hid (wK w5 blk (OB+1) OB lo (fun f=>th f gs gs.length)):=fun W x hW hx=>by
   have hbW:=HW.out W hW;have hlen:=HML.out;have hFW:=HF4.out.below hbW zr;rw [←hlen]at hFW;have hcW:=ae HC4.out hbW zr;rw [←hlen]at hcW;refine(yw x (sl.map Fv.f) so sc (OB+1) OB G W hFW HSO.out (HE4.out.below hbW) hcW ((HH5.out x hx).below hbW zr) (HBD.out x hx).1 (HBD.out x hx).2 HLN.out HSL.out).mono ?_;rintro e w' ⟨fd,rfl,hfd,hg⟩;refine⟨?_,hg⟩;have:fd=th x.f gs gs.length:=by
    rw [Bool.eq_iff_iff,hfd,tV];exact HPM.out x.f
   rw [this]
  have HHH:Hid (∀x∈lo,Held w5 x):=fun x hx=>(HH5.out x hx).below hb5 zr;clear hb5;go_wp2_with fail
  refine(sH lo (fun f=>th f gs gs.length) w4.heap.size uc (OB+1) OB HO5.out HTS.out HHH.out HLL.out).mono ?_;rintro e w6 ⟨rfl,ho6,hg6⟩;have HO6:=aa ho6;have HB6:=aa (HW.out w6 hg6);clear ho6 hg6 HO5 HTS HHH;go_wp2_with fail
  go_ret;exact⟨_,rfl,kp (fun f=>th f gs gs.length) lo lo.length,by rw [AT,HLM.out],w4,fun x hx=>HH5.out x (Bf hx),HO6.out,HB4.out,HB6.out⟩
def lft (xs ys:List Fl):List Fl:=xs.filter fun f=> !th f ys ys.length
theorem jS (xs ys:List Fl):(lft xs ys).length≤xs.length:=List.length_filter_le _ _
theorem uz {xs ys:List Fl} {f:Fl} (h:f∈lft xs ys):f∈xs:=(List.mem_filter.1 h).1
theorem Few.lft {xs ys:List Fl} (h:Few xs):Few (lft xs ys):=⟨Nat.le_trans (jS xs ys) h.1,fun f hf=>h.2 f (uz hf)⟩
theorem gT (vl vg:Value) (ls gs:List Fl) (w:World) (hF:FsAt w vl ls) (hG:FsAt w vg gs) (hl:Few ls) (hg:Few gs):
  Calls Tryz.prog 53 #[vl,vg] w fun e w'=>∃u,e= .returned u∧FsAt w' u (lft ls gs)∧Below w.heap.size w w':=by
 refine(lF vl vg ls gs w hF hG hl.1 hg.1 hl.2 hg.2).mono ?_;rintro e w' ⟨u,rfl,lo,hm,w4,hh,ho,hb,hb'⟩;have:=nv (w0:=w) ho (fun x hx=>(hh x hx).below hb' zr);rw [hm]at this;exact⟨u,rfl,this,hb.trans (hb'.mono hb.size)⟩
theorem xh (va vb:Value) (xs ys:List Fl) (w:World) (hA:FsAt w va xs) (hB:FsAt w vb ys) (hx:Few xs) (hy:Few ys):
  Calls Tryz.prog 57 #[va,vb] w fun e w'=>∃u v,e= .returned (.tuple #[u,v])∧FsAt w' u (srt (lft ys xs) (lft ys xs).length)∧FsAt w' v (srt (lft xs ys) (lft xs ys).length)∧Below w.heap.size w w':=by
 have HA:=aa hA;have HB:=aa hB;have HX:=aa hx;have HY:=aa hy;obtain⟨a,cap,rfl⟩:=bY hA;obtain⟨a2,cap2,rfl⟩:=bY hB;clear hA hB hx hy;go_enter Tryz.func57,Tryz.ntmps57;go_wp2_with fail
 refine(gT _ _ ys xs _ HB.out HA.out HY.out HX.out).mono ?_;rintro e w1 ⟨u1,rfl,hu1,hb1⟩;have HU1:=aa hu1;obtain⟨p1,c1,rfl⟩:=bY hu1;clear hu1;go_wp2_with fail
 refine(mJ _ (lft ys xs) _ HU1.out HY.out.lft.1 HY.out.lft.2).mono ?_;rintro e w2 ⟨u2,rfl,hu2,hb2⟩;have HU2:=aa hu2;obtain⟨p2,c2,rfl⟩:=bY hu2;have hb02:=hb1.trans (hb2.mono hb1.size);clear hu2 hb1 hb2 HU1;go_wp2_with fail
 refine(gT _ _ xs ys _ (HA.out.below hb02 zr) (HB.out.below hb02 zr) HX.out HY.out).mono ?_;rintro e w3 ⟨u3,rfl,hu3,hb3⟩;have HU3:=aa hu3;obtain⟨p3,c3,rfl⟩:=bY hu3;clear hu3;go_wp2_with fail
 refine(mJ _ (lft xs ys) _ HU3.out HX.out.lft.1 HX.out.lft.2).mono ?_;rintro e w4 ⟨u4,rfl,hu4,hb4⟩;have HU4:=aa hu4;obtain⟨p4,c4,rfl⟩:=bY hu4;have hb24:=hb3.trans (hb4.mono hb3.size);have HU5:=aa (HU2.out.below hb24 zr);have HBB:=aa (hb02.trans (hb24.mono hb02.size));clear hu4 hb3 hb4 HU3 hb24 hb02 HU2;go_wp2_with fail
 go_ret2;exact⟨_,_,rfl,HU5.out,HU4.out,HBB.out⟩

theorem zZ {w:World} {ad:Addr} {cap:Nat} {fs:List Fl} (h:FsAt w (.slice (some ad) fs.length cap) fs):∃lc:List Fv,lc.map Fv.f=fs∧lc.length=fs.length∧(∀x∈lc,Held w x)∧∀j u,(C lc)[j]? =some u→w.cell? (ad.add j)=some u:=by
 obtain⟨_,_,lo,h1,h2,h3⟩:=AA h;have hll:lo.length=fs.length:=by rw [←h1];simp
 refine⟨lo,h1,hll,h2,?_⟩;rcases h3 with h |⟨b,off,h4,_,h5⟩
 ·intro j u hj;rw [List.eq_nil_of_length_eq_zero h]at hj;simp [C]at hj
 ·cases h4;exact h5
def AE (w:World) (u:Value) (lo:List Fv):Prop:=∀W:World,w.grownBy W u.ownBlock→∀x∈lo,Held W x
theorem nQ {w4 w1:World} {u:Value} {lo:List Fv} (hh:∀x∈lo,Held w4 x) (ho:w1.ownsRow w4.heap.size 84 4 u lo.length (C lo)) (hb:Below w4.heap.size w4 w1):AE w1 u lo:=fun W hW x hx=>
 (hh x hx).below (hb.grown hW hb.size (ay ho)) zr
theorem yl {w w1 w2:World} {B:Nat} {u v:Value} {lo lc:List Fv} (hk:AE w1 u lo) (hc:∀x∈lc,Held w x) (hb:Below w.heap.size w w2) (hg:w1.grownBy w2 u.ownBlock) (ho:w2.ownsRow B 84 4 v (lo.length+lc.length) (C lo++C lc)):FsAt w2 v (lo.map Fv.f++lc.map Fv.f):=by
 rw [←List.map_append];rw [←iY, ←List.length_append]at ho;refine nv (w0:=w) ho fun x hx=>?_;rcases List.mem_append.1 hx with h | h
 ·exact hk w2 hg x h
 ·exact(hc x h).below hb zr
theorem rH (p:Option Addr) (n c:Nat) (h:n≤c) (w:World) (ty:TypeId):(Builtin.append_ #[79,79] ty #[.slice p n c,.slice none 0 0]).run Tryz.prog w= .ok (.slice p n c) w:=by
 obtain⟨i0,hi,hz0,hz1,hz2⟩:=info_parts fD;cases p <;>simp [Builtin.append_,run_underlying Tryz.underlying79,sizeOf,typeInfo,hi,Builtin.lenOf,Builtin.firstCells,h,storeCells]
theorem kM {ops:Array Oper} {rest:List Oper} {o:Oper} {a:Act} {Q:Exit→Act→World→Prop} {w:World} (hgd:o.guard=none) (s x:Operand)
  (ho:o.op= .call {callee:=.builtin .append,args:= #[s,x],argTypes:= #[79,79]}) (p:Option Addr) (n c:Nat) (h:n≤c) (hs:a.eval s= .slice p n c) (hx:a.eval x= .slice none 0 0)
  (hK:wpList Tryz.prog ops Q rest (a.put o.dst (.slice p n c)) w):wpList Tryz.prog ops Q (o::rest) a w:=by
 refine wpList_plain hgd fun K hK'=>?_;have hr:=rH p n c h w o.type;unfold Oper.wp execOp;simp only [ho,resolve,invoke,builtin,Sem.run_bind,Sem.run_pure,Result.andThen_ok,List.map_toArray,List.map_cons,List.map_nil,hs,hx,hr];exact hK' _ _ hK
theorem FsOwn.less {w:World} {B B':Nat} {u:Value} {fs:List Fl} (h:FsOwn w B u fs) (hB:B'≤B):FsOwn w B' u fs:=⟨h.1,h.2.imp id fun⟨blk,cap,lo,e1,e2,ho,hx⟩=>⟨blk,cap,lo,e1,e2,aw ho hB,fun x hx'=>⟨(hx x hx').1,fun g hg=>Nat.le_trans hB ((hx x hx').2.1 g hg),fun g hg=>Nat.le_trans hB ((hx x hx').2.2 g hg)⟩⟩⟩
theorem uM (vl vc vg:Value) (ls cs gs:List Fl) (w:World) (hL:FsAt w vl ls) (hC:FsAt w vc cs) (hG:FsAt w vg gs) (fl:Few ls) (fc:Few cs) (fg:Few gs) (hsum:ls.length+cs.length≤2000000):
  Calls Tryz.prog 31 #[vl,vc,vg] w fun e w'=>∃u,e= .returned u∧FsOwn w' w.heap.size u (srt (lft ls gs++cs) (lft ls gs++cs).length)∧Below w.heap.size w w':=by
 obtain⟨i0,hi,hz0,hz1,hz2⟩:=info_parts fD;have HL:=aa hL;have HC:=aa hC;have HG:=aa hG;have HFL:=aa fl;have HFG:=aa fg;have HFW:Hid (Few (lft ls gs++cs)):=by
  refine aa ⟨?_,fun f hf=>?_⟩
  ·have:=jS ls gs;rw [List.length_append];omega
  ·rcases List.mem_append.1 hf with h | h
   ·exact fl.2 f (uz h)
   ·exact fc.2 f h
 obtain⟨a,cap,rfl⟩:=bY hL;obtain⟨a3,cap3,rfl⟩:=bY hG;obtain⟨a2,cap2,rfl,hn2,hL2⟩:=hC;have hlls:=fl.1;clear hL hG fl fc fg;cases a2 with
 | none=>
  obtain rfl:=hn2 rfl;have h0:cs.length=0:=by
   rcases hL2 with h |⟨_,_,h,_⟩
   ·exact h
   ·simp at h
  obtain rfl:=List.eq_nil_of_length_eq_zero h0;clear hL2 h0 hn2;rw [show([]:List Fl).length=0 from rfl];rw [List.append_nil]at HFW⊢;go_enter Tryz.func31,Tryz.ntmps31;go_wp2_with fail
  refine(gT _ _ ls gs _ HL.out HG.out HFL.out HFG.out).mono ?_;rintro e w1 ⟨u,rfl,hu,hb1⟩;have HU:=aa hu;obtain⟨p1,c1,rfl,hpn,hpl⟩:=hu;have hc1:(lft ls gs).length≤c1:=by
   rcases hpl with h |⟨_,_,_,h,_⟩
   ·omega
   ·exact h
  clear hpl hpn;go_wp2_with (at_builtin;refine kM rfl _ _ rfl p1 (lft ls gs).length c1 hc1 rfl rfl ?_)
  refine(nG _ (lft ls gs) _ HU.out HFW.out.1 HFW.out.2).mono ?_;rintro e w2 ⟨u2,rfl,hu2,hb2⟩;have HU2:=aa (hu2.less hb1.size);obtain⟨p2,c2,rfl⟩:=bY hu2.1;have HB2:=aa (hb1.trans (hb2.mono hb1.size));clear hu2 hb1 hb2 HU;go_wp2_with fail
  go_ret;exact⟨_,rfl,HU2.out,HB2.out⟩
 | some ad=>
  obtain⟨lc,hlc,hlcl,hhc,hcell⟩:=zZ HC.out;have HLC:=aa hlc;have HHC:=aa hhc;have HCL:=aa hcell;have HCN:Hid ((C lc).length=cs.length*4):=by
   rw [←hlcl];exact aa (uK lc)
  have HLL:=aa hlcl;clear hL2 hn2 hlc hhc hcell hlcl;go_enter Tryz.func31,Tryz.ntmps31;go_wp2_with fail
  refine(lF _ _ ls gs _ HL.out HG.out HFL.out.1 HFG.out.1 HFL.out.2 HFG.out.2).mono ?_;rintro e w1 ⟨u,rfl,lo,hm,w4,hh,ho,hb4,hb41⟩;have HM:=aa hm;have HKP:=aa (nQ hh ho hb41);have HO:=aa ho;have hb1:=hb4.trans (hb41.mono hb4.size);have hs4:=hb4.size;have hs41:=hb41.size;have hll:lo.length≤ls.length:=by
   have:=congrArg List.length hm;rw [List.length_map]at this;rw [this];exact List.length_filter_le _ _
  have HCW:Hid (∀j u,(C lc)[j]? =some u→w1.cell? (ad.add j)=some u):=fun j u hj=>by
   have h:=HCL.out j u hj;have hsp:(ad.add j).spot=none:=World.cell?_spot h;rcases hq:ad.add j with⟨bb,oo,ss⟩;rw [hq]at h hsp;simp only at hsp;subst hsp;exact ae h hb1 zr
  clear hm hh ho hb4 hb41;go_wp2_with (at_builtin;refine wpList_append_own _ rfl _ _ 79 rfl w4.heap.size 84 i0 _ 4 64 Tryz.underlying79 hi hz0 hz1 hz2 rfl (by decide) _ _ _ rfl (ag HO) ad cs.length cap2 (C lc) rfl (ag HCN) (ag HCW) (qW (ag HHC)) ?a1 ?a2 ?a3 ?_)
  case a1=>unfold maxLen;omega
  case a2=>omega
  case a3=>exact hs41
  intro v2 w2 ho2 hg2 _;have hb2:Below w.heap.size w w2:=hb1.grown hg2 hb1.size (fun g e=>Nat.le_trans hs4 (ay HO.out g e));have HF2:Hid (FsAt w2 v2 (lft ls gs++cs)):=by
   have:=yl HKP.out HHC.out hb2 hg2 (by rw [HLL.out];exact ho2);rw [HM.out,HLC.out]at this;exact aa this
  obtain⟨p2,c2,hv2⟩:=bY HF2.out;have HSRT:=aa (nG v2 (lft ls gs++cs) w2 HF2.out HFW.out.1 HFW.out.2);obtain⟨N,hN⟩:∃N,N=(lft ls gs++cs).length:=⟨_,rfl⟩;rw [←hN]at hv2;subst hv2;clear hN ho2 hg2 HO HKP HCW HCL hb1 HF2;go_wp2_with fail
  refine(ag HSRT).mono ?_;rintro e w3 ⟨u3,rfl,hu3,hb3⟩;have HU3:=aa (hu3.less hb2.size);obtain⟨p3,c3,hv3⟩:=bY hu3.1;obtain⟨N3,hN3⟩:∃N3,N3=(srt (lft ls gs++cs) (lft ls gs++cs).length).length:=⟨_,rfl⟩;rw [←hN3]at hv3;subst hv3;have HB3:=aa (hb2.trans (hb3.mono hb2.size));clear hu3 hb2 hb3 hN3 HSRT;go_wp2_with fail
  go_ret;exact⟨_,rfl,HU3.out,HB3.out⟩
theorem tI (xs ys:List Fl) (x:Fl):x∈lft xs ys↔x∈xs∧¬x∈ys:=by
 unfold lft;rw [List.mem_filter];constructor
 ·rintro⟨h1,h2⟩;refine⟨h1,fun h=>?_⟩;rw [(tV x ys).2 h]at h2;simp at h2
 ·rintro⟨h1,h2⟩;refine⟨h1,?_⟩;cases h:th x ys ys.length
  ·rfl
  ·exact absurd ((tV x ys).1 h) h2
theorem uf {xs:List Fl} (ys:List Fl) (h:Srt xs):Srt (lft xs ys):=List.Pairwise.filter _ h
theorem qr {a b:List Fl} (ha:Srt a) (hb:Srt b):srt (lft a (lft a b)++lft b a) (lft a (lft a b)++lft b a).length=b:=by
 refine(tj hb fun x=>?_).symm;rw [List.mem_append,tI,tI,tI];constructor
 ·intro h;by_cases hx:x∈a
  ·exact .inl ⟨hx,fun k=>k.2 h⟩
  ·exact .inr ⟨h,hx⟩
 ·rintro(⟨h1,h2⟩ |⟨h1,_⟩)
  ·exact Classical.not_not.1 fun k=>h2 ⟨h1,k⟩
  ·exact h1
theorem Ae {X:Nat→Prop} {w:World} {v:Value} {ms:List Mt} (h:MsAt w v ms) (hX:∀g,v.ownBlock=some g→¬X g):Kept X w fun w'=>MsAt w' v ms:=fun w' hk=>by
 obtain⟨a,cap,rfl,hn,h0 |⟨b,off,rfl,hc,hL⟩⟩:=h
 ·exact⟨a,cap,rfl,hn,.inl h0⟩
 ·refine⟨_,cap,rfl,hn,.inr ⟨b,off,rfl,hc,fun i hi=>?_⟩⟩;obtain⟨h1,h2,h3⟩:=hL i hi;have hb:=hk.2 b (hX b rfl) (ap h1);rw [fu hb,fu hb,fu hb];exact⟨h1,h2,h3⟩
theorem Aa {X:Nat→Prop} {w:World} {v:Value} {ds:List Do} (h:DsAt w v ds) (hX:∀g,v.ownBlock=some g→¬X g):Kept X w fun w'=>DsAt w' v ds:=fun w' hk=>by
 obtain⟨a,cap,rfl,hn,h0 |⟨b,off,rfl,hc,hL⟩⟩:=h
 ·exact⟨a,cap,rfl,hn,.inl h0⟩
 ·refine⟨_,cap,rfl,hn,.inr ⟨b,off,rfl,hc,fun i hi=>?_⟩⟩;obtain⟨h1,h2,h3⟩:=hL i hi;have hb:=hk.2 b (hX b rfl) (ap h1);rw [fu hb,fu hb,fu hb];exact⟨h1,h2,h3⟩
theorem sM {X:Nat→Prop} {w:World} {B:Nat} {u:Value} {fs:List Fl} (h:FsOwn w B u fs) (hX:∀k,X k→k<B):Kept X w fun w'=>FsAt w' u fs:=fun w' hk=>by
 have hno:∀g,B≤g→¬X g:=fun g hg hx=>by have:=hX g hx;omega
 rcases h.2 with h0 |⟨blk,cap,lo,rfl,rfl,ho,hx⟩
 ·obtain⟨a,cap,e,hn,_⟩:=h.1;exact⟨a,cap,e,hn,.inl h0⟩
 ·have ho':=yJ ho (fun g hg=>hno g (ay ho g hg)) w' hk;exact m8 ho' (fun x hx'=>⟨Ae (hx x hx').1.1 (fun g hg=>hno g ((hx x hx').2.1 g hg)) w' hk,Aa (hx x hx').1.2 (fun g hg=>hno g ((hx x hx').2.2 g hg)) w' hk⟩)
theorem KAt.put {w:World} {ks:List Value} {K:Nat→List Fl} (h:KAt w ks K) {m:Nat} (hm:m<6) {u:Value} {fs:List Fl} (hu:FsAt w u fs) (hl:fs.length≤140737488355328):KAt w (ks.set m u) (fun i=>if i=m then fs else K i):=by
 refine⟨by rw [List.length_set];exact h.1,fun i hi v hv=>?_⟩;by_cases e:i=m
 ·subst e;rw [List.getElem?_set_self (by rw [h.1];exact hi)]at hv;cases hv;simp only [if_true];exact⟨hu,hl⟩
 ·rw [List.getElem?_set_ne (Ne.symm e)]at hv;simp only [if_neg e];exact h.2 i hi v hv
def Kok (K:Nat→List Fl):Prop:=∀i,(Srt (K i)∧(K i).length≤100000)∧Few (K i)
def tE (S:List Sw) (P:List Pr) (A:List Ac) (K:Nat→List Fl) (ch:Int):Nat→List Fl:=if cmE S P A ch=0 then(fun i=>if i=ch.toNat then cmL S P A ch else K i)else K
theorem tT (S:List Sw) (P:List Pr) (A:List Ac) (s1 p1 a1:Option Addr) (s2 p2 a2:Nat) (K:Nat→List Fl) (ks:List Value) (ch:Int) (X:Nat→Prop) (w:World) (hX:∀k,X k→k<w.heap.size) (hK:Kept X w fun W=>KAt W ks K) (hC:CfAt w (.slice s1 S.length s2) (.slice p1 P.length p2) (.slice a1 A.length a2) S P A) (h1:S.length≤1000) (h2:P.length≤1000) (h3:A.length≤1000) (hSA:may S P A=true→∀s b,eY (aV A s b)) (hO:Kok K):
  Calls Tryz.prog 35 #[.agg ks.toArray,.agg #[.slice s1 S.length s2,.slice p1 P.length p2,.slice a1 A.length a2],.int .i64 ch] w fun e w'=>∃ks',e= .returned (.tuple #[.agg ks'.toArray,.int .i64 (cmE S P A ch)])∧Kept X w' (fun W=>KAt W ks' (tE S P A K ch))∧Below w.heap.size w w':=by
 have HSA:=aa hSA;have HO:=aa hO;have HX:=aa hX;have HSK:Hid (tE S P A K ch=if cmE S P A ch=0 then(fun i=>if i=ch.toNat then cmL S P A ch else K i)else K):=rfl;have HL:Hid (ks.length=6):=aa hK.here.1;have HON:=aa (xH hK.here);obtain⟨W0,hW0⟩:∃W0,W0=((w.alloc (.cells ks.toArray 90)).alloc (.cells #[.slice s1 S.length s2,.slice p1 P.length p2,.slice a1 A.length a2] 30)).alloc (.cells #[.slice none 0 0,.slice none 0 0,.slice none 0 0,.slice none 0 0,.slice none 0 0,.slice none 0 0] 90):=⟨_,rfl⟩;have kb:Below w.heap.size w W0:=by rw [hW0];exact(((Below.refl _ w).alloc zr _).alloc (by simp) _).alloc (by simp;omega) _
 have HB0:Hid (Box W0 w.heap.size ks):=by rw [hW0];exact aa (((Box.new w ks 90).alloc _).alloc _)
 have HB1:Hid (Box W0 (w.heap.size+1) [.slice s1 S.length s2,.slice p1 P.length p2,.slice a1 A.length a2]):=by rw [hW0];have h:=(Box.new (w.alloc (.cells ks.toArray 90)) [.slice s1 S.length s2,.slice p1 P.length p2,.slice a1 A.length a2] 30).alloc (.cells #[.slice none 0 0,.slice none 0 0,.slice none 0 0,.slice none 0 0,.slice none 0 0,.slice none 0 0] 90);simpa using aa h
 have HB2:Hid (Box W0 (w.heap.size+1+1) [.slice none 0 0,.slice none 0 0,.slice none 0 0,.slice none 0 0,.slice none 0 0,.slice none 0 0]):=by rw [hW0];have h:=Box.new ((w.alloc (.cells ks.toArray 90)).alloc (.cells #[.slice s1 S.length s2,.slice p1 P.length p2,.slice a1 A.length a2] 30)) [.slice none 0 0,.slice none 0 0,.slice none 0 0,.slice none 0 0,.slice none 0 0,.slice none 0 0] 90;simpa using aa h
 have HW0:Hid (((w.alloc (.cells ks.toArray 90)).alloc (.cells #[.slice s1 S.length s2,.slice p1 P.length p2,.slice a1 A.length a2] 30)).alloc (.cells #[.slice none 0 0,.slice none 0 0,.slice none 0 0,.slice none 0 0,.slice none 0 0,.slice none 0 0] 90)=W0):=hW0.symm;clear hW0;obtain⟨X',hX'⟩:∃X':Nat→Prop,X'=fun k=>X k∨(w.heap.size≤k∧k<w.heap.size+3):=⟨_,rfl⟩;have HX1:Hid (∀k,X k→X' k):=by rw [hX'];exact aa (fun k h=>.inl h)
 have HX2:Hid (∀k,w.heap.size≤k→k<w.heap.size+3→X' k):=by rw [hX'];exact aa (fun k h h'=>.inr ⟨h,h'⟩)
 have HX3:Hid (∀k,X' k→k<w.heap.size+3):=by rw [hX'];exact aa (fun k h=>by rcases h with h | h;have:=HX.out k h;omega;exact h.2)
 have HKA:=aa ((hK.but (X':=X') (fun k h=>by rw [hX']at h;rcases h with h | h;exact .inl h;exact .inr h.1)).below kb);clear hX';have HC:=aa (hC.below kb zr);have HCM:=aa (rK S P A s1 p1 a1 s2 p2 a2 ch W0 HC.out (by omega) (by omega) (by omega) HSA.out (fun hm c0 c1 f hf=>qo (nt hm c0 c1 f hf)));have HFL:=aa (fun h=>wE (S:=S) (P:=P) (A:=A) (ch:=ch) h);have HCZ:=aa (fun h=>mD (S:=S) (P:=P) (A:=A) (ch:=ch) h);clear hK hC hSA hO hX;generalize cmE S P A ch=E at*;generalize cmL S P A ch=L at*;go_enter Tryz.func35,Tryz.ntmps35;go_wp2_with (first | rw [HW0.out] |(refine wpList_load_mid rfl 30 (.tmp 4) rfl (w.heap.size+1) 0 rfl _ _ HB1.out.range Tryz.underlying30 rfl bq ?_))
 refine(ag HCM).mono ?_;rintro e w1 ⟨u1,rfl,hu1,hb1⟩;have HU1:=aa hu1;obtain⟨q1,c1,rfl⟩:=bY hu1;have s0:=HB2.out.lt;replace HB0:=aa (HB0.out.below hb1);replace HB2:=aa (HB2.out.below hb1);replace HKA:=aa (HKA.out.below hb1);replace kb:=kb.trans (hb1.mono kb.size);have s1':=hb1.size;clear hu1 hb1 HCM HC HB1 HSA;by_cases hE:E=0
 ·subst hE;obtain⟨hm,c0,c1'⟩:=HCZ.out rfl;have HLK:=aa (HFL.out rfl);obtain⟨m,rfl⟩:=Int.eq_ofNat_of_zero_le c0;have hm6:m<6:=(by omega);clear hm HCZ HFL HW0;simp only [Int.toNat_natCast,if_true]at HSK;obtain⟨kv,hkv⟩:=sP HL.out hm6;have HF:=aa (HKA.out.here.2 m hm6 kv hkv).1;have ck:=HB0.out.cell m kv hkv;obtain⟨fa,fc,rfl⟩:=bY HF.out;have q0:(0:Int)≤(m:Int):=(by omega);have q6:(m:Int)<6:=(by omega);have HKM:=aa (HO.out m);go_wp2_with fail
  refine(xh _ _ (K m) L w1 HF.out HU1.out HKM.out.2 HLK.out.2).mono ?_;rintro e w2 ⟨u2,u3,rfl,hu2,hu3,hb2⟩;rw [qm (uf _ HLK.out.1.1)]at hu2;rw [qm (uf _ HKM.out.1.1)]at hu3;have HU2:=aa hu2;have HU3:=aa hu3;obtain⟨q2,c2,rfl⟩:=bY hu2;obtain⟨q3,c3,rfl⟩:=bY hu3;replace HF:=aa (HF.out.below hb2 zr);replace HB0:=aa (HB0.out.below hb2);replace HB2:=aa (HB2.out.below hb2);replace HKA:=aa (HKA.out.below hb2);replace kb:=kb.trans (hb2.mono kb.size);replace ck:=HB0.out.cell m _ hkv;have s2':=hb2.size;clear hu2 hu3 hb2 HU1;go_wp2_with fail
  refine(uM _ _ _ (K m) (lft L (K m)) (lft (K m) L) w2 HF.out HU2.out HU3.out HKM.out.2 HLK.out.2.lft HKM.out.2.lft (by have:=HKM.out.1.2;have:=HLK.out.1.2;have:=jS L (K m);omega)).mono ?_;rintro e w3 ⟨u4,rfl,hu4,hb3⟩;rw [qr HKM.out.1.1 HLK.out.1.1]at hu4;have HU4:=aa (sM (X:=X') hu4 (fun k hk=>by have:=HX3.out k hk;omega));obtain⟨q4,c4,hv4⟩:=bY hu4.1;subst hv4;replace HB0:=aa (HB0.out.below hb3);replace HB2:=aa (HB2.out.below hb3);replace HKA:=aa (HKA.out.below hb3);replace kb:=kb.trans (hb3.mono kb.size);have fz:=HB0.out.2 m (by rw [HL.out];exact hm6);have s3':=hb3.size;have hLl:L.length≤140737488355328:=by have:=HLK.out.1.2;omega
  obtain⟨kn,hkn⟩:∃kn,kn=ks.set m (.slice q4 L.length c4):=⟨_,rfl⟩;have HKN:Hid (Kept X' w3 fun W=>KAt W kn (tE S P A K m)):=by rw [HSK.out,hkn];exact aa (fun W hk=>(HKA.out W hk).put hm6 (HU4.out W hk) hLl)
  have HKL:Hid (kn.length=6):=aa HKN.out.here.1;have HKO:=aa (xH HKN.out.here);obtain⟨W4,hW4⟩:∃W4,W4=w3.setCell ⟨w.heap.size,m,none⟩ (.slice q4 L.length c4):=⟨_,rfl⟩;have HN0:Hid (Box W4 w.heap.size kn):=by rw [hW4,hkn];exact aa (HB0.out.set1 m _ (by rw [HL.out];exact hm6))
  have HN2:Hid (Box W4 (w.heap.size+1+1) [.slice none 0 0,.slice none 0 0,.slice none 0 0,.slice none 0 0,.slice none 0 0,.slice none 0 0]):=by rw [hW4];exact aa (HB2.out.set1_far (by omega) m _)
  replace HKN:Hid (Kept X' W4 fun W=>KAt W kn (tE S P A K m)):=by rw [hW4];exact aa (HKN.out.set (HX2.out _ zr (by omega)) m [_])
  have kb4:Below w.heap.size w W4:=by rw [hW4];exact kb.setCell (p:=⟨w.heap.size,m,none⟩) zr _
  have HW4:Hid (w3.setCell ⟨w.heap.size,m,none⟩ (.slice q4 L.length c4)=W4):=hW4.symm;clear hW4 hkn;replace ck:=HB0.out.cell m _ hkv;clear hu4 hb3 HU2 HU3 HF HU4 HKA HB0 HB2 kb;go_wp2_with (first | rw [HW4.out] |(refine wpList_load_mid rfl 90 (.tmp 3) rfl w.heap.size 0 rfl _ _ HN0.out.range Tryz.underlying90 rfl (by rw [HKL.out];exact fJ) ?_) |(refine wpList_store_mid rfl 90 (.tmp 6) (.tmp 38) rfl (w.heap.size+1+1) 0 _ rfl rfl (by show World.there _ _ _ kn.length;rw [HKL.out];exact HN2.out.fit 6 rfl) (by show _=some kn.length;rw [HKL.out];exact fJ) HKO.out ?_))
  refine bodyPost_ret (v:=.tuple #[.agg kn.toArray,.int .i64 0]) ?_ rfl ⟨kn,rfl,?_,aE _ (by omega) _ _ kb4⟩
  ·exact dN (cs:=kn) Tryz.results35 rfl (HN2.out.set kn (by rw [HKL.out];rfl)).range Tryz.underlying90 rfl (by rw [HKL.out];exact fJ)
  ·exact(HKN.out.set (b:=w.heap.size+1+1) (HX2.out _ (by omega) (by omega)) 0 kn).but (fun k hk=>.inl (HX1.out k hk))
 ·have hEb:(E != 0)=true:=(by simpa using hE);rw [if_neg hE]at HSK;go_wp2_with (first |(refine wpList_load_mid rfl 90 (.tmp 3) rfl w.heap.size 0 rfl _ _ HB0.out.range Tryz.underlying90 rfl (by rw [HL.out];exact fJ) ?_) |(refine wpList_store_mid rfl 90 (.tmp 6) (.tmp 20) rfl (w.heap.size+1+1) 0 _ rfl rfl (by show World.there _ _ _ ks.length;rw [HL.out];exact HB2.out.fit 6 rfl) (by show _=some ks.length;rw [HL.out];exact fJ) HON.out ?_))
  refine bodyPost_ret (v:=.tuple #[.agg ks.toArray,.int .i64 E]) ?_ rfl ⟨ks,rfl,?_,aE _ (by omega) _ _ kb⟩
  ·exact dN (cs:=ks) Tryz.results35 rfl (HB2.out.set ks (by rw [HL.out];rfl)).range Tryz.underlying90 rfl (by rw [HL.out];exact fJ)
  ·rw [HSK.out];exact(HKA.out.set (b:=w.heap.size+1+1) (HX2.out _ (by omega) (by omega)) 0 ks).but (fun k hk=>.inl (HX1.out k hk))
theorem jT {ops:Array Oper} {rest:List Oper} {o:Oper} {a:Act} {Q:Exit→Act→World→Prop} {P:Program} {w:World} (hgd:o.guard=none) (s x:Operand) (t:TypeId)
  (ho:o.op= .call {callee:=.builtin .append,args:= #[s,x],argTypes:= #[t,t]})
  (base:Nat) (e:TypeId) (i:TypeInfo) (z:Value) (size bytes:Nat) (ht:P.underlying t=some (.slice e)) (hi:P.info? e=some i) (hz:i.zero=some z)
  (hsize:i.size=size) (hby:i.bytes=bytes) (hzs:z.cells.size=size) (hsz:0<size)
  (v:Value) (n:Nat) (xs:List Value) (hs:a.eval s=v) (hown:w.ownsRow base e size v n xs)
  (u:Value) (m B2:Nat) (news:List Value) (hx:a.eval x=u) (hsrc:w.ownsRow B2 e size u m news) (h1:∀u∈news,u.oneCell'=true)
  (h63:n+m≤maxLen) (hbytes:(n+m)*bytes≤140737488355328) (hbase:base≤w.heap.size)
  (h:∀v' w',w'.ownsRow base e size v' (n+m) (xs++news)→w.grownBy w' v.ownBlock→wpList P ops Q rest (a.put o.dst v') w'):wpList P ops Q (o::rest) a w:=by
 have hsrc':=hsrc;obtain⟨hl,⟨rfl,rfl⟩ |⟨g,cap,cur,rfl,hB,hg,hc,hm,hcs,htk⟩⟩:=hsrc
 ·obtain rfl:news= []:=List.eq_nil_of_length_eq_zero (by rw [hl];simp);refine wpList_append_own_none hgd s x t ho base e i size ht hi v n xs hs hown hx ?_;exact h v w (by simpa using hown) ⟨rfl,rfl,rfl,Nat.le_refl _,fun _ _ _=>rfl⟩
 ·refine wpList_append_own w hgd s x t ho base e i z size bytes ht hi hz hsize hby hzs hsz v n xs hs hown ⟨g,0,none⟩ m cap news hx hl (fun j u hj=>?_) h1 h63 hbytes hbase fun v' w' h2 h3 _=>h v' w' h2 h3;have hj':j<m*size:=by have:=(List.getElem?_eq_some_iff.1 hj).1;omega
  rw [zs,hsrc'.cellAt _ hj'];exact hj
theorem A3 (body:ByteArray) (l:List Ar):∀u∈AR body l,u.oneCell'=true:=by
 intro u hu;unfold AR at hu;rw [List.mem_flatMap]at hu;obtain⟨x,_,hu⟩:=hu;exact ee (l:=arC body x) rfl u hu
theorem Bd (body:ByteArray) (a b:List Ar):AR body (a++b)=AR body a++AR body b:=by simp [AR]
def dP (id:Int) (p:Pr):Bool:=p.i==id&& !(p.c== -1)
theorem vI:bL 59:=fun args W=>by
 unfold callFunc;simp [Tryz.func59,Tryz.f59]
theorem vi (id:Int) (b:Nat) (w:World) (hc:w.cell? ⟨b,0,none⟩=some (.int .i64 id)):PicksPr w 59 #[.pointer (some ⟨b,0,none⟩)] (dP id):=fun W x hW=>by
 have c0:=zC hc hW;have hlt:=ap c0;have hne:¬b=W.heap.size:=by omega
 have HB:Hid (dP id x=(x.i==id&& !(x.c== -1))):=rfl;generalize x.i=x0 at*;generalize x.s=x1 at*;generalize x.m=x2 at*;generalize x.p=x3 at*;generalize x.c=x4 at*;by_cases h0:x0=id
 ·subst h0;by_cases h1:x4= -1
  ·subst h1;go_enter Tryz.func59,Tryz.ntmps59;go_wp2_with fail
   go_ret;rw [HB.out];exact⟨by simp,(Below.refl _ _).alloc zr _⟩
  ·have h1b:(x4 != -1)=true:=(by simpa using h1);go_enter Tryz.func59,Tryz.ntmps59;go_wp2_with fail
   go_ret;rw [HB.out];exact⟨by simp [h1],(Below.refl _ _).alloc zr _⟩
 ·have h0b:(x0==id)=false:=(by simpa using h0);go_enter Tryz.func59,Tryz.ntmps59;go_wp2_with fail
  go_ret;rw [HB.out];exact⟨by simp [h0],(Below.refl _ _).alloc zr _⟩
def ku (K:Nat→List Fl) (n:Nat) (s:Sn):Bool:= !(mI K n s==0)
def ky (K:Nat→List Fl) (n:Nat) (l:List Sn):Int:=match l.find? (ku K n)with
 | none=>0
 | some s=>mI K n s
def eu (K:Nat→List Fl) (n:Nat) (l:List Sn):List Ar:=l.flatMap (oa K n)
def ix (P:List Pr) (id:Int):Pr:=P.getD (idx (dP id) P).toNat pr0
def lj (K:Nat→List Fl) (P:List Pr) (id dst src kind ips ipd ttl port:Int) (n:Nat):Int:=
 if idx (dP id) P<0 then 6 else if pkE dst src kind ips ipd ttl port n id 0 0=0 then
  (if dX (K (ix P id).c.toNat) [id,dst,src,kind,ips,ipd,ttl,port,0,0] n=0 then ky K n (ran (K (ix P id).c.toNat) [id,dst,src,kind,ips,ipd,ttl,port,0,0])else dX (K (ix P id).c.toNat) [id,dst,src,kind,ips,ipd,ttl,port,0,0] n)
 else pkE dst src kind ips ipd ttl port n id 0 0
def lR (K:Nat→List Fl) (P:List Pr) (id dst src kind ips ipd ttl port:Int) (n:Nat):List Ar:=
 if lj K P id dst src kind ips ipd ttl port n=0 then eu K n (ran (K (ix P id).c.toNat) [id,dst,src,kind,ips,ipd,ttl,port,0,0])else []
def jQ (l:List Ar):Prop:=l.Pairwise fun a b=>¬b.n<a.n
def mq (l:List Ar):Prop:=∀(body:ByteArray) (u:Value) (B:Nat) (w:World),w.ownsRow B 41 9 u l.length (AR body l)→B≤w.heap.size→Calls Tryz.prog 63 #[u,.func (.func 64) #[] #[]] w fun e w'=>e= .returned (.tuple #[])∧∃l',l'.Perm l∧jQ l'∧w'.ownsRow B 41 9 u l.length (AR body l')∧w.grownBy w' u.ownBlock
theorem vu {K:Nat→List Fl} {n:Nat} {l:List Sn} {k:Nat} (h:k<l.length):eu K n (l.take (k+1))=eu K n (l.take k)++oa K n (l.getD k snz):=by
 unfold eu;rw [ew snz h,List.flatMap_append];simp
theorem tH {K:Nat→List Fl} {n:Nat} {l:List Sn} {k:Nat} (h:k<l.length) (h0:(l.take k).find? (ku K n)=none) (h1:mI K n (l.getD k snz)=0):(l.take (k+1)).find? (ku K n)=none:=by
 rw [ew snz h,List.find?_append,h0];generalize l.getD k snz=x at*;simp [ku,h1]
theorem wU {K:Nat→List Fl} {n:Nat} {l:List Sn} {k:Nat} (h:k<l.length) (h0:(l.take k).find? (ku K n)=none) (h1:mI K n (l.getD k snz)≠0):ky K n l=mI K n (l.getD k snz):=by
 have e0:l=l.take k++l.getD k snz::l.drop (k+1):=by
  rw [←List.singleton_append, ←List.append_assoc, ←ew snz h,List.take_append_drop]
 have e:(l.take k++l.getD k snz::l.drop (k+1)).find? (ku K n)=some (l.getD k snz):=by
  rw [List.find?_append,h0,List.find?_cons_of_pos (by unfold ku;simpa using h1)];rfl
 rw [←e0]at e;unfold ky;rw [e]
theorem uh (n:Nat) (l:List Sn):(atL n l).length≤l.length:=by
 unfold atL;split
 ·exact tW l
 ·simp
theorem t8 {K:Nat→List Fl} {n:Nat} (s:Sn):(oa K n s).length≤1000000:=by
 unfold oa;split
 ·split
  ·split
   ·rename_i h;exact Nat.le_trans (uh _ _) (qf (by simp [gC]) h).2
   ·simp
  ·simp
 ·exact Nat.le_trans (uh _ _) (by simp)
theorem nj {K:Nat→List Fl} {n:Nat}:∀l:List Sn,(eu K n l).length≤1000000*l.length
 | []=>by simp [eu]
 | s::r=>by
  have h1:=nj (K:=K) (n:=n) r;have h2:=t8 (K:=K) (n:=n) s;unfold eu at h1⊢;rw [List.flatMap_cons,List.length_append,List.length_cons];omega
theorem fY {n:Int}:aB n=true↔0≤n∧n≤65535:=by simp [aB]
theorem gw {d s k a b t o:Int} {n:Nat} (h:be d s k a b t o n=0):(1≤k∧k≤3)∧((0≤d∧d≤65535)∧(0≤s∧s≤65535)∧(0≤a∧a≤65535)∧(0≤b∧b≤65535)∧(0≤o∧o≤65535)∧0≤t∧t≤255)∧n≤40∧(k≠3→t=0∧o=0∧n=0):=by
 unfold be at h;by_cases hk:ir k=true
 ·rw [if_pos hk]at h;by_cases hb:dL d s a b t o=true
  ·rw [if_pos hb]at h;by_cases hn:40<n
   ·rw [if_pos hn]at h;omega
   ·rw [if_neg hn]at h;have h1:1≤k∧k≤3:=(by simpa [ir] using hk);simp only [dL,lr,aB,Bool.and_eq_true,decide_eq_true_eq]at hb;refine⟨h1,⟨hb.1.1.1.1.1,hb.1.1.1.1.2,hb.1.1.1.2,hb.1.1.2,hb.1.2,hb.2⟩,by omega,fun h3=>?_⟩;by_cases hl:iI t o n=true
    ·rw [if_pos ⟨h3,hl⟩]at h;omega
    ·simp only [iI,decide_eq_true_eq]at hl;omega
  ·rw [if_neg hb]at h;omega
 ·rw [if_neg hk]at h;omega
theorem sh {d s k a b t o:Int} {n:Nat} (hk:1≤k∧k≤3) (h:(0≤d∧d≤65535)∧(0≤s∧s≤65535)∧(0≤a∧a≤65535)∧(0≤b∧b≤65535)∧(0≤o∧o≤65535)∧0≤t∧t≤255) (hn:n≤40) (h3:k≠3→t=0∧o=0∧n=0):be d s k a b t o n=0:=by
 unfold be;rw [if_pos (by simpa [ir] using hk),if_pos (by simp only [dL,lr,aB,Bool.and_eq_true,decide_eq_true_eq];exact⟨⟨⟨⟨⟨h.1,h.2.1⟩,h.2.2.1⟩,h.2.2.2.1⟩,h.2.2.2.2.1⟩,h.2.2.2.2.2⟩),if_neg (by omega),if_neg ?_];rintro⟨e,hl⟩;have:=h3 e;simp only [iI,decide_eq_true_eq]at hl;omega
theorem AL {i d s k a b t o n u:Int} {m:Nat} (hf:be d s k a b t o m=0) (hi:aB i=true) (hn:aB n=true) (hu:aB u=true):WF (pkF i d s k a b t o n u):=by
 obtain⟨h1,h2,h3,h4⟩:=gw hf;rw [fY]at hi hn hu;refine jr rfl ?_;simp only [pkF,List.all_cons,List.all_nil,Bool.and_true,Bool.and_eq_true,fY];omega
theorem oV {fs:List Fl} {F:List Int} {n:Nat} (h:bs fs=0) (hF:WF F) (hn:n≤40):dX fs F n=0:=by
 unfold dX co;rw [if_pos h,if_pos (by
  rw [List.all_eq_true];intro x hx;obtain⟨i,hi,rfl⟩:=List.getElem_of_mem hx;have:=hF.2 i
  rwa [List.getD_eq_getElem?_getD,List.getElem?_eq_getElem hi]at this),if_neg (by omega)]
def Au (S:List Sw) (P:List Pr) (A:List Ac) (K:Nat→List Fl):Prop:=∀i:Nat,i<6→K i=cmL S P A i
theorem zx (S:List Sw) (P:List Pr) (A:List Ac):Au S P A (fun i=>if i<6 then cmL S P A i else []):=fun i hi=>by simp only [if_pos hi]
section
variable {S:List Sw} {P:List Pr} {A:List Ac} {K:Nat→List Fl}
theorem zD (hK:Au S P A K) (hm:may S P A=true) {i n u c d s k a b t o:Int} {m:Nat} (hc:0≤c∧c≤5) (hi:aB i=true) (hn:aB n=true) (hu:aB u=true) (hf:be d s k a b t o m=0):
  mI K m (jD i ⟨n,u,c,[d,s,k,a,b,t,o]⟩)=0∧oa K m (jD i ⟨n,u,c,[d,s,k,a,b,t,o]⟩)=if iU P A c k a b o n u=true then [⟨u,[d,s,k,a,b,t,o]⟩]else []:=by
 obtain⟨c,rfl⟩:=Int.eq_ofNat_of_zero_le hc.1;have hE:=yk (ch:=(c:Int)) hm hc.1 hc.2;have hKc:K c=cmL S P A c:=hK c (by omega);have hF:=AL (i:=0) hf (by decide) hn hu;obtain⟨h1,h2,h3,h4⟩:=gw hf;have hr:=tK (ch:=(c:Int)) (fs:=cmL S P A c) hm (xF hE) hF (by omega) h2.2.2.2.2.2.2 (fun h=>⟨(h4 h).1,(h4 h).2.1⟩);have hz:=oV (pz hE) hF h3;have hff:ff [i,d,s,k,a,b,t,o,n,u] m=0:=hf;have hff0:ff [0,d,s,k,a,b,t,o,n,u] m=0:=hf;have e1:jD i ⟨n,u,(c:Int),[d,s,k,a,b,t,o]⟩=⟨6,c,[i,d,s,k,a,b,t,o,n,u]⟩:=rfl;have e2:gC [i,d,s,k,a,b,t,o,n,u]= [0,d,s,k,a,b,t,o,n,u]:=rfl;rw [e1];unfold mI oa;simp only [if_true,hff,e2,Int.toNat_natCast,hKc,hz,hr];by_cases hcm:iU P A c k a b o n u=true
 ·simp only [if_pos hcm];have hE2:atE m [⟨5,u,[0,d,s,k,a,b,t,o,n,u]⟩]=0:=by
   simp [atE,kR,pD,hff0]
  refine⟨hE2,?_⟩;unfold atL;rw [if_pos hE2];rfl
 ·simp only [if_neg hcm];exact⟨rfl,rfl⟩
def Bv (m:Nat) (g:Gl):Prop:=∃d s k a b t o:Int,g.f= [d,s,k,a,b,t,o]∧be d s k a b t o m=0∧aB g.n=true∧aB g.u=true∧0≤g.c∧g.c≤5
theorem A6 (hm:may S P A=true) {ch i d s k a b t o:Int} {m:Nat} (hch:0≤ch∧ch≤5) (hi:aB i=true) (hf:be d s k a b t o m=0):∀g∈led S P A ch i d s k a b t o,Bv m g:=by
 obtain⟨hS,hP,hA⟩:=bu hm;have hpr:=(dz hS hP).2;have hsw:=(gn hS).2;obtain⟨h1,h2,h3,h4⟩:=gw hf;intro g hg;unfold led at hg;cases hfd:P.find? (fun p=>p.i==i)with
 | none=>rw [hfd]at hg;cases hg
 | some p=>
  rw [hfd]at hg;simp only at hg;have hp:=List.mem_of_find?_eq_some hfd;have hpp:=hpr p hp;obtain⟨hso,hsi⟩:=jo hP hp;have hss:=hsw _ hso;by_cases hq:p.c=ch∧s=p.m∧a=p.p
  ·rw [if_pos hq]at hg;by_cases hk1:k=1
   ·rw [if_pos hk1]at hg;unfold lY at hg;obtain⟨mac,hmac,rfl⟩:=List.mem_map.1 hg;have hw:0≤mac∧mac≤65535:=by
     rcases List.mem_append.1 hmac with h | h
     ·split at h
      ·obtain rfl:mac=_:=(by simpa using h);omega
      ·cases h
     ·obtain⟨q,hq,rfl⟩:=List.mem_map.1 h;have:=hpr q (List.mem_filter.1 hq).1;omega
    have h0:=h4 (by omega);refine⟨_,_,_,_,_,_,_,rfl,sh (by omega) ?_ h3 (fun _=>⟨rfl,rfl,h0.2.2⟩),by rw [fY];show 0≤(dB S p.s).i∧(dB S p.s).i≤65535;omega,hi,hch⟩;omega
   ·rw [if_neg hk1]at hg;by_cases hk3:k=3∧fN A (dB S p.s).i true a b o=true
    ·rw [if_pos hk3]at hg;obtain⟨rfl,_⟩:=hk3;unfold og at hg;rcases List.mem_append.1 hg with h | h
     ·obtain⟨q,hq2,rfl⟩:=List.mem_map.1 h;obtain⟨hq3,hb⟩:=List.mem_filter.1 hq2;have:=hpr q hq3;have hs:=(Bool.and_eq_true _ _ ▸ hb:aK q=true∧_).1;have hs2:¬q.c= -1:=(by simpa [aK] using hs);exact⟨_,_,_,_,_,_,_,rfl,hf,by rw [fY];show 0≤(dB S p.s).i∧(dB S p.s).i≤65535;omega,by rw [fY];show 0≤q.i∧q.i≤65535;omega,by show 0≤q.c∧q.c≤5;omega⟩
     ·obtain⟨q,hq2,rfl⟩:=List.mem_map.1 h;obtain⟨hq3,hb⟩:=List.mem_filter.1 hq2;have:=hpr q hq3;have hs:=(Bool.and_eq_true _ _ ▸ hb:aK q=true∧_);have hs2:¬q.c= -1:=(by simpa [aK] using hs.1);have ht:(dB S p.s).g≠0∧d=60000+(dB S p.s).i∧1<t:=by
       have:=(Bool.and_eq_true _ _ ▸ hs.2:_∧_).1;simpa using this
      refine⟨_,_,_,_,_,_,_,rfl,sh (by omega) ?_ h3 (fun h=>absurd rfl h),by rw [fY];show 0≤q.s∧q.s≤65535;omega,by rw [fY];show 0≤q.i∧q.i≤65535;omega,by show 0≤q.c∧q.c≤5;omega⟩;omega
    ·rw [if_neg hk3]at hg;cases hg
  ·rw [if_neg hq]at hg;cases hg
def rr (P:List Pr) (A:List Ac) (gs:List Gl):List Ar:=gs.flatMap fun g=>if iU P A g.c (g.f.getD 2 0) (g.f.getD 3 0) (g.f.getD 4 0) (g.f.getD 6 0) g.n g.u=true then [⟨g.u,g.f⟩]else []
theorem xv (hK:Au S P A K) (hm:may S P A=true) {i:Int} {m:Nat} (hi:aB i=true):∀gs:List Gl,(∀g∈gs,Bv m g)→ky K m (gs.map (jD i))=0∧eu K m (gs.map (jD i))=rr P A gs:=fun gs hg=>by
 have hall:∀g∈gs,mI K m (jD i g)=0∧oa K m (jD i g)=if iU P A g.c (g.f.getD 2 0) (g.f.getD 3 0) (g.f.getD 4 0) (g.f.getD 6 0) g.n g.u=true then [⟨g.u,g.f⟩]else []:=fun g h=>by
  obtain⟨d,s,k,a,b,t,o,e,hf,hn,hu,hc⟩:=hg g h;obtain⟨n,u,c,f⟩:=g;subst e;exact zD hK hm hc hi hn hu hf
 constructor
 ·unfold ky;rw [List.find?_eq_none.2 (fun x hx=>by
   obtain⟨g,h,rfl⟩:=List.mem_map.1 hx;simp [ku,(hall g h).1])]
 ·unfold eu rr;rw [List.flatMap_map];clear hg
  induction gs with
  | nil=>rfl
  | cons g r ih=>
   rw [List.flatMap_cons,List.flatMap_cons,(hall g (by simp)).2,ih (fun x hx=>hall x (by simp [hx]))]
theorem wi (hP:aY S P=true) {p:Pr} (hp:p∈P) (hc:p.c≠ -1):0≤idx (dP p.i) P∧ix P p.i=p:=by
 have hs:dP p.i p=true:=by simp [dP,hc]
 unfold ix idx;cases hf:P.findIdx? (dP p.i)with
 | none=>
  rw [List.findIdx?_eq_none_iff]at hf;exact absurd (hf p hp) (by rw [hs];simp)
 | some j=>
  obtain⟨hj,hq,_⟩:=List.findIdx?_eq_some_iff_getElem.1 hf;refine⟨by simp,?_⟩;simp only [Int.toNat_natCast];rw [List.getD_eq_getElem?_getD,List.getElem?_eq_getElem hj];have he:P[j].i=p.i:=by
   simp only [dP,Bool.and_eq_true,beq_iff_eq]at hq;exact hq.1
  exact cI hP (List.getElem_mem hj) hp he
theorem zg (hK:Au S P A K) (hm:may S P A=true) {p:Pr} (hp:p∈P) (hc:p.c≠ -1) {d s k a b t o:Int} {m:Nat} (hf:be d s k a b t o m=0):
  lj K P p.i d s k a b t o m=0∧lR K P p.i d s k a b t o m=rr P A (led S P A p.c p.i d s k a b t o):=by
 obtain⟨hS,hP,hA⟩:=bu hm;have hpp:=(dz hS hP).2 p hp;obtain⟨h0,he⟩:=wi hP hp hc;have hi:aB p.i=true:=by rw [fY];omega
 have hF:=AL (i:=p.i) (n:=0) (u:=0) hf hi (by decide) (by decide);obtain⟨h1,h2,h3,h4⟩:=gw hf;obtain⟨c,hcc⟩:=Int.eq_ofNat_of_zero_le (show 0≤p.c by omega);have hE:=yk (ch:=p.c) hm (by omega) (by omega);have hKc:K p.c.toNat=cmL S P A p.c:=by
  have:=hK c (by omega);rw [hcc,Int.toNat_natCast];exact this
 have hr:=yY (ch:=p.c) (fs:=cmL S P A p.c) hm (xF hE) (i:=p.i) (by omega) hF (by omega) h2.2.2.2.2.2.2 (fun h=>⟨(h4 h).1,(h4 h).2.1⟩);have hz:=oV (pz hE) hF h3;have hpk:pkE d s k a b t o m p.i 0 0=0:=by
  unfold pkE;rw [if_pos hf];have:=hz;unfold dX at this
  rwa [if_pos (pz hE)]at this
 obtain⟨e1,e2⟩:=xv hK hm hi (led S P A p.c p.i d s k a b t o) (A6 hm ⟨by omega,by omega⟩ hi hf);have hA0:lj K P p.i d s k a b t o m=0:=by
  unfold lj;rw [if_neg (by omega),if_pos hpk,he,hKc,if_pos hz,hr];exact e1
 refine⟨hA0,?_⟩;unfold lR;rw [if_pos hA0,he,hKc,hr];exact e2
end
theorem yF {α:Type} {p:α→Bool} (d:α) {l:List α} (h:0≤idx p l):∃k:Nat,k<l.length∧idx p l=k∧p (l.getD k d)=true:=by
 unfold idx at h⊢;cases hf:l.findIdx? p with
 | none=>rw [hf]at h;simp at h
 | some k=>
  obtain⟨hk,hp,_⟩:=List.findIdx?_eq_some_iff_getElem.1 hf;exact⟨k,hk,rfl,by rw [List.getD_eq_getElem?_getD,List.getElem?_eq_getElem hk];exact hp⟩
theorem pj (ks:List Value) (K:Nat→List Fl) (s1 p1 a1:Option Addr) (s0 s2 p2 a0 a2:Nat) (P:List Pr) (id dst src kind ips ipd ttl port:Int) (body:ByteArray) (w:World) (hK:KAt w ks K) (hP:eR w (.slice p1 P.length p2) P) (hl:P.length≤100000) (hc:∀p∈P,p.c= -1∨0≤p.c∧p.c≤5) (hb:body.size≤maxLen)
  (hS:lj K P id dst src kind ips ipd ttl port body.size=0→mq (lR K P id dst src kind ips ipd ttl port body.size)):
  Calls Tryz.prog 36 #[.agg ks.toArray,.agg #[.slice s1 s0 s2,.slice p1 P.length p2,.slice a1 a0 a2],.int .i64 id,fr dst src kind ips ipd ttl port body] w fun e w'=>∃u,e= .returned (.tuple #[u,.int .i64 (lj K P id dst src kind ips ipd ttl port body.size)])∧∃l',(l'.Perm (lR K P id dst src kind ips ipd ttl port body.size)∧jQ l'∧w'.ownsRow w.heap.size 41 9 u l'.length (AR body l'))∧Below w.heap.size w w':=by
 obtain⟨i0,hi,hz0,hz1,hz2⟩:=info_parts yL;have HK:=aa hK;obtain⟨k0,k1,k2,k3,k4,k5,rfl⟩:=six hK.1;have HP:=aa hP;have HC:=aa hc;have HS:=aa hS;clear hK hP hc hS;have HAE:Hid (lj K P id dst src kind ips ipd ttl port body.size=if idx (dP id) P<0 then 6 else if pkE dst src kind ips ipd ttl port body.size id 0 0=0 then(if dX (K (ix P id).c.toNat) [id,dst,src,kind,ips,ipd,ttl,port,0,0] body.size=0 then ky K body.size (ran (K (ix P id).c.toNat) [id,dst,src,kind,ips,ipd,ttl,port,0,0])else dX (K (ix P id).c.toNat) [id,dst,src,kind,ips,ipd,ttl,port,0,0] body.size)else pkE dst src kind ips ipd ttl port body.size id 0 0):=rfl;have HAL:Hid (lR K P id dst src kind ips ipd ttl port body.size=if lj K P id dst src kind ips ipd ttl port body.size=0 then eu K body.size (ran (K (ix P id).c.toNat) [id,dst,src,kind,ips,ipd,ttl,port,0,0])else []):=rfl;obtain⟨W0,hW0⟩:∃W0,W0=((((w.alloc (.cells #[k0,k1,k2,k3,k4,k5] 90)).alloc (.cells #[.slice s1 s0 s2,.slice p1 P.length p2,.slice a1 a0 a2] 30)).alloc (.cells #[.int .i64 id] 3)).alloc (.cells #[.int .i64 dst,.int .i64 src,.int .i64 kind,.int .i64 ips,.int .i64 ipd,.int .i64 ttl,.int .i64 port,.string body] 33)):=⟨_,rfl⟩;have kb:Below w.heap.size w W0:=by rw [hW0];exact((((Below.refl _ w).alloc zr _).alloc (by simp) _).alloc (by simp;omega) _).alloc (by simp;omega) _
 have HKB:Hid (Box W0 w.heap.size [k0,k1,k2,k3,k4,k5]):=by rw [hW0];have h:=(((Box.new w [k0,k1,k2,k3,k4,k5] 90).alloc (.cells #[.slice s1 s0 s2,.slice p1 P.length p2,.slice a1 a0 a2] 30)).alloc (.cells #[.int .i64 id] 3)).alloc (.cells #[.int .i64 dst,.int .i64 src,.int .i64 kind,.int .i64 ips,.int .i64 ipd,.int .i64 ttl,.int .i64 port,.string body] 33);simpa using aa h
 have HCB:Hid (Box W0 (w.heap.size+1) [.slice s1 s0 s2,.slice p1 P.length p2,.slice a1 a0 a2]):=by rw [hW0];have h:=((Box.new (w.alloc (.cells #[k0,k1,k2,k3,k4,k5] 90)) [.slice s1 s0 s2,.slice p1 P.length p2,.slice a1 a0 a2] 30).alloc (.cells #[.int .i64 id] 3)).alloc (.cells #[.int .i64 dst,.int .i64 src,.int .i64 kind,.int .i64 ips,.int .i64 ipd,.int .i64 ttl,.int .i64 port,.string body] 33);simpa using aa h
 have HIB:Hid (Box W0 (w.heap.size+1+1) [.int .i64 id]):=by rw [hW0];have h:=(Box.new ((w.alloc (.cells #[k0,k1,k2,k3,k4,k5] 90)).alloc (.cells #[.slice s1 s0 s2,.slice p1 P.length p2,.slice a1 a0 a2] 30)) [.int .i64 id] 3).alloc (.cells #[.int .i64 dst,.int .i64 src,.int .i64 kind,.int .i64 ips,.int .i64 ipd,.int .i64 ttl,.int .i64 port,.string body] 33);simpa using aa h
 have HFB:Hid (Box W0 (w.heap.size+1+1+1) [.int .i64 dst,.int .i64 src,.int .i64 kind,.int .i64 ips,.int .i64 ipd,.int .i64 ttl,.int .i64 port,.string body]):=by rw [hW0];have h:=Box.new (((w.alloc (.cells #[k0,k1,k2,k3,k4,k5] 90)).alloc (.cells #[.slice s1 s0 s2,.slice p1 P.length p2,.slice a1 a0 a2] 30)).alloc (.cells #[.int .i64 id] 3)) [.int .i64 dst,.int .i64 src,.int .i64 kind,.int .i64 ips,.int .i64 ipd,.int .i64 ttl,.int .i64 port,.string body] 33;simpa using aa h
 have HW0:Hid (((((w.alloc (.cells #[k0,k1,k2,k3,k4,k5] 90)).alloc (.cells #[.slice s1 s0 s2,.slice p1 P.length p2,.slice a1 a0 a2] 30)).alloc (.cells #[.int .i64 id] 3)).alloc (.cells #[.int .i64 dst,.int .i64 src,.int .i64 kind,.int .i64 ips,.int .i64 ipd,.int .i64 ttl,.int .i64 port,.string body] 33))=W0):=hW0.symm;clear hW0;replace HK:=aa (HK.out.below kb);replace HP:=aa (RowAt.below HP.out kb zr);have c1:=HCB.out.cell 1 _ rfl;have ci:=HIB.out.cell 0 _ rfl;go_enter Tryz.func36,Tryz.ntmps36;go_wp2_with (rw [HW0.out])
 refine(mS P (dP id) _ _ _ _ HP.out (vi id _ _ ci) vI (by omega)).mono ?_;rintro e w1 ⟨rfl,hb1⟩;clear HW0 c1 ci;replace HKB:=aa (HKB.out.below hb1);replace HCB:=aa (HCB.out.below hb1);replace HIB:=aa (HIB.out.below hb1);replace HFB:=aa (HFB.out.below hb1);replace HK:=aa (HK.out.below hb1);replace HP:=aa (RowAt.below HP.out hb1 zr);replace kb:=kb.trans (hb1.mono kb.size);clear hb1;by_cases hix:idx (dP id) P<0
 ·rw [if_pos hix]at HAE;go_wp2_with fail
  rw [HAE.out];go_ret2;exact⟨_,rfl,[],⟨by rw [HAL.out,HAE.out];exact List.Perm.refl _,List.Pairwise.nil,World.ownsRow_nil _ _ _ _⟩,kb⟩
 ·rw [if_neg hix]at HAE;obtain⟨k,hk,hke,hks⟩:=yF pr0 (Int.not_lt.1 hix);have HFP:Hid (ix P id=P.getD k pr0):=by unfold ix;rw [hke];exact aa rfl
  rw [HFP.out]at HAE HAL;have hcc:0≤(P.getD k pr0).c∧(P.getD k pr0).c≤5:=by
   rcases HC.out _ (show P.getD k pr0∈P by rw [List.getD_eq_getElem?_getD,List.getElem?_eq_getElem hk];exact List.getElem_mem hk)with h | h
   ·unfold dP at hks;rw [h]at hks;simp at hks
   ·exact h
  clear hks HC HFP;rw [hke]at hix⊢;clear hke;have q0:(0:Int)≤(k:Int):=(by omega);have q1:(k:Int)<(P.length:Int):=(by omega);have HPK:=aa (fun W=>lB dst src kind ips ipd ttl port body id 0 0 W hb);generalize hE:pkE dst src kind ips ipd ttl port body.size id 0 0=E at*;have ci:=HIB.out.cell 0 _ rfl;go_wp2_with (refine wpList_load_mid rfl 33 (.tmp 7) rfl (w.heap.size+1+1+1) 0 rfl _ _ HFB.out.range Tryz.underlying33 rfl kS ?_)
  refine(ag HPK _).mono ?_;rintro e w2 ⟨rfl,hb2⟩;clear ci HPK;replace HKB:=aa (HKB.out.below hb2);replace HCB:=aa (HCB.out.below hb2);replace HIB:=aa (HIB.out.below hb2);replace HFB:=aa (HFB.out.below hb2);replace HK:=aa (HK.out.below hb2);replace HP:=aa (RowAt.below HP.out hb2 zr);replace kb:=kb.trans (hb2.mono kb.size);clear hb2;by_cases hE0:E=0
  ·subst hE0;rw [if_pos rfl]at HAE⊢;clear hE;obtain⟨W3,hW3⟩:∃W3,W3=w2.alloc (.cells #[.int .i64 id,.int .i64 dst,.int .i64 src,.int .i64 kind,.int .i64 ips,.int .i64 ipd,.int .i64 ttl,.int .i64 port,.int .i64 0,.int .i64 0,.string body] 119):=⟨_,rfl⟩;have hbN:Below w2.heap.size w2 W3:=by rw [hW3];exact(Below.refl _ _).alloc zr _
   have HPB:Hid (Box W3 w2.heap.size [.int .i64 id,.int .i64 dst,.int .i64 src,.int .i64 kind,.int .i64 ips,.int .i64 ipd,.int .i64 ttl,.int .i64 port,.int .i64 0,.int .i64 0,.string body]):=by rw [hW3];exact aa (Box.new w2 [.int .i64 id,.int .i64 dst,.int .i64 src,.int .i64 kind,.int .i64 ips,.int .i64 ipd,.int .i64 ttl,.int .i64 port,.int .i64 0,.int .i64 0,.string body] 119)
   replace HKB:=aa (HKB.out.below hbN);replace HCB:=aa (HCB.out.below hbN);replace HIB:=aa (HIB.out.below hbN);replace HFB:=aa (HFB.out.below hbN);replace HK:=aa (HK.out.below hbN);replace HP:=aa (RowAt.below HP.out hbN zr);replace kb:=kb.trans (hbN.mono kb.size);have HW3:=aa hW3.symm;clear hbN hW3;obtain⟨pb,off,cap,e1,hcap, -,g0,g1,g2,g3,g4⟩:=fK HP.out hk;simp only [Value.slice.injEq,true_and]at e1;obtain⟨rfl,rfl⟩:=e1;clear g0 g1 g2 g3;generalize (P.getD k pr0).c=cc at*;obtain⟨m,rfl⟩:=Int.eq_ofNat_of_zero_le hcc.1;have hm6:m<6:=(by omega);simp only [Int.toNat_natCast]at HAE HAL;obtain⟨kv,hkv⟩:=sP HK.out.1 hm6;have HF:=aa (HK.out.2 m hm6 kv hkv).1;have HLN:=aa (HK.out.2 m hm6 kv hkv).2;have ck:=HKB.out.cell m kv hkv;have c1:=HCB.out.cell 1 _ rfl;obtain⟨fa,fc,rfl,_⟩:=HF.out;clear hkv;have q2:(0:Int)≤(m:Int):=(by omega);have q3:(m:Int)<6:=(by omega);go_wp2_with (rw [HW3.out])
   clear HW3;refine wp_region_held_drew (S:=(fun w'=>w'.cell? ⟨w.heap.size+1,1,none⟩=some (.slice (some ⟨pb,off,none⟩) P.length p2)∧w'.cell? ⟨pb,off+k*5+4,none⟩=some (.int .i64 (m:Int))∧w'.cell? ⟨w.heap.size,m,none⟩=some (.slice fa (K m).length fc)∧w'.rangeAt w2.heap.size 0 [.int .i64 id,.int .i64 dst,.int .i64 src,.int .i64 kind,.int .i64 ips,.int .i64 ipd,.int .i64 ttl,.int .i64 port,.int .i64 0,.int .i64 0,.string body])) (by kernel_rfl) ⟨c1,g4,ck,HPB.out.range⟩ (fun hHeld=>?_);refine sqA [(0,35),(1,36),(2,37),(3,38),(4,39),(5,40),(6,41),(7,42)] ?_;(iterate 8 (refine sqN rfl (by kernel_rfl) (fun _ _ _ h=>h) rfl ‹_› (by intro w h;go_simp <;>with_reducible rfl) ?_;simp only [nz]));refine sqZ ?_;refine wpAnyH_take (i:=8) (oi:=⟨some 43,_,_,_,_,_⟩) (v:=.agg #[.int .i64 id,.int .i64 dst,.int .i64 src,.int .i64 kind,.int .i64 ips,.int .i64 ipd,.int .i64 ttl,.int .i64 port,.int .i64 0,.int .i64 0,.string body]) rfl (by kernel_rfl) (by kernel_rfl) (by kernel_rfl) (fun _ _ _ h=>h) (yieldsIf_load_mid (by rfl) 119 (.tmp 11) rfl w2.heap.size 0 rfl [.int .i64 id,.int .i64 dst,.int .i64 src,.int .i64 kind,.int .i64 ips,.int .i64 ipd,.int .i64 ttl,.int .i64 port,.int .i64 0,.int .i64 0,.string body] _ (fun w h=>h.2.2.2) Tryz.underlying119 rfl gU) (by assumption) ?_;(try simp only [nz]);refine rs 9 44 (by kernel_rfl) rfl (fun Kk hKk=>?_);go_simp;have hbD:Below W3.heap.size W3 W3.drew:=(Below.refl _ _).drew;refine(qF id dst src kind ips ipd ttl port 0 0 body _ (K m) W3.drew (HF.out.below hbD zr) hb HLN.out).mono ?_;rintro e w4 ⟨v4,rfl,ho4,hb4⟩;have hb34:Below W3.heap.size W3 w4:=hbD.trans hb4;have HO:=aa ho4;have sN:w.heap.size≤W3.drew.heap.size:=kb.size;go_wp2_with fail
   refine hKk.out _ _ ⟨zC c1 hb34,zC g4 hb34,zC ck hb34,eM HPB.out.range hb34 HPB.out.lt⟩ (fun hHeld=>?_);clear hKk Kk;(try simp only [nz]);refine sqA [(10,34),(11,45),(12,46),(13,13),(14,12)] ?_;(iterate 5 (refine sqN rfl (by kernel_rfl) (fun _ _ _ h=>h) rfl ‹_› (by intro w h;go_simp <;>with_reducible rfl) ?_;simp only [nz]));refine sqZ ?_;refine wpAnyH_done (by kernel_rfl) ?_ _;replace HKB:=aa (HKB.out.below hb34);replace HCB:=aa (HCB.out.below hb34);replace HIB:=aa (HIB.out.below hb34);replace HFB:=aa (HFB.out.below hb34);replace HK:=aa (HK.out.below hb34);replace HP:=aa (RowAt.below HP.out hb34 zr);replace kb:=kb.trans (hb34.mono kb.size);clear hHeld ho4 hb4 hbD hb34 ck c1 g4 HPB HF HLN;have HRL:Hid (dX (K m) [id,dst,src,kind,ips,ipd,ttl,port,0,0] body.size=0→jM (K m) [id,dst,src,kind,ips,ipd,ttl,port,0,0] body.size=ran (K m) [id,dst,src,kind,ips,ipd,ttl,port,0,0]):=fun h=>by unfold jM;rw [if_pos h]
   have HRO:Hid (dX (K m) [id,dst,src,kind,ips,ipd,ttl,port,0,0] body.size=0→OutOk (ran (K m) [id,dst,src,kind,ips,ipd,ttl,port,0,0])∧(ran (K m) [id,dst,src,kind,ips,ipd,ttl,port,0,0]).length≤1000000):=fun h=>qf rfl h;generalize hR:dX (K m) [id,dst,src,kind,ips,ipd,ttl,port,0,0] body.size=R at*;by_cases hR0:R=0
   ·subst hR0;rw [HRL.out rfl]at HO;rw [if_pos rfl]at HAE;obtain⟨HOK,hll⟩:=HRO.out rfl;replace HOK:=aa HOK;clear hR HRL HRO;generalize ran (K m) [id,dst,src,kind,ips,ipd,ttl,port,0,0]=l at*;have hs4:=kb.size;replace HO:=aa (aw HO.out sN);have HL:=HO;obtain⟨oo,oc,rfl,hoc,hg⟩:=dW HO.out;clear HO;have hle:ky K body.size l=0→(eu K body.size l).length≤1000000*l.length:=fun _=>nj l;clear hle;go_wp2_with fail
    go_loopw [14,52] (fun u i wr=>∃j:Nat,j≤l.length∧i= .int .i64 j∧Hid (wr.ownsRow w4.heap.size 41 9 u (eu K body.size (l.take j)).length (AR body (eu K body.size (l.take j))))∧Hid ((l.take j).find? (ku K body.size)=none)∧Below w4.heap.size w4 wr) (fun _ i _=>l.length-(intOf i).toNat)
    case atStart=>exact⟨0,by omega,rfl,aa (by simpa [eu,AR] using World.ownsRow_nil w4 w4.heap.size 41 9),aa rfl,Below.refl _ _⟩
    case round=>
     obtain⟨j,hj,rfl,HO,HBAD,hbr⟩:=hrel;have sr:w4.heap.size≤wr.heap.size:=hbr.size;by_cases hlt:j<l.length
     ·obtain⟨g,rfl,hgB,hgw⟩:=hg (by omega);have R0:=aa (eM (k9 (C:=snC body) (fun _=>rfl) snz HL.out hlt) hbr hgw);have HN:=aa (vu (K:=K) (n:=body.size) hlt);have HB1:=aa (tH (K:=K) (n:=body.size) hlt HBAD.out);have HB2:=aa (wU (K:=K) (n:=body.size) hlt HBAD.out);have hlen:=nj (K:=K) (n:=body.size) (l.take j);have hlt2:(l.take j).length≤1000000:=by rw [List.length_take];omega
      have hcl:=t8 (K:=K) (n:=body.size) (l.getD j snz);have HOX:Hid (zU (l.getD j snz)):=HOK.out _ (by rw [List.getD_eq_getElem?_getD,List.getElem?_eq_getElem hlt];exact List.getElem_mem hlt);obtain⟨o1,o2,rfl⟩:=aG HO.out;obtain⟨N,hN⟩:∃N,N=(eu K body.size (l.take j)).length:=⟨_,rfl⟩;rw [←hN]at HO hlen⊢;have HNN:=aa hN;clear hN HBAD;generalize l.getD j snz=x at*;have q4:(0:Int)≤(j:Int):=(by omega);have q5:(j:Int)<(l.length:Int):=(by omega);have HCR:=aa (fun W (h:KAt W [k0,k1,k2,k3,k4,k5] K)=>qC [k0,k1,k2,k3,k4,k5] K x body W h HOX.out hb);have HXC:Hid (snC body x= [.int .i64 x.k,.int .i64 x.n,.int .i64 (x.F.getD 0 0),.int .i64 (x.F.getD 1 0),.int .i64 (x.F.getD 2 0),.int .i64 (x.F.getD 3 0),.int .i64 (x.F.getD 4 0),.int .i64 (x.F.getD 5 0),.int .i64 (x.F.getD 6 0),.int .i64 (x.F.getD 7 0),.int .i64 (x.F.getD 8 0),.int .i64 (x.F.getD 9 0),.string body]):=rfl;rw [HXC.out]at R0 HCR;clear HXC HOX;generalize x.F.getD 0 0=y0 at*;generalize x.F.getD 1 0=y1 at*;generalize x.F.getD 2 0=y2 at*;generalize x.F.getD 3 0=y3 at*;generalize x.F.getD 4 0=y4 at*;generalize x.F.getD 5 0=y5 at*;generalize x.F.getD 6 0=y6 at*;generalize x.F.getD 7 0=y7 at*;generalize x.F.getD 8 0=y8 at*;generalize x.F.getD 9 0=y9 at*;generalize x.n=xn at*;generalize x.k=xk at*;obtain⟨W5,hW5⟩:∃W5,W5=wr.alloc (.cells #[.int .i64 xk,.int .i64 xn,.int .i64 y0,.int .i64 y1,.int .i64 y2,.int .i64 y3,.int .i64 y4,.int .i64 y5,.int .i64 y6,.int .i64 y7,.int .i64 y8,.int .i64 y9,.string body] 126):=⟨_,rfl⟩;have hb5:Below wr.heap.size wr W5:=by rw [hW5];exact(Below.refl _ _).alloc zr _
      have HSB:Hid (Box W5 wr.heap.size [.int .i64 xk,.int .i64 xn,.int .i64 y0,.int .i64 y1,.int .i64 y2,.int .i64 y3,.int .i64 y4,.int .i64 y5,.int .i64 y6,.int .i64 y7,.int .i64 y8,.int .i64 y9,.string body]):=by rw [hW5];exact aa (Box.new wr [.int .i64 xk,.int .i64 xn,.int .i64 y0,.int .i64 y1,.int .i64 y2,.int .i64 y3,.int .i64 y4,.int .i64 y5,.int .i64 y6,.int .i64 y7,.int .i64 y8,.int .i64 y9,.string body] 126)
      have hb45:Below w4.heap.size w4 W5:=hbr.trans (hb5.mono sr);have HKB5:=aa (HKB.out.below hb45);have HK5:=aa (HK.out.below hb45);replace HO:=zO HO hb5;have HW5:=aa hW5.symm;clear hW5 hb5;go_wp2_with (first | rw [HW5.out] |(refine wpList_load_mid rfl 126 (.tmp 54) rfl g (j*13) rfl _ _ R0.out Tryz.underlying126 rfl iR ?_) |(refine wpList_load_mid rfl 126 (.tmp 16) rfl wr.heap.size 0 rfl _ _ HSB.out.range Tryz.underlying126 rfl iR ?_) |(refine wpList_load_mid rfl 90 (.tmp 4) rfl w.heap.size 0 rfl _ _ HKB5.out.range Tryz.underlying90 rfl fJ ?_))
      refine(ag HCR _ HK5.out).mono ?_;rintro e w6 ⟨u6,rfl,ho6,hb6⟩;have HO6:=aa ho6;replace HO:=zO HO hb6;have hb46:Below w4.heap.size w4 w6:=hb45.trans (hb6.mono hb45.size);have s46:w4.heap.size≤w6.heap.size:=hb46.size;clear ho6 hb6 hb45 HCR R0 HSB HKB5 HK5 HW5 hbr;obtain⟨o3,o4,rfl,_⟩:=dW HO6.out;generalize hCE:mI K body.size x=CE at*;by_cases hC0:CE=0
      ·subst hC0;have HBD:=HB1;clear HB1 HB2 hCE;go_wp2_with (at_builtin;refine jT rfl _ _ 36 rfl w4.heap.size 41 i0 _ 9 80 Tryz.underlying36 hi hz0 hz1 hz2 rfl (by decide) _ _ _ rfl HO.out _ _ _ _ rfl HO6.out (A3 _ _) ?a1 ?a2 s46 ?_)
       case a1=>unfold maxLen;omega
       case a2=>omega
       intro v7 w7 ho7 hg7;have hb7:Below w4.heap.size w4 w7:=hb46.grown hg7 s46 (ay HO.out);have HE7:Hid (w7.ownsRow w4.heap.size 41 9 v7 (eu K body.size (l.take (j+1))).length (AR body (eu K body.size (l.take (j+1))))):=by
        refine aa ?_;rw [HN.out,List.length_append, ←HNN.out,Bd];exact ho7
       clear ho7 hg7 HO HO6;go_wp2_with fail
       go_roundw
       case rel=>exact⟨j+1,by omega,by go_num,HE7,HBD.out trivial,hb7⟩
       case measure=>simp [intOf];omega
      ·have hCb:(CE != 0)=true:=(by simpa using hC0);have HCE:=aa (HB2.out hC0);clear HB1 HB2;rw [HCE.out]at HAE;have hAL:lR K P id dst src kind ips ipd ttl port body.size= []:=(by rw [HAL.out,HAE.out,if_neg hC0]);have HAL2:=aa hAL;clear hAL;go_wp2_with fail
       rw [HAE.out];go_ret2;exact⟨_,rfl,[],⟨by rw [HAL2.out],List.Pairwise.nil,World.ownsRow_nil _ _ _ _⟩,kb.trans (hb46.mono hs4)⟩
     ·have hje:j=l.length:=(by omega);subst hje;rw [List.take_length]at HO HBAD;have hE0:ky K body.size l=0:=by unfold ky;rw [HBAD.out]
      rw [hE0]at HAE;have HAL2:Hid (lR K P id dst src kind ips ipd ttl port body.size=eu K body.size l):=by rw [HAL.out,if_pos HAE.out];exact aa rfl
      have HSS:=aa (HS.out HAE.out);rw [HAL2.out]at HSS;clear HS HBAD hE0;obtain⟨o1,o2,rfl⟩:=aG HO.out;have hkk:¬((l.length:Int)<(l.length:Int)):=(by omega);go_wp2_with fail
      refine(HSS.out body _ _ _ HO.out sr).mono ?_;rintro e w8 ⟨rfl,l8,hp8,hs8,ho8,hg8⟩;have HP8:=aa hp8;have HS8:=aa hs8;have HO8:=aa ho8;have kb8:Below w.heap.size w w8:=(kb.trans (hbr.mono hs4)).grown hg8 (by omega) (fun k hk=>Nat.le_trans hs4 (ay HO.out k hk));clear hp8 hs8 ho8 hg8;go_wp2_with fail
      rw [HAE.out,HAL2.out];go_ret2;exact⟨_,rfl,l8,⟨HP8.out,HS8.out,by rw [HP8.out.length_eq];exact aw HO8.out hs4⟩,kb8⟩
   ·rw [if_neg hR0]at HAE;have hRb:(R != 0)=true:=(by simpa using hR0);obtain⟨oo,oc,rfl,_⟩:=dW HO.out;go_wp2_with fail
    rw [HAE.out];go_ret2;exact⟨_,rfl,[],⟨by rw [HAL.out,HAE.out,if_neg hR0],List.Pairwise.nil,World.ownsRow_nil _ _ _ _⟩,kb⟩
  ·rw [if_neg hE0]at HAE⊢;have hEb:(E != 0)=true:=(by simpa using hE0);go_wp2_with fail
   rw [HAE.out];go_ret2;exact⟨_,rfl,[],⟨by rw [HAL.out,HAE.out,if_neg hE0],List.Pairwise.nil,World.ownsRow_nil _ _ _ _⟩,kb.alloc kb.size _⟩
def KD (S:List Sw) (P:List Pr) (A:List Ac) (k:Nat) (i:Nat):List Fl:=if i<k then cmL S P A i else []
def od (S:List Sw) (P:List Pr) (A:List Ac) (id dst src kind ips ipd ttl port:Int) (n:Nat):Int:=if may S P A=true then lj (KD S P A 6) P id dst src kind ips ipd ttl port n else 8
def l7 (S:List Sw) (P:List Pr) (A:List Ac) (id dst src kind ips ipd ttl port:Int) (n:Nat):List Ar:=if may S P A=true then lR (KD S P A 6) P id dst src kind ips ipd ttl port n else []
theorem Aw {S:List Sw} {P:List Pr} {A:List Ac} {k:Nat} (h:cmE S P A k=0):tE S P A (KD S P A k) k=KD S P A (k+1):=by
 unfold tE;rw [if_pos h];funext i;unfold KD;by_cases e:i=k
 ·subst e;simp
 ·by_cases l:i<k
  ·rw [if_neg (by simpa using e),if_pos l,if_pos (by omega)]
  ·rw [if_neg (by simpa using e),if_neg l,if_neg (by omega)]
theorem Bk {S:List Sw} {P:List Pr} {A:List Ac} {k:Nat} (h:k=0∨may S P A=true) (hk:k≤6):Kok (KD S P A k):=by
 intro i;unfold KD;by_cases l:i<k
 ·rw [if_pos l];have hm:may S P A=true:=by rcases h with h | h;omega;exact h
  exact wE (by unfold cmE;rw [if_pos hm,if_pos (by omega)])
 ·rw [if_neg l];exact⟨⟨List.Pairwise.nil,by simp⟩,by simp,by simp⟩
theorem qN (S:List Sw) (P:List Pr) (A:List Ac) (s1 p1 a1:Option Addr) (s2 p2 a2:Nat) (id dst src kind ips ipd ttl port:Int) (body:ByteArray) (w:World) (hC:CfAt w (.slice s1 S.length s2) (.slice p1 P.length p2) (.slice a1 A.length a2) S P A) (h1:S.length≤1000) (h2:P.length≤1000) (h3:A.length≤1000) (hSA:may S P A=true→∀s b,eY (aV A s b)) (hb:body.size≤maxLen)
  (hS:may S P A=true→lj (KD S P A 6) P id dst src kind ips ipd ttl port body.size=0→mq (lR (KD S P A 6) P id dst src kind ips ipd ttl port body.size)):
  Calls Tryz.prog 13 #[.agg #[.slice s1 S.length s2,.slice p1 P.length p2,.slice a1 A.length a2],.int .i64 id,fr dst src kind ips ipd ttl port body] w fun e w'=>∃u,e= .returned (.tuple #[u,.int .i64 (od S P A id dst src kind ips ipd ttl port body.size)])∧∃l',(l'.Perm (l7 S P A id dst src kind ips ipd ttl port body.size)∧jQ l'∧w'.ownsRow w.heap.size 41 9 u l'.length (AR body l'))∧Below w.heap.size w w':=by
 have HSA:=aa hSA;have HS:=aa hS;have HDE:Hid (od S P A id dst src kind ips ipd ttl port body.size=if may S P A=true then lj (KD S P A 6) P id dst src kind ips ipd ttl port body.size else 8):=rfl;have HDL:Hid (l7 S P A id dst src kind ips ipd ttl port body.size=if may S P A=true then lR (KD S P A 6) P id dst src kind ips ipd ttl port body.size else []):=rfl;obtain⟨W0,hW0⟩:∃W0,W0=((w.alloc (.cells #[.slice s1 S.length s2,.slice p1 P.length p2,.slice a1 A.length a2] 30)).alloc (.cells #[.int .i64 dst,.int .i64 src,.int .i64 kind,.int .i64 ips,.int .i64 ipd,.int .i64 ttl,.int .i64 port,.string body] 33)).alloc (.cells #[.slice none 0 0,.slice none 0 0,.slice none 0 0,.slice none 0 0,.slice none 0 0,.slice none 0 0] 90):=⟨_,rfl⟩;have kb:Below w.heap.size w W0:=by rw [hW0];exact(((Below.refl _ w).alloc zr _).alloc (by simp) _).alloc (by simp;omega) _
 have HB0:Hid (Box W0 w.heap.size [.slice s1 S.length s2,.slice p1 P.length p2,.slice a1 A.length a2]):=by rw [hW0];exact aa (((Box.new w [.slice s1 S.length s2,.slice p1 P.length p2,.slice a1 A.length a2] 30).alloc _).alloc _)
 have HB1:Hid (Box W0 (w.heap.size+1) [.int .i64 dst,.int .i64 src,.int .i64 kind,.int .i64 ips,.int .i64 ipd,.int .i64 ttl,.int .i64 port,.string body]):=by rw [hW0];have h:=(Box.new (w.alloc (.cells #[.slice s1 S.length s2,.slice p1 P.length p2,.slice a1 A.length a2] 30)) [.int .i64 dst,.int .i64 src,.int .i64 kind,.int .i64 ips,.int .i64 ipd,.int .i64 ttl,.int .i64 port,.string body] 33).alloc (.cells #[.slice none 0 0,.slice none 0 0,.slice none 0 0,.slice none 0 0,.slice none 0 0,.slice none 0 0] 90);simpa using aa h
 have HB2:Hid (Box W0 (w.heap.size+1+1) [.slice none 0 0,.slice none 0 0,.slice none 0 0,.slice none 0 0,.slice none 0 0,.slice none 0 0]):=by rw [hW0];have h:=Box.new ((w.alloc (.cells #[.slice s1 S.length s2,.slice p1 P.length p2,.slice a1 A.length a2] 30)).alloc (.cells #[.int .i64 dst,.int .i64 src,.int .i64 kind,.int .i64 ips,.int .i64 ipd,.int .i64 ttl,.int .i64 port,.string body] 33)) [.slice none 0 0,.slice none 0 0,.slice none 0 0,.slice none 0 0,.slice none 0 0,.slice none 0 0] 90;simpa using aa h
 have HW0:Hid (((w.alloc (.cells #[.slice s1 S.length s2,.slice p1 P.length p2,.slice a1 A.length a2] 30)).alloc (.cells #[.int .i64 dst,.int .i64 src,.int .i64 kind,.int .i64 ips,.int .i64 ipd,.int .i64 ttl,.int .i64 port,.string body] 33)).alloc (.cells #[.slice none 0 0,.slice none 0 0,.slice none 0 0,.slice none 0 0,.slice none 0 0,.slice none 0 0] 90)=W0):=hW0.symm;clear hW0;have HKA:Hid (Kept (fun k=>k<w.heap.size+3) W0 fun W=>KAt W [.slice none 0 0,.slice none 0 0,.slice none 0 0,.slice none 0 0,.slice none 0 0,.slice none 0 0] (KD S P A 0)):=aa (fun w' _=>⟨rfl,fun i hi v hv=>⟨by
   have:v= .slice none 0 0:=by
    have h6:i=0∨i=1∨i=2∨i=3∨i=4∨i=5:=(by omega);rcases h6 with rfl | rfl | rfl | rfl | rfl | rfl <;>simpa using hv.symm
   rw [this];exact⟨none,0,rfl,fun _=>rfl,.inl rfl⟩,by simp [KD]⟩⟩)
 have HC:=aa hC;clear hC hSA hS;go_enter Tryz.func13,Tryz.ntmps13;go_wp2_with fail
 rw [HW0.out];clear HW0;go_loopw [11] (fun i wr=>∃k:Nat,k≤6∧i= .int .i64 k∧Hid (k=0∨may S P A=true)∧(∃ks,Hid (Kept (fun k=>k<w.heap.size+3) wr fun W=>KAt W ks (KD S P A k))∧Hid (Box wr (w.heap.size+1+1) ks))∧Hid (Box wr w.heap.size [.slice s1 S.length s2,.slice p1 P.length p2,.slice a1 A.length a2])∧Hid (Box wr (w.heap.size+1) [.int .i64 dst,.int .i64 src,.int .i64 kind,.int .i64 ips,.int .i64 ipd,.int .i64 ttl,.int .i64 port,.string body])∧Below w.heap.size w wr) (fun i _=>6-(intOf i).toNat)
 case atStart=>exact⟨0,by omega,rfl,aa (.inl rfl),⟨_,HKA,HB2⟩,HB0,HB1,kb⟩
 case round=>
  clear HKA HB0 HB1 HB2 kb;obtain⟨k,hk,rfl,HM,⟨ks,HKA,HB2⟩,HB0,HB1,kb⟩:=hrel;have hsz:=HB2.out.lt;have HL:Hid (ks.length=6):=aa HKA.out.here.1;replace HC:=aa (HC.out.below kb zr);by_cases hlt:k<6
  ·have q6:(k:Int)<6:=(by omega);have HSY:=aa (tT S P A s1 p1 a1 s2 p2 a2 (KD S P A k) ks k (fun k=>k<w.heap.size+3) wr (fun k h=>by omega) HKA.out HC.out h1 h2 h3 HSA.out (Bk HM.out hk));go_wp2_with (first |(refine wpList_load_mid rfl 90 (.tmp 8) rfl (w.heap.size+1+1) 0 rfl _ _ HB2.out.range Tryz.underlying90 rfl (by rw [HL.out];exact fJ) ?_) |(refine wpList_load_mid rfl 30 (.tmp 3) rfl w.heap.size 0 rfl _ _ HB0.out.range Tryz.underlying30 rfl bq ?_))
   refine(ag HSY).mono ?_;rintro e w1 ⟨kn,rfl,hkn,hb1⟩;replace HB0:=aa (HB0.out.below hb1);replace HB1:=aa (HB1.out.below hb1);replace HB2:=aa (HB2.out.below hb1);have hs1:=hb1.size;replace kb:=kb.trans (hb1.mono kb.size);have HKN:=aa hkn;have HKL:Hid (kn.length=6):=aa hkn.here.1;have HKO:=aa (xH hkn.here);clear hkn hb1 HSY HKA;obtain⟨W2,hW2⟩:∃W2,W2=w1.setCells (w.heap.size+1+1) 0 kn:=⟨_,rfl⟩;have HN2:Hid (Box W2 (w.heap.size+1+1) kn):=by rw [hW2];exact aa (HB2.out.set kn (by rw [HKL.out,HL.out]))
   have HN0:Hid (Box W2 w.heap.size [.slice s1 S.length s2,.slice p1 P.length p2,.slice a1 A.length a2]):=by rw [hW2];exact aa (HB0.out.set_far (by omega) 0 kn)
   have HN1:Hid (Box W2 (w.heap.size+1) [.int .i64 dst,.int .i64 src,.int .i64 kind,.int .i64 ips,.int .i64 ipd,.int .i64 ttl,.int .i64 port,.string body]):=by rw [hW2];exact aa (HB1.out.set_far (by omega) 0 kn)
   replace HKN:Hid (Kept (fun k=>k<w.heap.size+3) W2 fun W=>KAt W kn (tE S P A (KD S P A k) k)):=by rw [hW2];exact aa (HKN.out.set (b:=w.heap.size+1+1) (show _<_ by omega) 0 kn)
   have kb2:Below w.heap.size w W2:=by rw [hW2];exact aE _ (by omega) _ _ kb
   have HW2:Hid (w1.setCells (w.heap.size+1+1) 0 kn.toArray.toList=W2):=hW2.symm;have HFT:Hid (w1.there (w.heap.size+1+1) 0 kn.toArray.size):=by show Hid (World.there _ _ _ kn.length);rw [HKL.out];exact aa (HB2.out.fit 6 HL.out)
   clear hW2 HB0 HB1 HB2 kb;by_cases hm:may S P A=true
   ·have HE:Hid (cmE S P A k=0):=by refine aa ?_;unfold cmE;rw [if_pos hm,if_pos (by omega)]
    rw [Aw HE.out]at HKN;rw [HE.out];have HM2:=aa (Or.inr (a:=k+1=0) hm);clear hm;go_wp2_with (refine wpList_store_mid rfl 90 (.tmp 8) (.tmp 19) rfl (w.heap.size+1+1) 0 _ rfl rfl HFT.out (by show _=some kn.length;rw [HKL.out];exact fJ) HKO.out ?_;rw [HW2.out])
    go_roundw
    case rel=>exact⟨k+1,by omega,by go_num,HM2,⟨kn,HKN,HN2⟩,HN0,HN1,kb2⟩
    case measure=>simp [intOf];omega
   ·have HE:Hid (cmE S P A k=8):=by refine aa ?_;unfold cmE;rw [if_neg hm]
    rw [HE.out];rw [if_neg hm]at HDE HDL;clear hm;go_wp2_with (refine wpList_store_mid rfl 90 (.tmp 8) (.tmp 19) rfl (w.heap.size+1+1) 0 _ rfl rfl HFT.out (by show _=some kn.length;rw [HKL.out];exact fJ) HKO.out ?_;rw [HW2.out])
    rw [HDE.out,HDL.out];go_ret2;exact⟨_,rfl,[],⟨List.Perm.refl _,List.Pairwise.nil,World.ownsRow_nil _ _ _ _⟩,kb2⟩
  ·obtain rfl:k=6:=(by omega);have hm:may S P A=true:=by rcases HM.out with h | h;omega;exact h
   rw [if_pos hm]at HDE HDL;have HAR:=aa (pj ks (KD S P A 6) s1 p1 a1 S.length s2 p2 A.length a2 P id dst src kind ips ipd ttl port body wr HKA.out.here HC.out.2.1 (by omega) (fun p hp=>by have:=(dz (bu hm).1 (bu hm).2.1).2 p hp;omega) hb (HS.out hm));clear hm HM HS;go_wp2_with (first |(refine wpList_load_mid rfl 90 (.tmp 8) rfl (w.heap.size+1+1) 0 rfl _ _ HB2.out.range Tryz.underlying90 rfl (by rw [HL.out];exact fJ) ?_) |(refine wpList_load_mid rfl 30 (.tmp 3) rfl w.heap.size 0 rfl _ _ HB0.out.range Tryz.underlying30 rfl bq ?_) |(refine wpList_load_mid rfl 33 (.tmp 5) rfl (w.heap.size+1) 0 rfl _ _ HB1.out.range Tryz.underlying33 rfl kS ?_))
   refine(ag HAR).mono ?_;rintro e w1 ⟨u,rfl,l',⟨hp,hs,ho⟩,hb1⟩;have HP:=aa hp;have HQ:=aa hs;have HO:=aa (aw ho kb.size);have kb2:=kb.trans (hb1.mono kb.size);clear hp hs ho hb1 HAR;go_wp2_with fail
   rw [HDE.out,HDL.out];go_ret2;exact⟨_,rfl,l',⟨HP.out,HQ.out,HO.out⟩,kb2⟩
theorem zp {α:Type} {l:List α} {f:List α→α→Int} (h:∀L x R,l=L++x::R→f L x=0) {r:α→α→Prop} (hf:∀L x y,x∈L→f L y=0→r x y):l.Pairwise r:=by
 rw [List.pairwise_iff_getElem];intro i j hi hj hij;refine hf (l.take j) l[i] l[j] ?_ (h (l.take j) l[j] (l.drop (j+1)) ?_)
 ·rw [List.mem_take_iff_getElem];exact⟨i,by omega,rfl⟩
 ·rw [←List.drop_eq_getElem_cons hj,List.take_append_drop]
theorem lI {S:List Sw} {P:List Pr} (h:aY S P=true):P.Pairwise fun x y=>x.i≠y.i:=by
 refine zp ((cT S P).1 h) fun L x y hx hz e=>?_;have:=((ez _ _ _).1 hz).2.2.1;rw [List.any_eq_false]at this;exact this x hx (by simp [e])
theorem vp {S:List Sw} {P:List Pr} (h:aY S P=true) {p:Pr} (hp:p∈P):P.find? (fun q=>q.i==p.i)=some p:=by
 cases hf:P.find? (fun q=>q.i==p.i)with
 | none=>have:=List.find?_eq_none.1 hf p hp;simp at this
 | some q=>
  have h2:=List.find?_some hf;rw [cI h (List.mem_of_find?_eq_some hf) hp (by simpa using h2)]
theorem zj {S:List Sw} (h:bJ S=true) {s:Sw} (hs:s∈S):dB S s.i=s:=by
 unfold dB;cases hf:S.find? (fun x=>x.i==s.i)with
 | none=>have:=List.find?_eq_none.1 hf s hs;simp at this
 | some q=>
  have h2:=List.find?_some hf;show q=s;exact kr h (List.mem_of_find?_eq_some hf) hs (by simpa using h2)
def goB (A:List Ac) (g:Gl):Bool:=g.f.getD 2 0==2|| g.f.getD 2 0==3&&fN A g.n false (g.f.getD 3 0) (g.f.getD 4 0) (g.f.getD 6 0)
def goA (g:Gl):Ar:=⟨g.u,g.f⟩
def pG (P:List Pr) (g:Gl):Bool:=P.any fun p=>p.c==g.c&&(p.s==g.n&&p.i==g.u)
theorem yV {P:List Pr} {A:List Ac} (gs:List Gl) (h:∀g∈gs,pG P g=true):rr P A gs=(gs.filter (goB A)).map goA:=by
 unfold rr
 induction gs with
 | nil=>rfl
 | cons g r ih=>
  rw [List.flatMap_cons,ih (fun x hx=>h x (by simp [hx]))];have e:iU P A g.c (g.f.getD 2 0) (g.f.getD 3 0) (g.f.getD 4 0) (g.f.getD 6 0) g.n g.u=goB A g:=by
   have:=h g (by simp);unfold pG at this;unfold iU goB;rw [this,Bool.true_and]
  rw [e];cases hg:goB A g <;>simp [hg,goA]
section
variable {S:List Sw} {P:List Pr} {A:List Ac}
theorem kJ (hm:may S P A=true) {p:Pr} (hp:p∈P) (d sc k a b t o:Int):led S P A p.c p.i d sc k a b t o=if sc=p.m∧a=p.p then
   (if k=1 then lY P (dB S p.s) p.i p.c p.m p.p b else if k=3∧fN A (dB S p.s).i true a b o=true then og S P (dB S p.s) p.i d sc a b t o else [])else []:=by
 unfold led;rw [vp (bu hm).2.1 hp];simp
theorem vC (hm:may S P A=true) {p:Pr} (hp:p∈P) (d sc k a b t o:Int):∀g∈led S P A p.c p.i d sc k a b t o,pG P g=true:=by
 obtain⟨hS,hP,_⟩:=bu hm;obtain⟨hso,hsi⟩:=jo hP hp;intro g hg;rw [kJ hm hp]at hg;unfold pG;rw [List.any_eq_true];split at hg
 ·split at hg
  ·unfold lY at hg;obtain⟨m,_,rfl⟩:=List.mem_map.1 hg;exact⟨p,hp,by simp [hsi]⟩
  ·split at hg
   ·unfold og at hg;rcases List.mem_append.1 hg with h | h
    ·obtain⟨q,hq,rfl⟩:=List.mem_map.1 h;obtain⟨hq,hb⟩:=List.mem_filter.1 hq;unfold brB at hb;simp only [Bool.and_eq_true,beq_iff_eq]at hb;exact⟨q,hq,by simp [brG,hb.2.1.1]⟩
    ·obtain⟨q,hq,rfl⟩:=List.mem_map.1 h;exact⟨q,(List.mem_filter.1 hq).1,by simp [rtG]⟩
   ·cases hg
 ·cases hg
def cmG (S:List Sw) (P:List Pr) (A:List Ac) (p:Pr) (d sc k a b t o:Int):List Ar:=((led S P A p.c p.i d sc k a b t o).filter (goB A)).map goA
theorem Ag (hm:may S P A=true) {p:Pr} (hp:p∈P) (hc:p.c≠ -1) {d sc k a b t o:Int} {n:Nat} (hf:be d sc k a b t o n=0):od S P A p.i d sc k a b t o n=0∧l7 S P A p.i d sc k a b t o n=cmG S P A p d sc k a b t o:=by
 obtain⟨h1,h2⟩:=zg (zx S P A) hm hp hc hf;unfold od l7 cmG;rw [if_pos hm,if_pos hm];refine⟨h1,h2.trans ?_⟩;exact yV _ (vC hm hp d sc k a b t o)
theorem xI {p:Pr} (h:∀q∈P,q.i=p.i→q.c= -1):idx (dP p.i) P<0:=by
 unfold idx;rw [List.findIdx?_eq_none_iff.2 (fun q hq=>by
  unfold dP;by_cases e:q.i=p.i
  ·rw [h q hq e];simp
  ·have:(q.i==p.i)=false:=(by simpa using e);rw [this];rfl)]
 decide
theorem lG (hm:may S P A=true) {id:Int} (h:∀q∈P,q.i=id→q.c= -1) {d sc k a b t o:Int} {n:Nat}:od S P A id d sc k a b t o n=6∧l7 S P A id d sc k a b t o n= []:=by
 have hx:=xI (P:=P) (p:=⟨id,0,0,0,0⟩) h;have e:lj (KD S P A 6) P id d sc k a b t o n=6:=by unfold lj;rw [if_pos hx]
 unfold od l7 lR;rw [if_pos hm,if_pos hm,e];exact⟨rfl,rfl⟩
theorem A8 {α:Type} {l:List α} (hn:l.Pairwise (fun x y=>x≠y)) (h:∀x∈l,∀y∈l,x=y):l.length≤1:=by
 match l,hn,h with
 | [],_,_=>simp
 | [x],_,_=>simp
 | x::y::r,hn,h=>exact absurd (h x (by simp) y (by simp)) ((List.pairwise_cons.1 hn).1 y (by simp))
theorem rB (hm:may S P A=true) {p:Pr} (hp:p∈P) (c m ip b:Int):(lY P (dB S p.s) p.i c m ip b).length≤1:=by
 obtain⟨hS,hP,_⟩:=bu hm;obtain⟨hso,hsi⟩:=jo hP hp;have htn:=uw hS hso;rw [hsi]at htn;unfold lY;rw [List.length_map,List.length_append,List.length_map];have h1:(P.filter (fun q=>q.s==(dB S p.s).i&&(!(q.i==p.i)&&q.p==b))).length≤1:=by
  refine A8 (((lI hP).imp fun h e=>h (by rw [e])).filter _) fun x hx y hy=>?_;obtain⟨hx,bx⟩:=List.mem_filter.1 hx;obtain⟨hy,bz⟩:=List.mem_filter.1 hy;simp only [Bool.and_eq_true,beq_iff_eq]at bx bz;exact je hS hP hx hy (by rw [bx.1,bz.1]) (by rw [bx.2.2,bz.2.2])
 by_cases hb:(dB S p.s).g≠0∧b=(dB S p.s).g
 ·rw [if_pos hb];have h0:P.filter (fun q=>q.s==(dB S p.s).i&&(!(q.i==p.i)&&q.p==b))= []:=by
   rw [List.filter_eq_nil_iff];intro q hq hq2;simp only [Bool.and_eq_true,beq_iff_eq]at hq2;refine mC hS hP hso hq (by rw [hq2.1,hsi];exact htn) ?_;rw [hq2.2.2,hb.2]
  rw [h0];simp
 ·rw [if_neg hb];simpa using h1
theorem oE {P:List Pr} (h:P.Pairwise fun x y=>x.i≠y.i) (f:Pr→Bool):((P.filter f).map (·.i)).Nodup:=by
 rw [List.nodup_iff_pairwise_ne,List.pairwise_map];exact h.filter _
theorem yE (hm:may S P A=true) {p:Pr} (hp:p∈P) (d sc k a b t o:Int):((led S P A p.c p.i d sc k a b t o).map (·.u)).Nodup:=by
 obtain⟨hS,hP,_⟩:=bu hm;obtain⟨hso,hsi⟩:=jo hP hp;have hap:=lI hP;rw [kJ hm hp];split
 ·split
  ·have:=rB hm hp p.c p.m p.p b
   match lY P (dB S p.s) p.i p.c p.m p.p b,this with
   | [],_=>exact List.nodup_nil
   | [x],_=>simp
  ·split
   ·unfold og;rw [List.map_append,List.map_map,List.map_map];show((P.filter _).map (·.i)++(P.filter _).map (·.i)).Nodup;by_cases hd:d=60000+(dB S p.s).i
    ·have h0:P.filter (brB (dB S p.s) p.i d)= []:=by
      rw [List.filter_eq_nil_iff];intro q hq hb;unfold brB at hb;simp only [Bool.and_eq_true,Bool.or_eq_true,beq_iff_eq]at hb;have h1:=(dz hS hP).2 q hq;have h2:=(gn hS).2 _ hso;rcases hb.2.2 with h | h <;>omega
     rw [h0,List.map_nil,List.nil_append];exact oE hap _
    ·have h0:P.filter (rtB S (dB S p.s) d b t)= []:=by
      rw [List.filter_eq_nil_iff];intro q hq hb;unfold rtB at hb;simp only [Bool.and_eq_true,decide_eq_true_eq]at hb;exact hd hb.2.1.2.1
     rw [h0,List.map_nil,List.append_nil];exact oE hap _
   ·exact List.nodup_nil
 ·exact List.nodup_nil
theorem zH (hm:may S P A=true) {p:Pr} (hp:p∈P) (d sc k a b t o:Int):((cmG S P A p d sc k a b t o).map (·.n)).Nodup:=by
 unfold cmG;rw [List.map_map];have h:=yE hm hp d sc k a b t o;rw [List.nodup_iff_pairwise_ne,List.pairwise_map]at h⊢;exact h.filter _
end
theorem vQ {l:List Ar} (hn:(l.map (·.n)).Nodup) (h:jQ l):l.Pairwise fun a b=>a.n<b.n:=by
 rw [List.nodup_iff_pairwise_ne,List.pairwise_map]at hn;exact(hn.and h).imp fun h=>by omega
theorem pR {x y:Ac}:aL x y=false↔x.p<y.p:=by
 simp only [aL,decide_eq_false_iff_not];omega
theorem acLe_is {x y:Ac}:aL x y=true↔y.p≤x.p:=by
 simp only [aL,decide_eq_true_eq]
def AscA (L:List Ac):Prop:=Asc aL L
theorem AscA.at {L:List Ac} (h:AscA L) {i j:Nat} (hij:i<j) (hj:j<L.length):(L.getD j ac0).p≤(L.getD i ac0).p:=by
 have:=List.pairwise_iff_getElem.1 h i j (by omega) hj hij;rw [List.getD_eq_getElem?_getD,List.getD_eq_getElem?_getD,List.getElem?_eq_getElem hj,List.getElem?_eq_getElem (show i<L.length by omega)];exact acLe_is.1 this
theorem AscA.le {L:List Ac} (h:AscA L) {i j:Nat} (hij:i≤j) (hj:j<L.length):(L.getD j ac0).p≤(L.getD i ac0).p:=by
 rcases Nat.lt_or_ge i j with h' | h'
 ·exact h.at h' hj
 ·obtain rfl:i=j:=(by omega);exact Int.le_refl _
theorem AscA.right {A B:List Ac} (h:AscA (A++B)):AscA B:=(List.pairwise_append.1 h).2.1
theorem AscA.take {A:List Ac} (h:AscA A) (k:Nat):AscA (A.take k):=List.Pairwise.sublist (List.take_sublist k A) h
theorem AscA.drop {A:List Ac} (h:AscA A) (k:Nat):AscA (A.drop k):=List.Pairwise.sublist (List.drop_sublist k A) h
theorem l9 {A:List Ac} {k:Nat} {x:Ac} (h:x∈A.take k):∃i,i<k∧i<A.length∧A.getD i ac0=x:=by
 obtain⟨i,hi,e⟩:=List.getElem_of_mem h;rw [List.length_take]at hi;refine⟨i,by omega,by omega,?_⟩;rw [List.getElem_take]at e;rw [List.getD_eq_getElem?_getD,List.getElem?_eq_getElem (by omega)];exact e
theorem mx {A:List Ac} {k:Nat} {x:Ac} (h:x∈A.drop k):∃i,k≤i∧i<A.length∧A.getD i ac0=x:=by
 obtain⟨i,hi,e⟩:=List.getElem_of_mem h;rw [List.length_drop]at hi;refine⟨k+i,by omega,by omega,?_⟩;rw [List.getElem_drop]at e;rw [List.getD_eq_getElem?_getD,List.getElem?_eq_getElem (by omega)];exact e
theorem uU {x:Ac} {B:List Ac} (hB:AscA B) {k:Nat} (hk:k≤B.length) (h1:k=0∨x.p<(B.getD (k-1) ac0).p) (h2:k=B.length∨(B.getD k ac0).p≤x.p):mrg aL [x] B=B.take k++x::B.drop k:=by
 have:=Ah aL x (B.take k) (B.drop k) (fun y hy=>by
  obtain⟨i,hi,hl,rfl⟩:=l9 hy;rw [pR];have:=hB.le (show i≤k-1 by omega) (by omega);omega) (fun y hy=>by
  obtain⟨i,hi,hl,rfl⟩:=mx hy;rw [acLe_is];have:=hB.le hi hl;omega)
 rwa [List.take_append_drop]at this
theorem nw {y:Ac} {A:List Ac} (hA:AscA A) {k:Nat} (hk:k≤A.length) (h1:k=0∨y.p≤(A.getD (k-1) ac0).p) (h2:k=A.length∨(A.getD k ac0).p<y.p):mrg aL A [y]=A.take k++y::A.drop k:=by
 have:=yi aL y (A.take k) (A.drop k) (fun x hx=>by
  obtain⟨i,hi,hl,rfl⟩:=l9 hx;rw [acLe_is];have:=hA.le (show i≤k-1 by omega) (by omega);omega) (fun x hx=>by
  obtain⟨i,hi,hl,rfl⟩:=mx hx;rw [pR];have:=hA.le hi hl;omega)
 rwa [List.take_append_drop]at this
theorem xu {A B:List Ac} (hA:AscA A) (hB:AscA B) {k m:Nat} (hk:k≤A.length) (hm:m≤B.length) (h1:k=0∨m=B.length∨(B.getD m ac0).p≤(A.getD (k-1) ac0).p) (h2:k=A.length∨m=0∨(A.getD k ac0).p<(B.getD (m-1) ac0).p):
  mrg aL A B=mrg aL (A.take k) (B.take m)++mrg aL (A.drop k) (B.drop m):=by
 have:=gr aL _ (A.take k) (A.drop k) (B.take m) (B.drop m) rfl (fun x hx y hy=>by
  obtain⟨i,hi,hl,rfl⟩:=l9 hx;obtain⟨j,hj,hl',rfl⟩:=mx hy;rw [acLe_is];have a1:=hA.le (show i≤k-1 by omega) (by omega);have a2:=hB.le hj hl';omega) (fun y hy x hx=>by
  obtain⟨i,hi,hl,rfl⟩:=mx hx;obtain⟨j,hj,hl',rfl⟩:=l9 hy;rw [pR];have a1:=hA.le hi hl;have a2:=hB.le (show j≤m-1 by omega) (by omega);omega)
 rwa [List.take_append_drop,List.take_append_drop]at this
def Bo (xs:List Value) (k:Nat) (x:Ac):List Value:=
 ((((((((xs.set k (.int .i64 x.s)).set (k+1) (.int .i64 x.p)).set (k+2) (.bool x.n)).set (k+3) (.int .i64 x.src)).set (k+4) (.int .i64 x.sb)).set (k+5) (.int .i64 x.dst)).set (k+6) (.int .i64 x.db)).set (k+7) (.int .i64 x.o)).set (k+8) (.bool x.d)
theorem fh {α:Type} (A B:List α) (j:Nat) (v:α):(A++B).set (A.length+j) v=A++B.set j v:=by
 rw [List.set_append_right _ _ (by omega)];congr 2;omega
theorem yo {L:List Ac} {i:Nat} (hi:i<L.length) (x:Ac):Bo (L.flatMap acC) (i*9) x=(L.set i x).flatMap acC:=by
 have e:L=L.take i++L[i]::L.drop (i+1):=by
  rw [←List.drop_eq_getElem_cons hi,List.take_append_drop]
 have hl:((L.take i).flatMap acC).length=i*9:=by rw [cO cL,List.length_take,Nat.min_eq_left (by omega)]
 have e2:(L.set i x).flatMap acC=(L.take i).flatMap acC++(acC x++(L.drop (i+1)).flatMap acC):=by
  rw [List.set_eq_take_append_cons_drop,if_pos hi,List.flatMap_append,List.flatMap_cons]
 have e3:L.flatMap acC=(L.take i).flatMap acC++(acC L[i]++(L.drop (i+1)).flatMap acC):=by
  conv=>lhs;rw [e]
  rw [List.flatMap_append,List.flatMap_cons]
 rw [e2,e3];unfold Bo;generalize (L.take i).flatMap acC=T at*;rw [←hl];rw [show T.length=T.length+0 from rfl,fh,show T.length+0+1=T.length+1 from rfl,fh,show T.length+0+2=T.length+2 from rfl,fh,show T.length+0+3=T.length+3 from rfl,fh,show T.length+0+4=T.length+4 from rfl,fh,show T.length+0+5=T.length+5 from rfl,fh,show T.length+0+6=T.length+6 from rfl,fh,show T.length+0+7=T.length+7 from rfl,fh,show T.length+0+8=T.length+8 from rfl,fh];rfl
def zy (w:World) (g k:Nat) (x:Ac):World:=
 ((((((((w.setCell ⟨g,k,none⟩ (.int .i64 x.s)).setCell ⟨g,k+1,none⟩ (.int .i64 x.p)).setCell ⟨g,k+2,none⟩ (.bool x.n)).setCell ⟨g,k+3,none⟩ (.int .i64 x.src)).setCell ⟨g,k+4,none⟩ (.int .i64 x.sb)).setCell ⟨g,k+5,none⟩ (.int .i64 x.dst)).setCell ⟨g,k+6,none⟩ (.int .i64 x.db)).setCell ⟨g,k+7,none⟩ (.int .i64 x.o)).setCell ⟨g,k+8,none⟩ (.bool x.d)
theorem aC {a b c:World} {r:Option Nat} (h1:a.grownBy b r) (h2:b.grownBy c r):a.grownBy c r:=
 ⟨h2.os.trans h1.os,h2.tape.trans h1.tape,h2.output.trans h1.output,Nat.le_trans h1.size h2.size,fun k hk hne=>(h2.block k (Nat.lt_of_lt_of_le hk h1.size) hne).trans (h1.block k hk hne)⟩
theorem yy {w:World} {B g n c i:Nat} {L:List Ac} (h:w.ownsRow B 55 9 (.slice (some ⟨g,0,none⟩) n c) n (L.flatMap acC)) (hi:i<L.length) (x:Ac):
  (zy w g (i*9) x).ownsRow B 55 9 (.slice (some ⟨g,0,none⟩) n c) n ((L.set i x).flatMap acC)∧w.grownBy (zy w g (i*9) x) (some g):=by
 rw [←yo hi x];obtain⟨h0,q0⟩:=h.stored (i*9) (.int .i64 x.s);obtain⟨h1,q1⟩:=h0.stored (i*9+1) (.int .i64 x.p);obtain⟨h2,q2⟩:=h1.stored (i*9+2) (.bool x.n);obtain⟨h3,q3⟩:=h2.stored (i*9+3) (.int .i64 x.src);obtain⟨h4,q4⟩:=h3.stored (i*9+4) (.int .i64 x.sb);obtain⟨h5,q5⟩:=h4.stored (i*9+5) (.int .i64 x.dst);obtain⟨h6,q6⟩:=h5.stored (i*9+6) (.int .i64 x.db);obtain⟨h7,q7⟩:=h6.stored (i*9+7) (.int .i64 x.o);obtain⟨h8,q8⟩:=h7.stored (i*9+8) (.bool x.d);exact⟨h8,aC (aC (aC (aC (aC (aC (aC (aC q0 q1) q2) q3) q4) q5) q6) q7) q8⟩
theorem aO:(Tryz.prog.info? 55).map (·.size)=some 9:=by kernel_rfl
def AcR (w:World) (B g c N:Nat) (L:List Ac):Prop:=L.length=N∧w.ownsRow B 55 9 (.slice (some ⟨g,0,none⟩) N c) N (L.flatMap acC)
theorem AcR.below {w w':World} {B g c N:Nat} {L:List Ac} (h:AcR w B g c N L) (hb:Below w.heap.size w w'):AcR w' B g c N L:=⟨h.1,aA h.2 hb⟩
theorem AcR.lt {w:World} {B g c N:Nat} {L:List Ac} (h:AcR w B g c N L):g<w.heap.size:=bW h.2 rfl
theorem vA {L:List Ac} {i:Nat} (hi:i<L.length) {j:Nat} {v:Value} (hj:(acC (L.getD i ac0))[j]? =some v):(L.flatMap acC)[i*9+j]? =some v:=by
 have e:L=L.take i++L[i]::L.drop (i+1):=by
  rw [←List.drop_eq_getElem_cons hi,List.take_append_drop]
 have hl:((L.take i).flatMap acC).length=i*9:=by rw [cO cL,List.length_take,Nat.min_eq_left (by omega)]
 have e3:L.flatMap acC=(L.take i).flatMap acC++(acC L[i]++(L.drop (i+1)).flatMap acC):=by
  conv=>lhs;rw [e]
  rw [List.flatMap_append,List.flatMap_cons]
 rw [List.getD_eq_getElem?_getD,List.getElem?_eq_getElem hi]at hj;have hj9:j<(acC L[i]).length:=by
  rcases Nat.lt_or_ge j (acC L[i]).length with h | h
  ·exact h
  ·rw [List.getElem?_eq_none (by simpa using h)]at hj;cases hj
 rw [e3,List.getElem?_append_right (by omega),List.getElem?_append_left (by omega),hl,Nat.add_sub_cancel_left];exact hj
theorem AcR.range {w:World} {B g c N:Nat} {L:List Ac} (h:AcR w B g c N L) {i:Nat} (hi:i<N):w.rangeAt g (i*9) (acC (L.getD i ac0)):=fun j v hj=>by
 have h1:=h.2.cells rfl (i*9+j) v (vA (by rw [h.1];exact hi) hj);rw [Addr.add_mid]at h1;simpa using h1
theorem AcR.there {w:World} {B g c N:Nat} {L:List Ac} (h:AcR w B g c N L) {i:Nat} (hi:i<N):w.there g (i*9) 9:=fun j hj=>by
 refine⟨(h.range hi).isSome j (by rw [cL];exact hj),?_⟩;exact h.2.frozenAt _
theorem tu (w:World) (g k:Nat) (x:Ac):w.setCells g k (acC x)=zy w g k x:=by
 simp only [zy,acC,World.setCells,Nat.add_assoc,Nat.reduceAdd]
theorem AcR.put {w:World} {B g c N:Nat} {L:List Ac} (h:AcR w B g c N L) {i:Nat} (hi:i<N) (x:Ac):AcR (w.setCells g (i*9) (acC x)) B g c N (L.set i x)∧w.grownBy (w.setCells g (i*9) (acC x)) (some g):=by
 have:=yy h.2 (by rw [h.1];exact hi) x;rw [tu];exact⟨⟨by rw [List.length_set];exact h.1,this.1⟩,this.2⟩
theorem grown_refl' (w:World) (r:Option Nat):w.grownBy w r:=⟨rfl,rfl,rfl,Nat.le_refl _,fun _ _ _=>rfl⟩
theorem cN {w w1 w2:World} {r:Nat} (h:w.grownBy w1 (some r)) (hb:Below w1.heap.size w1 w2):w.grownBy w2 (some r):=dx h hb
def bD (X A:List Ac) (y:Ac) (R:List Ac) (m:Nat):List Ac:=X++(A.take m++y::A.drop m)++R
theorem dH {A B:List Ac} {i:Nat} (h:i<A.length):(A++B).getD i ac0=A.getD i ac0:=by
 rw [List.getD_eq_getElem?_getD,List.getD_eq_getElem?_getD,List.getElem?_append_left h]
theorem bp {A B:List Ac} (i:Nat):(A++B).getD (A.length+i) ac0=B.getD i ac0:=by
 rw [List.getD_eq_getElem?_getD,List.getD_eq_getElem?_getD,List.getElem?_append_right (by omega),Nat.add_sub_cancel_left]
theorem kg {X A:List Ac} {y:Ac} {R:List Ac} {m:Nat} (hm:m≤A.length):(bD X A y R m).getD (X.length+m) ac0=y:=by
 unfold bD;rw [List.append_assoc,bp,List.append_assoc];have h:(A.take m).length+0=m:=by simp;omega
 have:=bp (A:=A.take m) (B:=y::A.drop m++R) 0;rw [h]at this;rw [this];rfl
theorem jX {X A:List Ac} {y:Ac} {R:List Ac} {m:Nat} (hm:m<A.length):(bD X A y R (m+1)).getD (X.length+m) ac0=A.getD m ac0:=by
 unfold bD;rw [List.append_assoc,bp,List.append_assoc,dH (by simp;omega)];rw [List.getD_eq_getElem?_getD,List.getD_eq_getElem?_getD,List.getElem?_take_of_lt (by omega)]
theorem oU {X A:List Ac} {y:Ac} {R:List Ac} {m:Nat} (hm:m<A.length):((bD X A y R (m+1)).set (X.length+m+1) (A.getD m ac0)).set (X.length+m) y=bD X A y R m:=by
 have e1:bD X A y R (m+1)=(X++A.take m)++A.getD m ac0:: []++y::(A.drop (m+1)++R):=by
  unfold bD;have:A.take (m+1)=A.take m++ [A.getD m ac0]:=by
   rw [List.take_add_one,List.getD_eq_getElem?_getD,List.getElem?_eq_getElem hm];rfl
  rw [this];simp
 have e2:bD X A y R m=(X++A.take m)++y:: []++A.getD m ac0::(A.drop (m+1)++R):=by
  unfold bD;have:A.drop m=A.getD m ac0::A.drop (m+1):=by
   rw [List.drop_eq_getElem_cons hm,List.getD_eq_getElem?_getD,List.getElem?_eq_getElem hm];rfl
  rw [this];simp
 have hl:(X++A.take m).length=X.length+m:=by simp;omega
 rw [e1,e2];have:=m9 (X++A.take m) [] (A.drop (m+1)++R) (A.getD m ac0) y;rw [hl]at this;rw [List.set_comm _ _ (by omega)];simpa using this
theorem nm {X A:List Ac} {y:Ac} {R:List Ac} {m:Nat} (hm:m<A.length):((bD X A y R m).set (X.length+m) (A.getD m ac0)).set (X.length+m+1) y=bD X A y R (m+1):=by
 have e1:bD X A y R (m+1)=(X++A.take m)++A.getD m ac0:: []++y::(A.drop (m+1)++R):=by
  unfold bD;have:A.take (m+1)=A.take m++ [A.getD m ac0]:=by
   rw [List.take_add_one,List.getD_eq_getElem?_getD,List.getElem?_eq_getElem hm];rfl
  rw [this];simp
 have e2:bD X A y R m=(X++A.take m)++y:: []++A.getD m ac0::(A.drop (m+1)++R):=by
  unfold bD;have:A.drop m=A.getD m ac0::A.drop (m+1):=by
   rw [List.drop_eq_getElem_cons hm,List.getD_eq_getElem?_getD,List.getElem?_eq_getElem hm];rfl
  rw [this];simp
 have hl:(X++A.take m).length=X.length+m:=by simp;omega
 rw [e1,e2];have:=m9 (X++A.take m) [] (A.drop (m+1)++R) y (A.getD m ac0);rw [hl]at this;simpa using this
theorem vY {X A:List Ac} {y:Ac} {R:List Ac} {m:Nat} (hm:m<A.length):(bD X A y R m).getD (X.length+m+1) ac0=A.getD m ac0:=by
 have:=jX (X:=X) (y:=y) (R:=R) hm;rw [←nm hm]at this;have e:(bD X A y R m).getD (X.length+m+1) ac0=A.getD m ac0:=by
  unfold bD;rw [List.append_assoc,show X.length+m+1=X.length+(m+1) by omega,bp,List.append_assoc];have hl:(A.take m).length+1=m+1:=by simp;omega
  have h2:=bp (A:=A.take m) (B:=y::A.drop m++R) 1;rw [hl]at h2;rw [h2];have:A.drop m=A.getD m ac0::A.drop (m+1):=by
   rw [List.drop_eq_getElem_cons hm,List.getD_eq_getElem?_getD,List.getElem?_eq_getElem hm];rfl
  rw [this];rfl
 exact e
theorem jf (x y:Ac) (w:World):Calls Tryz.prog 182 #[.agg (acC x).toArray,.agg (acC y).toArray] w fun e w'=>e= .returned (.int .i64 (aS y.p x.p))∧Below w.heap.size w w':=qv x y w
theorem kF (x y:Int):(aS x y<0)=(x<y):=by
 unfold aS;by_cases h:x<y
 ·rw [if_pos h];simp [h]
 ·rw [if_neg h];split <;>simp [h]
theorem kx {P:Program} {c:Code} {Q:Exit→Act→World→Prop} {a:Act} {w:World} (A1:Act) (F:World→Prop) (h:c.wp P (fun e a' w'=>e= .normal∧a'=A1∧F w') a w) (hq:∀w',F w'→Q .normal A1 w'):c.wp P Q a w:=
 Code.wp_mono (fun e a' w' ⟨he,ha,hf⟩=>by subst he;subst ha;exact hq w' hf) h
theorem sY {X Y Z A:List Ac} {y:Ac} {k m:Nat} (hk:k<Y.length) (hA:A=aT aL (Y.take k)) (hy:y=Y.getD k ac0) (hm:m≤A.length) (h1:m=0∨y.p≤(A.getD (m-1) ac0).p) (h2:m=A.length∨(A.getD m ac0).p<y.p):
  bD X A y (Y.drop (k+1)++Z) m=X++aT aL (Y.take (k+1))++Y.drop (k+1)++Z:=by
 have e:Y.take (k+1)=Y.take k++ [y]:=by
  rw [List.take_add_one,hy,List.getD_eq_getElem?_getD,List.getElem?_eq_getElem hk];rfl
 rw [e,fG, ←hA,nw (by rw [hA];exact dT fZ fX _) hm h1 h2];unfold bD;simp
theorem tP {X Y Z:List Ac} {k:Nat} (hk:k<Y.length):X++aT aL (Y.take k)++Y.drop k++Z=bD X (aT aL (Y.take k)) (Y.getD k ac0) (Y.drop (k+1)++Z) k:=by
 have hl:(aT aL (Y.take k)).length=k:=by rw [aU];simp;omega
 have e:Y.drop k=Y.getD k ac0::Y.drop (k+1):=by
  rw [List.drop_eq_getElem_cons hk,List.getD_eq_getElem?_getD,List.getElem?_eq_getElem hk];rfl
 unfold bD;generalize aT aL (Y.take k)=A at hl⊢;rw [List.take_of_length_le (Nat.le_of_eq hl),List.drop_of_length_le (Nat.le_of_eq hl),e];simp
theorem le2 {a b:Nat} (h:a=b):a≤b∧b≤a:=⟨Nat.le_of_eq h,Nat.le_of_eq h.symm⟩
theorem tU (X Y Z:List Ac) (B g c N a b:Nat) (w:World) (hA:AcR w B g c N (X++Y++Z)) (ha:a=X.length) (hb:b=X.length+Y.length) (hN:N≤1000):
  Calls Tryz.prog 223 #[.slice (some ⟨g,0,none⟩) N c,.int .i64 (a:Int),.int .i64 (b:Int),.func (.func 182) #[] #[]] w fun e w'=>e= .returned (.tuple #[])∧AcR w' B g c N (X++aT aL Y++Z)∧w.grownBy w' (some g):=by
 obtain⟨T,hT⟩:∃T,T=X++aT aL Y++Z:=⟨_,rfl⟩;rw [←hT];have HT:=aa hT;clear hT;have HCM:=aa jf;have HA0:=aa hA;have hlen:X.length+Y.length+Z.length=N:=by have:=hA.1;simpa [Nat.add_assoc] using this
 clear hA;obtain⟨ha2,ha3⟩:=le2 ha;obtain⟨hb2,hb3⟩:=le2 hb;obtain⟨hl2,hl3⟩:=le2 hlen;clear ha hb hlen;obtain⟨a1,ha1⟩:∃a1,a1=a+1:=⟨_,rfl⟩;obtain⟨ha4,ha5⟩:=le2 ha1;clear ha1;have hw1:IntKind.i64.wrap ((a:Int)+1)=(a1:Int):=(bk _ (by omega) (by omega)).trans (by omega);go_enter Tryz.func223,Tryz.ntmps223;go_wp2_with fail
 go_loopw [8] (fun i wr=>∃k i0:Nat,1≤k∧(k≤Y.length∨k=1)∧i0=a+k∧i= .int .i64 (i0:Int)∧Hid (AcR wr B g c N (X++aT aL (Y.take k)++Y.drop k++Z))∧Hid (w.grownBy wr (some g))) (fun i _=>b-(intOf i).toNat)
 case atStart=>exact⟨1,a1,by omega,.inr rfl,by omega,rfl,by have e:aT aL (Y.take 1)=Y.take 1:=(by cases Y <;>simp [aT,mrg]);rw [e,List.append_assoc X,List.take_append_drop];exact HA0,aa (grown_refl' _ _)⟩
 case round=>
  clear HA0;obtain⟨k,i0,hk1,hk2,hi0,rfl,HAk,HG⟩:=hrel
  rename World=>W1
  obtain⟨hi2,hi3⟩:=le2 hi0;clear hi0;by_cases hlt:i0<b
  ·have hkY:k<Y.length:=(by omega);have qlt:(i0:Int)<(b:Int):=(by omega);obtain⟨A,hAe⟩:∃A,A=aT aL (Y.take k):=⟨_,rfl⟩;obtain⟨y,hye⟩:∃y,y=Y.getD k ac0:=⟨_,rfl⟩;obtain⟨R,hRe⟩:∃R,R=Y.drop (k+1)++Z:=⟨_,rfl⟩;have hAl:A.length=k:=by rw [hAe,aU];simp;omega
   have HNX:Hid (∀m,m≤A.length→(m=0∨y.p≤(A.getD (m-1) ac0).p)→(m=A.length∨(A.getD m ac0).p<y.p)→bD X A y R m=X++aT aL (Y.take (k+1))++Y.drop (k+1)++Z):=aa (fun m h0 h1 h2=>by rw [hRe];exact sY hkY hAe hye h0 h1 h2);have HA0:Hid (AcR W1 B g c N (bD X A y R k)):=by have:=HAk.out;rw [tP hkY, ←hAe, ←hye, ←hRe]at this;exact aa this
   have hAl2:=aa hAl;obtain⟨hA2,hA3⟩:=le2 hAl;clear HAk hAe hye hRe hAl;have hai:a≤i0:=(by omega);obtain⟨i1,hi1⟩:∃i1,i1=i0+1:=⟨_,rfl⟩;obtain⟨hi4,hi5⟩:=le2 hi1;clear hi1;have hw2:IntKind.i64.wrap ((i0:Int)+1)=(i1:Int):=(bk _ (by omega) (by omega)).trans (by omega);go_wp2_with fail
   go_loopw [9] (fun j wr=>∃m j0:Nat,m≤k∧j0=a+m∧j= .int .i64 (j0:Int)∧Hid (m=A.length∨(A.getD m ac0).p<y.p)∧Hid (AcR wr B g c N (bD X A y R m))∧Hid (w.grownBy wr (some g))) (fun j _=>(intOf j).toNat)
   case atStart=>exact⟨k,i0,Nat.le_refl _,by omega,rfl,aa (.inl hAl2.out.symm),HA0,HG⟩
   case round=>
    clear HA0 HG;obtain⟨m,j0,hmk,hj0,rfl,HM2,HA,HG⟩:=hrel;obtain⟨hj2,hj3⟩:=le2 hj0;clear hj0;by_cases hm0:m=0
    ·subst hm0;have hm0:True:=trivial;have hng:¬(a<j0):=(by omega);have hng2:¬((a:Int)<(j0:Int)):=(by omega);go_wp2_with fail
     have hDr:Below wr.heap.size wr wr.drew:=(Below.refl _ _).drew;replace HA:=aa (HA.out.below hDr);replace HG:=aa (cN HG.out hDr);clear hDr;refine wp_region_held_drew (S:=fun _=>True) (by kernel_rfl) trivial (fun hHeld=>?_);generalize wr.drew=V at*;refine sqA [(0,18),(1,19),(2,20),(3,21)] ?_;(iterate 4 (refine sqN rfl (by kernel_rfl) (fun _ _ _ h=>h) rfl ‹_› (by intro w h;go_simp <;>with_reducible rfl) ?_;simp only [nz]));refine sqZ ?_;refine wpAnyH_take (i:=4) (oi:=⟨some 22,_,_,_,_,_⟩) (v:=undef) rfl (by kernel_rfl) (by kernel_rfl) (by kernel_rfl) (fun _ _ _ h=>h) (Or.inr ⟨by rfl,rfl⟩) (by assumption) ?_;(try simp only [nz]);refine wpAnyH_take (i:=5) (oi:=⟨some 23,_,_,_,_,_⟩) (v:=undef) rfl (by kernel_rfl) (by kernel_rfl) (by kernel_rfl) (fun _ _ _ h=>h) (Or.inr ⟨by rfl,rfl⟩) (by assumption) ?_;(try simp only [nz]);refine wpAnyH_take (i:=6) (oi:=⟨some 24,_,_,_,_,_⟩) (v:=undef) rfl (by kernel_rfl) (by kernel_rfl) (by kernel_rfl) (fun _ _ _ h=>h) (Or.inr ⟨by rfl,rfl⟩) (by assumption) ?_;(try simp only [nz]);refine wpAnyH_take (i:=7) (oi:=⟨some 25,_,_,_,_,_⟩) (v:=undef) rfl (by kernel_rfl) (by kernel_rfl) (by kernel_rfl) (fun _ _ _ h=>h) (Or.inr ⟨by rfl,rfl⟩) (by assumption) ?_;(try simp only [nz]);refine wpAnyH_take (i:=8) (oi:=⟨some 26,_,_,_,_,_⟩) (v:=undef) rfl (by kernel_rfl) (by kernel_rfl) (by kernel_rfl) (fun _ _ _ h=>h) (Or.inr ⟨by rfl,rfl⟩) (by assumption) ?_;(try simp only [nz]);refine wpAnyH_take (i:=9) (oi:=⟨some 27,_,_,_,_,_⟩) (v:=undef) rfl (by kernel_rfl) (by kernel_rfl) (by kernel_rfl) (fun _ _ _ h=>h) (Or.inr ⟨by rfl,rfl⟩) (by assumption) ?_;(try simp only [nz]);refine wpAnyH_take (i:=10) (oi:=⟨some 28,_,_,_,_,_⟩) (v:=undef) rfl (by kernel_rfl) (by kernel_rfl) (by kernel_rfl) (fun _ _ _ h=>h) (Or.inr ⟨by rfl,rfl⟩) (by assumption) ?_;(try simp only [nz]);refine wpAnyH_take (i:=11) (oi:=⟨some 29,_,_,_,_,_⟩) (v:=undef) rfl (by kernel_rfl) (by kernel_rfl) (by kernel_rfl) (fun _ _ _ h=>h) (Or.inr ⟨by rfl,rfl⟩) (by assumption) ?_;(try simp only [nz]);refine wpAnyH_take (i:=12) (oi:=⟨some 30,_,_,_,_,_⟩) (v:=undef) rfl (by kernel_rfl) (by kernel_rfl) (by kernel_rfl) (fun _ _ _ h=>h) (Or.inr ⟨by rfl,rfl⟩) (by assumption) ?_;(try simp only [nz]);refine wpAnyH_take (i:=13) (oi:=⟨some 31,_,_,_,_,_⟩) (v:=undef) rfl (by kernel_rfl) (by kernel_rfl) (by kernel_rfl) (fun _ _ _ h=>h) (Or.inr ⟨by rfl,rfl⟩) (by assumption) ?_;(try simp only [nz]);refine rs 14 32 (by kernel_rfl) rfl (fun K hK=>?_);rw [if_neg (by rw [Bool.not_eq_true];rfl)];refine hK.out _ _ trivial (fun hHeld=>?_);clear hK K;(try simp only [nz]);refine wpAnyH_take (i:=15) (oi:=⟨some 33,_,_,_,_,_⟩) (v:=undef) rfl (by kernel_rfl) (by kernel_rfl) (by kernel_rfl) (fun _ _ _ h=>h) (Or.inr ⟨by rfl,rfl⟩) (by assumption) ?_;(try simp only [nz])
     refine tq 16 34 rfl (by kernel_rfl) (fun _ _ _ h=>h) rfl ‹_› (by intro w h;go_simp <;>with_reducible rfl) ?_;simp only [nz];refine wpAnyH_done (by kernel_rfl) ?_ _;clear hHeld
     skip
     have HE:Hid (AcR V B g c N (X++aT aL (Y.take (k+1))++Y.drop (k+1)++Z)):=by rw [←HNX.out 0 (by rw [hAl2.out];exact hmk) (.inl rfl) HM2.out];exact HA
     clear HA HM2 HNX;go_wp2_with fail
     go_roundw
     case rel=>exact⟨k+1,i1,by omega,.inl (by omega),by omega,rfl,HE,HG⟩
     case measure=>simp [intOf];omega
    ·obtain⟨l,rfl⟩:∃l,m=l+1:=⟨m-1,by omega⟩;obtain⟨jl,hjl⟩:∃jl,jl=a+l:=⟨_,rfl⟩;obtain⟨hj4,hj5⟩:=le2 hjl;clear hjl;have hgt:(a:Int)<(j0:Int):=(by omega);have hw3:IntKind.i64.wrap ((j0:Int)-1)=(jl:Int):=(bk _ (by omega) (by omega)).trans (by omega);have t0:(0:Int)≤(j0:Int):=(by omega);have t1:(j0:Int)<(N:Int):=(by omega);have t2:(0:Int)≤(jl:Int):=(by omega);have t3:(jl:Int)<(N:Int):=(by omega);have hlA:l<A.length:=by rw [hAl2.out];omega
     obtain⟨x,hx⟩:∃x,x=A.getD l ac0:=⟨_,rfl⟩;have HR1:Hid (∀W,AcR W B g c N (bD X A y R (l+1))→W.rangeAt g (j0*9) (acC y)):=aa (fun W h=>by have:=h.range (i:=j0) (by omega);rwa [show j0=X.length+(l+1) by omega,kg (by omega), ←show j0=X.length+(l+1) by omega]at this);have HR2:Hid (∀W,AcR W B g c N (bD X A y R (l+1))→W.rangeAt g (jl*9) (acC x)):=aa (fun W h=>by have:=h.range (i:=jl) (by omega);rwa [show jl=X.length+l by omega,jX hlA, ←hx, ←show jl=X.length+l by omega]at this);have HSW:Hid (((bD X A y R (l+1)).set j0 x).set jl y=bD X A y R l):=aa (by rw [hx,show j0=X.length+l+1 by omega,show jl=X.length+l by omega];exact oU hlA);have HLT:=aa (kF x.p y.p);have hx2:=aa hx;clear hx;go_wp2_with fail
     have HD:Hid (AcR wr.drew B g c N _):=aa (HA.out.below ((Below.refl _ _).drew));refine wp_region_held_drew (S:=fun w'=>w'.rangeAt g (j0*9) (acC y)∧w'.rangeAt g (jl*9) (acC x)) (by kernel_rfl) ⟨HR1.out _ HD.out,HR2.out _ HD.out⟩ (fun hHeld=>?_);refine sqA [(0,18),(1,19),(2,20),(3,21),(4,22),(5,23),(6,24),(7,25)] ?_;(iterate 8 (refine sqN rfl (by kernel_rfl) (fun _ _ _ h=>h) rfl ‹_› (by intro w h;go_simp <;>with_reducible rfl) ?_;simp only [nz]));refine sqZ ?_;refine wpAnyH_take (i:=8) (oi:=⟨some 26,_,_,_,_,_⟩) (v:=.agg (acC y).toArray) rfl (by kernel_rfl) (by kernel_rfl) (by kernel_rfl) (fun _ _ _ h=>h) (yieldsIf_load_mid (by rfl) 55 (.tmp 25) rfl g (j0*9) rfl (acC y) _ (fun w h=>h.1) Tryz.underlying55 rfl aO) (by assumption) ?_;(try simp only [nz]);refine sqA [(9,27),(10,28),(11,29),(12,30)] ?_;(iterate 4 (refine sqN rfl (by kernel_rfl) (fun _ _ _ h=>h) rfl ‹_› (by intro w h;go_simp <;>with_reducible rfl) ?_;simp only [nz]));refine sqZ ?_;refine wpAnyH_take (i:=13) (oi:=⟨some 31,_,_,_,_,_⟩) (v:=.agg (acC x).toArray) rfl (by kernel_rfl) (by kernel_rfl) (by kernel_rfl) (fun _ _ _ h=>h) (yieldsIf_load_mid (by rfl) 55 (.tmp 30) rfl g (jl*9) rfl (acC x) _ (fun w h=>h.2) Tryz.underlying55 rfl aO) (by assumption) ?_;(try simp only [nz]);refine rs 14 32 (by kernel_rfl) rfl (fun K hK=>?_);go_simp;clear hHeld;refine(ag HCM y x _).mono ?_;rintro e V ⟨rfl,hb⟩;replace HA:=aa (HD.out.below hb);replace HG:=aa (cN HG.out (((Below.refl _ _).drew).trans hb));clear HD hb;refine hK.out _ _ ⟨HR1.out _ HA.out,HR2.out _ HA.out⟩ (fun hHeld=>?_);clear hK K;(try simp only [nz]);refine sqA [(15,33),(16,34)] ?_;(iterate 2 (refine sqN rfl (by kernel_rfl) (fun _ _ _ h=>h) rfl ‹_› (by intro w h;go_simp <;>with_reducible rfl) ?_;simp only [nz]));refine sqZ ?_;refine wpAnyH_done (by kernel_rfl) ?_ _;clear hHeld;by_cases hle:x.p<y.p
     ·have hlt2:aS x.p y.p<0:=by rw [HLT.out];exact hle
      go_wp2_with fail
      apply kx _ (fun w'=>AcR w' B g c N (((bD X A y R (l+1)).set j0 x).set jl y)∧w.grownBy w' (some g))
      ·have hDr:Below V.heap.size V V.drew:=(Below.refl _ _).drew;replace HA:=aa (HA.out.below hDr);replace HG:=aa (cN HG.out hDr);clear hDr;refine wp_region_held_drew (S:=fun _=>True) (by kernel_rfl) trivial (fun hHeld=>?_);generalize V.drew=V2 at*;refine sqA [(0,37),(1,38),(2,39),(3,40),(4,41),(5,42),(6,43),(7,44),(8,45),(10,47),(11,48),(12,49)] ?_;(iterate 12 (refine sqN rfl (by kernel_rfl) (fun _ _ _ h=>absurd h.1 (by simp)) rfl ‹_› (by intro w h;go_simp <;>with_reducible rfl) ?_;simp only [nz]));refine sqZ ?_;refine wpAnyH_ready (rs:=[9,13]) (by kernel_rfl) (by simp) ?_;refine(AllReadyH.cons (o:=⟨some 46,_,_,_,_,_⟩) rfl (fun K hK=>?_) (AllReadyH.cons (o:=⟨some 50,_,_,_,_,_⟩) rfl (fun K hK=>?_) AllReadyH.nil))
       ·rw [if_pos (by rfl)];clear hHeld;refine wp_load_mid 55 (.tmp 45) rfl g (jl*9) rfl (acC x) _ (HR2.out _ HA.out) Tryz.underlying55 rfl aO ?_;refine hK.out _ _ trivial (fun hHeld=>?_);clear hK K;(try simp only [nz]);refine rs 13 50 (by kernel_rfl) rfl (fun K hK=>?_);rw [if_pos (by rfl)];clear hHeld;refine wp_load_mid 55 (.tmp 49) rfl g (j0*9) rfl (acC y) _ (HR1.out _ HA.out) Tryz.underlying55 rfl aO ?_;refine hK.out _ _ trivial (fun hHeld=>?_);clear hK K;(try simp only [nz]);refine tq 14 51 rfl (by kernel_rfl) (fun _ _ _ h=>absurd h.1 (by simp)) rfl ‹_› (by intro w h;go_simp <;>with_reducible rfl) ?_;simp only [nz];refine rn 15 (by kernel_rfl) rfl (fun K hK=>?_);rw [if_pos (by rfl)];clear hHeld;refine wp_store_mid 55 (.tmp 51) (.tmp 46) rfl g (j0*9) (acC x).toArray rfl rfl (AcR.there HA.out (i:=j0) (by omega)) aO (dO rfl) ?_;rw [show(acC x).toArray.toList=acC x from rfl];have HP0:=aa (AcR.put HA.out (i:=j0) (by omega) x).1;have hq0:=(AcR.put HA.out (i:=j0) (by omega) x).2;generalize World.setCells _ g (j0*9) (acC x)=V20 at*;refine hK.out _ _ trivial (fun hHeld=>?_);clear hK K;(try simp only [Act.put]);refine tq 16 52 rfl (by kernel_rfl) (fun _ _ _ h=>absurd h.1 (by simp)) rfl ‹_› (by intro w h;go_simp <;>with_reducible rfl) ?_;simp only [nz];refine rn 17 (by kernel_rfl) rfl (fun K hK=>?_);rw [if_pos (by rfl)];clear hHeld;refine wp_store_mid 55 (.tmp 52) (.tmp 50) rfl g (jl*9) (acC y).toArray rfl rfl (AcR.there HP0.out (i:=jl) (by omega)) aO (dO rfl) ?_;rw [show(acC y).toArray.toList=acC y from rfl];have HP1:=aa (AcR.put HP0.out (i:=jl) (by omega) y).1;have hq1:=(AcR.put HP0.out (i:=jl) (by omega) y).2;generalize World.setCells _ g (jl*9) (acC y)=V21 at*;refine hK.out _ _ trivial (fun hHeld=>?_);clear hK K;(try simp only [Act.put]);refine wpAnyH_done (by kernel_rfl) ?_ _;clear hHeld;exact⟨rfl,rfl,HP1.out,aC HG.out (aC hq0 hq1)⟩
       ·rw [if_pos (by rfl)];clear hHeld;refine wp_load_mid 55 (.tmp 49) rfl g (j0*9) rfl (acC y) _ (HR1.out _ HA.out) Tryz.underlying55 rfl aO ?_;refine hK.out _ _ trivial (fun hHeld=>?_);clear hK K;(try simp only [nz]);refine rs 9 46 (by kernel_rfl) rfl (fun K hK=>?_);rw [if_pos (by rfl)];clear hHeld;refine wp_load_mid 55 (.tmp 45) rfl g (jl*9) rfl (acC x) _ (HR2.out _ HA.out) Tryz.underlying55 rfl aO ?_;refine hK.out _ _ trivial (fun hHeld=>?_);clear hK K;(try simp only [nz]);refine tq 14 51 rfl (by kernel_rfl) (fun _ _ _ h=>absurd h.1 (by simp)) rfl ‹_› (by intro w h;go_simp <;>with_reducible rfl) ?_;simp only [nz];refine rn 15 (by kernel_rfl) rfl (fun K hK=>?_);rw [if_pos (by rfl)];clear hHeld;refine wp_store_mid 55 (.tmp 51) (.tmp 46) rfl g (j0*9) (acC x).toArray rfl rfl (AcR.there HA.out (i:=j0) (by omega)) aO (dO rfl) ?_;rw [show(acC x).toArray.toList=acC x from rfl];have HP0:=aa (AcR.put HA.out (i:=j0) (by omega) x).1;have hq0:=(AcR.put HA.out (i:=j0) (by omega) x).2;generalize World.setCells _ g (j0*9) (acC x)=V20 at*;refine hK.out _ _ trivial (fun hHeld=>?_);clear hK K;(try simp only [Act.put]);refine tq 16 52 rfl (by kernel_rfl) (fun _ _ _ h=>absurd h.1 (by simp)) rfl ‹_› (by intro w h;go_simp <;>with_reducible rfl) ?_;simp only [nz];refine rn 17 (by kernel_rfl) rfl (fun K hK=>?_);rw [if_pos (by rfl)];clear hHeld;refine wp_store_mid 55 (.tmp 52) (.tmp 50) rfl g (jl*9) (acC y).toArray rfl rfl (AcR.there HP0.out (i:=jl) (by omega)) aO (dO rfl) ?_;rw [show(acC y).toArray.toList=acC y from rfl];have HP1:=aa (AcR.put HP0.out (i:=jl) (by omega) y).1;have hq1:=(AcR.put HP0.out (i:=jl) (by omega) y).2;generalize World.setCells _ g (jl*9) (acC y)=V21 at*;refine hK.out _ _ trivial (fun hHeld=>?_);clear hK K;(try simp only [Act.put]);refine wpAnyH_done (by kernel_rfl) ?_ _;clear hHeld;exact⟨rfl,rfl,HP1.out,aC HG.out (aC hq0 hq1)⟩
      intro W3 hW3;obtain⟨hA3,hG3⟩:=hW3;rw [HSW.out]at hA3;have HA3:=aa hA3;have HG3:=aa hG3;have HM3:Hid (l=A.length∨(A.getD l ac0).p<y.p):=aa (.inr (by rw [←hx2.out];exact hle));clear hA3 hG3 HA HG HR1 HR2 HSW HM2;go_wp2_with fail
      go_roundw
      case rel=>exact⟨l,jl,by omega,by omega,rfl,HM3,HA3,HG3⟩
      case measure=>simp [intOf];omega
     ·have hlt2:¬aS x.p y.p<0:=by rw [HLT.out];exact hle
      have HE:Hid (AcR V B g c N (X++aT aL (Y.take (k+1))++Y.drop (k+1)++Z)):=by rw [←HNX.out (l+1) (by rw [hAl2.out];exact hmk) (.inr (by rw [show l+1-1=l by omega, ←hx2.out];omega)) HM2.out];exact HA
      clear HA HM2 HNX;go_wp2_with fail
      go_roundw
      case rel=>exact⟨k+1,i1,by omega,.inl (by omega),by omega,rfl,HE,HG⟩
      case measure=>simp [intOf];omega
  ·have hke:Y.length≤k:=(by omega);have nlt:¬((i0:Int)<(b:Int)):=(by omega);have HE:Hid (AcR W1 B g c N T):=by rw [HT.out];have:=HAk.out;rw [List.take_of_length_le hke,List.drop_of_length_le hke,List.append_nil]at this;exact aa this
   clear HAk;go_wp2_with fail
   go_end0;exact⟨rfl,HE.out,HG.out⟩
theorem Bi (P1 P2 P3:List Ac) (x y:Ac):(P1++x::P2++y::P3).getD P1.length ac0=x:=by
 rw [List.append_assoc,show P1.length=P1.length+0 from rfl,bp];rfl
theorem A5 (P1 P2 P3:List Ac) (x y:Ac):(P1++x::P2++y::P3).getD (P1.length+1+P2.length) ac0=y:=by
 have:=bp (A:=P1++x::P2) (B:=y::P3) 0;have hl:(P1++x::P2).length+0=P1.length+1+P2.length:=by simp;omega
 rw [hl]at this;exact this
def pZ (P U Q V R:List Ac) (k:Nat):List Ac:=P++(V.take k++U.drop k)++Q++(U.take k++V.drop k)++R
theorem At {P U Q V R:List Ac} {n k:Nat} (hU:U.length=n) (hV:V.length=n) (hk:k<n):pZ P U Q V R k=(P++V.take k)++U.getD k ac0::(U.drop (k+1)++Q++U.take k)++V.getD k ac0::(V.drop (k+1)++R):=by
 have e1:U.drop k=U.getD k ac0::U.drop (k+1):=by
  rw [List.drop_eq_getElem_cons (by omega),List.getD_eq_getElem?_getD,List.getElem?_eq_getElem (by omega)];rfl
 have e2:V.drop k=V.getD k ac0::V.drop (k+1):=by
  rw [List.drop_eq_getElem_cons (by omega),List.getD_eq_getElem?_getD,List.getElem?_eq_getElem (by omega)];rfl
 unfold pZ;rw [e1,e2];simp
theorem uV {P U Q V R:List Ac} {n k:Nat} (hU:U.length=n) (hV:V.length=n) (hk:k<n):pZ P U Q V R (k+1)=(P++V.take k)++V.getD k ac0::(U.drop (k+1)++Q++U.take k)++U.getD k ac0::(V.drop (k+1)++R):=by
 have e1:U.take (k+1)=U.take k++ [U.getD k ac0]:=by
  rw [List.take_add_one,List.getD_eq_getElem?_getD,List.getElem?_eq_getElem (by omega)];rfl
 have e2:V.take (k+1)=V.take k++ [V.getD k ac0]:=by
  rw [List.take_add_one,List.getD_eq_getElem?_getD,List.getElem?_eq_getElem (by omega)];rfl
 unfold pZ;rw [e1,e2];simp
theorem mX (P U Q V R:List Ac) (B g c N a b n:Nat) (w:World) (hA:AcR w B g c N (P++U++Q++V++R)) (hU:U.length=n) (hV:V.length=n) (ha:a=P.length) (hb:b=P.length+n+Q.length) (hN:N≤1000):
  Calls Tryz.prog 228 #[.slice (some ⟨g,0,none⟩) N c,.int .i64 (a:Int),.int .i64 (b:Int),.int .i64 (n:Int),.func (.func 182) #[] #[]] w fun e w'=>e= .returned (.tuple #[])∧AcR w' B g c N (P++V++Q++U++R)∧w.grownBy w' (some g):=by
 obtain⟨T,hT⟩:∃T,T=P++V++Q++U++R:=⟨_,rfl⟩;rw [←hT];have HT:=aa hT;clear hT;have HA0:Hid (AcR w B g c N (pZ P U Q V R 0)):=by refine aa ?_;unfold pZ;simpa using hA
 have hlen:P.length+n+Q.length+n+R.length=N:=by have:=hA.1;simp only [List.length_append,hU,hV]at this;omega
 obtain⟨ha2,ha3⟩:=le2 ha;obtain⟨hb2,hb3⟩:=le2 hb;obtain⟨hl2,hl3⟩:=le2 hlen;have HU:=aa hU;have HV:=aa hV;clear hA ha hb hlen hU hV;go_enter Tryz.func228,Tryz.ntmps228;go_wp2_with fail
 go_loopw [10] (fun i wr=>∃k:Nat,k≤n∧i= .int .i64 (k:Int)∧Hid (AcR wr B g c N (pZ P U Q V R k))∧Hid (w.grownBy wr (some g))) (fun i _=>n-(intOf i).toNat)
 case atStart=>exact⟨0,by omega,rfl,HA0,aa (grown_refl' _ _)⟩
 case round=>
  clear HA0;obtain⟨k,hk,rfl,HA,HG⟩:=hrel;by_cases hlt:k<n
  ·have qlt:(k:Int)<(n:Int):=(by omega);obtain⟨ai,hai⟩:∃ai,ai=a+k:=⟨_,rfl⟩;obtain⟨bi,hbi⟩:∃bi,bi=b+k:=⟨_,rfl⟩;obtain⟨hai2,hai3⟩:=le2 hai;obtain⟨hbi2,hbi3⟩:=le2 hbi;have hw1:IntKind.i64.wrap ((a:Int)+(k:Int))=(ai:Int):=(bk _ (by omega) (by omega)).trans (by omega);have hw2:IntKind.i64.wrap ((b:Int)+(k:Int))=(bi:Int):=(bk _ (by omega) (by omega)).trans (by omega);clear hai hbi;have t0:(0:Int)≤(ai:Int):=(by omega);have t1:(ai:Int)<(N:Int):=(by omega);have t2:(0:Int)≤(bi:Int):=(by omega);have t3:(bi:Int)<(N:Int):=(by omega);have HI:=aa (At (P:=P) (Q:=Q) (R:=R) HU.out HV.out hlt);have HX:=aa (uV (P:=P) (Q:=Q) (R:=R) HU.out HV.out hlt);obtain⟨P1,hP1⟩:∃P1,P1=P++V.take k:=⟨_,rfl⟩;obtain⟨P2,hP2⟩:∃P2,P2=U.drop (k+1)++Q++U.take k:=⟨_,rfl⟩;have hl1:P1.length=ai:=by rw [hP1];simp [HV.out];omega
   have hl4:P1.length+1+P2.length=bi:=by rw [hl1,hP2];simp [HU.out];omega
   rw [←hP1, ←hP2]at HI HX;clear hP1 hP2;generalize U.getD k ac0=x at*;generalize V.getD k ac0=y at*;generalize V.drop (k+1)++R=P3 at*;rw [HI.out]at HA;have HR1:Hid (∀W,AcR W B g c N (P1++x::P2++y::P3)→W.rangeAt g (ai*9) (acC x)):=aa (fun W h=>by have:=h.range (i:=ai) (by omega);rwa [←hl1,Bi,hl1]at this);have HR2:Hid (∀W,AcR W B g c N (P1++x::P2++y::P3)→W.rangeAt g (bi*9) (acC y)):=aa (fun W h=>by have:=h.range (i:=bi) (by omega);rwa [←hl4,A5,hl4]at this);have HSW:Hid (((P1++x::P2++y::P3).set ai y).set bi x=pZ P U Q V R (k+1)):=aa (by rw [HX.out, ←hl1, ←hl4, ←m9 P1 P2 P3 x y,hl1]);clear HI HX hl1 hl4;obtain⟨k1,hk1⟩:∃k1,k1=k+1:=⟨_,rfl⟩;have HK1:=aa hk1;have hw3:IntKind.i64.wrap ((k:Int)+1)=(k1:Int):=(bk _ (by omega) (by omega)).trans (by omega);obtain⟨hk2,hk3⟩:=le2 hk1;rw [←hk1]at HSW;clear hk1;obtain⟨LL,hLL⟩:∃LL,LL=P1++x::P2++y::P3:=⟨_,rfl⟩;rw [←hLL]at HA HR1 HR2 HSW;clear hLL;go_wp2_with fail
   apply kx _ (fun w'=>AcR w' B g c N ((LL.set ai y).set bi x)∧w.grownBy w' (some g))
   ·have hDr:Below wr.heap.size wr wr.drew:=(Below.refl _ _).drew;replace HA:=aa (HA.out.below hDr);replace HG:=aa (cN HG.out hDr);clear hDr;refine wp_region_held_drew (S:=fun _=>True) (by kernel_rfl) trivial (fun hHeld=>?_);generalize wr.drew=V2 at*;refine sqA [(0,16),(1,17),(2,18),(3,19),(4,20),(5,21),(6,22),(7,23),(8,24),(9,25),(10,26),(11,27),(12,28),(14,30),(15,31),(16,32),(17,33),(18,34)] ?_;(iterate 18 (refine sqN rfl (by kernel_rfl) (fun _ _ _ h=>absurd h.1 (by simp)) rfl ‹_› (by intro w h;go_simp <;>with_reducible rfl) ?_;simp only [nz]));refine sqZ ?_;refine wpAnyH_ready (rs:=[13,19]) (by kernel_rfl) (by simp) ?_;refine(AllReadyH.cons (o:=⟨some 29,_,_,_,_,_⟩) rfl (fun K hK=>?_) (AllReadyH.cons (o:=⟨some 35,_,_,_,_,_⟩) rfl (fun K hK=>?_) AllReadyH.nil))
    ·rw [if_pos (by rfl)];clear hHeld;refine wp_load_mid 55 (.tmp 28) rfl g (bi*9) rfl (acC y) _ (HR2.out _ HA.out) Tryz.underlying55 rfl aO ?_;refine hK.out _ _ trivial (fun hHeld=>?_);clear hK K;(try simp only [nz]);refine rs 19 35 (by kernel_rfl) rfl (fun K hK=>?_);rw [if_pos (by rfl)];clear hHeld;refine wp_load_mid 55 (.tmp 34) rfl g (ai*9) rfl (acC x) _ (HR1.out _ HA.out) Tryz.underlying55 rfl aO ?_;refine hK.out _ _ trivial (fun hHeld=>?_);clear hK K;(try simp only [nz]);refine tq 20 36 rfl (by kernel_rfl) (fun _ _ _ h=>absurd h.1 (by simp)) rfl ‹_› (by intro w h;go_simp <;>with_reducible rfl) ?_;simp only [nz];refine rn 21 (by kernel_rfl) rfl (fun K hK=>?_);rw [if_pos (by rfl)];clear hHeld;refine wp_store_mid 55 (.tmp 36) (.tmp 29) rfl g (ai*9) (acC y).toArray rfl rfl (AcR.there HA.out (i:=ai) (by omega)) aO (dO rfl) ?_;rw [show(acC y).toArray.toList=acC y from rfl];have HP0:=aa (AcR.put HA.out (i:=ai) (by omega) y).1;have hq0:=(AcR.put HA.out (i:=ai) (by omega) y).2;generalize World.setCells _ g (ai*9) (acC y)=V20 at*;refine hK.out _ _ trivial (fun hHeld=>?_);clear hK K;(try simp only [Act.put]);refine tq 22 37 rfl (by kernel_rfl) (fun _ _ _ h=>absurd h.1 (by simp)) rfl ‹_› (by intro w h;go_simp <;>with_reducible rfl) ?_;simp only [nz];refine rn 23 (by kernel_rfl) rfl (fun K hK=>?_);rw [if_pos (by rfl)];clear hHeld;refine wp_store_mid 55 (.tmp 37) (.tmp 35) rfl g (bi*9) (acC x).toArray rfl rfl (AcR.there HP0.out (i:=bi) (by omega)) aO (dO rfl) ?_;rw [show(acC x).toArray.toList=acC x from rfl];have HP1:=aa (AcR.put HP0.out (i:=bi) (by omega) x).1;have hq1:=(AcR.put HP0.out (i:=bi) (by omega) x).2;generalize World.setCells _ g (bi*9) (acC x)=V21 at*;refine hK.out _ _ trivial (fun hHeld=>?_);clear hK K;(try simp only [Act.put]);refine wpAnyH_done (by kernel_rfl) ?_ _;clear hHeld;exact⟨rfl,rfl,HP1.out,aC HG.out (aC hq0 hq1)⟩
    ·rw [if_pos (by rfl)];clear hHeld;refine wp_load_mid 55 (.tmp 34) rfl g (ai*9) rfl (acC x) _ (HR1.out _ HA.out) Tryz.underlying55 rfl aO ?_;refine hK.out _ _ trivial (fun hHeld=>?_);clear hK K;(try simp only [nz]);refine rs 13 29 (by kernel_rfl) rfl (fun K hK=>?_);rw [if_pos (by rfl)];clear hHeld;refine wp_load_mid 55 (.tmp 28) rfl g (bi*9) rfl (acC y) _ (HR2.out _ HA.out) Tryz.underlying55 rfl aO ?_;refine hK.out _ _ trivial (fun hHeld=>?_);clear hK K;(try simp only [nz]);refine tq 20 36 rfl (by kernel_rfl) (fun _ _ _ h=>absurd h.1 (by simp)) rfl ‹_› (by intro w h;go_simp <;>with_reducible rfl) ?_;simp only [nz];refine rn 21 (by kernel_rfl) rfl (fun K hK=>?_);rw [if_pos (by rfl)];clear hHeld;refine wp_store_mid 55 (.tmp 36) (.tmp 29) rfl g (ai*9) (acC y).toArray rfl rfl (AcR.there HA.out (i:=ai) (by omega)) aO (dO rfl) ?_;rw [show(acC y).toArray.toList=acC y from rfl];have HP0:=aa (AcR.put HA.out (i:=ai) (by omega) y).1;have hq0:=(AcR.put HA.out (i:=ai) (by omega) y).2;generalize World.setCells _ g (ai*9) (acC y)=V20 at*;refine hK.out _ _ trivial (fun hHeld=>?_);clear hK K;(try simp only [Act.put]);refine tq 22 37 rfl (by kernel_rfl) (fun _ _ _ h=>absurd h.1 (by simp)) rfl ‹_› (by intro w h;go_simp <;>with_reducible rfl) ?_;simp only [nz];refine rn 23 (by kernel_rfl) rfl (fun K hK=>?_);rw [if_pos (by rfl)];clear hHeld;refine wp_store_mid 55 (.tmp 37) (.tmp 35) rfl g (bi*9) (acC x).toArray rfl rfl (AcR.there HP0.out (i:=bi) (by omega)) aO (dO rfl) ?_;rw [show(acC x).toArray.toList=acC x from rfl];have HP1:=aa (AcR.put HP0.out (i:=bi) (by omega) x).1;have hq1:=(AcR.put HP0.out (i:=bi) (by omega) x).2;generalize World.setCells _ g (bi*9) (acC x)=V21 at*;refine hK.out _ _ trivial (fun hHeld=>?_);clear hK K;(try simp only [Act.put]);refine wpAnyH_done (by kernel_rfl) ?_ _;clear hHeld;exact⟨rfl,rfl,HP1.out,aC HG.out (aC hq0 hq1)⟩
   intro W3 hW3;obtain⟨hA3,hG3⟩:=hW3;rw [HSW.out]at hA3;have HA3:=aa hA3;have HG3:=aa hG3;clear hA3 hG3 HA HG HR1 HR2 HSW;go_wp2_with fail
   go_roundw
   case rel=>exact⟨k1,by omega,rfl,HA3,HG3⟩
   case measure=>simp [intOf];omega
  ·have hke:k=n:=(by omega);have nlt:¬((k:Int)<(n:Int)):=(by omega);have HE:Hid (AcR wr B g c N T):=by rw [HT.out];have:=HA.out;unfold pZ at this;rw [hke,List.take_of_length_le (Nat.le_of_eq HV.out),List.take_of_length_le (Nat.le_of_eq HU.out),List.drop_of_length_le (Nat.le_of_eq HV.out),List.drop_of_length_le (Nat.le_of_eq HU.out)]at this;simp only [List.append_nil]at this;exact aa this
   clear HA hke;go_wp2_with fail
   go_end0;exact⟨rfl,HE.out,HG.out⟩
theorem sR (P U V R:List Ac) (B g c N a m b:Nat) (w:World) (hA:AcR w B g c N (P++U++V++R)) (hU:0<U.length) (hV:0<V.length) (ha:a=P.length) (hm:m=P.length+U.length) (hb:b=P.length+U.length+V.length) (hN:N≤1000):
  Calls Tryz.prog 227 #[.slice (some ⟨g,0,none⟩) N c,.int .i64 (a:Int),.int .i64 (m:Int),.int .i64 (b:Int),.func (.func 182) #[] #[]] w fun e w'=>e= .returned (.tuple #[])∧AcR w' B g c N (P++V++U++R)∧w.grownBy w' (some g):=by
 have hlen:P.length+U.length+V.length+R.length=N:=by have:=hA.1;simp only [List.length_append]at this;omega
 obtain⟨T,hT⟩:∃T,T=P++V++U++R:=⟨_,rfl⟩;rw [←hT];have HT:=aa hT.symm;have HA0:=aa hA;obtain⟨i1,hi1⟩:∃i1,i1=U.length:=⟨_,rfl⟩;obtain⟨j1,hj1⟩:∃j1,j1=V.length:=⟨_,rfl⟩;have HI1:=aa hi1.symm;have HJ1:=aa hj1.symm;have HM1:Hid (P.length+i1=m):=aa (by omega);have hw1:IntKind.i64.wrap ((m:Int)-(a:Int))=(i1:Int):=(bk _ (by omega) (by omega)).trans (by omega);have hw2:IntKind.i64.wrap ((b:Int)-(m:Int))=(j1:Int):=(bk _ (by omega) (by omega)).trans (by omega);have h0i:0<i1∧0<j1∧i1≤m∧m+j1≤N:=by omega
 clear hA hT ha hm hb hlen hi1 hj1 hU hV;go_enter Tryz.func227,Tryz.ntmps227;go_wp2_with fail
 go_loopw [10,11] (fun i j wr=>∃(P' U' V' R':List Ac) (i0 j0:Nat),Hid (P'++V'++U'++R'=T)∧(Hid (U'.length=i0)∧Hid (V'.length=j0)∧Hid (P'.length+i0=m))∧(0<i0∧0<j0∧i0≤m∧m+j0≤N)∧i= .int .i64 (i0:Int)∧j= .int .i64 (j0:Int)∧Hid (AcR wr B g c N (P'++U'++V'++R'))∧Hid (w.grownBy wr (some g))) (fun i j _=>(intOf i).toNat+(intOf j).toNat)
 case atStart=>exact⟨P,U,V,R,i1,j1,HT,⟨HI1,HJ1,HM1⟩,h0i,rfl,rfl,HA0,aa (grown_refl' _ _)⟩
 case round=>
  clear HA0 HT HI1 HJ1 HM1 h0i;obtain⟨P2,U2,V2,R2,i0,j0,HT,⟨HI,HJ,HM⟩,⟨hi,hj,him,hjn⟩,rfl,rfl,HA,HG⟩:=hrel;obtain⟨mi,hmi⟩:∃mi,mi=m-i0:=⟨_,rfl⟩;have HMI:=aa hmi;have hw3:IntKind.i64.wrap ((m:Int)-(i0:Int))=(mi:Int):=(bk _ (by omega) (by omega)).trans (by omega);clear hmi;rcases Nat.lt_trichotomy i0 j0 with hlt | heq | hgt
  ·have q1:(i0 != j0)=true:=by simp;omega
   have q2:¬(j0<i0):=(by omega);have q3:¬i0=j0:=(by omega);obtain⟨ji,hji⟩:∃ji,ji=j0-i0:=⟨_,rfl⟩;obtain⟨mj,hmj⟩:∃mj,mj=m+j0:=⟨_,rfl⟩;obtain⟨mk,hmk⟩:∃mk,mk=mj-i0:=⟨_,rfl⟩;have hw4:IntKind.i64.wrap ((m:Int)+(j0:Int))=(mj:Int):=(bk _ (by omega) (by omega)).trans (by omega);have hw5:IntKind.i64.wrap ((mj:Int)-(i0:Int))=(mk:Int):=(bk _ (by omega) (by omega)).trans (by omega);have hw6:IntKind.i64.wrap ((j0:Int)-(i0:Int))=(ji:Int):=(bk _ (by omega) (by omega)).trans (by omega);have hjl:(V2.drop ji).length=i0:=by rw [List.length_drop,HJ.out];omega
   have hjt:(V2.take ji).length=ji:=by rw [List.length_take,HJ.out];omega
   have HSW:=aa (mX P2 U2 (V2.take ji) (V2.drop ji) R2 B g c N mi mk i0 wr (by have:=HA.out;rw [List.append_assoc (P2++U2),List.append_assoc (P2++U2),List.take_append_drop];simpa using this) HI.out hjl (by have:=HM.out;have:=HMI.out;omega) (by have:=HM.out;rw [hjt];omega) hN);have HT2:Hid (P2++V2.take ji++V2.drop ji++(U2++R2)=T):=by rw [←HT.out,List.append_assoc P2,List.take_append_drop];exact aa (by simp)
   have HJL:=aa hjl;have HJT:=aa hjt;have hjx:0<ji∧ji<j0:=(by omega);have hjy:m+ji≤N:=(by omega);have HMJ:Hid (P2.length+i0=m):=HM;clear hji hmj hmk hjl hjt HA;go_wp2_with fail
   refine(ag HSW).mono ?_;rintro e W3 ⟨rfl,hA3,hG3⟩;have HA3:Hid (AcR W3 B g c N (P2++V2.drop ji++V2.take ji++(U2++R2))):=aa (by simpa using hA3);have HG3:=aa (aC HG.out hG3);clear hA3 hG3 HSW HG HT HM;go_wp2_with fail
   go_roundw
   case rel=>exact⟨P2,V2.drop ji,V2.take ji,U2++R2,i0,ji,HT2,⟨HJL,HJT,HMJ⟩,⟨hi,hjx.1,him,hjy⟩,rfl,rfl,HA3,HG3⟩
   case measure=>simp [intOf];omega
  ·subst heq;have q1:(i0 != i0)=false:=(by simp);have HSW:=aa (mX P2 U2 [] V2 R2 B g c N mi m i0 wr (by simpa using HA.out) HI.out HJ.out (by have:=HM.out;have:=HMI.out;omega) (by have:=HM.out;simp;omega) hN);clear HA;go_wp2_with fail
   refine(ag HSW).mono ?_;rintro e W3 ⟨rfl,hA3,hG3⟩;have HA3:Hid (AcR W3 B g c N T):=by rw [←HT.out];exact aa (by simpa using hA3)
   have HG3:=aa (aC HG.out hG3);clear hA3 hG3 HSW HG HT;go_wp2_with fail
   go_end0;exact⟨rfl,HA3.out,HG3.out⟩
  ·have q1:(i0 != j0)=true:=by simp;omega
   have q3:¬i0=j0:=(by omega);obtain⟨ij,hij⟩:∃ij,ij=i0-j0:=⟨_,rfl⟩;have hw6:IntKind.i64.wrap ((i0:Int)-(j0:Int))=(ij:Int):=(bk _ (by omega) (by omega)).trans (by omega);have hjl:(U2.take j0).length=j0:=by rw [List.length_take,HI.out];omega
   have hjt:(U2.drop j0).length=ij:=by rw [List.length_drop,HI.out];omega
   have HSW:=aa (mX P2 (U2.take j0) (U2.drop j0) V2 R2 B g c N mi m j0 wr (by have:=HA.out;rw [List.append_assoc P2,List.take_append_drop];exact this) hjl HJ.out (by have:=HM.out;have:=HMI.out;omega) (by have:=HM.out;rw [hjt];omega) hN);have HT2:Hid (P2++V2++U2.take j0++U2.drop j0++R2=T):=by rw [←HT.out,List.append_assoc (P2++V2),List.take_append_drop];exact aa rfl
   have HJL:=aa hjl;have HJT:=aa hjt;have hjx:0<ij∧ij<i0:=(by omega);have hjy:ij≤m:=(by omega);have HMJ:Hid ((P2++V2).length+ij=m):=by have:=HM.out;rw [List.length_append,HJ.out];exact aa (by omega)
   clear hij hjl hjt HA;go_wp2_with fail
   refine(ag HSW).mono ?_;rintro e W3 ⟨rfl,hA3,hG3⟩;have HA3:Hid (AcR W3 B g c N ((P2++V2)++U2.drop j0++U2.take j0++R2)):=aa (by simpa using hA3);have HG3:=aa (aC HG.out hG3);clear hA3 hG3 HSW HG HT HM;go_wp2_with fail
   go_roundw
   case rel=>exact⟨P2++V2,U2.drop j0,U2.take j0,R2,ij,j0,HT2,⟨HJT,HJL,HMJ⟩,⟨hjx.1,hj,hjy,hjn⟩,rfl,rfl,HA3,HG3⟩
   case measure=>simp [intOf];omega
end Go.Proofs.YtaiedioffemhdaaGreat
