/- The law TopStale returns true at every list of raw numbers, and the list reads behind the call as it read before; no condition. -/
import Derived.Deep.MidRow
import Derived.Deep.Light
import Derived.Test.YtjaclcbckngnlaaGreatJA8
namespace Go.Proofs.YtjaclcbckngnlaaGreat
open Go.RowKit
set_option linter.unusedVariables false
set_option maxRecDepth 100000
set_option maxHeartbeats 16000000
theorem row_own {w:World} {B:Nat} {u:Value} {l:List Ar} {body:ByteArray} (h:w.ownsRow B 49 9 u l.length (AR body l)):RowAt (arC body) 9 w u l∧∀k,u.ownBlock=some k→k<w.heap.size:=
 ⟨RowAt.of_own (C:=arC body) (sz:=9) (fun _=>rfl) (by decide) h,fun k hk=>cG h hk⟩
theorem sizeAct:(Tryz.prog.info? 44).map (·.size)=some 28:=by kernel_rfl
theorem row_take {α:Type} {C:α→List Value} {sz:Nat} {w:World} {a:Option Addr} {n c k:Nat} {l:List α} (h:RowAt C sz w (.slice a n c) l) (hk:k≤l.length):RowAt C sz w (.slice a k c) (l.take k):=by
 obtain⟨a',c',e,h0,h1⟩:=h;simp only [Value.slice.injEq]at e;obtain⟨rfl,rfl,rfl⟩:=e;have hl:(l.take k).length=k:=by rw [List.length_take];omega
 refine⟨a,c,by rw [hl],h0,?_⟩;rcases h1 with h1 |⟨b,off,rfl,hc,hx⟩
 ·exact .inl (by omega)
 ·by_cases hz:k=0
  ·exact .inl (by omega)
  ·refine .inr ⟨b,off,rfl,by omega,fun i x hi=>hx i x ?_⟩;rw [List.getElem?_take]at hi;split at hi
   ·exact hi
   ·cases hi
def PicksAx (w:World) (f:Nat) (cs:Array Value) (p:Ax→Bool):Prop:=∀(W:World) (x:Ax),Below w.heap.size w W→Calls Tryz.prog f (#[dC x]++cs) W fun e w'=>e= .returned (.bool (p x))∧Below W.heap.size W w'
theorem idxGAx_any (l:List Ax) (p:Ax→Bool) (v:Value) (f:Nat) (cs:Array Value) (w:World) (hF:RowAt axC 28 w v l) (hT:PicksAx w f cs p) (hE:bu f) (hl:l.length≤100000):
  Calls Tryz.prog 25 #[v,.func (.func f) #[] cs] w fun e w'=>e= .returned (.int .i64 (idx p l))∧Below w.heap.size w w':=by
 have HF:=aa hF;have HT:=aa hT;have HEN:=aa hE;obtain⟨a,cap,rfl⟩:=hF.slice;clear hF hT hE;go_enter Tryz.func25,Tryz.ntmps25;go_wp2_with fail
 go_loopw [8] (fun i wr=>∃k:Nat,k≤l.length∧i= .int .i64 k∧Hid (∀j,j<k→p (l.getD j ax0)=false)∧Below w.heap.size w wr) (fun i _=>l.length-(intOf i).toNat)
 case atStart=>exact⟨0,by omega,rfl,aa (fun j h=>absurd h (by omega)),Below.refl _ _⟩
 case round=>
  obtain⟨k,hk,rfl,HALL,hbr⟩:=hrel;by_cases hlt:k<l.length
  ·obtain⟨b,off,cap',e1,hcap,hR⟩:=cI ax0 (RowAt.below HF.out hbr zr) hlt;simp only [Value.slice.injEq,true_and]at e1;obtain⟨rfl,rfl⟩:=e1;have R0:=aa hR;clear hR;have HST:Hid (∀W:World,Below w.heap.size w W→Calls Tryz.prog f (#[dC (l.getD k ax0)]++cs) W fun e w'=>e= .returned (.bool (p (l.getD k ax0)))∧Below W.heap.size W w'):=fun W hW=>HT.out W _ hW;have HNX:Hid (p (l.getD k ax0)=false→∀j,j<k+1→p (l.getD j ax0)=false):=fun h j hj=>by
    by_cases e:j=k
    ·subst e;exact h
    ·exact HALL.out j (by omega)
   have HFD:Hid (p (l.getD k ax0)=true→idx p l=k):=fun h=>gW ax0 hlt HALL.out h;generalize p (l.getD k ax0)=R at*;generalize l.getD k ax0=x at*;have HAX:Hid (axC x= [.int .i64 x.k,.int .i64 x.si,.int .i64 x.st,.int .i64 x.sg,.int .i64 x.pi,.int .i64 x.ps,.int .i64 x.pm,.int .i64 x.pp,.int .i64 x.pc,.int .i64 x.rs,.int .i64 x.rp,.bool x.rn,.int .i64 x.rf,.int .i64 x.rb,.int .i64 x.rt,.int .i64 x.re,.int .i64 x.ro,.bool x.rd,.int .i64 x.n,.int .i64 x.m,.int .i64 x.f0,.int .i64 x.f1,.int .i64 x.f2,.int .i64 x.f3,.int .i64 x.f4,.int .i64 x.f5,.int .i64 x.f6,.string x.body]):=rfl;rw [HAX.out]at R0;clear HAX;have q1:(0:Int)≤(k:Int):=(by omega);have q2:(k:Int)<(l.length:Int):=(by omega);clear HALL;go_wp2_with (refine wpList_load_mid rfl 44 (.tmp 14) rfl b (off+k*28) rfl _ _ R0.out Tryz.underlying44 rfl sizeAct ?_)
   rw [ag HEN];refine(ag HST _ ?_).mono ?_
   ·first | exact hbr | exact hbr.drew | exact⟨hbr.os,hbr.tape,hbr.output,hbr.size,hbr.block⟩
   rintro e w1 ⟨rfl,hb1⟩;have HB1:Hid (Below w.heap.size w w1):=hbr.trans (hb1.mono hbr.size);clear hb1 hbr HST R0;cases R
   ·have HN:=aa (HNX.out rfl);clear HNX HFD;go_wp2_with fail
    go_roundw
    case rel=>exact⟨k+1,by omega,by go_num,HN,HB1.out⟩
    case measure=>simp [intOf];omega
   ·have HN:=aa (HFD.out rfl);clear HNX HFD;go_wp2_with fail
    go_ret;exact⟨am HN.out.symm,HB1.out⟩
  ·have HN:Hid (idx p l= -1):=gP ax0 fun i hi=>HALL.out i (by omega);have HB1:=aa hbr;clear HALL hbr;go_wp2_with fail
   go_ret;exact⟨am HN.out.symm,HB1.out⟩
theorem hasGAx_any (l:List Ax) (p:Ax→Bool) (v:Value) (f:Nat) (cs:Array Value) (w:World) (hF:RowAt axC 28 w v l) (hT:PicksAx w f cs p) (hE:bu f) (hl:l.length≤100000):
  Calls Tryz.prog 9 #[v,.func (.func f) #[] cs] w fun e w'=>e= .returned (.bool (l.any p))∧Below w.heap.size w w':=by
 have HI:=aa (idxGAx_any l p v f cs w hF hT hE hl);have HA:=aa (dN p l);obtain⟨a,cap,rfl⟩:=hF.slice;clear hF hT hE;generalize idx p l=I at*;go_enter Tryz.func9,Tryz.ntmps9;go_wp2_with fail
 refine(ag HI).mono ?_;rintro e w1 ⟨rfl,hb1⟩;go_wp2_with fail
 go_ret;exact⟨aA HA.out,hb1⟩
theorem ent_stale:bu 10:=fun args W=>by
 unfold callFunc;simp [Tryz.func10,Tryz.f10]
theorem stale1_any (x:Ax) (n:Int) (b:Nat) (w:World) (h:w.cell? ⟨b,0,none⟩=some (.int .i64 n)):
  Calls Tryz.prog 10 #[dC x,.pointer (some ⟨b,0,none⟩)] w fun e w'=>e= .returned (.bool (jN n x))∧Below w.heap.size w w':=by
 obtain⟨W0,hW0⟩:∃W0,W0=w.alloc (.cells #[.int .i64 x.k,.int .i64 x.si,.int .i64 x.st,.int .i64 x.sg,.int .i64 x.pi,.int .i64 x.ps,.int .i64 x.pm,.int .i64 x.pp,.int .i64 x.pc,.int .i64 x.rs,.int .i64 x.rp,.bool x.rn,.int .i64 x.rf,.int .i64 x.rb,.int .i64 x.rt,.int .i64 x.re,.int .i64 x.ro,.bool x.rd,.int .i64 x.n,.int .i64 x.m,.int .i64 x.f0,.int .i64 x.f1,.int .i64 x.f2,.int .i64 x.f3,.int .i64 x.f4,.int .i64 x.f5,.int .i64 x.f6,.string x.body] 44):=⟨_,rfl⟩;have kb:Below w.heap.size w W0:=by rw [hW0];exact(Below.refl _ w).alloc zr _
 have c0:W0.cell? ⟨w.heap.size,0,none⟩=some (.int .i64 x.k):=zN1 hW0 rfl;have c4:W0.cell? ⟨w.heap.size,4,none⟩=some (.int .i64 x.pi):=zN1 hW0 rfl;have d0:=zC h kb;have HW0:=aa hW0.symm;have HA:Hid (jN n x=(x.k==2&&x.pi==n)):=rfl;have hv:dC x= .agg #[.int .i64 x.k,.int .i64 x.si,.int .i64 x.st,.int .i64 x.sg,.int .i64 x.pi,.int .i64 x.ps,.int .i64 x.pm,.int .i64 x.pp,.int .i64 x.pc,.int .i64 x.rs,.int .i64 x.rp,.bool x.rn,.int .i64 x.rf,.int .i64 x.rb,.int .i64 x.rt,.int .i64 x.re,.int .i64 x.ro,.bool x.rd,.int .i64 x.n,.int .i64 x.m,.int .i64 x.f0,.int .i64 x.f1,.int .i64 x.f2,.int .i64 x.f3,.int .i64 x.f4,.int .i64 x.f5,.int .i64 x.f6,.string x.body]:=rfl;rw [hv];clear hv hW0 h;go_enter Tryz.func10,Tryz.ntmps10;generalize x.k=xk at*;generalize x.pi=xp at*;cases h2:(xk==2)
 ·go_wp2_with (rw [HW0.out])
  go_ret;exact⟨aA (by rw [HA.out,h2];rfl),kb⟩
 ·go_wp2_with (rw [HW0.out])
  go_ret;exact⟨aA (by rw [HA.out,h2];simp),kb⟩
theorem picks_stale {w:World} {n:Int} {b:Nat} (h:w.cell? ⟨b,0,none⟩=some (.int .i64 n)):PicksAx w 10 #[.pointer (some ⟨b,0,none⟩)] (jN n):=fun W x hW=>stale1_any x n b W (zC h hW)
section
open Go.ChangeShapes Go.WideShapes Go.ChangeAt Go.RowKit
theorem sizeArr:(Tryz.prog.info? 49).map (·.size)=some 9:=by kernel_rfl
theorem stale_all {l:List Ax} {k:Nat} {r:Rp} (h:kT (stR (l.take k)) (l.getD k ax0) r):r.l.length≤100∧∀y∈r.l,(((l.getD k ax0).k != 8)=false∧(y.f.getD 2 0==1)=false)∧(l.take k).any (jN y.n)=true:=by
 obtain⟨h1,h2⟩:=lC h;refine⟨h1,fun y hy=>?_⟩;obtain⟨a,b,c⟩:=h2 y hy;exact⟨⟨by rw [a];rfl,by simpa using b⟩,c⟩
theorem topStale_any (lv:Value) (l:List Rw) (w:World) (hL:RowAt rwC 4 w lv l):
  Calls Tryz.prog 3 #[lv] w fun e w'=>e= .returned (.bool true)∧Below w.heap.size w w':=by
 have HL:=aa (fun W (hW:Below w.heap.size w W)=>qm 60 (by omega) l lv W (RowAt.below hL hW zr));obtain⟨l0,lc0,rfl⟩:=hL.slice;clear hL;go_enter Tryz.func3,Tryz.ntmps3;go_wp2_with fail
 refine(ag HL _ (Below.refl _ _)).mono ?_;rintro e w1 ⟨uu,ls,rfl,⟨hls,hbo⟩,ho,kb⟩;have HLS:Hid (RowAt axC 28 w1 uu ls):=aa (RowAt.of_own (C:=axC) sV (by decide) ho);have HBO:=aa hbo;obtain⟨oo,oc,rfl,hoc, -⟩:=dG ho;clear ho hbo HL;obtain⟨N,hN⟩:∃N,N=ls.length:=⟨_,rfl⟩;have HRT:=aa (fun W la lc hR=>jq ls la lc W hR (by omega) HBO.out);rw [←hN]at HLS HRT hoc⊢;have HNN:=aa hN;have hN72:N≤72:=by omega
 clear hN hls;go_wp2_with fail
 refine(HRT.out _ _ _ HLS.out).mono ?_;rintro e x2 ⟨u0,su,pu,au,rfl,rs,hrp,hrr,hcf,hbx2⟩;have hst:=mM ls;have HM0:Hid (may (stR ls).S (stR ls).P (stR ls).A=true):=aa hst.1.1;have HC0:=aa hcf.here;have HRR:=aa (hrr.less (Nat.zero_le _));have HRP:=aa hrp.2;clear hcf hst HRT hrr;replace HLS:=aa (RowAt.below HLS.out hbx2 zr);replace kb:=kb.trans (hbx2.mono kb.size);clear hbx2;obtain⟨S,hS⟩:∃S,S=(stR ls).S:=⟨_,rfl⟩;obtain⟨P,hP⟩:∃P,P=(stR ls).P:=⟨_,rfl⟩;obtain⟨A,hA⟩:∃A,A=(stR ls).A:=⟨_,rfl⟩;rw [←hS, ←hP, ←hA]at HM0 HC0;clear hS hP hA;have HC:=HC0;clear HC0;obtain⟨s1,s2,rfl⟩:=HC.out.1.slice;obtain⟨p1,p2,rfl⟩:=HC.out.2.1.slice;obtain⟨a1,a2,rfl⟩:=HC.out.2.2.slice;obtain⟨n1,n2,n3⟩:=eF HM0.out;obtain⟨xo,xc,rfl⟩:=HRR.out.slc;have hrl:rs.length=N:=hrp.1;rw [hrl];have HRL:=aa hrl;clear hrp hrl;have HCK:=aa (fun W hC=>gj (.slice s1 S.length s2) (.slice p1 P.length p2) (.slice a1 A.length a2) S P A W hC (by omega) (by omega) (by omega));rw [if_pos HM0.out]at HCK;clear HM0;obtain⟨x3,hx3⟩:∃x3,x3=x2.alloc (.cells #[.slice s1 S.length s2,.slice p1 P.length p2,.slice a1 A.length a2] 30):=⟨_,rfl⟩;have bx3:Below x2.heap.size x2 x3:=by rw [hx3];exact(Below.refl _ _).alloc zr _
 have HB1:Hid (Box x3 x2.heap.size [.slice s1 S.length s2,.slice p1 P.length p2,.slice a1 A.length a2]):=by rw [hx3];exact aa (Box.new x2 [.slice s1 S.length s2,.slice p1 P.length p2,.slice a1 A.length a2] 30)
 replace HLS:=aa (RowAt.below HLS.out bx3 zr);replace HC:=aa (HC.out.below bx3 zr);replace HRR:=aa (HRR.out.below bx3);replace kb:=kb.trans (bx3.mono kb.size);have Hx3:Hid (x2.alloc (.cells #[.slice s1 S.length s2,.slice p1 P.length p2,.slice a1 A.length a2] 30)=x3):=hx3.symm;clear hx3 bx3;have c0:=HB1.out.cell 0 _ rfl;have c1:=HB1.out.cell 1 _ rfl;have c2:=HB1.out.cell 2 _ rfl;have hNE:((N:Int) != (N:Int))=false:=by simp
 go_wp2_with (rw [Hx3.out])
 clear Hx3 c0 c1 c2;refine(HCK.out _ HC.out).mono ?_;rintro e x4 ⟨rfl,hbx4⟩;replace HB1:=aa (HB1.out.below hbx4);replace HLS:=aa (RowAt.below HLS.out hbx4 zr);replace HC:=aa (HC.out.below hbx4 zr);replace HRR:=aa (HRR.out.below hbx4);replace kb:=kb.trans (hbx4.mono kb.size);clear hbx4;clear HB1 HC HCK;go_wp2_with fail
 clear hNE;have HKW:Hid (∀W,Below x4.heap.size x4 W→Below w.heap.size w W):=aa (fun W h=>kb.trans (h.mono kb.size));clear kb;go_loopw [36] (fun i wr=>∃k:Nat,k≤N∧i= .int .i64 k∧Below x4.heap.size x4 wr) (fun i _=>N-(intOf i).toNat)
 case atStart=>exact⟨0,by omega,rfl,Below.refl _ _⟩
 case round=>
  obtain⟨k,hk,rfl,kz⟩:=hrel;replace HLS:=aa (RowAt.below HLS.out kz zr);replace HRR:=aa (HRR.out.below kz);by_cases hlt:k<N
  ·have hkl:k<ls.length:=by rw [←HNN.out];exact hlt
   obtain⟨hl9,hall⟩:=stale_all (HRP.out k hlt);have HALL:=aa hall;clear hall;obtain⟨b,off,cap,e1,hcap,hR⟩:=cI ax0 HLS.out hkl;simp only [Value.slice.injEq]at e1;obtain⟨rfl, -,rfl⟩:=e1;have R0:=aa hR;clear hR;have HTK:=aa (row_take HLS.out (show k≤ls.length by omega));clear HLS;obtain⟨gx,cx,vx,ex,hcx,⟨cc0,cc1⟩,hox⟩:=ut HRR.out (i:=k) (by rw [HRL.out];exact hlt);simp only [Value.slice.injEq]at ex;obtain⟨rfl, -,rfl⟩:=ex;clear HRR cc0;change World.ownsRow _ _ _ _ _ (rs.getD k rp0).l.length (AR (rs.getD k rp0).body (rs.getD k rp0).l)at hox;have hkt:(ls.take k).length≤100000:=by rw [List.length_take];omega
   generalize ls.take k=lk at*;generalize ls.getD k ax0=x at*;generalize rs.getD k rp0=rp at*;obtain⟨E,l1,bd⟩:=rp;simp only at hox hl9 HALL;have HAX:Hid (axC x= [.int .i64 x.k,.int .i64 x.si,.int .i64 x.st,.int .i64 x.sg,.int .i64 x.pi,.int .i64 x.ps,.int .i64 x.pm,.int .i64 x.pp,.int .i64 x.pc,.int .i64 x.rs,.int .i64 x.rp,.bool x.rn,.int .i64 x.rf,.int .i64 x.rb,.int .i64 x.rt,.int .i64 x.re,.int .i64 x.ro,.bool x.rd,.int .i64 x.n,.int .i64 x.m,.int .i64 x.f0,.int .i64 x.f1,.int .i64 x.f2,.int .i64 x.f3,.int .i64 x.f4,.int .i64 x.f5,.int .i64 x.f6,.string x.body]):=rfl;rw [HAX.out]at R0;have q0:(0:Int)≤(k:Int):=(by omega);have q1:(k:Int)<(N:Int):=(by omega);have HU1:=aa (row_own hox).1;obtain⟨v1,v2,rfl⟩:=aw hox;have CC1:=aa cc1;clear hox cc1;obtain⟨W2z,hW2z⟩:∃W2z,W2z=wr.alloc (.cells #[.int .i64 0,.int .i64 0,.int .i64 0,.int .i64 0,.int .i64 0,.int .i64 0,.int .i64 0,.int .i64 0,.int .i64 0,.int .i64 0,.int .i64 0,.bool false,.int .i64 0,.int .i64 0,.int .i64 0,.int .i64 0,.int .i64 0,.bool false,.int .i64 0,.int .i64 0,.int .i64 0,.int .i64 0,.int .i64 0,.int .i64 0,.int .i64 0,.int .i64 0,.int .i64 0,.string ⟨#[]⟩] 44):=⟨_,rfl⟩;have hZ:Box W2z wr.heap.size [.int .i64 0,.int .i64 0,.int .i64 0,.int .i64 0,.int .i64 0,.int .i64 0,.int .i64 0,.int .i64 0,.int .i64 0,.int .i64 0,.int .i64 0,.bool false,.int .i64 0,.int .i64 0,.int .i64 0,.int .i64 0,.int .i64 0,.bool false,.int .i64 0,.int .i64 0,.int .i64 0,.int .i64 0,.int .i64 0,.int .i64 0,.int .i64 0,.int .i64 0,.int .i64 0,.string ⟨#[]⟩]:=by rw [hW2z];exact Box.new wr [.int .i64 0,.int .i64 0,.int .i64 0,.int .i64 0,.int .i64 0,.int .i64 0,.int .i64 0,.int .i64 0,.int .i64 0,.int .i64 0,.int .i64 0,.bool false,.int .i64 0,.int .i64 0,.int .i64 0,.int .i64 0,.int .i64 0,.bool false,.int .i64 0,.int .i64 0,.int .i64 0,.int .i64 0,.int .i64 0,.int .i64 0,.int .i64 0,.int .i64 0,.int .i64 0,.string ⟨#[]⟩] 44
   have TZW2:=aa (hZ.fit 28 rfl);obtain⟨W2,hW2⟩:∃W2,W2=W2z.setCells wr.heap.size 0 [.int .i64 x.k,.int .i64 x.si,.int .i64 x.st,.int .i64 x.sg,.int .i64 x.pi,.int .i64 x.ps,.int .i64 x.pm,.int .i64 x.pp,.int .i64 x.pc,.int .i64 x.rs,.int .i64 x.rp,.bool x.rn,.int .i64 x.rf,.int .i64 x.rb,.int .i64 x.rt,.int .i64 x.re,.int .i64 x.ro,.bool x.rd,.int .i64 x.n,.int .i64 x.m,.int .i64 x.f0,.int .i64 x.f1,.int .i64 x.f2,.int .i64 x.f3,.int .i64 x.f4,.int .i64 x.f5,.int .i64 x.f6,.string x.body]:=⟨_,rfl⟩;have HBX:Hid (Box W2 wr.heap.size [.int .i64 x.k,.int .i64 x.si,.int .i64 x.st,.int .i64 x.sg,.int .i64 x.pi,.int .i64 x.ps,.int .i64 x.pm,.int .i64 x.pp,.int .i64 x.pc,.int .i64 x.rs,.int .i64 x.rp,.bool x.rn,.int .i64 x.rf,.int .i64 x.rb,.int .i64 x.rt,.int .i64 x.re,.int .i64 x.ro,.bool x.rd,.int .i64 x.n,.int .i64 x.m,.int .i64 x.f0,.int .i64 x.f1,.int .i64 x.f2,.int .i64 x.f3,.int .i64 x.f4,.int .i64 x.f5,.int .i64 x.f6,.string x.body]):=by rw [hW2];exact aa (hZ.set ([.int .i64 x.k,.int .i64 x.si,.int .i64 x.st,.int .i64 x.sg,.int .i64 x.pi,.int .i64 x.ps,.int .i64 x.pm,.int .i64 x.pp,.int .i64 x.pc,.int .i64 x.rs,.int .i64 x.rp,.bool x.rn,.int .i64 x.rf,.int .i64 x.rb,.int .i64 x.rt,.int .i64 x.re,.int .i64 x.ro,.bool x.rd,.int .i64 x.n,.int .i64 x.m,.int .i64 x.f0,.int .i64 x.f1,.int .i64 x.f2,.int .i64 x.f3,.int .i64 x.f4,.int .i64 x.f5,.int .i64 x.f6,.string x.body]:List Value) rfl)
   have bW2:Below wr.heap.size wr W2:=by rw [hW2,hW2z];exact ap _ zr _ _ ((Below.refl _ _).alloc zr _)
   replace HTK:=aa (RowAt.below HTK.out bW2 zr);replace HU1:=aa (RowAt.below HU1.out bW2 zr);replace CC1:=aa (aW CC1.out bW2 zr);replace kz:=kz.trans (bW2.mono kz.size);have HW2z:Hid (wr.alloc (.cells #[.int .i64 0,.int .i64 0,.int .i64 0,.int .i64 0,.int .i64 0,.int .i64 0,.int .i64 0,.int .i64 0,.int .i64 0,.int .i64 0,.int .i64 0,.bool false,.int .i64 0,.int .i64 0,.int .i64 0,.int .i64 0,.int .i64 0,.bool false,.int .i64 0,.int .i64 0,.int .i64 0,.int .i64 0,.int .i64 0,.int .i64 0,.int .i64 0,.int .i64 0,.int .i64 0,.string ⟨#[]⟩] 44)=W2z):=hW2z.symm;have HW2:Hid (W2z.setCells wr.heap.size 0 [.int .i64 x.k,.int .i64 x.si,.int .i64 x.st,.int .i64 x.sg,.int .i64 x.pi,.int .i64 x.ps,.int .i64 x.pm,.int .i64 x.pp,.int .i64 x.pc,.int .i64 x.rs,.int .i64 x.rp,.bool x.rn,.int .i64 x.rf,.int .i64 x.rb,.int .i64 x.rt,.int .i64 x.re,.int .i64 x.ro,.bool x.rd,.int .i64 x.n,.int .i64 x.m,.int .i64 x.f0,.int .i64 x.f1,.int .i64 x.f2,.int .i64 x.f3,.int .i64 x.f4,.int .i64 x.f5,.int .i64 x.f6,.string x.body]=W2):=hW2.symm;clear hW2 hW2z hZ bW2;have c1:=CC1.out;go_wp2_with (first | rw [HW2z.out] |(refine wpList_store_mid rfl 44 (.tmp 8) (.tmp 40) rfl wr.heap.size 0 _ rfl rfl TZW2.out eq (cC rfl) ?_;rw [show(#[.int .i64 x.k,.int .i64 x.si,.int .i64 x.st,.int .i64 x.sg,.int .i64 x.pi,.int .i64 x.ps,.int .i64 x.pm,.int .i64 x.pp,.int .i64 x.pc,.int .i64 x.rs,.int .i64 x.rp,.bool x.rn,.int .i64 x.rf,.int .i64 x.rb,.int .i64 x.rt,.int .i64 x.re,.int .i64 x.ro,.bool x.rd,.int .i64 x.n,.int .i64 x.m,.int .i64 x.f0,.int .i64 x.f1,.int .i64 x.f2,.int .i64 x.f3,.int .i64 x.f4,.int .i64 x.f5,.int .i64 x.f6,.string x.body]:Array Value).toList= [.int .i64 x.k,.int .i64 x.si,.int .i64 x.st,.int .i64 x.sg,.int .i64 x.pi,.int .i64 x.ps,.int .i64 x.pm,.int .i64 x.pp,.int .i64 x.pc,.int .i64 x.rs,.int .i64 x.rp,.bool x.rn,.int .i64 x.rf,.int .i64 x.rb,.int .i64 x.rt,.int .i64 x.re,.int .i64 x.ro,.bool x.rd,.int .i64 x.n,.int .i64 x.m,.int .i64 x.f0,.int .i64 x.f1,.int .i64 x.f2,.int .i64 x.f3,.int .i64 x.f4,.int .i64 x.f5,.int .i64 x.f6,.string x.body]from rfl,HW2.out]) |(refine wpList_load_mid rfl 44 (.tmp 39) rfl b (off+k*28) rfl _ _ R0.out Tryz.underlying44 rfl eq ?_))
   clear HW2 HW2z TZW2 R0 c1 CC1;go_loopw [47] (fun i wr=>∃j:Nat,j≤l1.length∧i= .int .i64 j∧Below W2.heap.size W2 wr) (fun i _=>l1.length-(intOf i).toNat)
   case atStart=>exact⟨0,by omega,rfl,Below.refl _ _⟩
   case round=>
    obtain⟨j,hj,rfl,kr⟩:=hrel
    rename World=>wi
    replace HTK:=aa (RowAt.below HTK.out kr zr);replace HU1:=aa (RowAt.below HU1.out kr zr);replace HBX:=aa (HBX.out.below kr);by_cases hjl:j<l1.length
    ·obtain⟨b3,off3,cap3,e3,hcap3,hR⟩:=cI ar0 HU1.out hjl;simp only [Value.slice.injEq,true_and]at e3;obtain⟨rfl,rfl⟩:=e3;have R1:=aa hR;clear hR HU1;obtain⟨⟨g8,g1⟩,hany⟩:=HALL.out (l1.getD j ar0) (by rw [List.getD_eq_getElem?_getD,List.getElem?_eq_getElem hjl];exact List.getElem_mem hjl);have HAN:=aa hany;clear hany HALL;have HXC:Hid (arC bd (l1.getD j ar0)= [.int .i64 (l1.getD j ar0).n,.int .i64 ((l1.getD j ar0).f.getD 0 0),.int .i64 ((l1.getD j ar0).f.getD 1 0),.int .i64 ((l1.getD j ar0).f.getD 2 0),.int .i64 ((l1.getD j ar0).f.getD 3 0),.int .i64 ((l1.getD j ar0).f.getD 4 0),.int .i64 ((l1.getD j ar0).f.getD 5 0),.int .i64 ((l1.getD j ar0).f.getD 6 0),.string bd]):=rfl;rw [HXC.out]at R1;clear HXC;generalize (l1.getD j ar0).n=yn at*;generalize (l1.getD j ar0).f.getD 0 0=y0 at*;generalize (l1.getD j ar0).f.getD 1 0=y1 at*;generalize (l1.getD j ar0).f.getD 2 0=y2 at*;generalize (l1.getD j ar0).f.getD 3 0=y3 at*;generalize (l1.getD j ar0).f.getD 4 0=y4 at*;generalize (l1.getD j ar0).f.getD 5 0=y5 at*;generalize (l1.getD j ar0).f.getD 6 0=y6 at*;have r0:(0:Int)≤(j:Int):=(by omega);have r1:(j:Int)<(l1.length:Int):=(by omega);have hkc:(k:Int)≤(oc:Int):=(by omega);obtain⟨W4,hW4⟩:∃W4,W4=wi.alloc (.cells #[.int .i64 yn,.int .i64 y0,.int .i64 y1,.int .i64 y2,.int .i64 y3,.int .i64 y4,.int .i64 y5,.int .i64 y6,.string bd] 49):=⟨_,rfl⟩;have bW4:Below wi.heap.size wi W4:=by rw [hW4];exact(Below.refl _ _).alloc zr _
     have HBY:Hid (Box W4 wi.heap.size [.int .i64 yn,.int .i64 y0,.int .i64 y1,.int .i64 y2,.int .i64 y3,.int .i64 y4,.int .i64 y5,.int .i64 y6,.string bd]):=by rw [hW4];exact aa (Box.new wi [.int .i64 yn,.int .i64 y0,.int .i64 y1,.int .i64 y2,.int .i64 y3,.int .i64 y4,.int .i64 y5,.int .i64 y6,.string bd] 49)
     replace HBX:=aa (HBX.out.below bW4);replace HTK:=aa (RowAt.below HTK.out bW4 zr);replace kr:=kr.trans (bW4.mono kr.size);have HW4:Hid (wi.alloc (.cells #[.int .i64 yn,.int .i64 y0,.int .i64 y1,.int .i64 y2,.int .i64 y3,.int .i64 y4,.int .i64 y5,.int .i64 y6,.string bd] 49)=W4):=hW4.symm;clear hW4 bW4;go_wp2_with (first | rw [HW4.out] |(refine wpList_load_mid rfl 49 (.tmp 49) rfl b3 (off3+j*9) rfl _ _ R1.out Tryz.underlying49 rfl sizeArr ?_))
     clear HW4 R1;refine(hasGAx_any lk (jN yn) _ _ _ _ HTK.out (picks_stale (HBY.out.cell 0 _ rfl)) ent_stale hkt).mono ?_;rintro e X5 ⟨rfl,hbX5⟩;rw [HAN.out];replace HBX:=aa (HBX.out.below hbX5);replace HBY:=aa (HBY.out.below hbX5);replace HTK:=aa (RowAt.below HTK.out hbX5 zr);replace kr:=kr.trans (hbX5.mono kr.size);clear hbX5;have c0:=HBX.out.cell 0 _ rfl;have d3:=HBY.out.cell 3 _ rfl;clear HTK HBX HBY HAN;go_wp2_with fail
     go_roundw
     case rel=>exact⟨j+1,by omega,by go_num,kr⟩
     case measure=>simp [intOf];omega
    ·obtain rfl:j=l1.length:=(by omega);have kzz:=kz.trans (kr.mono kz.size);clear HTK HU1 HBX HALL;go_wp2_with fail
     go_roundw
     case rel=>exact⟨k+1,by omega,by go_num,kzz⟩
     case measure=>simp [intOf];omega
  ·obtain rfl:k=N:=(by omega);go_wp2_with fail
   go_ret;exact⟨rfl,HKW.out _ kz⟩
end
section
open Go.ChangeShapes Go.WideShapes Go.ChangeAt Go.RowKit
set_option maxRecDepth 100000 in
theorem topStale_lifted (os:Os) (started:os.Started) (H:Type) (enc:TypeId×Value→H):
  ReturnsInHanded {} Tryz.checked os 3 .any (Rows.topStaleSpec.pre6 enc Tryz.prog Tryz.f3 Rows.topStaleRow.domain false) (Rows.topStaleSpec.post enc Tryz.prog Tryz.f3 false true false false):=by
 refine returnsInHanded_of_change (C:=Tryz.checked) own started (by kernel_rfl) Tryz.func3
  (ChangeSpec.witness6 (enc:=enc) (C:=Tryz.checked) false ⟨#[], #[.slice none 0 0],[]⟩ 8 (by kernel_rfl) (by kernel_rfl) (by kernel_rfl) (by kernel_rfl)) ?_
 intro W base args ds gs before hval0 hW hcnd _;have hval:∀(j:Nat) t v,Tryz.f3.params[j]? =some t→args[j]? =some v→Value.okWide Tryz.prog W .any base t v:=hval0;have hW':=hW;obtain⟨p,q,hA0,hV,rfl,hfz,hnd⟩:=hW;have hA:DataW.TrodAll enc Tryz.prog W 0 (fun _=>true) true Tryz.f3.params.toList args.toList ds p:=hA0;rw [Tryz.params3]at hA hval;obtain⟨v0,vs0,d0,ds0,p0,q0,hargs,rfl,rfl,h0,r0⟩:=trodAll_cons hA;obtain⟨rfl,rfl,rfl⟩:=trodAll_nil r0;obtain rfl:args= #[v0]:=by cases args;simp_all
 obtain⟨rfl,rfl⟩:=trodVars_none hV;have k0:=h0;have lt0:∀x∈p0,x.block<W.heap.size:=by obtain⟨m,hm⟩:=k0;exact DataW.trod_lt m _ _ _ hm
 obtain⟨l0,hl0⟩:=oR (hval 0 22 v0 rfl rfl) h0;clear hA0 hval0;refine(topStale_any v0 l0 W hl0).mono fun e W' ⟨he,bel⟩=>?_;subst he;exact⟨_,rfl,_,_,_,[],_,[],hW',trodAll_mk1 (shut_bool Tryz.underlying4 _),(trodAll_cons_mk (Below.trod uw (by kernel_rfl) (of_decide_eq_true (by kernel_rfl)) k0 bel lt0) trodAll_mk0),rfl,bel.frame _,fun h=>by cases h⟩
theorem topStale_holds:Rows.TopStaleSaid:=
 OpenClaim.holds_of_wide 3 Tryz.f3 rfl rfl rfl rfl rfl rfl rfl ⟨rfl,rfl,rfl,rfl,rfl⟩ rfl rfl rfl rfl rfl (by kernel_rfl) Tryz.func3 (by kernel_rfl)
  (of_decide_eq_true (by kernel_rfl)) (by unfold Func.isWrapper;first |(rw [if_pos (by decide+kernel)];kernel_rfl) |(rw [if_neg (by decide+kernel)];exact⟨rfl,rfl⟩))
  (fun os started H enc _=>topStale_lifted os started H enc)
end
end Go.Proofs.YtjaclcbckngnlaaGreat
