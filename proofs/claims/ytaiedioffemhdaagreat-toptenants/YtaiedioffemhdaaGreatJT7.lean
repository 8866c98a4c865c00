/- Texts joined: Zy, Zz, Qs0, Zx0, Zx, Lay2, Xm, Sar, Kz, Tn, Tu, Kt, Ocf, Kr, Orw, Xn, Cia, Cap, Cd, Cy, Ch. -/
import Derived.Deep.DeepCutAuto
import Derived.Deep.Light
import Derived.Test.YtaiedioffemhdaaGreatRows
import Derived.Shelf.SlSortCmp.NoneTotal
import Derived.Deep.Slices
import Derived.SizedLaws
import Derived.Deep.RegionHeld3
import Derived.Deep.RegionLaw
import Derived.Lib.SliceRun
import Derived.Sort.WalkB12
import Derived.Laws.AppendOwnNone
import Derived.Deep.QuietTactic
import Derived.BigQuiet
import Derived.Deep.AppendLies
import Derived.Maps.AppendAt
import Derived.Test.YtaiedioffemhdaaGreatJT6
namespace Go.Proofs.YtaiedioffemhdaaGreat
open Go.RowKit
set_option linter.unusedVariables false
set_option maxRecDepth 100000
set_option maxHeartbeats 16000000
theorem wl {X A:List Ac} {y:Ac} {R:List Ac} {i:Nat} (hi:i<A.length):(bD X A y R 0).getD (X.length+1+i) ac0=A.getD i ac0:=by
 unfold bD;simp only [List.take_zero,List.drop_zero,List.nil_append];rw [List.append_assoc,Nat.add_assoc,bp,Nat.add_comm 1 i];show((y::A)++R).getD (i+1) ac0=_;rw [dH (by simp;omega)];rfl
theorem yR {X A:List Ac} {y:Ac} {R:List Ac} {i:Nat} (hi:i<A.length):(bD X A y R A.length).getD (X.length+i) ac0=A.getD i ac0:=by
 unfold bD;rw [List.take_length,List.drop_length,List.append_assoc,bp,List.append_assoc,dH hi]
theorem By {p q h:Nat} (hh:h=(p+q)/2):((p:Int)+(q:Int))/2=(h:Int):=by omega
theorem tQ (P Bq R:List Ac) (x:Ac) (B g c N a m b:Nat) (w:World) (hA:AcR w B g c N (P++ [x]++Bq++R)) (hS:AscA Bq) (ha:a=P.length) (hm:m=P.length+1) (hb:b=P.length+1+Bq.length) (hN:N≤1000):
  Calls Tryz.prog 224 #[.slice (some ⟨g,0,none⟩) N c,.int .i64 (a:Int),.int .i64 (m:Int),.int .i64 (b:Int),.func (.func 182) #[] #[]] w fun e w'=>e= .returned (.tuple #[])∧AcR w' B g c N (P++mrg aL [x] Bq++R)∧w.grownBy w' (some g):=by
 have hlen:P.length+1+Bq.length+R.length=N:=by have:=hA.1;simp only [List.length_append,List.length_cons,List.length_nil]at this;omega
 obtain⟨T,hT⟩:∃T,T=P++mrg aL [x] Bq++R:=⟨_,rfl⟩;rw [←hT];have HT:Hid (∀k,k≤Bq.length→(k=0∨x.p<(Bq.getD (k-1) ac0).p)→(k=Bq.length∨(Bq.getD k ac0).p≤x.p)→bD P Bq x R k=T):=aa (fun k h0 h1 h2=>by rw [hT,uU hS h0 h1 h2];rfl);have HA0:Hid (AcR w B g c N (bD P Bq x R 0)):=by refine aa ?_;unfold bD;simpa using hA
 have HCM:=aa jf;obtain⟨n,hn⟩:∃n,n=Bq.length:=⟨_,rfl⟩;have HN:=aa hn;obtain⟨ha2,ha3⟩:=le2 ha;obtain⟨hm2,hm3⟩:=le2 hm;obtain⟨hb2,hb3⟩:=le2 hb;obtain⟨hl2,hl3⟩:=le2 hlen;obtain⟨hn2,hn3⟩:=le2 hn;have hw1:IntKind.i64.wrap ((m:Int)-(a:Int))=1:=(bk _ (by omega) (by omega)).trans (by omega);clear hA hT ha hm hb hlen hn hS;go_enter Tryz.func224,Tryz.ntmps224;go_wp2_with fail
 go_loopw [10,11] (fun i j wr=>∃(k1 k2 i0 j0:Nat),(i0=m+k1∧j0=m+k2)∧(k1≤k2∧k2≤n)∧i= .int .i64 (i0:Int)∧j= .int .i64 (j0:Int)∧Hid (k1=0∨x.p<(Bq.getD (k1-1) ac0).p)∧Hid (k2=n∨(Bq.getD k2 ac0).p≤x.p)∧Hid (AcR wr B g c N (bD P Bq x R 0))∧Hid (w.grownBy wr (some g))) (fun i j _=>(intOf j).toNat-(intOf i).toNat)
 case atStart=>exact⟨0,n,m,b,⟨by omega,by omega⟩,⟨by omega,Nat.le_refl _⟩,rfl,rfl,aa (.inl rfl),aa (.inl rfl),HA0,aa (grown_refl' _ _)⟩
 case round=>
  clear HA0;obtain⟨k1,k2,i0,j0,⟨hi,hj⟩,⟨hk1,hk2⟩,rfl,rfl,HF1,HF2,HA,HG⟩:=hrel;obtain⟨hi2,hi3⟩:=le2 hi;obtain⟨hj2,hj3⟩:=le2 hj;clear hi hj;by_cases hlt:i0<j0
  ·obtain⟨h,hh⟩:∃h,h=(i0+j0)/2:=⟨_,rfl⟩;have e2:=By hh;have hih:i0≤h:=(by omega);have hhj:h<j0:=(by omega);clear hh;obtain⟨kh,hkh⟩:∃kh,kh=h-m:=⟨_,rfl⟩;obtain⟨hkh2,hkh3⟩:=le2 hkh;obtain⟨h1,hh1⟩:∃h1,h1=h+1:=⟨_,rfl⟩;obtain⟨hh2,hh3⟩:=le2 hh1;have hw2:IntKind.i64.wrap ((h:Int)+1)=(h1:Int):=(bk _ (by omega) (by omega)).trans (by omega);clear hkh hh1;have t0:(0:Int)≤(h:Int):=(by omega);have t1:(h:Int)<(N:Int):=(by omega);have t2:(0:Int)≤(a:Int):=(by omega);have t3:(a:Int)<(N:Int):=(by omega);obtain⟨z,hz⟩:∃z,z=Bq.getD kh ac0:=⟨_,rfl⟩;have HR1:Hid (∀W,AcR W B g c N (bD P Bq x R 0)→W.rangeAt g (h*9) (acC z)):=aa (fun W hW=>by have:=hW.range (i:=h) (by omega);rwa [show h=P.length+1+kh by omega,wl (by omega), ←hz, ←show h=P.length+1+kh by omega]at this);have HR2:Hid (∀W,AcR W B g c N (bD P Bq x R 0)→W.rangeAt g (a*9) (acC x)):=aa (fun W hW=>by have:=hW.range (i:=a) (by omega);rwa [show a=P.length+0 by omega,kg (by omega), ←show a=P.length+0 by omega]at this);have HLT:=aa (kF x.p z.p);have HZ:=aa hz;clear hz;go_wp2_with fail
   clear e2;have HD:Hid (AcR wr.drew B g c N _):=aa (HA.out.below ((Below.refl _ _).drew));refine wp_region_held_drew (S:=fun w'=>w'.rangeAt g (h*9) (acC z)∧w'.rangeAt g (a*9) (acC x)) (by kernel_rfl) ⟨HR1.out _ HD.out,HR2.out _ HD.out⟩ (fun hHeld=>?_);refine sqA [(0,40),(1,41),(2,42),(3,43)] ?_;(iterate 4 (refine sqN rfl (by kernel_rfl) (fun _ _ _ h=>h) rfl ‹_› (by intro w h;go_simp <;>with_reducible rfl) ?_;simp only [nz]));refine sqZ ?_;refine wpAnyH_take (i:=4) (oi:=⟨some 44,_,_,_,_,_⟩) (v:=.agg (acC z).toArray) rfl (by kernel_rfl) (by kernel_rfl) (by kernel_rfl) (fun _ _ _ h=>h) (yieldsIf_load_mid (by rfl) 55 (.tmp 43) rfl g (h*9) rfl (acC z) _ (fun w h=>h.1) Tryz.underlying55 rfl aO) (by assumption) ?_;(try simp only [nz]);refine sqA [(5,45),(6,46),(7,47)] ?_;(iterate 3 (refine sqN rfl (by kernel_rfl) (fun _ _ _ h=>h) rfl ‹_› (by intro w h;go_simp <;>with_reducible rfl) ?_;simp only [nz]));refine sqZ ?_;refine wpAnyH_take (i:=8) (oi:=⟨some 48,_,_,_,_,_⟩) (v:=.agg (acC x).toArray) rfl (by kernel_rfl) (by kernel_rfl) (by kernel_rfl) (fun _ _ _ h=>h) (yieldsIf_load_mid (by rfl) 55 (.tmp 47) rfl g (a*9) rfl (acC x) _ (fun w h=>h.2) Tryz.underlying55 rfl aO) (by assumption) ?_;(try simp only [nz]);refine Go.Proofs.YtaiedioffemhdaaGreat.rs 9 49 (by kernel_rfl) rfl (fun K hK=>?_);go_simp;clear hHeld;refine(ag HCM z x _).mono ?_;rintro e V ⟨rfl,hb⟩;replace HA:=aa (HD.out.below hb);replace HG:=aa (cN HG.out (((Below.refl _ _).drew).trans hb));clear HD hb;refine hK.out _ _ ⟨HR1.out _ HA.out,HR2.out _ HA.out⟩ (fun hHeld=>?_);clear hK K;(try simp only [nz]);refine tq 10 50 rfl (by kernel_rfl) (fun _ _ _ h=>h) rfl ‹_› (by intro w h;go_simp <;>with_reducible rfl) ?_;simp only [nz];refine wpAnyH_done (by kernel_rfl) ?_ _;clear hHeld;by_cases hle:x.p<z.p
   ·have hl2x:aS x.p z.p<0:=by rw [HLT.out];exact hle
    have HF3:Hid (kh+1=0∨x.p<(Bq.getD (kh+1-1) ac0).p):=aa (.inr (by rw [Nat.add_sub_cancel, ←HZ.out];exact hle));clear HR1 HR2 HF1;go_wp2_with fail
    go_roundw
    case rel=>exact⟨kh+1,k2,h1,j0,⟨by omega,by omega⟩,⟨by omega,hk2⟩,rfl,rfl,HF3,HF2,HA,HG⟩
    case measure=>simp [intOf];omega
   ·have hl2x:¬aS x.p z.p<0:=by rw [HLT.out];exact hle
    have HF3:Hid (kh=n∨(Bq.getD kh ac0).p≤x.p):=aa (.inr (by rw [←HZ.out];omega));clear HR1 HR2 HF2;go_wp2_with fail
    go_roundw
    case rel=>exact⟨k1,kh,i0,h,⟨by omega,by omega⟩,⟨by omega,by omega⟩,rfl,rfl,HF1,HF3,HA,HG⟩
    case measure=>simp [intOf];omega
  ·have hke:k1=k2:=(by omega);have HTT:=aa (HT.out k1 (by omega) HF1.out (by rw [hke, ←HN.out];exact HF2.out));clear hke HF1 HF2 HT;obtain⟨il,hil⟩:∃il,il=i0-1:=⟨_,rfl⟩;obtain⟨hil2,hil3⟩:=le2 hil;have hw3:IntKind.i64.wrap ((i0:Int)-1)=(il:Int):=(bk _ (by omega) (by omega)).trans (by omega);clear hil
   rename World=>W1
   go_wp2_with fail
   go_loopw [13] (fun v wr=>∃(t v0:Nat),v0=a+t∧t≤k1∧v= .int .i64 (v0:Int)∧Hid (AcR wr B g c N (bD P Bq x R t))∧Hid (w.grownBy wr (some g))) (fun v _=>i0-(intOf v).toNat)
   case atStart=>exact⟨0,a,by omega,by omega,rfl,HA,HG⟩
   case round=>
    clear HA HG;obtain⟨t,v0,hv,htk,rfl,HA,HG⟩:=hrel;obtain⟨hv2,hv3⟩:=le2 hv;clear hv;by_cases htl:t<k1
    ·have htn:t<Bq.length:=(by omega);have q1:(v0:Int)<(il:Int):=(by omega);obtain⟨v1,hv1⟩:∃v1,v1=v0+1:=⟨_,rfl⟩;obtain⟨hv4,hv5⟩:=le2 hv1;have hw4:IntKind.i64.wrap ((v0:Int)+1)=(v1:Int):=(bk _ (by omega) (by omega)).trans (by omega);clear hv1;have t0:(0:Int)≤(v0:Int):=(by omega);have t1:(v0:Int)<(N:Int):=(by omega);have t2:(0:Int)≤(v1:Int):=(by omega);have t3:(v1:Int)<(N:Int):=(by omega);obtain⟨z,hz⟩:∃z,z=Bq.getD t ac0:=⟨_,rfl⟩;have HR1:Hid (∀W,AcR W B g c N (bD P Bq x R t)→W.rangeAt g (v0*9) (acC x)):=aa (fun W hW=>by have:=hW.range (i:=v0) (by omega);rwa [show v0=P.length+t by omega,kg (by omega), ←show v0=P.length+t by omega]at this);have HR2:Hid (∀W,AcR W B g c N (bD P Bq x R t)→W.rangeAt g (v1*9) (acC z)):=aa (fun W hW=>by have:=hW.range (i:=v1) (by omega);rwa [show v1=P.length+t+1 by omega,vY htn, ←hz, ←show v1=P.length+t+1 by omega]at this);have HSW:Hid (((bD P Bq x R t).set v0 z).set v1 x=bD P Bq x R (t+1)):=aa (by rw [hz,show v1=P.length+t+1 by omega,show v0=P.length+t by omega];exact nm htn);clear hz;obtain⟨LL,hLL⟩:∃LL,LL=bD P Bq x R t:=⟨_,rfl⟩;rw [←hLL]at HA HR1 HR2 HSW;clear hLL;go_wp2_with fail
     apply kx _ (fun w'=>AcR w' B g c N ((LL.set v0 z).set v1 x)∧w.grownBy w' (some g))
     ·have hDr:Below wr.heap.size wr wr.drew:=(Below.refl _ _).drew;replace HA:=aa (HA.out.below hDr);replace HG:=aa (cN HG.out hDr);clear hDr;refine wp_region_held_drew (S:=fun _=>True) (by kernel_rfl) trivial (fun hHeld=>?_);generalize wr.drew=V2 at*;refine sqA [(0,61),(1,62),(2,63),(3,64),(4,65),(5,66),(6,67),(7,68),(8,69),(10,71),(11,72),(12,73)] ?_;(iterate 12 (refine sqN rfl (by kernel_rfl) (fun _ _ _ h=>absurd h.1 (by simp)) rfl ‹_› (by intro w h;go_simp <;>with_reducible rfl) ?_;simp only [nz]));refine sqZ ?_;refine wpAnyH_ready (rs:=[9,13]) (by kernel_rfl) (by simp) ?_;refine(AllReadyH.cons (o:=⟨some 70,_,_,_,_,_⟩) rfl (fun K hK=>?_) (AllReadyH.cons (o:=⟨some 74,_,_,_,_,_⟩) rfl (fun K hK=>?_) AllReadyH.nil))
      ·rw [if_pos (by rfl)];clear hHeld;refine wp_load_mid 55 (.tmp 69) rfl g (v1*9) rfl (acC z) _ (HR2.out _ HA.out) Tryz.underlying55 rfl aO ?_;refine hK.out _ _ trivial (fun hHeld=>?_);clear hK K;(try simp only [nz]);refine Go.Proofs.YtaiedioffemhdaaGreat.rs 13 74 (by kernel_rfl) rfl (fun K hK=>?_);rw [if_pos (by rfl)];clear hHeld;refine wp_load_mid 55 (.tmp 73) rfl g (v0*9) rfl (acC x) _ (HR1.out _ HA.out) Tryz.underlying55 rfl aO ?_;refine hK.out _ _ trivial (fun hHeld=>?_);clear hK K;(try simp only [nz]);refine tq 14 75 rfl (by kernel_rfl) (fun _ _ _ h=>absurd h.1 (by simp)) rfl ‹_› (by intro w h;go_simp <;>with_reducible rfl) ?_;simp only [nz];refine Go.Proofs.YtaiedioffemhdaaGreat.rn 15 (by kernel_rfl) rfl (fun K hK=>?_);rw [if_pos (by rfl)];clear hHeld;refine wp_store_mid 55 (.tmp 75) (.tmp 70) rfl g (v0*9) (acC z).toArray rfl rfl (AcR.there HA.out (i:=v0) (by omega)) aO (dO rfl) ?_;rw [show(acC z).toArray.toList=acC z from rfl];have HP0:=aa (AcR.put HA.out (i:=v0) (by omega) z).1;have hq0:=(AcR.put HA.out (i:=v0) (by omega) z).2;generalize World.setCells _ g (v0*9) (acC z)=V20 at*;refine hK.out _ _ trivial (fun hHeld=>?_);clear hK K;(try simp only [Act.put]);refine tq 16 76 rfl (by kernel_rfl) (fun _ _ _ h=>absurd h.1 (by simp)) rfl ‹_› (by intro w h;go_simp <;>with_reducible rfl) ?_;simp only [nz];refine Go.Proofs.YtaiedioffemhdaaGreat.rn 17 (by kernel_rfl) rfl (fun K hK=>?_);rw [if_pos (by rfl)];clear hHeld;refine wp_store_mid 55 (.tmp 76) (.tmp 74) rfl g (v1*9) (acC x).toArray rfl rfl (AcR.there HP0.out (i:=v1) (by omega)) aO (dO rfl) ?_;rw [show(acC x).toArray.toList=acC x from rfl];have HP1:=aa (AcR.put HP0.out (i:=v1) (by omega) x).1;have hq1:=(AcR.put HP0.out (i:=v1) (by omega) x).2;generalize World.setCells _ g (v1*9) (acC x)=V21 at*;refine hK.out _ _ trivial (fun hHeld=>?_);clear hK K;(try simp only [Act.put]);refine wpAnyH_done (by kernel_rfl) ?_ _;clear hHeld;exact⟨rfl,rfl,HP1.out,aC HG.out (aC hq0 hq1)⟩
      ·rw [if_pos (by rfl)];clear hHeld;refine wp_load_mid 55 (.tmp 73) rfl g (v0*9) rfl (acC x) _ (HR1.out _ HA.out) Tryz.underlying55 rfl aO ?_;refine hK.out _ _ trivial (fun hHeld=>?_);clear hK K;(try simp only [nz]);refine Go.Proofs.YtaiedioffemhdaaGreat.rs 9 70 (by kernel_rfl) rfl (fun K hK=>?_);rw [if_pos (by rfl)];clear hHeld;refine wp_load_mid 55 (.tmp 69) rfl g (v1*9) rfl (acC z) _ (HR2.out _ HA.out) Tryz.underlying55 rfl aO ?_;refine hK.out _ _ trivial (fun hHeld=>?_);clear hK K;(try simp only [nz]);refine tq 14 75 rfl (by kernel_rfl) (fun _ _ _ h=>absurd h.1 (by simp)) rfl ‹_› (by intro w h;go_simp <;>with_reducible rfl) ?_;simp only [nz];refine Go.Proofs.YtaiedioffemhdaaGreat.rn 15 (by kernel_rfl) rfl (fun K hK=>?_);rw [if_pos (by rfl)];clear hHeld;refine wp_store_mid 55 (.tmp 75) (.tmp 70) rfl g (v0*9) (acC z).toArray rfl rfl (AcR.there HA.out (i:=v0) (by omega)) aO (dO rfl) ?_;rw [show(acC z).toArray.toList=acC z from rfl];have HP0:=aa (AcR.put HA.out (i:=v0) (by omega) z).1;have hq0:=(AcR.put HA.out (i:=v0) (by omega) z).2;generalize World.setCells _ g (v0*9) (acC z)=V20 at*;refine hK.out _ _ trivial (fun hHeld=>?_);clear hK K;(try simp only [Act.put]);refine tq 16 76 rfl (by kernel_rfl) (fun _ _ _ h=>absurd h.1 (by simp)) rfl ‹_› (by intro w h;go_simp <;>with_reducible rfl) ?_;simp only [nz];refine Go.Proofs.YtaiedioffemhdaaGreat.rn 17 (by kernel_rfl) rfl (fun K hK=>?_);rw [if_pos (by rfl)];clear hHeld;refine wp_store_mid 55 (.tmp 76) (.tmp 74) rfl g (v1*9) (acC x).toArray rfl rfl (AcR.there HP0.out (i:=v1) (by omega)) aO (dO rfl) ?_;rw [show(acC x).toArray.toList=acC x from rfl];have HP1:=aa (AcR.put HP0.out (i:=v1) (by omega) x).1;have hq1:=(AcR.put HP0.out (i:=v1) (by omega) x).2;generalize World.setCells _ g (v1*9) (acC x)=V21 at*;refine hK.out _ _ trivial (fun hHeld=>?_);clear hK K;(try simp only [Act.put]);refine wpAnyH_done (by kernel_rfl) ?_ _;clear hHeld;exact⟨rfl,rfl,HP1.out,aC HG.out (aC hq0 hq1)⟩
     intro W3 hW3;obtain⟨hA3,hG3⟩:=hW3;rw [HSW.out]at hA3;have HA3:=aa hA3;have HG3:=aa hG3;clear hA3 hG3 HA HG HR1 HR2 HSW;go_wp2_with fail
     go_roundw
     case rel=>exact⟨t+1,v1,by omega,by omega,rfl,HA3,HG3⟩
     case measure=>simp [intOf];omega
    ·have htk2:t=k1:=(by omega);have q1:¬((v0:Int)<(il:Int)):=(by omega);have HE:Hid (AcR wr B g c N T):=by rw [←HTT.out, ←htk2];exact HA
     clear HA HTT htk2;go_wp2_with fail
     (try simp only [Exit.inBlock,Exit.then]);refine bodyPost_ret (results_none rfl _ _ _) rfl ?_
     exact⟨rfl,HE.out,HG.out⟩
theorem rZ (P A R:List Ac) (y:Ac) (B g c N a m b:Nat) (w:World) (hA:AcR w B g c N (P++A++ [y]++R)) (hS:AscA A) (h2:2≤A.length) (ha:a=P.length) (hm:m=P.length+A.length) (hb:b=P.length+A.length+1) (hN:N≤1000):
  Calls Tryz.prog 224 #[.slice (some ⟨g,0,none⟩) N c,.int .i64 (a:Int),.int .i64 (m:Int),.int .i64 (b:Int),.func (.func 182) #[] #[]] w fun e w'=>e= .returned (.tuple #[])∧AcR w' B g c N (P++mrg aL A [y]++R)∧w.grownBy w' (some g):=by
 have hlen:P.length+A.length+1+R.length=N:=by have:=hA.1;simp only [List.length_append,List.length_cons,List.length_nil]at this;omega
 obtain⟨T,hT⟩:∃T,T=P++mrg aL A [y]++R:=⟨_,rfl⟩;rw [←hT];have HT:Hid (∀k,k≤A.length→(k=0∨y.p≤(A.getD (k-1) ac0).p)→(k=A.length∨(A.getD k ac0).p<y.p)→bD P A y R k=T):=aa (fun k h0 h1 h2=>by rw [hT,nw hS h0 h1 h2];rfl);have HA0:Hid (AcR w B g c N (bD P A y R A.length)):=by refine aa ?_;unfold bD;simpa using hA
 have HCM:=aa jf;obtain⟨n,hn⟩:∃n,n=A.length:=⟨_,rfl⟩;have HN:=aa hn;rw [←hn]at HA0;obtain⟨ha2,ha3⟩:=le2 ha;obtain⟨hm2,hm3⟩:=le2 hm;obtain⟨hb2,hb3⟩:=le2 hb;obtain⟨hl2,hl3⟩:=le2 hlen;obtain⟨hn2,hn3⟩:=le2 hn;obtain⟨ma,hma⟩:∃ma,ma=m-a:=⟨_,rfl⟩;obtain⟨hma2,hma3⟩:=le2 hma;have hw1:IntKind.i64.wrap ((m:Int)-(a:Int))=(ma:Int):=(bk _ (by omega) (by omega)).trans (by omega);have hw0:IntKind.i64.wrap ((b:Int)-(m:Int))=1:=(bk _ (by omega) (by omega)).trans (by omega);have hm1:((ma:Int)==1)=false:=by simp;omega
 have hm1b:¬ma=1:=by omega
 clear hA hT ha hm hb hlen hn hS hma h2;go_enter Tryz.func224,Tryz.ntmps224;go_wp2_with fail
 go_loopw [14,15] (fun i j wr=>∃(k1 k2 i0 j0:Nat),(i0=a+k1∧j0=a+k2)∧(k1≤k2∧k2≤n)∧i= .int .i64 (i0:Int)∧j= .int .i64 (j0:Int)∧Hid (k1=0∨y.p≤(A.getD (k1-1) ac0).p)∧Hid (k2=n∨(A.getD k2 ac0).p<y.p)∧Hid (AcR wr B g c N (bD P A y R n))∧Hid (w.grownBy wr (some g))) (fun i j _=>(intOf j).toNat-(intOf i).toNat)
 case atStart=>exact⟨0,n,a,m,⟨by omega,by omega⟩,⟨by omega,Nat.le_refl _⟩,rfl,rfl,aa (.inl rfl),aa (.inl rfl),HA0,aa (grown_refl' _ _)⟩
 case round=>
  clear HA0;obtain⟨k1,k2,i0,j0,⟨hi,hj⟩,⟨hk1,hk2⟩,rfl,rfl,HF1,HF2,HA,HG⟩:=hrel;obtain⟨hi2,hi3⟩:=le2 hi;obtain⟨hj2,hj3⟩:=le2 hj;clear hi hj;by_cases hlt:i0<j0
  ·obtain⟨h,hh⟩:∃h,h=(i0+j0)/2:=⟨_,rfl⟩;have e2:=By hh;have hih:i0≤h:=(by omega);have hhj:h<j0:=(by omega);clear hh;obtain⟨kh,hkh⟩:∃kh,kh=h-a:=⟨_,rfl⟩;obtain⟨hkh2,hkh3⟩:=le2 hkh;obtain⟨h1,hh1⟩:∃h1,h1=h+1:=⟨_,rfl⟩;obtain⟨hh2,hh3⟩:=le2 hh1;have hw2:IntKind.i64.wrap ((h:Int)+1)=(h1:Int):=(bk _ (by omega) (by omega)).trans (by omega);clear hkh hh1;have t0:(0:Int)≤(h:Int):=(by omega);have t1:(h:Int)<(N:Int):=(by omega);have t2:(0:Int)≤(m:Int):=(by omega);have t3:(m:Int)<(N:Int):=(by omega);obtain⟨z,hz⟩:∃z,z=A.getD kh ac0:=⟨_,rfl⟩;have HR1:Hid (∀W,AcR W B g c N (bD P A y R n)→W.rangeAt g (m*9) (acC y)):=aa (fun W hW=>by have:=hW.range (i:=m) (by omega);rwa [show m=P.length+n by omega,kg (by omega), ←show m=P.length+n by omega]at this);have HR2:Hid (∀W,AcR W B g c N (bD P A y R n)→W.rangeAt g (h*9) (acC z)):=aa (fun W hW=>by have:=hW.range (i:=h) (by omega);rwa [HN.out,show h=P.length+kh by omega,yR (by omega), ←hz, ←show h=P.length+kh by omega]at this);have HLT:=aa (kF z.p y.p);have HZ:=aa hz;clear hz;go_wp2_with fail
   clear e2;have HD:Hid (AcR wr.drew B g c N _):=aa (HA.out.below ((Below.refl _ _).drew));refine wp_region_held_drew (S:=fun w'=>w'.rangeAt g (m*9) (acC y)∧w'.rangeAt g (h*9) (acC z)) (by kernel_rfl) ⟨HR1.out _ HD.out,HR2.out _ HD.out⟩ (fun hHeld=>?_);refine sqA [(0,92),(1,93),(2,94),(3,95)] ?_;(iterate 4 (refine sqN rfl (by kernel_rfl) (fun _ _ _ h=>h) rfl ‹_› (by intro w h;go_simp <;>with_reducible rfl) ?_;simp only [nz]));refine sqZ ?_;refine wpAnyH_take (i:=4) (oi:=⟨some 96,_,_,_,_,_⟩) (v:=.agg (acC y).toArray) rfl (by kernel_rfl) (by kernel_rfl) (by kernel_rfl) (fun _ _ _ h=>h) (yieldsIf_load_mid (by rfl) 55 (.tmp 95) rfl g (m*9) rfl (acC y) _ (fun w h=>h.1) Tryz.underlying55 rfl aO) (by assumption) ?_;(try simp only [nz]);refine sqA [(5,97),(6,98),(7,99)] ?_;(iterate 3 (refine sqN rfl (by kernel_rfl) (fun _ _ _ h=>h) rfl ‹_› (by intro w h;go_simp <;>with_reducible rfl) ?_;simp only [nz]));refine sqZ ?_;refine wpAnyH_take (i:=8) (oi:=⟨some 100,_,_,_,_,_⟩) (v:=.agg (acC z).toArray) rfl (by kernel_rfl) (by kernel_rfl) (by kernel_rfl) (fun _ _ _ h=>h) (yieldsIf_load_mid (by rfl) 55 (.tmp 99) rfl g (h*9) rfl (acC z) _ (fun w h=>h.2) Tryz.underlying55 rfl aO) (by assumption) ?_;(try simp only [nz]);refine Go.Proofs.YtaiedioffemhdaaGreat.rs 9 101 (by kernel_rfl) rfl (fun K hK=>?_);go_simp;clear hHeld;refine(ag HCM y z _).mono ?_;rintro e V ⟨rfl,hb⟩;replace HA:=aa (HD.out.below hb);replace HG:=aa (cN HG.out (((Below.refl _ _).drew).trans hb));clear HD hb;refine hK.out _ _ ⟨HR1.out _ HA.out,HR2.out _ HA.out⟩ (fun hHeld=>?_);clear hK K;(try simp only [nz]);refine sqA [(10,102),(11,103)] ?_;(iterate 2 (refine sqN rfl (by kernel_rfl) (fun _ _ _ h=>h) rfl ‹_› (by intro w h;go_simp <;>with_reducible rfl) ?_;simp only [nz]));refine sqZ ?_;refine wpAnyH_done (by kernel_rfl) ?_ _;clear hHeld;by_cases hle:z.p<y.p
   ·have hl2x:aS z.p y.p<0:=by rw [HLT.out];exact hle
    have hl3x:(!decide (aS z.p y.p<0))=false:=(by simp only [hl2x,decide_true,Bool.not_true]);rw [hl3x];have HF3:Hid (kh=n∨(A.getD kh ac0).p<y.p):=aa (.inr (by rw [←HZ.out];exact hle));clear HR1 HR2 HF2;go_wp2_with fail
    go_roundw
    case rel=>exact⟨k1,kh,i0,h,⟨by omega,by omega⟩,⟨by omega,by omega⟩,rfl,rfl,HF1,HF3,HA,HG⟩
    case measure=>simp [intOf];omega
   ·have hl2x:¬aS z.p y.p<0:=by rw [HLT.out];exact hle
    have hl3x:(!decide (aS z.p y.p<0))=true:=(by simp only [hl2x,decide_false,Bool.not_false]);rw [hl3x];have HF3:Hid (kh+1=0∨y.p≤(A.getD (kh+1-1) ac0).p):=aa (.inr (by rw [Nat.add_sub_cancel, ←HZ.out];omega));clear HR1 HR2 HF1;go_wp2_with fail
    go_roundw
    case rel=>exact⟨kh+1,k2,h1,j0,⟨by omega,by omega⟩,⟨by omega,hk2⟩,rfl,rfl,HF3,HF2,HA,HG⟩
    case measure=>simp [intOf];omega
  ·have hke:k1=k2:=(by omega);have HTT:=aa (HT.out k1 (by omega) HF1.out (by rw [hke, ←HN.out];exact HF2.out));clear hke HF1 HF2 HT
   rename World=>W1
   go_wp2_with fail
   go_loopw [17] (fun v wr=>∃(t v0:Nat),v0=a+t∧(k1≤t∧t≤n)∧v= .int .i64 (v0:Int)∧Hid (AcR wr B g c N (bD P A y R t))∧Hid (w.grownBy wr (some g))) (fun v _=>(intOf v).toNat)
   case atStart=>exact⟨n,m,by omega,⟨by omega,Nat.le_refl _⟩,rfl,HA,HG⟩
   case round=>
    clear HA HG;obtain⟨t,v0,hv,⟨htk,htn⟩,rfl,HA,HG⟩:=hrel;obtain⟨hv2,hv3⟩:=le2 hv;clear hv;by_cases htl:k1<t
    ·obtain⟨l,rfl⟩:∃l,t=l+1:=⟨t-1,by omega⟩;have hln:l<A.length:=(by omega);have q1:(i0:Int)<(v0:Int):=(by omega);obtain⟨v1,hv1⟩:∃v1,v1=v0-1:=⟨_,rfl⟩;obtain⟨hv4,hv5⟩:=le2 hv1;have hw4:IntKind.i64.wrap ((v0:Int)-1)=(v1:Int):=(bk _ (by omega) (by omega)).trans (by omega);clear hv1;have t0:(0:Int)≤(v0:Int):=(by omega);have t1:(v0:Int)<(N:Int):=(by omega);have t2:(0:Int)≤(v1:Int):=(by omega);have t3:(v1:Int)<(N:Int):=(by omega);obtain⟨z,hz⟩:∃z,z=A.getD l ac0:=⟨_,rfl⟩;have HR1:Hid (∀W,AcR W B g c N (bD P A y R (l+1))→W.rangeAt g (v0*9) (acC y)):=aa (fun W hW=>by have:=hW.range (i:=v0) (by omega);rwa [show v0=P.length+(l+1) by omega,kg (by omega), ←show v0=P.length+(l+1) by omega]at this);have HR2:Hid (∀W,AcR W B g c N (bD P A y R (l+1))→W.rangeAt g (v1*9) (acC z)):=aa (fun W hW=>by have:=hW.range (i:=v1) (by omega);rwa [show v1=P.length+l by omega,jX hln, ←hz, ←show v1=P.length+l by omega]at this);have HSW:Hid (((bD P A y R (l+1)).set v0 z).set v1 y=bD P A y R l):=aa (by rw [hz,show v0=P.length+l+1 by omega,show v1=P.length+l by omega];exact oU hln);clear hz;obtain⟨LL,hLL⟩:∃LL,LL=bD P A y R (l+1):=⟨_,rfl⟩;rw [←hLL]at HA HR1 HR2 HSW;clear hLL;go_wp2_with fail
     apply kx _ (fun w'=>AcR w' B g c N ((LL.set v0 z).set v1 y)∧w.grownBy w' (some g))
     ·have hDr:Below wr.heap.size wr wr.drew:=(Below.refl _ _).drew;replace HA:=aa (HA.out.below hDr);replace HG:=aa (cN HG.out hDr);clear hDr;refine wp_region_held_drew (S:=fun _=>True) (by kernel_rfl) trivial (fun hHeld=>?_);generalize wr.drew=V2 at*;refine sqA [(0,113),(1,114),(2,115),(3,116),(4,117),(5,118),(6,119),(7,120),(8,121),(10,123),(11,124),(12,125)] ?_;(iterate 12 (refine sqN rfl (by kernel_rfl) (fun _ _ _ h=>absurd h.1 (by simp)) rfl ‹_› (by intro w h;go_simp <;>with_reducible rfl) ?_;simp only [nz]));refine sqZ ?_;refine wpAnyH_ready (rs:=[9,13]) (by kernel_rfl) (by simp) ?_;refine(AllReadyH.cons (o:=⟨some 122,_,_,_,_,_⟩) rfl (fun K hK=>?_) (AllReadyH.cons (o:=⟨some 126,_,_,_,_,_⟩) rfl (fun K hK=>?_) AllReadyH.nil))
      ·rw [if_pos (by rfl)];clear hHeld;refine wp_load_mid 55 (.tmp 121) rfl g (v1*9) rfl (acC z) _ (HR2.out _ HA.out) Tryz.underlying55 rfl aO ?_;refine hK.out _ _ trivial (fun hHeld=>?_);clear hK K;(try simp only [nz]);refine Go.Proofs.YtaiedioffemhdaaGreat.rs 13 126 (by kernel_rfl) rfl (fun K hK=>?_);rw [if_pos (by rfl)];clear hHeld;refine wp_load_mid 55 (.tmp 125) rfl g (v0*9) rfl (acC y) _ (HR1.out _ HA.out) Tryz.underlying55 rfl aO ?_;refine hK.out _ _ trivial (fun hHeld=>?_);clear hK K;(try simp only [nz]);refine tq 14 127 rfl (by kernel_rfl) (fun _ _ _ h=>absurd h.1 (by simp)) rfl ‹_› (by intro w h;go_simp <;>with_reducible rfl) ?_;simp only [nz];refine Go.Proofs.YtaiedioffemhdaaGreat.rn 15 (by kernel_rfl) rfl (fun K hK=>?_);rw [if_pos (by rfl)];clear hHeld;refine wp_store_mid 55 (.tmp 127) (.tmp 122) rfl g (v0*9) (acC z).toArray rfl rfl (AcR.there HA.out (i:=v0) (by omega)) aO (dO rfl) ?_;rw [show(acC z).toArray.toList=acC z from rfl];have HP0:=aa (AcR.put HA.out (i:=v0) (by omega) z).1;have hq0:=(AcR.put HA.out (i:=v0) (by omega) z).2;generalize World.setCells _ g (v0*9) (acC z)=V20 at*;refine hK.out _ _ trivial (fun hHeld=>?_);clear hK K;(try simp only [Act.put]);refine tq 16 128 rfl (by kernel_rfl) (fun _ _ _ h=>absurd h.1 (by simp)) rfl ‹_› (by intro w h;go_simp <;>with_reducible rfl) ?_;simp only [nz];refine Go.Proofs.YtaiedioffemhdaaGreat.rn 17 (by kernel_rfl) rfl (fun K hK=>?_);rw [if_pos (by rfl)];clear hHeld;refine wp_store_mid 55 (.tmp 128) (.tmp 126) rfl g (v1*9) (acC y).toArray rfl rfl (AcR.there HP0.out (i:=v1) (by omega)) aO (dO rfl) ?_;rw [show(acC y).toArray.toList=acC y from rfl];have HP1:=aa (AcR.put HP0.out (i:=v1) (by omega) y).1;have hq1:=(AcR.put HP0.out (i:=v1) (by omega) y).2;generalize World.setCells _ g (v1*9) (acC y)=V21 at*;refine hK.out _ _ trivial (fun hHeld=>?_);clear hK K;(try simp only [Act.put]);refine wpAnyH_done (by kernel_rfl) ?_ _;clear hHeld;exact⟨rfl,rfl,HP1.out,aC HG.out (aC hq0 hq1)⟩
      ·rw [if_pos (by rfl)];clear hHeld;refine wp_load_mid 55 (.tmp 125) rfl g (v0*9) rfl (acC y) _ (HR1.out _ HA.out) Tryz.underlying55 rfl aO ?_;refine hK.out _ _ trivial (fun hHeld=>?_);clear hK K;(try simp only [nz]);refine Go.Proofs.YtaiedioffemhdaaGreat.rs 9 122 (by kernel_rfl) rfl (fun K hK=>?_);rw [if_pos (by rfl)];clear hHeld;refine wp_load_mid 55 (.tmp 121) rfl g (v1*9) rfl (acC z) _ (HR2.out _ HA.out) Tryz.underlying55 rfl aO ?_;refine hK.out _ _ trivial (fun hHeld=>?_);clear hK K;(try simp only [nz]);refine tq 14 127 rfl (by kernel_rfl) (fun _ _ _ h=>absurd h.1 (by simp)) rfl ‹_› (by intro w h;go_simp <;>with_reducible rfl) ?_;simp only [nz];refine Go.Proofs.YtaiedioffemhdaaGreat.rn 15 (by kernel_rfl) rfl (fun K hK=>?_);rw [if_pos (by rfl)];clear hHeld;refine wp_store_mid 55 (.tmp 127) (.tmp 122) rfl g (v0*9) (acC z).toArray rfl rfl (AcR.there HA.out (i:=v0) (by omega)) aO (dO rfl) ?_;rw [show(acC z).toArray.toList=acC z from rfl];have HP0:=aa (AcR.put HA.out (i:=v0) (by omega) z).1;have hq0:=(AcR.put HA.out (i:=v0) (by omega) z).2;generalize World.setCells _ g (v0*9) (acC z)=V20 at*;refine hK.out _ _ trivial (fun hHeld=>?_);clear hK K;(try simp only [Act.put]);refine tq 16 128 rfl (by kernel_rfl) (fun _ _ _ h=>absurd h.1 (by simp)) rfl ‹_› (by intro w h;go_simp <;>with_reducible rfl) ?_;simp only [nz];refine Go.Proofs.YtaiedioffemhdaaGreat.rn 17 (by kernel_rfl) rfl (fun K hK=>?_);rw [if_pos (by rfl)];clear hHeld;refine wp_store_mid 55 (.tmp 128) (.tmp 126) rfl g (v1*9) (acC y).toArray rfl rfl (AcR.there HP0.out (i:=v1) (by omega)) aO (dO rfl) ?_;rw [show(acC y).toArray.toList=acC y from rfl];have HP1:=aa (AcR.put HP0.out (i:=v1) (by omega) y).1;have hq1:=(AcR.put HP0.out (i:=v1) (by omega) y).2;generalize World.setCells _ g (v1*9) (acC y)=V21 at*;refine hK.out _ _ trivial (fun hHeld=>?_);clear hK K;(try simp only [Act.put]);refine wpAnyH_done (by kernel_rfl) ?_ _;clear hHeld;exact⟨rfl,rfl,HP1.out,aC HG.out (aC hq0 hq1)⟩
     intro W3 hW3;obtain⟨hA3,hG3⟩:=hW3;rw [HSW.out]at hA3;have HA3:=aa hA3;have HG3:=aa hG3;clear hA3 hG3 HA HG HR1 HR2 HSW;go_wp2_with fail
     go_roundw
     case rel=>exact⟨l,v1,by omega,⟨by omega,by omega⟩,rfl,HA3,HG3⟩
     case measure=>simp [intOf];omega
    ·have htk2:t=k1:=(by omega);have q1:¬((i0:Int)<(v0:Int)):=(by omega);have HE:Hid (AcR wr B g c N T):=by rw [←HTT.out, ←htk2];exact HA
     clear HA HTT htk2;go_wp2_with fail
     (try simp only [Exit.inBlock,Exit.then]);refine bodyPost_ret (results_none rfl _ _ _) rfl ?_
     exact⟨rfl,HE.out,HG.out⟩
theorem A9 {P A Bq R:List Ac} {i:Nat} (hi:i<A.length):(P++A++Bq++R).getD (P.length+i) ac0=A.getD i ac0:=by
 rw [List.append_assoc,List.append_assoc,bp,dH hi]
theorem AY {P A Bq R:List Ac} {i:Nat} (hi:i<Bq.length):(P++A++Bq++R).getD (P.length+A.length+i) ac0=Bq.getD i ac0:=by
 rw [List.append_assoc,show P.length+A.length=(P++A).length by simp,bp,dH hi]
theorem AH (n:Nat) (h:n≤1000000):IntKind.u64.wrap (n:Int)=(n:Int):=by
 simp [IntKind.wrap,IntKind.bits,IntKind.signed];omega
def AF (n:Nat):Prop:=∀(P A Bq R:List Ac) (B g c N a m b:Nat) (w:World),A.length+Bq.length≤n→0<A.length→0<Bq.length→AcR w B g c N (P++A++Bq++R)→AscA A→AscA Bq→a=P.length→m=P.length+A.length→b=P.length+A.length+Bq.length→N≤1000→
 Calls Tryz.prog 224 #[.slice (some ⟨g,0,none⟩) N c,.int .i64 (a:Int),.int .i64 (m:Int),.int .i64 (b:Int),.func (.func 182) #[] #[]] w fun e w'=>e= .returned (.tuple #[])∧AcR w' B g c N (P++mrg aL A Bq++R)∧w.grownBy w' (some g)
theorem AP {P A1 A2 B1 B2 R:List Ac} (h:A2= []∨B1= []):P++(A1++A2)++(B1++B2)++R=P++A1++B1++A2++B2++R:=by
 rcases h with rfl | rfl <;>simp
theorem t6 {A1 B1:List Ac} (h:A1= []∨B1= []):mrg aL A1 B1=A1++B1:=by
 rcases h with rfl | rfl
 ·rw [eD];rfl
 ·rw [eq,List.append_nil]
theorem qt (n:Nat) (IH:AF n) (P A Bq R:List Ac) (B g c N a m b:Nat) (w:World) (hn:A.length+Bq.length≤n+1) (h2:2≤A.length) (h3:2≤Bq.length) (hA:AcR w B g c N (P++A++Bq++R)) (hSA:AscA A) (hSB:AscA Bq) (ha:a=P.length) (hm:m=P.length+A.length) (hb:b=P.length+A.length+Bq.length) (hN:N≤1000):
  Calls Tryz.prog 224 #[.slice (some ⟨g,0,none⟩) N c,.int .i64 (a:Int),.int .i64 (m:Int),.int .i64 (b:Int),.func (.func 182) #[] #[]] w fun e w'=>e= .returned (.tuple #[])∧AcR w' B g c N (P++mrg aL A Bq++R)∧w.grownBy w' (some g):=by
 have hlen:P.length+A.length+Bq.length+R.length=N:=by have:=hA.1;simp only [List.length_append]at this;omega
 obtain⟨T,hT⟩:∃T,T=P++mrg aL A Bq++R:=⟨_,rfl⟩;rw [←hT];have HT:=aa hT;have HA0:=aa hA;have HCM:=aa jf;have HI:=aa IH;have HSA:=aa hSA;have HSB:=aa hSB;obtain⟨la,hla⟩:∃la,la=A.length:=⟨_,rfl⟩;obtain⟨lb,hlb⟩:∃lb,lb=Bq.length:=⟨_,rfl⟩;have HLA:=aa hla;have HLB:=aa hlb;obtain⟨ma,hma⟩:∃ma,ma=m-a:=⟨_,rfl⟩;obtain⟨mb,hmb⟩:∃mb,mb=b-m:=⟨_,rfl⟩;obtain⟨mid,hmid⟩:∃mid,mid=(a+b)/2:=⟨_,rfl⟩;obtain⟨nn,hnn⟩:∃nn,nn=mid+m:=⟨_,rfl⟩;obtain⟨p0,hp0⟩:∃p0,p0=nn-1:=⟨_,rfl⟩;obtain⟨ab,hab⟩:∃ab,ab=a+b:=⟨_,rfl⟩;have e3:(ab:Int)/2=(mid:Int):=by omega
 have q2:=AH ab (by omega);have q3:=bk (mid:Int) (by omega) (by omega);have q1:IntKind.i64.wrap ((a:Int)+(b:Int))=(ab:Int):=by go_light;exact(bk _ (by omega) (by omega)).trans (by omega)
 have hw1:IntKind.i64.wrap ((m:Int)-(a:Int))=(ma:Int):=by go_light;exact(bk _ (by omega) (by omega)).trans (by omega)
 have hw2:IntKind.i64.wrap ((b:Int)-(m:Int))=(mb:Int):=by go_light;exact(bk _ (by omega) (by omega)).trans (by omega)
 have hw3:IntKind.i64.wrap ((mid:Int)+(m:Int))=(nn:Int):=by go_light;exact(bk _ (by omega) (by omega)).trans (by omega)
 have hw4:IntKind.i64.wrap ((nn:Int)-1)=(p0:Int):=by go_light;exact(bk _ (by omega) (by omega)).trans (by omega)
 have hma1:¬ma=1:=by omega
 have hmb1:¬mb=1:=by omega
 have hmd1:a+b≤2*mid+1∧2*mid≤a+b:=by omega
 have hp1:p0+1=nn:=by omega
 have NF:=aa (And.intro hn (And.intro h2 (And.intro h3 (And.intro hN (And.intro ha (And.intro hm (And.intro hb (And.intro hlen (And.intro hla (And.intro hlb (And.intro hnn (And.intro hp1 (hmd1)))))))))))));clear hA hT hSA hSB IH hma hmb hmid hp0 hab;obtain⟨s0,r0,hsr,HF1,HF2,hcase⟩:∃s0 r0:Nat,(a≤s0∧s0≤r0∧r0≤m∧r0≤mid∧mid≤s0+lb)∧Hid (s0=a∨mid-s0=lb∨(Bq.getD (mid-s0) ac0).p≤(A.getD (s0-a-1) ac0).p)∧Hid (r0=m∨mid=r0∨(A.getD (r0-a) ac0).p<(Bq.getD (mid-r0-1) ac0).p)∧(mid<m∧IntKind.i64.wrap ((nn:Int)-(b:Int))=(s0:Int)∧mid=r0∨m≤mid∧a=s0∧m=r0):=by
  rcases Nat.lt_or_ge mid m with hmm | hmm
  ·exact⟨nn-b,mid,by omega,aa (.inr (.inl (by omega))),aa (.inr (.inl rfl)),.inl ⟨hmm,(bk _ (by omega) (by omega)).trans (by omega),rfl⟩⟩
  ·exact⟨a,m,by omega,aa (.inl rfl),aa (.inl rfl),.inr ⟨hmm,rfl,rfl⟩⟩
 have HSR:=aa hsr;have HCASE:=aa hcase;clear hsr hcase hn h2 h3 hN ha hm hb hlen hla hlb hnn hp1 hmd1;go_enter Tryz.func224,Tryz.ntmps224;go_upto_if 140 with fail;clear e3 q1 q2 q3;go_cut [20,21] (fun s r wx=>s= .int .i64 (s0:Int)∧r= .int .i64 (r0:Int)∧w=wx)
 case first=>
  rcases HCASE.out with⟨hmm,hw5,hrm⟩ |⟨hmm,hsa,hrm⟩
  ·have HRM:=aa hrm;clear hrm;have hmm2:(mid:Int)<(m:Int):=by go_light;omega
   go_wp2_with fail
   go_meet;exact⟨rfl,by rw [HRM.out],rfl⟩
  ·have HSA0:=aa hsa;have HRM:=aa hrm;clear hsa hrm;have hmm1:¬(mid<m):=by go_light;omega
   have hmm2:¬((mid:Int)<(m:Int)):=by go_light;omega
   go_wp2_with fail
   go_meet;exact⟨by rw [HSA0.out],by rw [HRM.out],rfl⟩
 case rest=>
  clear HCASE;obtain⟨rfl,rfl,rfl⟩:=hcut;go_wp2_with fail
  go_loopw [20,21] (fun i j wr=>∃(s r:Nat),Hid (a≤s∧s≤r∧r≤m∧r≤mid∧mid≤s+lb)∧i= .int .i64 (s:Int)∧j= .int .i64 (r:Int)∧Hid (s=a∨mid-s=lb∨(Bq.getD (mid-s) ac0).p≤(A.getD (s-a-1) ac0).p)∧Hid (r=m∨mid=r∨(A.getD (r-a) ac0).p<(Bq.getD (mid-r-1) ac0).p)∧Hid (AcR wr B g c N (P++A++Bq++R))∧Hid (w.grownBy wr (some g))) (fun i j _=>(intOf j).toNat-(intOf i).toNat)
  case atStart=>exact⟨_,_,HSR,rfl,rfl,HF1,HF2,HA0,aa (grown_refl' _ _)⟩
  case round=>
   clear HA0 HF1 HF2 HSR;obtain⟨s,r,HS,rfl,rfl,HF1,HF2,HA,HG⟩:=hrel;by_cases hlt:s<r
   ·as_aux_lemma=>
     have n1:=NF.out;have n2:=HS.out;obtain⟨ci,hci⟩:∃ci,ci=(s+r)/2:=⟨_,rfl⟩;obtain⟨sr,hsr⟩:∃sr,sr=s+r:=⟨_,rfl⟩;have e2:(sr:Int)/2=(ci:Int):=by go_light;omega
     have q5:=AH sr (by go_light;omega);have q6:=bk (ci:Int) (by go_light;omega) (by go_light;omega);have q4:IntKind.i64.wrap ((s:Int)+(r:Int))=(sr:Int):=by go_light;exact(bk _ (by omega) (by omega)).trans (by omega)
     have hsc:s≤ci:=by go_light;omega
     have hcr:ci<r:=by go_light;omega
     obtain⟨pc,hpc⟩:∃pc,pc=p0-ci:=⟨_,rfl⟩;obtain⟨kc,hkc⟩:∃kc,kc=ci-a:=⟨_,rfl⟩;obtain⟨kb,hkb⟩:∃kb,kb=mid-ci-1:=⟨_,rfl⟩;obtain⟨c1,hc1⟩:∃c1,c1=ci+1:=⟨_,rfl⟩;have hw6:IntKind.i64.wrap ((p0:Int)-(ci:Int))=(pc:Int):=by go_light;exact(bk _ (by omega) (by omega)).trans (by omega)
     have hw7:IntKind.i64.wrap ((ci:Int)+1)=(c1:Int):=by go_light;exact(bk _ (by omega) (by omega)).trans (by omega)
     have xp:pc+ci=p0:=by clear hkc hkb hc1;omega
     have xk:kc+a=ci:=by clear hpc hkb hc1;omega
     have xb:kb+ci+1=mid:=by clear hpc hkc hc1;omega
     have NX:=aa (And.intro hsc (And.intro hcr (And.intro xp (And.intro xk (And.intro xb (hc1))))));have HKC:=aa hkc;have HKB:=aa hkb;have HC1:=aa hc1;have HZ0:=aa (And.intro hpc (And.intro hkc hkb));clear hpc hkc hkb;have t0:(0:Int)≤(pc:Int):=by go_light;omega
     have t1:(pc:Int)<(N:Int):=by go_light;omega
     have t2:(0:Int)≤(ci:Int):=by go_light;omega
     have t3:(ci:Int)<(N:Int):=by go_light;omega
     clear hsc hcr xp xk xb hc1 hci n1 n2 hsr HZ0;obtain⟨x,hx⟩:∃x,x=A.getD kc ac0:=⟨_,rfl⟩;obtain⟨y,hy⟩:∃y,y=Bq.getD kb ac0:=⟨_,rfl⟩;have HR1:Hid (∀W,AcR W B g c N (P++A++Bq++R)→W.rangeAt g (pc*9) (acC y)):=aa (fun W hW=>by go_light;have n1:=NF.out;have n2:=HS.out;have n3:=NX.out;have:=hW.range (i:=pc) (by omega);rwa [show pc=P.length+A.length+kb by omega,AY (by omega), ←hy, ←show pc=P.length+A.length+kb by omega]at this);have HR2:Hid (∀W,AcR W B g c N (P++A++Bq++R)→W.rangeAt g (ci*9) (acC x)):=aa (fun W hW=>by go_light;have n1:=NF.out;have n2:=HS.out;have n3:=NX.out;have:=hW.range (i:=ci) (by omega);rwa [show ci=P.length+kc by omega,A9 (by omega), ←hx, ←show ci=P.length+kc by omega]at this);have HLT:=aa (kF x.p y.p);have HX:=aa hx;have HY:=aa hy;clear hx hy;obtain⟨LL,hLL⟩:∃LL,LL=P++A++Bq++R:=⟨_,rfl⟩;have HLL:=aa hLL;rw [←hLL]at HA HR1 HR2;clear hLL;go_wp2_with fail
     clear e2 q4 q5 q6;have HD:Hid (AcR wr.drew B g c N _):=aa (HA.out.below ((Below.refl _ _).drew));refine wp_region_held_drew (S:=fun w'=>w'.rangeAt g (pc*9) (acC y)∧w'.rangeAt g (ci*9) (acC x)) (by kernel_rfl) ⟨HR1.out _ HD.out,HR2.out _ HD.out⟩ (fun hHeld=>?_);refine sqA [(0,158),(1,159),(2,160),(3,161),(4,162),(5,163)] ?_;(iterate 6 (refine sqN rfl (by kernel_rfl) (fun _ _ _ h=>h) rfl ‹_› (by intro w h;go_simp <;>with_reducible rfl) ?_;simp only [nz]));refine sqZ ?_;refine wpAnyH_take (i:=6) (oi:=⟨some 164,_,_,_,_,_⟩) (v:=.agg (acC y).toArray) rfl (by kernel_rfl) (by kernel_rfl) (by kernel_rfl) (fun _ _ _ h=>h) (yieldsIf_load_mid (by rfl) 55 (.tmp 163) rfl g (pc*9) rfl (acC y) _ (fun w h=>h.1) Tryz.underlying55 rfl aO) (by assumption) ?_;(try simp only [nz]);refine sqA [(7,165),(8,166),(9,167)] ?_;(iterate 3 (refine sqN rfl (by kernel_rfl) (fun _ _ _ h=>h) rfl ‹_› (by intro w h;go_simp <;>with_reducible rfl) ?_;simp only [nz]));refine sqZ ?_;refine wpAnyH_take (i:=10) (oi:=⟨some 168,_,_,_,_,_⟩) (v:=.agg (acC x).toArray) rfl (by kernel_rfl) (by kernel_rfl) (by kernel_rfl) (fun _ _ _ h=>h) (yieldsIf_load_mid (by rfl) 55 (.tmp 167) rfl g (ci*9) rfl (acC x) _ (fun w h=>h.2) Tryz.underlying55 rfl aO) (by assumption) ?_;(try simp only [nz]);refine Go.Proofs.YtaiedioffemhdaaGreat.rs 11 169 (by kernel_rfl) rfl (fun K hK=>?_);go_simp;clear hHeld;refine(ag HCM y x _).mono ?_;rintro e V ⟨rfl,hb⟩;replace HA:=aa (HD.out.below hb);replace HG:=aa (cN HG.out (((Below.refl _ _).drew).trans hb));clear HD hb;refine hK.out _ _ ⟨HR1.out _ HA.out,HR2.out _ HA.out⟩ (fun hHeld=>?_);clear hK K;(try simp only [nz]);refine sqA [(12,170),(13,171)] ?_;(iterate 2 (refine sqN rfl (by kernel_rfl) (fun _ _ _ h=>h) rfl ‹_› (by intro w h;go_simp <;>with_reducible rfl) ?_;simp only [nz]));refine sqZ ?_;refine wpAnyH_done (by kernel_rfl) ?_ _;clear hHeld;rw [HLL.out]at HA;by_cases hle:x.p<y.p
     ·have hl2x:aS x.p y.p<0:=by rw [HLT.out];exact hle
      have hl3x:(!decide (aS x.p y.p<0))=false:=(by simp only [hl2x,decide_true,Bool.not_true]);rw [hl3x];have HF3:Hid (ci=m∨mid=ci∨(A.getD (ci-a) ac0).p<(Bq.getD (mid-ci-1) ac0).p):=aa (.inr (.inr (by rw [←HKC.out, ←HKB.out, ←HX.out, ←HY.out];exact hle)));clear HR1 HR2 HF2;go_wp2_with fail
      go_roundw
      case rel=>exact⟨s,ci,aa (by go_light;have n1:=NF.out;have n2:=HS.out;have n3:=NX.out;omega),rfl,rfl,HF1,HF3,HA,HG⟩
      case measure=>
       go_light;have n3:=NX.out;simp [intOf];omega
     ·have hl2x:¬aS x.p y.p<0:=by rw [HLT.out];exact hle
      have hl3x:(!decide (aS x.p y.p<0))=true:=(by simp only [hl2x,decide_false,Bool.not_false]);rw [hl3x];have HF3:Hid (c1=a∨mid-c1=lb∨(Bq.getD (mid-c1) ac0).p≤(A.getD (c1-a-1) ac0).p):=aa (.inr (.inr (by go_light;have n1:=NF.out;have n2:=HS.out;have n3:=NX.out;rw [show mid-c1=kb by omega,show c1-a-1=kc by omega, ←HX.out, ←HY.out];omega)));clear HR1 HR2 HF1;go_wp2_with fail
      go_roundw
      case rel=>exact⟨c1,r,aa (by go_light;have n1:=NF.out;have n2:=HS.out;have n3:=NX.out;omega),rfl,rfl,HF3,HF2,HA,HG⟩
      case measure=>
       go_light;have n3:=NX.out;simp [intOf];omega
   ·as_aux_lemma=>
     have n1:=NF.out;have n2:=HS.out;obtain⟨ka,hka⟩:∃ka,ka=s-a:=⟨_,rfl⟩;obtain⟨kb,hkb⟩:∃kb,kb=mid-s:=⟨_,rfl⟩;have hsr2:s=r:=by go_light;omega
     have HMP:Hid (mrg aL A Bq=mrg aL (A.take ka) (Bq.take kb)++mrg aL (A.drop ka) (Bq.drop kb)):=aa (by go_light;exact xu HSA.out HSB.out (by omega) (by omega) (by rcases HF1.out with h | h | h;exact .inl (by omega);exact .inr (.inl (by rw [hkb,h,HLB.out]));exact .inr (.inr (by rw [hka,hkb];exact h))) (by rcases HF2.out with h | h | h;exact .inl (by omega);exact .inr (.inl (by omega));exact .inr (.inr (by rw [hka,hkb,hsr2];exact h))));obtain⟨A1,hA1⟩:∃A1,A1=A.take ka:=⟨_,rfl⟩;obtain⟨A2,hA2⟩:∃A2,A2=A.drop ka:=⟨_,rfl⟩;obtain⟨B1,hB1⟩:∃B1,B1=Bq.take kb:=⟨_,rfl⟩;obtain⟨B2,hB2⟩:∃B2,B2=Bq.drop kb:=⟨_,rfl⟩;rw [←hA1, ←hA2, ←hB1, ←hB2]at HMP;have hlA1:A1.length=ka:=by go_light;rw [hA1,List.length_take];omega
     have hlA2:A2.length=la-ka:=(by rw [hA2,List.length_drop,HLA.out]);have hlB1:B1.length=kb:=by go_light;rw [hB1,List.length_take];omega
     have hlB2:B2.length=lb-kb:=(by rw [hB2,List.length_drop,HLB.out]);have HSA1:Hid (AscA A1):=by rw [hA1];exact aa (HSA.out.take _)
     have HSA2:Hid (AscA A2):=by rw [hA2];exact aa (HSA.out.drop _)
     have HSB1:Hid (AscA B1):=by rw [hB1];exact aa (HSB.out.take _)
     have HSB2:Hid (AscA B2):=by rw [hB2];exact aa (HSB.out.drop _)
     have HA3:Hid (AcR wr B g c N (P++(A1++A2)++(B1++B2)++R)):=by rw [hA1,hA2,hB1,hB2,List.take_append_drop,List.take_append_drop];exact HA
     have HT2:Hid (P++(mrg aL A1 B1++mrg aL A2 B2)++R=T):=by rw [HT.out,HMP.out];exact aa rfl
     obtain⟨en,hen⟩:∃en,en=nn-s:=⟨_,rfl⟩;have hw8:IntKind.i64.wrap ((nn:Int)-(s:Int))=(en:Int):=by go_light;exact(bk _ (by omega) (by omega)).trans (by omega)
     have xe:en+s=nn:=by clear hlA1 hlA2 hlB1 hlB2;omega
     have xa:ka+a=s:=by clear hen hlA1 hlA2 hlB1 hlB2;omega
     have xm:kb+s=mid:=by clear hen hlA1 hlA2 hlB1 hlB2;omega
     have yA:A2.length+ka=la:=by clear hen hkb xm;omega
     have yB:B2.length+kb=lb:=by clear hen hka xa;omega
     have NZ:=aa (And.intro xe (And.intro xa (And.intro xm (And.intro hlA1 (And.intro yA (And.intro hlB1 (yB)))))));have HLA1:=aa hlA1;have HLB1:=aa hlB1;have hq1:¬(s<r):=hlt;clear hA1 hA2 hB1 hB2 HA HF1 HF2 HMP HT hsr2 hen hka hkb hlA1 hlA2 hlB1 hlB2 xe xa xm yA yB hlt n1 n2 HSA HSB HLA HLB HCM;go_upto_region 39 with fail
     obtain⟨tb,htb⟩:∃tb:Bool,tb=decide (s<m∧m<en):=⟨_,rfl⟩;have HTD:=aa htb;clear htb;go_cut [185] (fun tv wx=>tv= .bool tb∧wr=wx)
     case first=>
      as_aux_lemma=>
      rcases(show(0<A2.length∧0<B1.length)∨(A2.length=0)∨(0<A2.length∧B1.length=0) by clear HA3 HG HT2;go_light;omega)with⟨u1,u2⟩ | u1 |⟨u1,u2⟩
      ·have HTB:Hid (tb=true):=aa (by go_light;have n1:=NF.out;have n2:=HS.out;have n3:=NZ.out;rw [HTD.out];simp;omega);have g1:(s<m):=by go_light;have n1:=NF.out;have n2:=HS.out;have n3:=NZ.out;omega
       have f1:((s:Int)<(m:Int)):=by go_light;have n1:=NF.out;have n2:=HS.out;have n3:=NZ.out;omega
       have g2:(m<en):=by go_light;have n1:=NF.out;have n2:=HS.out;have n3:=NZ.out;omega
       have f2:((m:Int)<(en:Int)):=by go_light;have n1:=NF.out;have n2:=HS.out;have n3:=NZ.out;omega
       clear u1 u2;go_wp2_with fail
       go_meet;exact⟨by rw [HTB.out] <;>first | rfl | simp [f1,f2] | simp [f1],rfl⟩
      ·have HTB:Hid (tb=false):=aa (by go_light;have n1:=NF.out;have n2:=HS.out;have n3:=NZ.out;rw [HTD.out];simp;omega);have g1:¬(s<m):=by go_light;have n1:=NF.out;have n2:=HS.out;have n3:=NZ.out;omega
       have f1:¬((s:Int)<(m:Int)):=by go_light;have n1:=NF.out;have n2:=HS.out;have n3:=NZ.out;omega
       clear u1;go_wp2_with fail
       go_meet;exact⟨by rw [HTB.out] <;>first | rfl | simp [f1],rfl⟩
      ·have HTB:Hid (tb=false):=aa (by go_light;have n1:=NF.out;have n2:=HS.out;have n3:=NZ.out;rw [HTD.out];simp;omega);have g1:(s<m):=by go_light;have n1:=NF.out;have n2:=HS.out;have n3:=NZ.out;omega
       have f1:((s:Int)<(m:Int)):=by go_light;have n1:=NF.out;have n2:=HS.out;have n3:=NZ.out;omega
       have g2:¬(m<en):=by go_light;have n1:=NF.out;have n2:=HS.out;have n3:=NZ.out;omega
       have f2:¬((m:Int)<(en:Int)):=by go_light;have n1:=NF.out;have n2:=HS.out;have n3:=NZ.out;omega
       clear u1 u2;go_wp2_with fail
       go_meet;exact⟨by rw [HTB.out] <;>first | rfl | simp [f1,f2] | simp [f1],rfl⟩
     case rest=>
      obtain⟨rfl,rfl⟩:=hcut;go_upto_if 185 with fail;go_cut [] (fun wx=>Hid (AcR wx B g c N (P++A1++B1++A2++B2++R))∧Hid (w.grownBy wx (some g)))
      case first=>
       as_aux_lemma=>
       rcases(show(0<A2.length∧0<B1.length)∨(A2.length=0)∨(0<A2.length∧B1.length=0) by clear HA3 HG HT2;go_light;omega)with⟨u1,u2⟩ | u1 |⟨u1,u2⟩
       ·have htb:tb=true:=by go_light;have n1:=NF.out;have n2:=HS.out;have n3:=NZ.out;rw [HTD.out];simp;omega
        clear HTD;subst htb;have HC:=aa (sR (P++A1) A2 B1 (B2++R) B g c N s m en wr (by have:=HA3.out;simpa using this) (by go_light;have n1:=NF.out;have n2:=HS.out;have n3:=NZ.out;omega) (by go_light;have n1:=NF.out;have n2:=HS.out;have n3:=NZ.out;omega) (by rw [List.length_append,HLA1.out];go_light;have n1:=NF.out;have n2:=HS.out;have n3:=NZ.out;omega) (by rw [List.length_append,HLA1.out];go_light;have n1:=NF.out;have n2:=HS.out;have n3:=NZ.out;omega) (by rw [List.length_append,HLA1.out];go_light;have n1:=NF.out;have n2:=HS.out;have n3:=NZ.out;omega) (by have:=NF.out;omega));clear u1 u2;go_wp2_with fail
        refine(ag HC).mono ?_;rintro e WQ ⟨rfl,hA4,hG4⟩;have HA4:Hid (AcR WQ B g c N (P++A1++B1++A2++B2++R)):=aa (by simpa using hA4);have HG4:=aa (aC HG.out hG4);clear hA4 hG4 HC;go_wp2_with fail
        go_meet;exact⟨HA4,HG4⟩
       ·have nl:A2= []:=List.eq_nil_of_length_eq_zero (by go_light;have n1:=NF.out;have n2:=HS.out;have n3:=NZ.out;omega);have htb:tb=false:=by go_light;have n1:=NF.out;have n2:=HS.out;have n3:=NZ.out;rw [HTD.out];simp;omega
        clear HTD;subst htb;have HA4:=aa (show AcR wr B g c N (P++A1++B1++A2++B2++R)from by rw [←AP (.inl nl)];exact HA3.out);clear nl u1;go_wp2_with fail
        go_meet;exact⟨HA4,HG⟩
       ·have nl:B1= []:=List.eq_nil_of_length_eq_zero (by go_light;have n1:=NF.out;have n2:=HS.out;have n3:=NZ.out;omega);have htb:tb=false:=by go_light;have n1:=NF.out;have n2:=HS.out;have n3:=NZ.out;rw [HTD.out];simp;omega
        clear HTD;subst htb;have HA4:=aa (show AcR wr B g c N (P++A1++B1++A2++B2++R)from by rw [←AP (.inr nl)];exact HA3.out);clear nl u1 u2;go_wp2_with fail
        go_meet;exact⟨HA4,HG⟩
      case rest=>
       clear HA3 HG HTD;obtain⟨HA3,HG⟩:=hcut;generalize wc=W3 at*;go_upto_region 41 with fail
       obtain⟨tb,htb⟩:∃tb:Bool,tb=decide (a<s∧s<mid):=⟨_,rfl⟩;have HTD:=aa htb;clear htb;go_cut [199] (fun tv wx=>tv= .bool tb∧W3=wx)
       case first=>
        as_aux_lemma=>
        rcases(show(0<A1.length∧0<B1.length)∨(A1.length=0)∨(0<A1.length∧B1.length=0) by clear HA3 HG HT2;go_light;omega)with⟨u1,u2⟩ | u1 |⟨u1,u2⟩
        ·have HTB:Hid (tb=true):=aa (by go_light;have n1:=NF.out;have n2:=HS.out;have n3:=NZ.out;rw [HTD.out];simp;omega);have g1:(a<s):=by go_light;have n1:=NF.out;have n2:=HS.out;have n3:=NZ.out;omega
         have f1:((a:Int)<(s:Int)):=by go_light;have n1:=NF.out;have n2:=HS.out;have n3:=NZ.out;omega
         have g2:(s<mid):=by go_light;have n1:=NF.out;have n2:=HS.out;have n3:=NZ.out;omega
         have f2:((s:Int)<(mid:Int)):=by go_light;have n1:=NF.out;have n2:=HS.out;have n3:=NZ.out;omega
         clear u1 u2;go_wp2_with fail
         go_meet;exact⟨by rw [HTB.out] <;>first | rfl | simp [f1,f2] | simp [f1],rfl⟩
        ·have HTB:Hid (tb=false):=aa (by go_light;have n1:=NF.out;have n2:=HS.out;have n3:=NZ.out;rw [HTD.out];simp;omega);have g1:¬(a<s):=by go_light;have n1:=NF.out;have n2:=HS.out;have n3:=NZ.out;omega
         have f1:¬((a:Int)<(s:Int)):=by go_light;have n1:=NF.out;have n2:=HS.out;have n3:=NZ.out;omega
         clear u1;go_wp2_with fail
         go_meet;exact⟨by rw [HTB.out] <;>first | rfl | simp [f1],rfl⟩
        ·have HTB:Hid (tb=false):=aa (by go_light;have n1:=NF.out;have n2:=HS.out;have n3:=NZ.out;rw [HTD.out];simp;omega);have g1:(a<s):=by go_light;have n1:=NF.out;have n2:=HS.out;have n3:=NZ.out;omega
         have f1:((a:Int)<(s:Int)):=by go_light;have n1:=NF.out;have n2:=HS.out;have n3:=NZ.out;omega
         have g2:¬(s<mid):=by go_light;have n1:=NF.out;have n2:=HS.out;have n3:=NZ.out;omega
         have f2:¬((s:Int)<(mid:Int)):=by go_light;have n1:=NF.out;have n2:=HS.out;have n3:=NZ.out;omega
         clear u1 u2;go_wp2_with fail
         go_meet;exact⟨by rw [HTB.out] <;>first | rfl | simp [f1,f2] | simp [f1],rfl⟩
       case rest=>
        obtain⟨rfl,rfl⟩:=hcut;go_upto_if 199 with fail;go_cut [] (fun wx=>Hid (AcR wx B g c N (P++mrg aL A1 B1++A2++B2++R))∧Hid (w.grownBy wx (some g)))
        case first=>
         as_aux_lemma=>
         rcases(show(0<A1.length∧0<B1.length)∨(A1.length=0)∨(0<A1.length∧B1.length=0) by clear HA3 HG HT2;go_light;omega)with⟨u1,u2⟩ | u1 |⟨u1,u2⟩
         ·have htb:tb=true:=by go_light;have n1:=NF.out;have n2:=HS.out;have n3:=NZ.out;rw [HTD.out];simp;omega
          clear HTD;subst htb;have HC:=aa (HI.out P A1 B1 (A2++B2++R) B g c N a s mid W3 (by go_light;have n1:=NF.out;have n2:=HS.out;have n3:=NZ.out;omega) (by go_light;have n1:=NF.out;have n2:=HS.out;have n3:=NZ.out;omega) (by go_light;have n1:=NF.out;have n2:=HS.out;have n3:=NZ.out;omega) (by have:=HA3.out;simpa using this) HSA1.out HSB1.out (by go_light;have n1:=NF.out;have n2:=HS.out;have n3:=NZ.out;omega) (by go_light;have n1:=NF.out;have n2:=HS.out;have n3:=NZ.out;omega) (by go_light;have n1:=NF.out;have n2:=HS.out;have n3:=NZ.out;omega) (by go_light;have n1:=NF.out;have n2:=HS.out;have n3:=NZ.out;omega));clear u1 u2;go_wp2_with fail
          refine(ag HC).mono ?_;rintro e WQ ⟨rfl,hA4,hG4⟩;have HA4:Hid (AcR WQ B g c N (P++mrg aL A1 B1++A2++B2++R)):=aa (by simpa using hA4);have HG4:=aa (aC HG.out hG4);clear hA4 hG4 HC;go_wp2_with fail
          go_meet;exact⟨HA4,HG4⟩
         ·have nl:A1= []:=List.eq_nil_of_length_eq_zero (by go_light;have n1:=NF.out;have n2:=HS.out;have n3:=NZ.out;omega);have htb:tb=false:=by go_light;have n1:=NF.out;have n2:=HS.out;have n3:=NZ.out;rw [HTD.out];simp;omega
          clear HTD;subst htb;have HA4:=aa (show AcR W3 B g c N (P++mrg aL A1 B1++A2++B2++R)from by rw [t6 (.inl nl)];have:=HA3.out;simpa using this);clear nl u1;go_wp2_with fail
          go_meet;exact⟨HA4,HG⟩
         ·have nl:B1= []:=List.eq_nil_of_length_eq_zero (by go_light;have n1:=NF.out;have n2:=HS.out;have n3:=NZ.out;omega);have htb:tb=false:=by go_light;have n1:=NF.out;have n2:=HS.out;have n3:=NZ.out;rw [HTD.out];simp;omega
          clear HTD;subst htb;have HA4:=aa (show AcR W3 B g c N (P++mrg aL A1 B1++A2++B2++R)from by rw [t6 (.inr nl)];have:=HA3.out;simpa using this);clear nl u1 u2;go_wp2_with fail
          go_meet;exact⟨HA4,HG⟩
        case rest=>
         clear HA3 HG HTD;obtain⟨HA3,HG⟩:=hcut;generalize wc=W4 at*;go_upto_region 43 with fail
         obtain⟨tb,htb⟩:∃tb:Bool,tb=decide (mid<en∧en<b):=⟨_,rfl⟩;have HTD:=aa htb;clear htb;go_cut [213] (fun tv wx=>tv= .bool tb∧W4=wx)
         case first=>
          as_aux_lemma=>
          rcases(show(0<A2.length∧0<B2.length)∨(A2.length=0)∨(0<A2.length∧B2.length=0) by clear HA3 HG HT2;go_light;omega)with⟨u1,u2⟩ | u1 |⟨u1,u2⟩
          ·have HTB:Hid (tb=true):=aa (by go_light;have n1:=NF.out;have n2:=HS.out;have n3:=NZ.out;rw [HTD.out];simp;omega);have g1:(mid<en):=by go_light;have n1:=NF.out;have n2:=HS.out;have n3:=NZ.out;omega
           have f1:((mid:Int)<(en:Int)):=by go_light;have n1:=NF.out;have n2:=HS.out;have n3:=NZ.out;omega
           have g2:(en<b):=by go_light;have n1:=NF.out;have n2:=HS.out;have n3:=NZ.out;omega
           have f2:((en:Int)<(b:Int)):=by go_light;have n1:=NF.out;have n2:=HS.out;have n3:=NZ.out;omega
           clear u1 u2;go_wp2_with fail
           go_meet;exact⟨by rw [HTB.out] <;>first | rfl | simp [f1,f2] | simp [f1],rfl⟩
          ·have HTB:Hid (tb=false):=aa (by go_light;have n1:=NF.out;have n2:=HS.out;have n3:=NZ.out;rw [HTD.out];simp;omega);have g1:¬(mid<en):=by go_light;have n1:=NF.out;have n2:=HS.out;have n3:=NZ.out;omega
           have f1:¬((mid:Int)<(en:Int)):=by go_light;have n1:=NF.out;have n2:=HS.out;have n3:=NZ.out;omega
           clear u1;go_wp2_with fail
           go_meet;exact⟨by rw [HTB.out] <;>first | rfl | simp [f1],rfl⟩
          ·have HTB:Hid (tb=false):=aa (by go_light;have n1:=NF.out;have n2:=HS.out;have n3:=NZ.out;rw [HTD.out];simp;omega);have g1:(mid<en):=by go_light;have n1:=NF.out;have n2:=HS.out;have n3:=NZ.out;omega
           have f1:((mid:Int)<(en:Int)):=by go_light;have n1:=NF.out;have n2:=HS.out;have n3:=NZ.out;omega
           have g2:¬(en<b):=by go_light;have n1:=NF.out;have n2:=HS.out;have n3:=NZ.out;omega
           have f2:¬((en:Int)<(b:Int)):=by go_light;have n1:=NF.out;have n2:=HS.out;have n3:=NZ.out;omega
           clear u1 u2;go_wp2_with fail
           go_meet;exact⟨by rw [HTB.out] <;>first | rfl | simp [f1,f2] | simp [f1],rfl⟩
         case rest=>
          obtain⟨rfl,rfl⟩:=hcut;rcases(show(0<A2.length∧0<B2.length)∨(A2.length=0)∨(0<A2.length∧B2.length=0) by clear HA3 HG HT2;go_light;omega)with⟨u1,u2⟩ | u1 |⟨u1,u2⟩
          ·have htb:tb=true:=by go_light;have n1:=NF.out;have n2:=HS.out;have n3:=NZ.out;rw [HTD.out];simp;omega
           clear HTD;subst htb;have hlM:(mrg aL A1 B1).length=ka+kb:=(by rw [mB,HLA1.out,HLB1.out]);have HC:=aa (HI.out (P++mrg aL A1 B1) A2 B2 R B g c N mid en b W4 (by go_light;have n1:=NF.out;have n2:=HS.out;have n3:=NZ.out;omega) (by go_light;have n1:=NF.out;have n2:=HS.out;have n3:=NZ.out;omega) (by go_light;have n1:=NF.out;have n2:=HS.out;have n3:=NZ.out;omega) (by have:=HA3.out;simpa using this) HSA2.out HSB2.out (by rw [List.length_append,hlM];go_light;have n1:=NF.out;have n2:=HS.out;have n3:=NZ.out;omega) (by rw [List.length_append,hlM];go_light;have n1:=NF.out;have n2:=HS.out;have n3:=NZ.out;omega) (by rw [List.length_append,hlM];go_light;have n1:=NF.out;have n2:=HS.out;have n3:=NZ.out;omega) (by go_light;have n1:=NF.out;have n2:=HS.out;have n3:=NZ.out;omega));clear hlM;clear u1 u2;go_wp2_with fail
           refine(ag HC).mono ?_;rintro e WQ ⟨rfl,hA4,hG4⟩;have HA4:Hid (AcR WQ B g c N (P++mrg aL A1 B1++mrg aL A2 B2++R)):=aa (by simpa using hA4);have HG4:=aa (aC HG.out hG4);clear hA4 hG4 HC;have HA5:AcR WQ B g c N T:=by rw [←HT2.out];have:=HA4.out;simpa using this
           go_wp2_with fail
           go_end0;exact⟨rfl,HA5,HG4.out⟩
          ·have nl:A2= []:=List.eq_nil_of_length_eq_zero (by go_light;have n1:=NF.out;have n2:=HS.out;have n3:=NZ.out;omega);have htb:tb=false:=by go_light;have n1:=NF.out;have n2:=HS.out;have n3:=NZ.out;rw [HTD.out];simp;omega
           clear HTD;subst htb;have HA4:=aa (show AcR W4 B g c N (P++mrg aL A1 B1++mrg aL A2 B2++R)from by rw [t6 (A1:=A2) (.inl nl)];have:=HA3.out;simpa using this);clear nl u1;have HA5:AcR W4 B g c N T:=by rw [←HT2.out];have:=HA4.out;simpa using this
           go_wp2_with fail
           go_end0;exact⟨rfl,HA5,HG.out⟩
          ·have nl:B2= []:=List.eq_nil_of_length_eq_zero (by go_light;have n1:=NF.out;have n2:=HS.out;have n3:=NZ.out;omega);have htb:tb=false:=by go_light;have n1:=NF.out;have n2:=HS.out;have n3:=NZ.out;rw [HTD.out];simp;omega
           clear HTD;subst htb;have HA4:=aa (show AcR W4 B g c N (P++mrg aL A1 B1++mrg aL A2 B2++R)from by rw [t6 (A1:=A2) (.inr nl)];have:=HA3.out;simpa using this);clear nl u1 u2;have HA5:AcR W4 B g c N T:=by rw [←HT2.out];have:=HA4.out;simpa using this
           go_wp2_with fail
           go_end0;exact⟨rfl,HA5,HG.out⟩
theorem uk:∀n,AF n
 | 0=>fun P A Bq R B g c N a m b w h0 h1 h2 _ _ _ _ _ _ _=>by omega
 | n+1=>fun P A Bq R B g c N a m b w h0 h1 h2 hA hSA hSB ha hm hb hN=>by
  by_cases hx:A.length=1
  ·obtain⟨x,rfl⟩:=List.length_eq_one_iff.1 hx;exact tQ P Bq R x B g c N a m b w hA hSB ha hm hb hN
  ·by_cases hy:Bq.length=1
   ·obtain⟨y,rfl⟩:=List.length_eq_one_iff.1 hy;exact rZ P A R y B g c N a m b w hA hSA (by omega) ha hm hb hN
   ·exact qt n (uk n) P A Bq R B g c N a m b w h0 (by omega) (by omega) hA hSA hSB ha hm hb hN
theorem mH (o:Option Addr) (c:Nat) (fv:Value) (w:World):Calls Tryz.prog 223 #[.slice o 0 c,.int .i64 0,.int .i64 0,fv] w fun e w'=>e= .returned (.tuple #[])∧w'=w:=by
 go_enter Tryz.func223,Tryz.ntmps223;go_wp2_with fail
 refine wp_loop_rounds 1 ?_;rw [rounds_succ];go_wp2_with fail
 go_end0;exact⟨rfl,rfl⟩
theorem nH (o:Option Addr) (c:Nat) (fv:Value) (w:World):Calls Tryz.prog 209 #[.slice o 0 c,.int .i64 0,fv] w fun e w'=>e= .returned (.tuple #[])∧w'=w:=by
 go_enter Tryz.func209,Tryz.ntmps209;go_wp2_with fail
 refine wp_loop_rounds 1 ?_;rw [rounds_succ];go_wp2_with fail
 refine(mH _ _ _ _).mono ?_;rintro e w1 ⟨rfl,rfl⟩;go_wp2_with fail
 refine wp_loop_rounds 1 ?_;rw [rounds_succ];go_wp2_with fail
 go_end0;exact⟨rfl,rfl⟩
theorem vG:eY []:=fun u B w ho hB=>by
 obtain⟨o,c,rfl⟩:=aG ho;have HO:=aa ho;clear ho;go_enter Tryz.func181,Tryz.ntmps181;go_wp2_with fail
 refine(nH _ _ _ _).mono ?_;rintro e w1 ⟨rfl,rfl⟩;go_wp2_with fail
 go_end0;have e:aQ []= []:=by simp [aQ,mrg,aT]
 exact⟨rfl,by rw [e];exact HO.out,⟨rfl,rfl,rfl,Nat.le_refl _,fun _ _ _=>rfl⟩⟩
theorem eP (X Y Z:List Ac) (B g c N:Nat) (ai bi:Int) (w:World) (hA:AcR w B g c N (X++Y++Z)) (ha:ai=(X.length:Int)) (hb:bi=((X.length+Y.length:Nat):Int)) (hN:N≤1000):
  Calls Tryz.prog 223 #[.slice (some ⟨g,0,none⟩) N c,.int .i64 ai,.int .i64 bi,.func (.func 182) #[] #[]] w fun e w'=>e= .returned (.tuple #[])∧AcR w' B g c N (X++aT aL Y++Z)∧w.grownBy w' (some g):=by
 subst ha hb;exact tU X Y Z B g c N _ _ w hA rfl rfl hN
theorem nB {L:List Ac} (h:L.length≤20):aQ L=aT aL L:=by
 unfold aQ;rw [List.take_of_length_le h,List.drop_of_length_le h];show mrg aL (aT aL L) []=_;rw [eq]
def gG (N:Nat):Prop:=∀(L:List Ac) (B g c:Nat) (w:World),AcR w B g c N L→Calls Tryz.prog 209 #[.slice (some ⟨g,0,none⟩) N c,.int .i64 (N:Int),.func (.func 182) #[] #[]] w fun e w'=>e= .returned (.tuple #[])∧AcR w' B g c N (aQ L)∧w.grownBy w' (some g)
theorem sG {N:Nat} (h:N<20):gG N:=fun L B g c w hA=>by
 have HSI:=aa (eP [] L [] B g c N 0 N w (by simpa using hA) (by simp) (by simp [hA.1]) (by omega));have HAS:=aa (nB (L:=L) (by rw [hA.1];omega));have q1:¬(20≤N):=by omega
 have q2:¬((20:Int)≤(N:Int)):=by omega
 have q3:¬(20<N):=by omega
 have q4:¬((20:Int)<(N:Int)):=by omega
 clear hA;go_enter Tryz.func209,Tryz.ntmps209;go_wp2_with fail
 refine wp_loop_rounds 1 ?_;rw [rounds_succ];go_wp2_with fail
 refine(ag HSI).mono ?_;rintro e w1 ⟨rfl,hA1,hG1⟩;have HE:Hid (AcR w1 B g c N (aQ L)):=by rw [HAS.out];exact aa (by simpa using hA1)
 have HG:=aa hG1;clear hA1 hG1 HSI HAS;go_wp2_with fail
 refine wp_loop_rounds 1 ?_;rw [rounds_succ];go_wp2_with fail
 go_end0;exact⟨rfl,HE.out,HG.out⟩
theorem yu {L:List Ac} (h:gG L.length):eY L:=by
 by_cases h0:L.length=0
 ·rw [List.eq_nil_of_length_eq_zero h0];exact vG
 ·intro u B w ho hB;obtain⟨g,c,rfl,_,_⟩:=aW ho (by omega);have HST:=aa (h L B g c w ⟨rfl,ho⟩);obtain⟨N,hN⟩:∃N,N=L.length:=⟨_,rfl⟩;rw [←hN]at HST⊢h;clear ho hN h0 h;go_enter Tryz.func181,Tryz.ntmps181;go_wp2_with fail
  refine(ag HST).mono ?_;rintro e w1 ⟨rfl,hA1,hG1⟩;have HE:=aa hA1.2;have HG:=aa hG1;clear hA1 hG1 HST;go_wp2_with fail
  go_end0;exact⟨rfl,HE.out,HG.out⟩
theorem AN (A Bq:List Ac) (B g c N:Nat) (ai mi bi:Int) (w:World) (h1:0<A.length) (h2:0<Bq.length) (hA:AcR w B g c N (A++Bq)) (hSA:AscA A) (hSB:AscA Bq) (ha:ai=((0:Nat):Int)) (hm:mi=(A.length:Int)) (hb:bi=((A.length+Bq.length:Nat):Int)) (hN:N≤1000):
  Calls Tryz.prog 224 #[.slice (some ⟨g,0,none⟩) N c,.int .i64 ai,.int .i64 mi,.int .i64 bi,.func (.func 182) #[] #[]] w fun e w'=>e= .returned (.tuple #[])∧AcR w' B g c N (mrg aL A Bq)∧w.grownBy w' (some g):=by
 subst ha hm hb;have:=uk _ [] A Bq [] B g c N 0 A.length (A.length+Bq.length) w zr h1 h2 (by simpa using hA) hSA hSB rfl (by simp) (by simp) hN;simpa using this
theorem nW:gG 20:=fun L B g c w hA=>by
 have HSI:=aa (eP [] L [] B g c 20 0 20 w (by simpa using hA) (by simp) (by simp [hA.1]) (by omega));have HAS:=aa (nB (L:=L) (by rw [hA.1];omega));have HSJ:=aa (fun W (hW:AcR W B g c 20 (aT aL L))=>eP (aT aL L) [] [] B g c 20 20 20 W (by simpa using hW) (by rw [aU,hA.1];rfl) (by rw [aU,hA.1];rfl) (by omega));clear hA;go_enter Tryz.func209,Tryz.ntmps209;go_wp2_with fail
 refine wp_loop_rounds 2 ?_;rw [rounds_succ];go_wp2_with fail
 refine(ag HSI).mono ?_;rintro e w1 ⟨rfl,hA1,hG1⟩;have HA1:Hid (AcR w1 B g c 20 (aT aL L)):=aa (by simpa using hA1);have HG:=aa hG1;clear hA1 hG1 HSI;go_wp2_with fail
 rw [rounds_succ];go_wp2_with fail
 refine(ag HSJ _ HA1.out).mono ?_;rintro e w2 ⟨rfl,hA2,hG2⟩;have HE:Hid (AcR w2 B g c 20 (aQ L)):=by
  rw [HAS.out];have e:aT aL ([]:List Ac)= []:=rfl;rw [e]at hA2;exact aa (by simpa using hA2)
 have HG2:=aa (aC HG.out hG2);clear hA2 hG2 HSJ HAS HA1 HG;go_wp2_with fail
 refine wp_loop_rounds 1 ?_;rw [rounds_succ];go_wp2_with fail
 go_end0;exact⟨rfl,HE.out,HG2.out⟩
theorem uB {L:List Ac} {N:Nat} (h:L.length=N) (h2:20≤N):(L.take 20).length=20∧(L.drop 20).length=N-20∧L.take 20++L.drop 20=L:=⟨by rw [List.length_take];omega,by rw [List.length_drop];omega,List.take_append_drop _ _⟩
theorem sT {N:Nat} (h1:20<N) (h2:N<40):gG N:=fun L B g c w hA=>by
 obtain⟨hx,hy,hxy⟩:=uB hA.1 (by omega);have HT:Hid (aQ L=mrg aL (aT aL (L.take 20)) (aT aL (L.drop 20))):=rfl;obtain⟨T,hT⟩:∃T,T=aQ L:=⟨_,rfl⟩;rw [←hT];rw [←hT]at HT;rw [←hxy]at hA;generalize L.take 20=X at*;generalize L.drop 20=Y at*;have HS1:=aa (eP [] X Y B g c N 0 20 w (by simpa using hA) (by simp) (by simp [hx]) (by omega));have HS2:=aa (fun W (hW:AcR W B g c N (aT aL X++Y))=>eP (aT aL X) Y [] B g c N 20 N W (by simpa using hW) (by rw [aU,hx];rfl) (by rw [aU,hx,hy];omega) (by omega));have HS3:=aa (fun W (hW:AcR W B g c N (aT aL X++aT aL Y))=>AN (aT aL X) (aT aL Y) B g c N 0 20 N W (by rw [aU,hx];omega) (by rw [aU,hy];omega) hW (dT fZ fX _) (dT fZ fX _) rfl (by rw [aU,hx];rfl) (by rw [aU,aU,hx,hy];omega) (by omega));have q1:20≤N:=by omega
 have q2:(20:Int)≤(N:Int):=by omega
 have q3:¬(40≤N):=by omega
 have q4:¬((40:Int)≤(N:Int)):=by omega
 have q5:(20:Int)<(N:Int):=by omega
 have q6:¬(40<N):=by omega
 have q7:¬((40:Int)<(N:Int)):=by omega
 clear hA hT hx hy hxy;go_enter Tryz.func209,Tryz.ntmps209;go_wp2_with fail
 refine wp_loop_rounds 2 ?_;rw [rounds_succ];go_wp2_with fail
 refine(ag HS1).mono ?_;rintro e w1 ⟨rfl,hA1,hG1⟩;have HA1:Hid (AcR w1 B g c N (aT aL X++Y)):=aa (by simpa using hA1);have HG:=aa hG1;clear hA1 hG1 HS1;go_wp2_with fail
 rw [rounds_succ];go_wp2_with fail
 refine(ag HS2 _ HA1.out).mono ?_;rintro e w2 ⟨rfl,hA2,hG2⟩;have HA2:Hid (AcR w2 B g c N (aT aL X++aT aL Y)):=aa (by simpa using hA2);have HG2:=aa (aC HG.out hG2);clear hA2 hG2 HS2 HA1 HG;go_wp2_with fail
 refine wp_loop_rounds 2 ?_;rw [rounds_succ];go_wp2_with fail
 refine wp_loop_rounds 1 ?_;rw [rounds_succ];go_wp2_with fail
 refine(ag HS3 _ HA2.out).mono ?_;rintro e w3 ⟨rfl,hA3,hG3⟩;have HE:Hid (AcR w3 B g c N T):=by rw [HT.out];exact aa hA3
 have HG3:=aa (aC HG2.out hG3);clear hA3 hG3 HS3 HA2 HG2;go_wp2_with fail
 rw [rounds_succ];go_wp2_with fail
 go_end0;exact⟨rfl,HE.out,HG3.out⟩
theorem pq:gG 40:=fun L B g c w hA=>by
 obtain⟨hx,hy,hxy⟩:=uB hA.1 (by omega);have HT:Hid (aQ L=mrg aL (aT aL (L.take 20)) (aT aL (L.drop 20))):=rfl;obtain⟨T,hT⟩:∃T,T=aQ L:=⟨_,rfl⟩;rw [←hT];rw [←hT]at HT;rw [←hxy]at hA;generalize L.take 20=X at*;generalize L.drop 20=Y at*;have HS1:=aa (eP [] X Y B g c 40 0 20 w (by simpa using hA) (by simp) (by simp [hx]) (by omega));have HS2:=aa (fun W (hW:AcR W B g c 40 (aT aL X++Y))=>eP (aT aL X) Y [] B g c 40 20 40 W (by simpa using hW) (by rw [aU,hx];rfl) (by rw [aU,hx,hy];rfl) (by omega));have HS4:=aa (fun W (hW:AcR W B g c 40 (aT aL X++aT aL Y))=>eP (aT aL X++aT aL Y) [] [] B g c 40 40 40 W (by simpa using hW) (by rw [List.length_append,aU,aU,hx,hy];rfl) (by rw [List.length_append,aU,aU,hx,hy];rfl) (by omega));have HS3:=aa (fun W (hW:AcR W B g c 40 (aT aL X++aT aL Y))=>AN (aT aL X) (aT aL Y) B g c 40 0 20 40 W (by rw [aU,hx];omega) (by rw [aU,hy];omega) hW (dT fZ fX _) (dT fZ fX _) rfl (by rw [aU,hx];rfl) (by rw [aU,aU,hx,hy];rfl) (by omega));clear hA hT hx hy hxy;go_enter Tryz.func209,Tryz.ntmps209;go_wp2_with fail
 refine wp_loop_rounds 3 ?_;rw [rounds_succ];go_wp2_with fail
 refine(ag HS1).mono ?_;rintro e w1 ⟨rfl,hA1,hG1⟩;have HA1:Hid (AcR w1 B g c 40 (aT aL X++Y)):=aa (by simpa using hA1);have HG:=aa hG1;clear hA1 hG1 HS1;go_wp2_with fail
 rw [rounds_succ];go_wp2_with fail
 refine(ag HS2 _ HA1.out).mono ?_;rintro e w2 ⟨rfl,hA2,hG2⟩;have HA2:Hid (AcR w2 B g c 40 (aT aL X++aT aL Y)):=aa (by simpa using hA2);have HG2:=aa (aC HG.out hG2);clear hA2 hG2 HS2 HA1 HG;go_wp2_with fail
 rw [rounds_succ];go_wp2_with fail
 refine(ag HS4 _ HA2.out).mono ?_;rintro e w4 ⟨rfl,hA4,hG4⟩;have HA4:Hid (AcR w4 B g c 40 (aT aL X++aT aL Y)):=by
  have e:aT aL ([]:List Ac)= []:=rfl;rw [e]at hA4;exact aa (by simpa using hA4)
 have HG4:=aa (aC HG2.out hG4);clear hA4 hG4 HS4 HA2 HG2;go_wp2_with fail
 refine wp_loop_rounds 2 ?_;rw [rounds_succ];go_wp2_with fail
 refine wp_loop_rounds 2 ?_;rw [rounds_succ];go_wp2_with fail
 refine(ag HS3 _ HA4.out).mono ?_;rintro e w3 ⟨rfl,hA3,hG3⟩;have HE:Hid (AcR w3 B g c 40 T):=by rw [HT.out];exact aa hA3
 have HG3:=aa (aC HG4.out hG3);clear hA3 hG3 HS3 HA4 HG4;go_wp2_with fail
 rw [rounds_succ];go_wp2_with fail
 rw [rounds_succ];go_wp2_with fail
 go_end0;exact⟨rfl,HE.out,HG3.out⟩
theorem sq {N:Nat} (h:N≤40):gG N:=by
 rcases Nat.lt_or_ge N 20 with h1 | h1
 ·exact sG h1
 ·by_cases h2:N=20
  ·subst h2;exact nW
  ·by_cases h3:N=40
   ·subst h3;exact pq
   ·exact sT (by omega) (by omega)
theorem vZ {L:List Ac} (h:L.length≤40):eY L:=yu (sq h)
section
open Go.Shelf
def Tryz.sortAr_ren:Go.Shelf.Ren:=⟨fun | 6=>63 | 15=>104 | 14=>103 | 28=>162 | 29=>163 | 20=>154 | 21=>155 | 22=>156 | 23=>157 | 24=>158 | 25=>159 | 26=>160 | 27=>161 | 46=>195 | 47=>196 | 48=>197 | 49=>198 | 50=>199 | 57=>219 | n=>n,fun | 22=>36 | 24=>41 | 25=>129 | 3=>3 | 39=>135 | 0=>0 | 53=>212 | 55=>214 | 4=>4 | 46=>206 | 45=>205 | 50=>147 | 5=>5 | 9=>9 | 66=>238 | 70=>242 | 76=>257 | 77=>258 | n=>n,fun | n=>n⟩
theorem Tryz.sortAr:Go.Proofs.SlLaysF0.n6 Tryz.prog Tryz.sortAr_ren:={
 mixed:=by kernel_rfl
 f6:=⟨Tryz.f63.name,by decide,Tryz.func63.trans (congrArg some (by kernel_rfl))⟩
 f14:=⟨Tryz.f103.name,by decide,Tryz.func103.trans (congrArg some (by kernel_rfl))⟩
 f15:=Tryz.func104.trans (congrArg some (by kernel_rfl))
 f20:=⟨Tryz.f154.name,by decide,Tryz.func154.trans (congrArg some (by kernel_rfl))⟩
 f21:=⟨Tryz.f155.name,by decide,Tryz.func155.trans (congrArg some (by kernel_rfl))⟩
 f22:=⟨Tryz.f156.name,by decide,Tryz.func156.trans (congrArg some (by kernel_rfl))⟩
 f23:=⟨Tryz.f157.name,by decide,Tryz.func157.trans (congrArg some (by kernel_rfl))⟩
 f24:=⟨Tryz.f158.name,by decide,Tryz.func158.trans (congrArg some (by kernel_rfl))⟩
 f25:=⟨Tryz.f159.name,by decide,Tryz.func159.trans (congrArg some (by kernel_rfl))⟩
 f26:=⟨Tryz.f160.name,by decide,Tryz.func160.trans (congrArg some (by kernel_rfl))⟩
 f27:=⟨Tryz.f161.name,by decide,Tryz.func161.trans (congrArg some (by kernel_rfl))⟩
 f28:=Tryz.func162.trans (congrArg some (by kernel_rfl))
 f29:=Tryz.func163.trans (congrArg some (by kernel_rfl))
 f46:=⟨Tryz.f195.name,by decide,Tryz.func195.trans (congrArg some (by kernel_rfl))⟩
 f47:=Tryz.func196.trans (congrArg some (by kernel_rfl))
 f48:=Tryz.func197.trans (congrArg some (by kernel_rfl))
 f49:=⟨Tryz.f198.name,by decide,Tryz.func198.trans (congrArg some (by kernel_rfl))⟩
 f50:=⟨Tryz.f199.name,by decide,Tryz.func199.trans (congrArg some (by kernel_rfl))⟩
 f57:=⟨Tryz.f219.name,by decide,Tryz.func219.trans (congrArg some (by kernel_rfl))⟩
 t0:=Tryz.underlying0
 a0:=Tryz.isAgg0
 z0:=Tryz.sizeOf0
 v0:=Tryz.zeroValue0
 t3:=Tryz.underlying3
 a3:=Tryz.isAgg3
 z3:=Tryz.sizeOf3
 v3:=Tryz.zeroValue3
 t4:=Tryz.underlying4
 a4:=Tryz.isAgg4
 z4:=Tryz.sizeOf4
 v4:=Tryz.zeroValue4
 t5:=Tryz.underlying5
 a5:=Tryz.isAgg5
 z5:=Tryz.sizeOf5
 v5:=Tryz.zeroValue5
 t9:=Tryz.underlying9
 a9:=Tryz.isAgg9
 z9:=Tryz.sizeOf9
 v9:=Tryz.zeroValue9
 t22:=Tryz.underlying36
 a22:=Tryz.isAgg36
 z22:=Tryz.sizeOf36
 v22:=Tryz.zeroValue36
 t25:=Tryz.underlying129
 a25:=Tryz.isAgg129
 z25:=Tryz.sizeOf129
 v25:=Tryz.zeroValue129
 t39:=Tryz.underlying135
 a39:=Tryz.isAgg135
 z39:=Tryz.sizeOf135
 v39:=Tryz.zeroValue135
 t45:=Tryz.underlying205
 a45:=Tryz.isAgg205
 z45:=Tryz.sizeOf205
 v45:=Tryz.zeroValue205
 t46:=Tryz.underlying206
 a46:=Tryz.isAgg206
 z46:=Tryz.sizeOf206
 v46:=Tryz.zeroValue206
 t50:=Tryz.underlying147
 a50:=Tryz.isAgg147
 z50:=Tryz.sizeOf147
 v50:=Tryz.zeroValue147
 t53:=Tryz.underlying212
 a53:=Tryz.isAgg212
 z53:=Tryz.sizeOf212
 v53:=Tryz.zeroValue212
 t55:=Tryz.underlying214
 a55:=Tryz.isAgg214
 z55:=Tryz.sizeOf214
 v55:=Tryz.zeroValue214
 t66:=Tryz.underlying238
 a66:=Tryz.isAgg238
 z66:=Tryz.sizeOf238
 v66:=Tryz.zeroValue238
 t70:=Tryz.underlying242
 a70:=Tryz.isAgg242
 z70:=Tryz.sizeOf242
 v70:=Tryz.zeroValue242
 t76:=Tryz.underlying257
 a76:=Tryz.isAgg257
 z76:=Tryz.sizeOf257
 v76:=Tryz.zeroValue257
 t77:=Tryz.underlying258
 a77:=Tryz.isAgg258
 z77:=Tryz.sizeOf258
 v77:=Tryz.zeroValue258}
end
theorem lU (p:Option Addr) (n cap:Nat) (fv:Value) (w:World) (hn:n≤1):
  Calls Tryz.prog 154 #[.slice p n cap,.int .i64 0,.int .i64 n,fv] w fun e w'=>e= .returned (.tuple #[])∧w'=w:=by
 go_enter Tryz.func154,Tryz.ntmps154;go_wp2_with fail
 refine wp_loop_rounds 1 ?_;rw [rounds_succ];go_wp2_with fail
 go_end0;exact⟨rfl,rfl⟩
theorem nT (n:Nat) (w:World) (hn:n≤1):
  Calls Tryz.prog 104 #[.int .u64 n] w fun e w'=>(∃r:Int,e= .returned (.int .i64 r))∧w'=w:=by
 have hn':n=0∨n=1:=by omega
 have h64:Hid (∀W:World,Calls Tryz.prog 163 #[.int .u64 n] W fun e w'=>(∃r:Int,e= .returned (.int .i64 r))∧w'=W):=by
  intro W;rcases hn' with rfl | rfl
  ·go_enter Tryz.func163,Tryz.ntmps163;go_wp2;go_ret;exact⟨⟨_,rfl⟩,rfl⟩
  ·go_enter Tryz.func163,Tryz.ntmps163;go_wp2;go_ret;exact⟨⟨_,rfl⟩,rfl⟩
 rcases hn' with rfl | rfl
 all_goals
  go_enter Tryz.func104,Tryz.ntmps104;go_wp2_with fail
  refine(ag h64 _).mono ?_;rintro e w1 ⟨⟨r,rfl⟩,rfl⟩;go_wp2_with fail
  go_ret;exact⟨⟨_,rfl⟩,rfl⟩
theorem vK (p:Option Addr) (n cap:Nat) (lim:Int) (fv:Value) (w:World) (hn:n≤1):
  Calls Tryz.prog 103 #[.slice p n cap,.int .i64 0,.int .i64 n,.int .i64 lim,fv] w fun e w'=>e= .returned (.tuple #[])∧w'=w:=by
 go_enter Tryz.func103,Tryz.ntmps103;go_wp2_with fail
 refine wp_loop_rounds 1 ?_;rw [rounds_succ];go_wp2_with fail
 refine(lU _ _ _ _ _ hn).mono ?_;rintro e w1 ⟨rfl,rfl⟩;go_wp2_with fail
 (try simp only [Exit.inBlock,Exit.then]);refine bodyPost_ret (results_none rfl _ _ _) rfl ?_
 exact⟨rfl,rfl⟩
theorem mK (p:Option Addr) (n cap:Nat) (fv:Value) (w:World) (hn:n≤1):
  Calls Tryz.prog 63 #[.slice p n cap,fv] w fun e w'=>e= .returned (.tuple #[])∧w'=w:=by
 go_enter Tryz.func63,Tryz.ntmps63;go_wp2_with fail
 refine(nT n _ hn).mono ?_;rintro e w1 ⟨⟨r,rfl⟩,rfl⟩;go_wp2_with fail
 refine(vK _ _ _ _ _ _ hn).mono ?_;rintro e w1 ⟨rfl,rfl⟩;go_wp2_with fail
 go_end0;exact⟨rfl,rfl⟩
theorem pV {l:List Ar} (hl:l.length≤1):mq l:=fun body u B w ho hB=>by
 obtain⟨o,c,rfl⟩:=aG ho;refine(mK o l.length c _ w hl).mono ?_;rintro e w1 ⟨rfl,rfl⟩;refine⟨rfl,l,List.Perm.refl _,?_,ho,⟨rfl,rfl,rfl,Nat.le_refl _,fun _ _ _=>rfl⟩⟩
 match l,hl with
 | [],_=>exact List.Pairwise.nil
 | [x],_=>exact List.pairwise_singleton _ _
section
open Go.Sort (grow PermIn SortedIn SWO flatK get_flatK size_flatK HoldsK Holds putRowK putRow putCells mapBlock onCells)
theorem uL (body:ByteArray) (x y:Ar) (w:World):Calls Tryz.prog 64 #[.agg (arC body x).toArray,.agg (arC body y).toArray] w fun e w'=>e= .returned (.int .i64 (aS x.n y.n))∧Grw w w':=by
 have H0:=aa (fun W=>cY x.n y.n W);generalize aS x.n y.n=R at H0⊢;unfold arC;go_enter Tryz.func64,Tryz.ntmps64;go_wp2_with fail
 refine(ag H0 _).mono ?_;rintro e w1 ⟨rfl,rfl⟩;go_wp2_with fail
 go_ret;exact⟨rfl,((Grw.refl w).alloc _).alloc _⟩
abbrev rO:Inhabited Ar:=⟨ar0⟩
def Af (x y:Ar):Int:=aS x.n y.n
theorem Ab (x y:Ar):ltOf Af x y=decide (x.n<y.n):=by
 unfold ltOf Af aS;by_cases h:x.n<y.n
 ·simp [h]
 ·by_cases h2:y.n<x.n
  ·simp [h,h2]
  ·simp [h,h2]
theorem Bu:SWO (ltOf Af) where
 irrefl x:=by rw [Ab];simp
 trans x y z h1 h2:=by
  rw [Ab]at*;simp only [decide_eq_true_eq]at*;omega
 ntrans x y z h1 h2:=by
  rw [Ab]at*;simp only [decide_eq_false_iff_not]at*;omega
section
variable {w:World} {blk:Nat} {body:ByteArray}
theorem vy (n:Nat) (d:Array Ar) (os:Array Obj):letI:=rO
  w.grownBy (sortWorldK (arC body) 9 w blk 0 n d os) (some blk):=by
 letI:=rO
 refine⟨rfl,rfl,rfl,?_,fun k hk hne=>?_⟩
 ·exact size_sortWorldK_c (arC body) 9 w blk 0 n d os
 ·unfold sortWorldK;rw [Go.Sort.heap_grow_old _ _ (by rw [Go.Sort.size_putRowK];exact hk)];unfold putRowK putRow mapBlock;simp only [Array.getElem?_modify];rw [if_neg (fun h=>hne (by rw [h]))];rfl
theorem wy (l:List Ar):letI:=rO
  (flatK (arC body) 9 l.toArray).toList=AR body l:=by
 letI:=rO
 refine List.ext_getElem? fun j=>?_;have hl:(AR body l).length=l.length*9:=by
  unfold AR
  induction l with
  | nil=>rfl
  | cons x r ih=>rw [List.flatMap_cons,List.length_append,ih,List.length_cons];show 9+_=_;omega
 by_cases hj:j<l.length*9
 ·have hsz:j<(flatK (arC body) 9 l.toArray).size:=by rw [size_flatK];simpa using hj
  rw [Array.getElem?_toList,Array.getElem?_eq_getElem hsz, ←getElem!_pos _ j hsz,get_flatK _ _ _ _ (by simpa using hj)];have hi:j/9<l.length:=(by omega);have e:j=j/9*9+j%9:=(by omega);have hf:=nE (arC body) 9 (fun _=>rfl) ar0 l (j/9) (j%9) hi (by omega);rw [←e]at hf;unfold AR;rw [hf];have hd:l.toArray[j/9]! =l.getD (j/9) ar0:=by
   rw [getElem!_pos _ _ (by simpa using hi)];simp [List.getD,List.getElem?_eq_getElem hi]
  rw [hd];have hm:j%9<(arC body (l.getD (j/9) ar0)).length:=by show _<9;omega
  rw [List.getElem?_eq_getElem hm,getElem!_pos (arC body (l.getD (j/9) ar0)) (j%9) hm]
 ·rw [List.getElem?_eq_none (by rw [Array.length_toList,size_flatK];simp;omega),List.getElem?_eq_none (by omega)]
theorem oj (B cap:Nat) (lo:List Ar) (hown:w.ownsRow B 41 9 (.slice (some ⟨blk,0,none⟩) lo.length cap) lo.length (AR body lo)) (hl:lo.length≤2000000):
  Calls Tryz.prog 63 #[.slice (some ⟨blk,0,none⟩) lo.length cap,.func (.func 64) #[] #[]] w fun e w'=>e= .returned (.tuple #[])∧∃lo':List Ar,lo'.Perm lo∧jQ lo'∧w'.ownsRow B 41 9 (.slice (some ⟨blk,0,none⟩) lo.length cap) lo.length (AR body lo')∧w.grownBy w' (some blk):=by
 letI:=rO
 have eg:∀args w,(callFunc 64 args).run Tryz.prog w= .ok (.enter 64 args) w:=enters_of Tryz.func64 (by kernel_rfl) rfl;have hfl:=wy (body:=body) lo;have hown':=hown;obtain⟨hlen,⟨h,_⟩ |⟨g',cap',cur,hv,hB,hheap,hnc,hcm,hcs,htk⟩⟩:=hown
 ·simp at h
 simp only [Value.slice.injEq,Option.some.injEq,Addr.mk.injEq]at hv;obtain⟨⟨rfl,_⟩,_,rfl⟩:=hv;have hblk:blk<w.heap.size:=by
  rcases Nat.lt_or_ge blk w.heap.size with h' | h'
  ·exact h'
  ·simp [Array.getElem?_eq_none h']at hheap
 obtain⟨d,hd⟩:∃d,d=lo.toArray:=⟨_,rfl⟩;have hds:d.size=lo.length:=by rw [hd];simp
 rw [←hd]at hfl;have hH:HoldsK (arC body) 9 w blk 0 d:=by
  intro j hj;rw [size_flatK,hds]at hj;have hc:=hown'.cellAt j hj;have hf:=hown'.frozenAt j;have e:(AR body lo)[j]? =some ((flatK (arC body) 9 d)[j]!):=by
   rw [←hfl,Array.getElem?_toList,Array.getElem?_eq_getElem (by rw [size_flatK,hds];exact hj),getElem!_pos _ j (by rw [size_flatK,hds];exact hj)]
  rw [Nat.zero_add];exact⟨hc.trans e,hf⟩
 have hone:∀x:Ar,∀v∈arC body x,v.oneCell'=true:=fun x v hv=>by
  unfold arC at hv;simp only [List.mem_cons,List.not_mem_nil,or_false]at hv;rcases hv with rfl | rfl | rfl | rfl | rfl | rfl | rfl | rfl | rfl <;>rfl
 have hcon:=AnyQ.slices_SortFunc Tryz.sortAr 9 Tryz.isAgg41 Tryz.sizeOf41 (arC body) (fun _=>rfl) hone Af Bu 64 #[] blk 0 cap d w eg (fun m os dk _ x y=>uL body x y _) hH hblk (by omega);rw [hds]at hcon;refine Calls.mono hcon ?_;rintro e w' ⟨he,d',n,os,hp,hs,rfl⟩;have hds':d'.size=lo.length:=by rw [hp.1,hds]
 have hfl':(flatK (arC body) 9 d').toList=AR body d'.toList:=wy (body:=body) d'.toList;refine⟨he,d'.toList,?_,?_,?_,?_⟩
 ·have h1:=hp.2.2;have e1:d'.extract 0 lo.length=d':=by rw [←hds'];simp
  have e2:d.extract 0 lo.length=d:=by rw [←hds];simp
  rw [e1,e2,hd]at h1;simpa using h1
 ·unfold jQ;rw [List.pairwise_iff_getElem];intro i j hi hj hij;have hi':i<d'.size:=(by simpa using hi);have hj':j<d'.size:=(by simpa using hj);have h1:=hs i j (Nat.zero_le _) hij (by omega);rw [Ab,getElem!_pos d' i hi',getElem!_pos d' j hj']at h1;simpa using h1
 ·have hcl:(AR body d'.toList).length=lo.length*9:=(by rw [←hfl',Array.length_toList,size_flatK,hds']);refine⟨hcl,.inr ⟨blk,cap,putCells id 0 (flatK (arC body) 9 d') cur,rfl,hB,?_,hnc,hcm,?_,?_⟩⟩
  ·unfold sortWorldK;rw [Go.Sort.heap_grow_old _ _ (by rw [Go.Sort.size_putRowK];exact hblk)];unfold putRowK putRow mapBlock;simp only [Array.getElem?_modify,if_true];show(w.heap[blk]?).map _=_;rw [hheap];rfl
  ·rw [←hcs];simp [putCells]
  ·rw [←hfl'];refine List.ext_getElem? fun j=>?_;by_cases hj:j<lo.length*9
   ·rw [List.getElem?_take,if_pos hj,Array.getElem?_toList,Array.getElem?_toList];unfold putCells;rw [Array.getElem?_mapIdx];have hjc:j<cur.size:=by rw [hcs];omega
    have hjf:j<(flatK (arC body) 9 d').size:=by rw [size_flatK,hds'];exact hj
    rw [Array.getElem?_eq_getElem hjc,Array.getElem?_eq_getElem hjf];simp only [Option.map_some,Nat.zero_le,true_and,Nat.zero_add,Nat.sub_zero,id];rw [if_pos hjf,getElem!_pos _ j hjf]
   ·rw [List.getElem?_eq_none (by simp;omega),List.getElem?_eq_none (by rw [Array.length_toList,size_flatK,hds'];omega)]
 ·exact vy n d' os
end
theorem rW {l:List Ar} (hl:l.length≤2000000):mq l:=fun body u B w ho hB=>by
 by_cases h1:l.length≤1
 ·exact pV h1 body u B w ho hB
 obtain⟨oo,oc,rfl,_,hg⟩:=dW ho;obtain⟨g,rfl,_,_⟩:=hg (by omega);exact oj B oc l ho hl
end
section
variable {S:List Sw} {P:List Pr} {A:List Ac}
theorem An (hm:may S P A=true) {p:Pr} (hp:p∈P) (d sc k a b t o:Int):(led S P A p.c p.i d sc k a b t o).length≤100:=by
 obtain⟨hS,hP,_⟩:=bu hm;have hl:=(dz hS hP).1;rw [kJ hm hp];split
 ·split
  ·have:=rB hm hp p.c p.m p.p b;omega
  ·split
   ·unfold og;rw [List.length_append,List.length_map,List.length_map];have h1:=List.length_filter_le (brB (dB S p.s) p.i d) P;have h2:=List.length_filter_le (rtB S (dB S p.s) d b t) P;omega
   ·simp
 ·simp
theorem yx (hm:may S P A=true) {p:Pr} (hp:p∈P) (d sc k a b t o:Int):(cmG S P A p d sc k a b t o).length≤100:=by
 unfold cmG;rw [List.length_map];exact Nat.le_trans (List.length_filter_le _ _) (An hm hp d sc k a b t o)
theorem wj (hm:may S P A=true) {id d sc k a b t o:Int} {n:Nat} (hid:P= []∧id=1∨∃p∈P,id=p.i) (hf:be d sc k a b t o n=0):
  (∃p∈P,(id=p.i∧p.c≠ -1)∧od S P A id d sc k a b t o n=0∧l7 S P A id d sc k a b t o n=cmG S P A p d sc k a b t o)∨(∀q∈P,q.i=id→q.c= -1)∧od S P A id d sc k a b t o n=6∧l7 S P A id d sc k a b t o n= []:=by
 rcases hid with⟨rfl,rfl⟩ |⟨p,hp,rfl⟩
 ·exact .inr ⟨fun q hq=>by simp at hq,lG hm (fun q hq=>by simp at hq)⟩
 ·by_cases hc:p.c= -1
  ·have h:∀q∈P,q.i=p.i→q.c= -1:=fun q hq e=>by rw [cI (bu hm).2.1 hq hp e];exact hc
   exact .inr ⟨h,lG hm h⟩
  ·obtain⟨h1,h2⟩:=Ag hm hp hc hf;exact .inl ⟨p,hp,⟨rfl,hc⟩,h1,h2⟩
end
theorem zX (S:List Sw) (P:List Pr) (A:List Ac) (s1 p1 a1:Option Addr) (s2 p2 a2:Nat) (id d sc k a b t o:Int) (body:ByteArray) (w:World) (hC:CfAt w (.slice s1 S.length s2) (.slice p1 P.length p2) (.slice a1 A.length a2) S P A) (hm:may S P A=true) (hid:P= []∧id=1∨∃p∈P,id=p.i) (hf:be d sc k a b t o body.size=0):
  Calls Tryz.prog 13 #[.agg #[.slice s1 S.length s2,.slice p1 P.length p2,.slice a1 A.length a2],.int .i64 id,fr d sc k a b t o body] w fun e w'=>∃u,e= .returned (.tuple #[u,.int .i64 (od S P A id d sc k a b t o body.size)])∧∃l',(l'.Perm (l7 S P A id d sc k a b t o body.size)∧jQ l'∧w'.ownsRow w.heap.size 41 9 u l'.length (AR body l'))∧Below w.heap.size w w':=by
 obtain⟨n1,n2,n3⟩:=js hm;refine qN S P A s1 p1 a1 s2 p2 a2 id d sc k a b t o body w hC (by omega) (by omega) (by omega) (fun _ s b=>vZ (by unfold aV;exact Nat.le_trans (List.length_filter_le _ _) n3)) (by have:=(gw hf).2.2.1;unfold maxLen;omega) (fun _ h0=>rW ?_);have e:l7 S P A id d sc k a b t o body.size=lR (KD S P A 6) P id d sc k a b t o body.size:=by unfold l7;rw [if_pos hm]
 rw [←e];rcases wj hm hid hf with⟨p,hp,_,_,h⟩ |⟨_,_,h⟩
 ·rw [h];have:=yx hm hp d sc k a b t o;omega
 ·rw [h];simp
theorem ne {α:Type} {l:List α} {f:α→Bool} (d:α) {k:Nat} (hk:k<l.length) (h0:∀j,j<k→f (l.getD j d)=false) (h1:f (l.getD k d)=true):l.find? f=some (l.getD k d):=by
 have e:l=l.take k++l.getD k d::l.drop (k+1):=by
  rw [←List.singleton_append, ←List.append_assoc, ←ew d hk,List.take_append_drop]
 have hn:(l.take k).find? f=none:=by
  rw [List.find?_eq_none];intro x hx;obtain⟨j,hj,rfl⟩:=List.mem_take_iff_getElem.1 hx;have:=h0 j (by omega);rw [List.getD_eq_getElem?_getD,List.getElem?_eq_getElem (by omega)]at this;simpa using this
 have h2:(l.take k++l.getD k d::l.drop (k+1)).find? f=some (l.getD k d):=by
  rw [List.find?_append,hn,List.find?_cons_of_pos h1];rfl
 rwa [←e]at h2
theorem sx {α:Type} {l:List α} {f:α→Bool} (d:α) (h0:∀j,j<l.length→f (l.getD j d)=false):l.find? f=none:=by
 rw [List.find?_eq_none];intro x hx;obtain⟨j,hj,rfl⟩:=List.getElem_of_mem hx;have:=h0 j hj;rw [List.getD_eq_getElem?_getD,List.getElem?_eq_getElem hj]at this;simpa using this
def jE (S:List Sw) (id:Int) (p:Pr):Bool:=p.i==id&&S.any fun s=>s.i==p.s
def jA (S:List Sw) (P:List Pr) (id:Int):Int:=match P.find? (jE S id)with
 | none=>0
 | some p=>(dB S p.s).t
theorem xC:(Tryz.prog.info? 53).map (·.size)=some 5:=by kernel_rfl
theorem xl:(Tryz.prog.info? 51).map (·.size)=some 3:=by kernel_rfl
theorem ic (S:List Sw) (P:List Pr) (A:List Ac) (s1 p1 a1:Option Addr) (s2 p2 a2:Nat) (id:Int) (w:World) (hC:CfAt w (.slice s1 S.length s2) (.slice p1 P.length p2) (.slice a1 A.length a2) S P A) (h1:S.length≤1000) (h2:P.length≤1000):
  Calls Tryz.prog 14 #[.agg #[.slice s1 S.length s2,.slice p1 P.length p2,.slice a1 A.length a2],.int .i64 id] w fun e w'=>e= .returned (.int .i64 (jA S P id))∧Below w.heap.size w w':=by
 have HC:=aa hC;clear hC;have HNO:Hid ((∀j,j<P.length→jE S id (P.getD j pr0)=false)→jA S P id=0):=aa (fun h=>by unfold jA;rw [sx pr0 h]);have HYES:Hid (∀k,k<P.length→(∀j,j<k→jE S id (P.getD j pr0)=false)→(P.getD k pr0).i=id→∀i,i<S.length→(∀j,j<i→(S.getD j sw0).i≠(P.getD k pr0).s)→(S.getD i sw0).i=(P.getD k pr0).s→jA S P id=(S.getD i sw0).t):=aa (fun k hk h0 e i hi h3 e3=>by
  have hany:S.any (fun s=>s.i==(P.getD k pr0).s)=true:=by
   rw [List.any_eq_true];refine⟨S.getD i sw0,?_,by simpa using e3⟩;rw [List.getD_eq_getElem?_getD,List.getElem?_eq_getElem hi];exact List.getElem_mem _
  have hf:=ne (f:=jE S id) pr0 hk h0 (by unfold jE;rw [hany,e];simp);unfold jA;rw [hf];show(dB S (P.getD k pr0).s).t=_;unfold dB;rw [ne (f:=fun s:Sw=>s.i==(P.getD k pr0).s) sw0 hi (fun j hj=>by simpa using h3 j hj) (by simpa using e3)];rfl)
 have HNX:Hid (∀k,(P.getD k pr0).i≠id→jE S id (P.getD k pr0)=false):=aa (fun k h=>by
  unfold jE;have:((P.getD k pr0).i==id)=false:=(by simpa using h);rw [this];rfl)
 have HNS:Hid (∀k,(∀j,j<S.length→(S.getD j sw0).i≠(P.getD k pr0).s)→jE S id (P.getD k pr0)=false):=aa (fun k h=>by
  unfold jE;have:S.any (fun s=>s.i==(P.getD k pr0).s)=false:=by
   rw [List.any_eq_false];intro x hx;obtain⟨j,hj,rfl⟩:=List.getElem_of_mem hx;have:=h j hj;rw [List.getD_eq_getElem?_getD,List.getElem?_eq_getElem hj]at this;simpa using this
  rw [this,Bool.and_false])
 generalize jA S P id=T at*;obtain⟨W0,hW0⟩:∃W0,W0=w.alloc (.cells #[.slice s1 S.length s2,.slice p1 P.length p2,.slice a1 A.length a2] 30):=⟨_,rfl⟩;have kb:Below w.heap.size w W0:=by rw [hW0];exact(Below.refl _ w).alloc zr _
 have HB:Hid (Box W0 w.heap.size [.slice s1 S.length s2,.slice p1 P.length p2,.slice a1 A.length a2]):=by rw [hW0];exact aa (Box.new w [.slice s1 S.length s2,.slice p1 P.length p2,.slice a1 A.length a2] 30)
 replace HC:=aa (HC.out.below kb zr);have HW0:=aa hW0.symm;clear hW0;have c1:W0.cell? ⟨w.heap.size,1,none⟩=some (.slice p1 P.length p2):=HB.out.cell 1 _ rfl;go_enter Tryz.func14,Tryz.ntmps14;go_wp2_with (rw [HW0.out])
 clear HW0 c1;go_loopw [12] (fun i wr=>∃k:Nat,k≤P.length∧i= .int .i64 k∧Hid (∀j,j<k→jE S id (P.getD j pr0)=false)∧Below W0.heap.size W0 wr) (fun i _=>P.length-(intOf i).toNat)
 case atStart=>exact⟨0,by omega,rfl,aa (fun j hj=>by omega),Below.refl _ _⟩
 case round=>
  obtain⟨k,hk,rfl,HT,hbr⟩:=hrel;have sr:W0.heap.size≤wr.heap.size:=hbr.size;by_cases hlt:k<P.length
  ·obtain⟨b,off,cap,e1,hcap,hR⟩:=jh pr0 (RowAt.below HC.out.2.1 hbr zr) hlt;simp only [Value.slice.injEq,true_and]at e1;obtain⟨rfl,rfl⟩:=e1;have R0:=aa hR;clear hR;have HXC:Hid (prC (P.getD k pr0)= [.int .i64 (P.getD k pr0).i,.int .i64 (P.getD k pr0).s,.int .i64 (P.getD k pr0).m,.int .i64 (P.getD k pr0).p,.int .i64 (P.getD k pr0).c]):=rfl;rw [HXC.out]at R0;clear HXC;have HY:=aa (HYES.out k hlt HT.out);have HN1:=aa (HNX.out k);have HN2:=aa (HNS.out k);have HTN:Hid (jE S id (P.getD k pr0)=false→∀j,j<k+1→jE S id (P.getD j pr0)=false):=aa (fun h j hj=>by
    rcases Nat.lt_or_ge j k with h' | h'
    ·exact HT.out j h'
    ·obtain rfl:j=k:=(by omega);exact h)
   generalize jE S id (P.getD k pr0)=B0 at*;generalize (P.getD k pr0).i=x0 at*;generalize (P.getD k pr0).s=x1 at*;generalize (P.getD k pr0).m=x2 at*;generalize (P.getD k pr0).p=x3 at*;generalize (P.getD k pr0).c=x4 at*;have q0:(0:Int)≤(k:Int):=(by omega);have q1:(k:Int)<(P.length:Int):=(by omega);obtain⟨W1,hW1⟩:∃W1,W1=wr.alloc (.cells #[.int .i64 x0,.int .i64 x1,.int .i64 x2,.int .i64 x3,.int .i64 x4] 53):=⟨_,rfl⟩;have HBX:Hid (Box W1 wr.heap.size [.int .i64 x0,.int .i64 x1,.int .i64 x2,.int .i64 x3,.int .i64 x4]):=by rw [hW1];exact aa (Box.new wr [.int .i64 x0,.int .i64 x1,.int .i64 x2,.int .i64 x3,.int .i64 x4] 53)
   have hb1:Below wr.heap.size wr W1:=by rw [hW1];exact(Below.refl _ _).alloc zr _
   have hbw:=hbr.trans (hb1.mono sr);have HW1:=aa hW1.symm;clear hW1 hb1 hbr;have d0:W1.cell? ⟨wr.heap.size,0,none⟩=some (.int .i64 x0):=HBX.out.cell 0 _ rfl;by_cases hx:x0=id
   ·have hxb:(x0 != id)=false:=(by simpa using hx);have HY2:=aa (HY.out hx);have HTN2:=aa HTN.out;have c0:W1.cell? ⟨w.heap.size,0,none⟩=some (.slice s1 S.length s2):=dw (HB.out.cell 0 _ rfl) hbw zr;clear hx HY HN1;go_wp2_with (first | rw [HW1.out] |(refine wpList_load_mid rfl 53 (.tmp 14) rfl b (off+k*5) rfl _ _ R0.out Tryz.underlying53 rfl xC ?_))
    clear HW1 c0 d0;go_loopw [23] (fun i w2=>∃n:Nat,n≤S.length∧i= .int .i64 n∧Hid (∀j,j<n→(S.getD j sw0).i≠x1)∧Below W1.heap.size W1 w2) (fun i _=>S.length-(intOf i).toNat)
    case atStart=>exact⟨0,by omega,rfl,aa (fun j hj=>by omega),Below.refl _ _⟩
    case round=>
     obtain⟨n,hn,rfl,HS,hb2⟩:=hrel;have sr2:W1.heap.size≤wr.heap.size:=hb2.size;have hb02:=hbw.trans (hb2.mono hbw.size);by_cases hln:n<S.length
     ·obtain⟨b',off',cap',e2,hcap2,hR2⟩:=jh sw0 (RowAt.below HC.out.1 hb02 zr) hln;simp only [Value.slice.injEq,true_and]at e2;obtain⟨rfl,rfl⟩:=e2;have R2:=aa hR2;clear hR2;have HXS:Hid (swC (S.getD n sw0)= [.int .i64 (S.getD n sw0).i,.int .i64 (S.getD n sw0).t,.int .i64 (S.getD n sw0).g]):=rfl;rw [HXS.out]at R2;clear HXS;have HY3:=aa (HY2.out n hln HS.out);have HSN:Hid ((S.getD n sw0).i≠x1→∀j,j<n+1→(S.getD j sw0).i≠x1):=aa (fun h j hj=>by
       rcases Nat.lt_or_ge j n with h' | h'
       ·exact HS.out j h'
       ·obtain rfl:j=n:=(by omega);exact h)
      generalize (S.getD n sw0).i=z0 at*;generalize (S.getD n sw0).t=z1 at*;generalize (S.getD n sw0).g=z2 at*;have q2:(0:Int)≤(n:Int):=(by omega);have q3:(n:Int)<(S.length:Int):=(by omega);obtain⟨W3,hW3⟩:∃W3,W3=wr.alloc (.cells #[.int .i64 z0,.int .i64 z1,.int .i64 z2] 51):=⟨_,rfl⟩;have HBS:Hid (Box W3 wr.heap.size [.int .i64 z0,.int .i64 z1,.int .i64 z2]):=by rw [hW3];exact aa (Box.new wr [.int .i64 z0,.int .i64 z1,.int .i64 z2] 51)
      have hb3:Below wr.heap.size wr W3:=by rw [hW3];exact(Below.refl _ _).alloc zr _
      have hbw3:=hb2.trans (hb3.mono sr2);have HW3:=aa hW3.symm;have u0:W3.cell? ⟨wr.heap.size,0,none⟩=some (.int .i64 z0):=HBS.out.cell 0 _ rfl;have u1:W3.cell? ⟨wr.heap.size,1,none⟩=some (.int .i64 z1):=HBS.out.cell 1 _ rfl;have u2:=dw (HBX.out.cell 1 _ rfl) hbw3 zr;clear hW3 hb3 hb2;by_cases hz:z0=x1
      ·have hzb:(z0==x1)=true:=(by simpa using hz);have HV:=aa (HY3.out hz);have hbE:=kb.trans ((hbw.trans (hbw3.mono hbw.size)).mono kb.size);clear hz;go_wp2_with (first | rw [HW3.out] |(refine wpList_load_mid rfl 51 (.tmp 25) rfl b' (off'+n*3) rfl _ _ R2.out Tryz.underlying51 rfl xl ?_))
       go_ret;exact⟨am HV.out.symm,hbE⟩
      ·have hzb:(z0==x1)=false:=(by simpa using hz);have HSE:=aa (HSN.out hz);clear hz;go_wp2_with (first | rw [HW3.out] |(refine wpList_load_mid rfl 51 (.tmp 25) rfl b' (off'+n*3) rfl _ _ R2.out Tryz.underlying51 rfl xl ?_))
       go_roundw
       case rel=>exact⟨n+1,by omega,by go_num,HSE,hbw3⟩
       case measure=>simp [intOf];omega
     ·obtain rfl:n=S.length:=(by omega);have hkk:¬((S.length:Int)<(S.length:Int)):=(by omega);have HTE:=aa (HTN2.out (HN2.out HS.out));go_wp2_with fail
      go_roundw
      case rel=>exact⟨k+1,by omega,by go_num,HTE,hb02⟩
      case measure=>simp [intOf];omega
   ·have hxb:(x0 != id)=true:=(by simpa using hx);have HTE:=aa (HTN.out (HN1.out hx));clear hx;go_wp2_with (first | rw [HW1.out] |(refine wpList_load_mid rfl 53 (.tmp 14) rfl b (off+k*5) rfl _ _ R0.out Tryz.underlying53 rfl xC ?_))
    go_roundw
    case rel=>exact⟨k+1,by omega,by go_num,HTE,hbw⟩
    case measure=>simp [intOf];omega
  ·obtain rfl:k=P.length:=(by omega);have hkk:¬((P.length:Int)<(P.length:Int)):=(by omega);have HV:=aa (HNO.out HT.out);have hbE:=kb.trans (hbr.mono kb.size);go_wp2_with fail
   go_ret;exact⟨am HV.out.symm,hbE⟩
section
variable {S:List Sw} {P:List Pr} {A:List Ac}
theorem qd (hm:may S P A=true) {p:Pr} (hp:p∈P):jA S P p.i=(dB S p.s).t:=by
 obtain⟨hS,hP,_⟩:=bu hm;obtain⟨s,hs,e⟩:=my hP hp;unfold jA;cases hf:P.find? (jE S p.i)with
 | none=>
  have:=List.find?_eq_none.1 hf p hp;exfalso;apply this;unfold jE;rw [Bool.and_eq_true];exact⟨by simp,List.any_eq_true.2 ⟨s,hs,by simp [e]⟩⟩
 | some q=>
  have h2:=List.find?_some hf;unfold jE at h2;rw [Bool.and_eq_true]at h2;rw [cI hP (List.mem_of_find?_eq_some hf) hp (by simpa using h2.1)]
theorem vm (hm:may S P A=true) {p:Pr} (hp:p∈P) (d sc k a b t o:Int):∀x∈cmG S P A p d sc k a b t o,jA S P x.n=jA S P p.i:=by
 obtain⟨hS,hP,_⟩:=bu hm;obtain⟨hso,hsi⟩:=jo hP hp;intro x hx;unfold cmG at hx;obtain⟨g,hg,rfl⟩:=List.mem_map.1 hx;have hg:=(List.mem_filter.1 hg).1;show jA S P g.u=_;rw [kJ hm hp]at hg;split at hg
 ·split at hg
  ·unfold lY at hg;obtain⟨m,_,rfl⟩:=List.mem_map.1 hg;rfl
  ·split at hg
   ·unfold og at hg;rcases List.mem_append.1 hg with h | h
    ·obtain⟨q,hq,rfl⟩:=List.mem_map.1 h;obtain⟨hq,hb⟩:=List.mem_filter.1 hq;unfold brB at hb;simp only [Bool.and_eq_true,beq_iff_eq]at hb;show jA S P q.i=_;rw [qd hm hq,qd hm hp,hb.2.1.1,hsi]
    ·obtain⟨q,hq,rfl⟩:=List.mem_map.1 h;obtain⟨hq,hb⟩:=List.mem_filter.1 hq;unfold rtB cZ at hb;simp only [Bool.and_eq_true,List.any_eq_true,beq_iff_eq]at hb;obtain⟨s',hs',⟨e1,e2⟩,_⟩:=hb.2.2.1;show jA S P q.i=_;rw [qd hm hq,qd hm hp, ←e1,zj hS hs',e2]
   ·cases hg
 ·cases hg
end
theorem dZ (a k:Int) (hk:1≤k) (h0: -9223372036854775808≤a) (h1:a≤9223372036854775807): -9223372036854775808≤a.tdiv k∧a.tdiv k≤9223372036854775807:=by
 rcases Int.le_total 0 a with h | h
 ·rw [Int.tdiv_eq_ediv_of_nonneg h];have:=Int.ediv_le_self k h;have:=Int.ediv_nonneg h (by omega:(0:Int)≤k);omega
 ·have e:a.tdiv k= -((-a).tdiv k):=by rw [Int.neg_tdiv];omega
  rw [e,Int.tdiv_eq_ediv_of_nonneg (by omega)];have:=Int.ediv_le_self k (by omega:(0:Int)≤ -a);have:=Int.ediv_nonneg (by omega:(0:Int)≤ -a) (by omega:(0:Int)≤k);omega
theorem az (n:Int) (h0: -9223372036854775808≤n) (h1:n≤9223372036854775807):IntKind.i64.wrap n=n:=by
 simp [IntKind.wrap,IntKind.bits,IntKind.signed];split <;>omega
section
open Go.ChangeShapes Go.WideShapes Go.ChangeAt Go.RowKit
theorem wL {w:World} {base n:Nat} {a:Addr} {cs:List Value} (hn:0<n) (h:w.cells? base (a.add 0) n=some cs):a.spot=none:=by
 obtain⟨_,hlen,hc⟩:=World.cells?_some h;have h0:=hc 0 hn;have e:(a.add 0).add 0=a:=by simp [Addr.add]
 rw [e]at h0;have hs:∃c,cs[0]? =some c:=⟨cs[0],by simp [List.getElem?_eq_getElem (show 0<cs.length by omega)]⟩;obtain⟨c,hs⟩:=hs;rw [hs]at h0;exact World.cell?_spot h0
section
variable {H:Type} {enc:TypeId×Value→H} {w:World} {base:Nat} {spare:Nat→Bool} {held:Bool}
theorem uO {α:Type} [Inhabited α] {C:α→List Value} {sz:Nat} {t e:TypeId} {fuel:Nat} {cs:List Value} {y:DataW H×List MemPlace} (ht:Tryz.prog.underlying t=some (.slice e)) (hc:Tryz.prog.cellsOf e=sz) (hs:0<sz)
  (hel:∀n cs' z,DataW.trod enc Tryz.prog w base spare held n e cs'=some z→∃x:α,cs'=C x) (h:DataW.trod enc Tryz.prog w base spare held fuel t cs=some y):
  ∃v l,cs= [v]∧RowAt C sz w v l∧(l.length=0∨∃elems sp,y.1= .slice elems sp∧elems.length=l.length):=by
 rcases Deep.open_slice ht h with⟨rfl,_⟩ |⟨a,len,cap,m,n,D,Pl,rfl,_,hl,_,hm,hd,hx⟩
 ·exact⟨_,[],rfl,RowAt.nil _ _ _,.inl rfl⟩
 ·have hlm:len≤m:=by rw [hm];split <;>omega
  rw [hc]at hx;by_cases hz:len=0
  ·subst hz;exact⟨_,[],rfl,⟨some a,cap,rfl,fun h=>by simp at h,.inl rfl⟩,.inl rfl⟩
  ·obtain⟨b,off,spot⟩:=a;obtain⟨cs0,hcs0,_⟩:=hx 0 (by omega);rw [Nat.zero_mul]at hcs0;have hsp:spot=none:=wL (a:=⟨b,off,spot⟩) hs hcs0;subst hsp;obtain⟨F,hF⟩:=Deep.choose_lt (α:=α) (n:=len) (p:=fun i x=>∀j u,(C x)[j]? =some u→w.cell? ⟨b,off+i*sz+j,none⟩=some u) (fun i hi=>by
    obtain⟨cs',hcs',htr⟩:=hx i (by omega);obtain⟨x,rfl⟩:=hel _ _ _ htr;refine⟨x,fun j u hu=>?_⟩;obtain⟨_,hlen,hcell⟩:=World.cells?_some hcs';have hj:j<sz:=by
     rcases Nat.lt_or_ge j (C x).length with h | h
     ·omega
     ·simp [List.getElem?_eq_none h]at hu
    have:=hcell j hj;rw [gS,gS]at this;rw [this];exact hu)
   have hll:((List.range len).map F).length=len:=(by simp);refine⟨_,(List.range len).map F,rfl,⟨some ⟨b,off,none⟩,cap,by rw [hll],fun h=>by simp at h,.inr ⟨b,off,rfl,by rw [hll];exact hl,fun i x hx=>?_⟩⟩,.inr ⟨_,_,by rw [hd],by simp⟩⟩;have hi:i<len:=by
    rcases Nat.lt_or_ge i len with h | h
    ·exact h
    ·simp [List.getElem?_eq_none (show((List.range len).map F).length≤i by omega)]at hx
   have:x=F i:=by
    rw [List.getElem?_map,List.getElem?_range hi]at hx;simpa using hx.symm
   subst this;exact hF i hi
instance:Inhabited Sw:=⟨sw0⟩
instance:Inhabited Pr:=⟨pr0⟩
instance:Inhabited Ac:=⟨ac0⟩
end
end
section
open Go.ChangeShapes Go.WideShapes Go.ChangeAt Go.RowKit
theorem yP:Tryz.prog.cellsOf 24=4:=by kernel_rfl
theorem array4' {α:Type} {cs:Array α} (h:cs.size=4):∃c0 c1 c2 c3,cs= #[c0,c1,c2,c3]:=by
 obtain⟨l⟩:=cs
 match l,h with
 | [c0,c1,c2,c3],_=>exact⟨c0,c1,c2,c3,rfl⟩
theorem iV {n:Int} (h:(Lit.int .i64 n).wf=true): -9223372036854775808≤n∧n≤9223372036854775807:=by
 simpa [Lit.wf,IntKind.min,IntKind.max,IntKind.signed,IntKind.bits] using h
theorem xr {H:Type} {enc:TypeId×Value→H} {w:World} {base b0:Nat} {spare:Nat→Bool} {held:Bool} {r:Reach} {v:Value} {d:DataW H} {p:List MemPlace}
  (hv:Value.okWide Tryz.prog w r b0 24 v) (h:DataW.Trod enc Tryz.prog w base spare held 24 v d p):
  ∃k a b c:Int,v= .agg #[.int .i64 k,.int .i64 a,.int .i64 b,.int .i64 c]∧(-9223372036854775808≤k∧k≤9223372036854775807)∧(-9223372036854775808≤a∧a≤9223372036854775807)∧(-9223372036854775808≤b∧b≤9223372036854775807)∧
   (-9223372036854775808≤c∧c≤9223372036854775807):=by
 obtain⟨cs,rfl,hsz⟩:=okWide_struct Tryz.underlying24 hv;obtain⟨c0,c1,c2,c3,rfl⟩:=array4' (hsz.trans yP);obtain⟨fuel,hf⟩:=h;obtain⟨xs,n,_,_,_,hlen,hf⟩:=DataW.trod_struct Tryz.underlying24 hf;have h8:xs.length=4:=by simpa using hlen
 have g0:=hf 0 _ rfl;have g1:=hf 1 _ rfl;have g2:=hf 2 _ rfl;have g3:=hf 3 _ rfl;simp only [Value.cells]at g0 g1 g2 g3;obtain⟨k0,rfl,w0⟩:=eS (i:=0) (by omega) g0;obtain⟨k1,rfl,w1⟩:=eS (i:=1) (by omega) g1;obtain⟨k2,rfl,w2⟩:=eS (i:=2) (by omega) g2;obtain⟨k3,rfl,w3⟩:=eS (i:=3) (by omega) g3;exact⟨k0,k1,k2,k3,rfl,iV w0,iV w1,iV w2,iV w3⟩
end
section
open Go.ChangeShapes Go.WideShapes Go.ChangeAt Go.RowKit
def W64 (n:Int):Prop:= -9223372036854775808≤n∧n≤9223372036854775807
structure Rw where
 k:Int
 a:Int
 b:Int
 c:Int
 ok:W64 k∧W64 a∧W64 b∧W64 c
def rw0:Rw:=⟨0,0,0,0,by simp [W64]⟩
instance:Inhabited Rw:=⟨rw0⟩
def rwC (x:Rw):List Value:=[.int .i64 x.k,.int .i64 x.a,.int .i64 x.b,.int .i64 x.c]
theorem zu {H:Type} {enc:TypeId×Value→H} {w:World} {base:Nat} {spare:Nat→Bool} {held:Bool} {n:Nat} {cs:List Value} {z:DataW H×List MemPlace} (h:DataW.trod enc Tryz.prog w base spare held n 24 cs=some z):∃x:Rw,cs=rwC x:=by
 obtain⟨xs,n',_,_,hcl,hlen,hf⟩:=DataW.trod_struct Tryz.underlying24 h;rw [show Tryz.prog.cellsOf 24=4 by kernel_rfl]at hcl;have h3:xs.length=4:=by simpa using hlen
 obtain⟨c0,c1,c2,c3,hcs⟩:∃c0 c1 c2 c3,cs= [c0,c1,c2,c3]:=by
  match cs,hcl with
  | [c0,c1,c2,c3],_=>exact⟨c0,c1,c2,c3,rfl⟩
 subst hcs;obtain⟨n0,rfl,w0⟩:=eS (i:=0) (by omega) (hf 0 _ rfl);obtain⟨n1,rfl,w1⟩:=eS (i:=1) (by omega) (hf 1 _ rfl);obtain⟨n2,rfl,w2⟩:=eS (i:=2) (by omega) (hf 2 _ rfl);obtain⟨n3,rfl,w3⟩:=eS (i:=3) (by omega) (hf 3 _ rfl);exact⟨⟨n0,n1,n2,n3,iV w0,iV w1,iV w2,iV w3⟩,rfl⟩
theorem vO {H:Type} {enc:TypeId×Value→H} {w:World} {base b0:Nat} {spare:Nat→Bool} {held:Bool} {r:Reach} {v:Value} {d:DataW H} {p:List MemPlace}
  (hv:Value.okWide Tryz.prog w r b0 22 v) (h:DataW.Trod enc Tryz.prog w base spare held 22 v d p):∃l:List Rw,RowAt rwC 4 w v l:=by
 obtain⟨a,len,cap,rfl⟩:=okWide_slice Tryz.underlying22 hv;obtain⟨fuel,hf⟩:=h;obtain⟨v0,l,e0,hl,_⟩:=uO (C:=rwC) (sz:=4) Tryz.underlying22 (by kernel_rfl) (by omega) (fun n cs' z hz=>zu hz) hf;simp [Value.cells]at e0;subst e0;exact⟨l,hl⟩
end
theorem cr:(Tryz.prog.info? 33).map (·.size)=some 8:=by kernel_rfl
theorem nu {P:Program} {c:Code} {Q:Exit→Act→World→Prop} {a:Act} {w:World} (A1:Act) (W1:World) (h:c.wp P (fun e a' w'=>e= .normal∧a'=A1∧w'=W1) a w) (hq:Q .normal A1 W1):c.wp P Q a w:=
 Code.wp_mono (fun e a' w' ⟨he,ha,hw⟩=>by subst he;subst ha;subst hw;exact hq) h
theorem pf {dst src kind ips ipd ttl port:Int} {n:Nat} (hk:1≤kind∧kind≤3) (h1:0≤dst∧dst≤65535) (h2:0≤src∧src≤65535) (h3:0≤ips∧ips≤65535) (h4:0≤ipd∧ipd≤65535) (h5:0≤ttl∧ttl≤255) (h6:0≤port∧port≤65535) (hn:n≤40) (hl:kind=3∨ttl=0∧port=0∧n=0):be dst src kind ips ipd ttl port n=0:=by
 unfold be;rw [if_pos (by simp [ir];omega),if_pos (by simp [dL,aB,lr];omega),if_neg (by omega),if_neg];rintro⟨a,b⟩;rcases hl with h |⟨rfl,rfl,rfl⟩
 ·exact a h
 ·simp [iI]at b
def FrK (P:List Pr) (w:World) (e:Ending) (w':World):Prop:=∃(id dst src kind ips ipd ttl port:Int) (body:ByteArray),e= .returned (.tuple #[.int .i64 id,fr dst src kind ips ipd ttl port body])∧(be dst src kind ips ipd ttl port body.size=0∧(P= []∧id=1∨∃p∈P,id=p.i))∧Below w.heap.size w w'
theorem tf (s1 p1 a1:Option Addr) (s2 p2 a2:Nat) (S:List Sw) (P:List Pr) (A:List Ac) (x:Rw) (w:World) (hC:CfAt w (.slice s1 S.length s2) (.slice p1 P.length p2) (.slice a1 A.length a2) S P A) (hl:P.length≤1000) (hP:∀p∈P,jB p):
  Calls Tryz.prog 12 #[.agg #[.slice s1 S.length s2,.slice p1 P.length p2,.slice a1 A.length a2],.agg #[.int .i64 x.k,.int .i64 x.a,.int .i64 x.b,.int .i64 x.c]] w (FrK P w):=by
 have HP:=aa hP;have HC:=aa hC.2.1;obtain⟨⟨xk0,xk1⟩,⟨xa0,xa1⟩,⟨xb0,xb1⟩,xc0,xc1⟩:=x.ok;clear hC hP;generalize x.k=r0 at*;generalize x.a=r1 at*;generalize x.b=r2 at*;generalize x.c=r3 at*;obtain⟨W0,hW0⟩:∃W0,W0=((w.alloc (.cells #[.slice s1 S.length s2,.slice p1 P.length p2,.slice a1 A.length a2] 30)).alloc (.cells #[.int .i64 r0,.int .i64 r1,.int .i64 r2,.int .i64 r3] 24)).alloc (.cells #[.int .i64 0,.int .i64 0,.int .i64 0,.int .i64 0,.int .i64 0,.int .i64 0,.int .i64 0,.string ⟨#[]⟩] 33):=⟨_,rfl⟩;have kb:Below w.heap.size w W0:=by rw [hW0];exact(((Below.refl _ w).alloc zr _).alloc (by simp) _).alloc (by simp;omega) _
 have B0:Box W0 w.heap.size [.slice s1 S.length s2,.slice p1 P.length p2,.slice a1 A.length a2]:=by rw [hW0];exact((Box.new w [.slice s1 S.length s2,.slice p1 P.length p2,.slice a1 A.length a2] 30).alloc _).alloc _
 have B1:Box W0 (w.heap.size+1) [.int .i64 r0,.int .i64 r1,.int .i64 r2,.int .i64 r3]:=by rw [hW0];have h:=(Box.new (w.alloc (.cells #[.slice s1 S.length s2,.slice p1 P.length p2,.slice a1 A.length a2] 30)) [.int .i64 r0,.int .i64 r1,.int .i64 r2,.int .i64 r3] 24).alloc (.cells #[.int .i64 0,.int .i64 0,.int .i64 0,.int .i64 0,.int .i64 0,.int .i64 0,.int .i64 0,.string ⟨#[]⟩] 33);simpa using h
 have B2:Box W0 (w.heap.size+1+1) [.int .i64 0,.int .i64 0,.int .i64 0,.int .i64 0,.int .i64 0,.int .i64 0,.int .i64 0,.string ⟨#[]⟩]:=by rw [hW0];have h:=Box.new ((w.alloc (.cells #[.slice s1 S.length s2,.slice p1 P.length p2,.slice a1 A.length a2] 30)).alloc (.cells #[.int .i64 r0,.int .i64 r1,.int .i64 r2,.int .i64 r3] 24)) [.int .i64 0,.int .i64 0,.int .i64 0,.int .i64 0,.int .i64 0,.int .i64 0,.int .i64 0,.string ⟨#[]⟩] 33;simpa using h
 have HB2:=aa B2;have c1:=B0.cell 1 _ rfl;have ra:=B1.cell 1 _ rfl;have rb:=B1.cell 2 _ rfl;have rc:=B1.cell 3 _ rfl;have rk:=B1.cell 0 _ rfl;have HW0:=aa hW0.symm;replace HC:=aa (RowAt.below HC.out kb zr);clear hW0 B0 B1 B2;go_enter Tryz.func12,Tryz.ntmps12;by_cases h0:P.length=0
 ·have hp:P= []:=List.eq_nil_of_length_eq_zero h0;have HPN:=aa hp;clear hp;have h0i:((P.length:Int)==0)=true:=(by simp [h0]);have HH0:=aa h0;clear h0;go_wp2_with (first | rw [HW0.out] |(refine wpList_store_mid rfl 33 (.tmp 5) (.tmp 13) rfl (w.heap.size+1+1) 0 _ rfl rfl (HB2.out.fit 8 rfl) cr (dO rfl) ?_))
  refine bodyPost_ret (v:=.tuple #[.int .i64 1,fr 0 0 3 0 0 2 0 ⟨#[]⟩]) ?_ rfl ⟨1,0,0,3,0,0,2,0,⟨#[]⟩,rfl,⟨by decide,.inl ⟨HPN.out,rfl⟩⟩,aE _ (by omega) _ _ kb⟩;exact dQ (cs:=[.int .i64 0,.int .i64 0,.int .i64 3,.int .i64 0,.int .i64 0,.int .i64 2,.int .i64 0,.string ⟨#[]⟩]) Tryz.results12 rfl (HB2.out.set ([.int .i64 0,.int .i64 0,.int .i64 3,.int .i64 0,.int .i64 0,.int .i64 2,.int .i64 0,.string ⟨#[]⟩]:List Value) rfl).range Tryz.underlying33 rfl cr
 ·have h0i:((P.length:Int)==0)=false:=(by simpa using h0);have hn:(0:Int)<(P.length:Int):=(by omega);obtain⟨k0,k1⟩:=bv r1 P.length hn;obtain⟨j0,j1⟩:=bv r2 P.length hn;have HPK:=aa (fun W=>aI r1 (P.length:Int) W xa0 xa1 hn (by omega));have HPJ:=aa (fun W=>aI r2 (P.length:Int) W xb0 xb1 hn (by omega));generalize pk r1 (P.length:Int)=ki at*;generalize pk r2 (P.length:Int)=ji at*;obtain⟨k,rfl⟩:=Int.eq_ofNat_of_zero_le k0;obtain⟨j,rfl⟩:=Int.eq_ofNat_of_zero_le j0;have hk:k<P.length:=(by omega);have hj:j<P.length:=(by omega);obtain⟨pb,off,cap,e1,hcap,hpb,g0,g1,g2,g3,g4⟩:=fK HC.out hk;simp only [Value.slice.injEq,true_and]at e1;obtain⟨rfl,rfl⟩:=e1;obtain⟨pb',off',cap',e2,hcap',hpb',y0,y1,y2,y3,y4⟩:=fK HC.out hj;simp only [Value.slice.injEq,Option.some.injEq,Addr.mk.injEq,true_and,and_true]at e2;obtain⟨⟨rfl,rfl⟩,rfl⟩:=e2;have HMK:Hid (P.getD k pr0∈P):=by rw [List.getD_eq_getElem?_getD,List.getElem?_eq_getElem hk];exact aa (List.getElem_mem hk)
  have HMJ:Hid (P.getD j pr0∈P):=by rw [List.getD_eq_getElem?_getD,List.getElem?_eq_getElem hj];exact aa (List.getElem_mem hj)
  generalize P.getD k pr0=p at*;generalize P.getD j pr0=q at*;have s0:=HB2.out.lt;go_wp2_with (rw [HW0.out])
  apply nu
  ·go_region_held3 (fun w'=>w'.cell? ⟨w.heap.size,1,none⟩=some (.slice (some ⟨pb,off,none⟩) P.length p2)∧w'.cell? ⟨w.heap.size+1,1,none⟩=some (.int .i64 r1)∧w'.cell? ⟨pb,off+k*5,none⟩=some (.int .i64 p.i)∧w'.cell? ⟨pb,off+k*5+1,none⟩=some (.int .i64 p.s)∧w'.cell? ⟨pb,off+k*5+2,none⟩=some (.int .i64 p.m)∧w'.cell? ⟨pb,off+k*5+3,none⟩=some (.int .i64 p.p)∧w'.cell? ⟨pb,off+k*5+4,none⟩=some (.int .i64 p.c)) (go_keep) (first |(go_at_call 34;refine(ag HPK _).mono ?_;rintro e w' ⟨rfl,rfl⟩))
   all_goals exact⟨rfl,rfl,rfl⟩
  ·obtain⟨V3,hV3⟩:∃V3,V3=(W0.alloc (.cells #[.int .i64 p.i,.int .i64 p.s,.int .i64 p.m,.int .i64 p.p,.int .i64 p.c] 53)).drew:=⟨_,rfl⟩;have hb3:Below W0.heap.size W0 V3:=by rw [hV3];exact((Below.refl _ _).alloc zr _).drew
   have HP3:Hid (Box V3 W0.heap.size [.int .i64 p.i,.int .i64 p.s,.int .i64 p.m,.int .i64 p.p,.int .i64 p.c]):=by rw [hV3];exact aa ((Box.new W0 [.int .i64 p.i,.int .i64 p.s,.int .i64 p.m,.int .i64 p.p,.int .i64 p.c] 53).below ((Below.refl _ _).drew))
   replace HB2:=aa (HB2.out.below hb3);replace kb:=kb.trans (hb3.mono kb.size);replace⟨c1,rb,rc,rk,y0,y1,y2,y3⟩:=cX c1 rb rc rk y0 y1 y2 y3 hb3;replace y4:=zC y4 hb3;have HV3:=aa hV3.symm;have sz3:=HP3.out.lt;clear ra g0 g1 g2 g3 g4 HPK hb3 hV3 HC;go_wp2_with (rw [HV3.out])
   clear HV3;apply nu
   ·go_region_held3 (fun w'=>w'.cell? ⟨w.heap.size,1,none⟩=some (.slice (some ⟨pb,off,none⟩) P.length p2)∧w'.cell? ⟨w.heap.size+1,2,none⟩=some (.int .i64 r2)∧w'.cell? ⟨pb,off+j*5,none⟩=some (.int .i64 q.i)∧w'.cell? ⟨pb,off+j*5+1,none⟩=some (.int .i64 q.s)∧w'.cell? ⟨pb,off+j*5+2,none⟩=some (.int .i64 q.m)∧w'.cell? ⟨pb,off+j*5+3,none⟩=some (.int .i64 q.p)∧w'.cell? ⟨pb,off+j*5+4,none⟩=some (.int .i64 q.c)) (go_keep) (first |(go_at_call 34;refine(ag HPJ _).mono ?_;rintro e w' ⟨rfl,rfl⟩))
    all_goals exact⟨rfl,rfl,rfl⟩
   ·obtain⟨V4,hV4⟩:∃V4,V4=(V3.alloc (.cells #[.int .i64 q.i,.int .i64 q.s,.int .i64 q.m,.int .i64 q.p,.int .i64 q.c] 53)).drew:=⟨_,rfl⟩;have hb4:Below V3.heap.size V3 V4:=by rw [hV4];exact((Below.refl _ _).alloc zr _).drew
    have HQ3:Hid (Box V4 V3.heap.size [.int .i64 q.i,.int .i64 q.s,.int .i64 q.m,.int .i64 q.p,.int .i64 q.c]):=by rw [hV4];exact aa ((Box.new V3 [.int .i64 q.i,.int .i64 q.s,.int .i64 q.m,.int .i64 q.p,.int .i64 q.c] 53).below ((Below.refl _ _).drew))
    replace HP3:=aa (HP3.out.below hb4);replace HB2:=aa (HB2.out.below hb4);replace kb:=kb.trans (hb4.mono kb.size);replace⟨rb,rc,rk⟩:=bj rb rc rk hb4;have HV4:=aa hV4.symm;have sz4:=HQ3.out.lt;have i2:=HP3.out.cell 2 _ rfl;have i3:=HP3.out.cell 3 _ rfl;have o2:=HQ3.out.cell 2 _ rfl;have o3:=HQ3.out.cell 3 _ rfl;obtain⟨u0,u1⟩:=dZ r3 4 (by omega) xc0 xc1;have hwr:=az (r3.tdiv 4) u0 u1;obtain⟨t0,t1⟩:=bv r3 4 (by omega);obtain⟨t2,t3⟩:=bv (r3.tdiv 4) 4 (by omega);clear c1 y0 y1 y2 y3 y4 HPJ hb4 hV4;go_wp2_with (rw [HV4.out])
    clear HV4;apply nu
    ·go_region_held3 (fun w'=>w'.cell? ⟨W0.heap.size,2,none⟩=some (.int .i64 p.m)∧w'.cell? ⟨W0.heap.size,3,none⟩=some (.int .i64 p.p)∧w'.cell? ⟨V3.heap.size,2,none⟩=some (.int .i64 q.m)∧w'.cell? ⟨V3.heap.size,3,none⟩=some (.int .i64 q.p)∧w'.cell? ⟨w.heap.size+1,3,none⟩=some (.int .i64 r3)) (go_keep) (first |(go_at_call 34;refine(aI _ 4 _ (by omega) (by omega) (by omega) (by omega)).mono ?_;rintro e w' ⟨rfl,rfl⟩))
     all_goals exact⟨rfl,rfl,rfl⟩
    ·obtain⟨V5,hV5⟩:∃V5,V5=(V4.alloc (.cells #[.int .i64 q.m,.int .i64 p.m,.int .i64 3,.int .i64 p.p,.int .i64 q.p,.int .i64 (pk r3 4),.int .i64 (pk (r3.tdiv 4) 4),.string ⟨#[104,101,108,108,111]⟩] 33)).drew:=⟨_,rfl⟩;have hb5:Below V4.heap.size V4 V5:=by rw [hV5];exact((Below.refl _ _).alloc zr _).drew
     have HF5:Hid (Box V5 V4.heap.size [.int .i64 q.m,.int .i64 p.m,.int .i64 3,.int .i64 p.p,.int .i64 q.p,.int .i64 (pk r3 4),.int .i64 (pk (r3.tdiv 4) 4),.string ⟨#[104,101,108,108,111]⟩]):=by rw [hV5];exact aa ((Box.new V4 [.int .i64 q.m,.int .i64 p.m,.int .i64 3,.int .i64 p.p,.int .i64 q.p,.int .i64 (pk r3 4),.int .i64 (pk (r3.tdiv 4) 4),.string ⟨#[104,101,108,108,111]⟩] 33).below ((Below.refl _ _).drew))
     replace HP3:=aa (HP3.out.below hb5);replace HQ3:=aa (HQ3.out.below hb5);replace HB2:=aa (HB2.out.below hb5);replace kb:=kb.trans (hb5.mono kb.size);replace⟨rb,rc,rk⟩:=bj rb rc rk hb5;have HV5:=aa hV5.symm;have sz5:=HF5.out.lt;obtain⟨m0,m1⟩:=bv r0 10 (by omega);have HT9:=aa (fun W=>aI r0 10 W xk0 xk1 (by omega) (by omega));generalize pk r0 10=m at*;clear i2 i3 o2 o3 hb5 hV5;obtain⟨⟨pa0,pa1⟩,⟨pb0,pb1⟩,⟨pc0,pc1⟩,⟨pd0,pd1⟩, -⟩:=HP.out p HMK.out;obtain⟨-, -,⟨qc0,qc1⟩,⟨qd0,qd1⟩, -⟩:=HP.out q HMJ.out;by_cases hm:m=0
     ·subst hm;go_wp2_with (first | rw [HV5.out] |(go_at_call 34;refine(ag HT9 _).mono ?_;rintro e w' ⟨rfl,hw9⟩;rw [hw9];clear hw9))
      clear HV5 HT9;refine wp_region_held_drew (S:=(fun w'=>w'.cell? ⟨W0.heap.size,0,none⟩=some (.int .i64 (p.i))∧w'.cell? ⟨W0.heap.size,2,none⟩=some (.int .i64 (p.m))∧w'.cell? ⟨W0.heap.size,3,none⟩=some (.int .i64 (p.p))∧w'.cell? ⟨V3.heap.size,3,none⟩=some (.int .i64 (q.p)))) (by kernel_rfl) ⟨HP3.out.cell 0 _ rfl,HP3.out.cell 2 _ rfl,HP3.out.cell 3 _ rfl,HQ3.out.cell 3 _ rfl⟩ (fun hHeld=>?_);refine sqA [(0,55),(1,56),(2,57),(3,58),(4,59),(5,60),(6,61),(7,62),(8,63),(9,4)] ?_;(iterate 10 (refine sqN rfl (by kernel_rfl) (fun _ _ _ h=>h) rfl ‹_› (by intro w h;go_simp <;>with_reducible rfl) ?_;simp only [nz]));refine sqZ ?_;have hbDV6:Below V5.heap.size V5 V5.drew:=(Below.refl _ _).drew;replace HP3:=aa (HP3.out.below hbDV6);replace HQ3:=aa (HQ3.out.below hbDV6);replace HB2:=aa (HB2.out.below hbDV6);replace kb:=kb.trans (hbDV6.mono kb.size);clear hbDV6;generalize V5.drew=V6 at*;refine Go.Proofs.YtaiedioffemhdaaGreat.rn 10 (by kernel_rfl) rfl (fun Kk hKk=>?_);refine wp_store_mid 33 (.tmp 5) (.tmp 63) rfl (w.heap.size+1+1) 0 _ rfl rfl (HB2.out.fit 8 rfl) cr (dO rfl) ?_;refine hKk.out _ _ ⟨(HP3.out.set_far (by omega) _ _).cell 0 _ rfl,(HP3.out.set_far (by omega) _ _).cell 2 _ rfl,(HP3.out.set_far (by omega) _ _).cell 3 _ rfl,(HQ3.out.set_far (by omega) _ _).cell 3 _ rfl⟩ (fun hHeld=>?_);clear hKk Kk;refine wpAnyH_done (by kernel_rfl) ?_ _;clear hHeld;go_wp2_with fail
      refine bodyPost_ret (v:=.tuple #[.int .i64 p.i,.agg #[.int .i64 (65535),.int .i64 (p.m),.int .i64 (1),.int .i64 (p.p),.int .i64 (q.p),.int .i64 (0),.int .i64 (0),.string ⟨#[]⟩]]) ?_ rfl ⟨p.i,65535,p.m,1,p.p,q.p,0,0,⟨#[]⟩,rfl,⟨pf (by omega) (by omega) (by omega) (by omega) (by omega) (by omega) (by omega) (by decide) (by first | exact .inl rfl | exact .inr ⟨rfl,rfl,rfl⟩),.inr ⟨p,HMK.out,rfl⟩⟩,aE _ (by omega) _ _ kb⟩;exact dQ (cs:=[.int .i64 (65535),.int .i64 (p.m),.int .i64 (1),.int .i64 (p.p),.int .i64 (q.p),.int .i64 (0),.int .i64 (0),.string ⟨#[]⟩]) Tryz.results12 rfl (HB2.out.set ([.int .i64 (65535),.int .i64 (p.m),.int .i64 (1),.int .i64 (p.p),.int .i64 (q.p),.int .i64 (0),.int .i64 (0),.string ⟨#[]⟩]:List Value) rfl).range Tryz.underlying33 rfl cr
     by_cases hm:m=1
     ·subst hm;obtain⟨v0,v1⟩:=bv r2 2 (by omega);have HTB:=aa (fun W=>aI r2 2 W xb0 xb1 (by omega) (by omega));generalize pk r2 2=tb at*;have hwb:=az (200+tb) (by omega) (by omega);go_wp2_with (first | rw [HV5.out] |(go_at_call 34;refine(ag HT9 _).mono ?_;rintro e w' ⟨rfl,hw9⟩;rw [hw9];clear hw9))
      clear HV5 HT9;refine wp_region_held_drew (S:=(fun w'=>w'.cell? ⟨W0.heap.size,0,none⟩=some (.int .i64 (p.i))∧w'.cell? ⟨W0.heap.size,2,none⟩=some (.int .i64 (p.m))∧w'.cell? ⟨W0.heap.size,3,none⟩=some (.int .i64 (p.p))∧w'.cell? ⟨w.heap.size+1,2,none⟩=some (.int .i64 (r2)))) (by kernel_rfl) ⟨HP3.out.cell 0 _ rfl,HP3.out.cell 2 _ rfl,HP3.out.cell 3 _ rfl,rb⟩ (fun hHeld=>?_);refine sqA [(0,66),(1,67),(2,68),(3,69),(4,70),(5,71),(6,72),(7,73)] ?_;(iterate 8 (refine sqN rfl (by kernel_rfl) (fun _ _ _ h=>h) rfl ‹_› (by intro w h;go_simp <;>with_reducible rfl) ?_;simp only [nz]));refine sqZ ?_;have hbDV6:Below V5.heap.size V5 V5.drew:=(Below.refl _ _).drew;replace HP3:=aa (HP3.out.below hbDV6);replace HQ3:=aa (HQ3.out.below hbDV6);replace HB2:=aa (HB2.out.below hbDV6);replace rb:=zC rb hbDV6;replace kb:=kb.trans (hbDV6.mono kb.size);clear hbDV6;generalize V5.drew=V6 at*;refine Go.Proofs.YtaiedioffemhdaaGreat.rs 8 74 (by kernel_rfl) rfl (fun Kk hKk=>?_);go_simp;refine(ag HTB _).mono ?_;rintro e w' ⟨rfl,hw9⟩;rw [hw9];clear hw9 w';refine hKk.out _ _ ⟨HP3.out.cell 0 _ rfl,HP3.out.cell 2 _ rfl,HP3.out.cell 3 _ rfl,rb⟩ (fun hHeld=>?_);clear hKk Kk;(try simp only [nz]);refine sqA [(9,75),(10,76),(11,4)] ?_;(iterate 3 (refine sqN rfl (by kernel_rfl) (fun _ _ _ h=>h) rfl ‹_› (by intro w h;go_simp <;>with_reducible rfl) ?_;simp only [nz]));refine sqZ ?_;refine Go.Proofs.YtaiedioffemhdaaGreat.rn 12 (by kernel_rfl) rfl (fun Kk hKk=>?_);refine wp_store_mid 33 (.tmp 5) (.tmp 76) rfl (w.heap.size+1+1) 0 _ rfl rfl (HB2.out.fit 8 rfl) cr (dO rfl) ?_;refine hKk.out _ _ ⟨(HP3.out.set_far (by omega) _ _).cell 0 _ rfl,(HP3.out.set_far (by omega) _ _).cell 2 _ rfl,(HP3.out.set_far (by omega) _ _).cell 3 _ rfl,(World.cell?_setCells_out _ _ _ _ _ (fun e=>absurd e (by simp))).trans rb⟩ (fun hHeld=>?_);clear hKk Kk;refine wpAnyH_done (by kernel_rfl) ?_ _;clear hHeld;go_wp2_with fail
      refine bodyPost_ret (v:=.tuple #[.int .i64 p.i,.agg #[.int .i64 (65535),.int .i64 (p.m),.int .i64 (1),.int .i64 (p.p),.int .i64 (200+tb),.int .i64 (0),.int .i64 (0),.string ⟨#[]⟩]]) ?_ rfl ⟨p.i,65535,p.m,1,p.p,200+tb,0,0,⟨#[]⟩,rfl,⟨pf (by omega) (by omega) (by omega) (by omega) (by omega) (by omega) (by omega) (by decide) (by first | exact .inl rfl | exact .inr ⟨rfl,rfl,rfl⟩),.inr ⟨p,HMK.out,rfl⟩⟩,aE _ (by omega) _ _ kb⟩;exact dQ (cs:=[.int .i64 (65535),.int .i64 (p.m),.int .i64 (1),.int .i64 (p.p),.int .i64 (200+tb),.int .i64 (0),.int .i64 (0),.string ⟨#[]⟩]) Tryz.results12 rfl (HB2.out.set ([.int .i64 (65535),.int .i64 (p.m),.int .i64 (1),.int .i64 (p.p),.int .i64 (200+tb),.int .i64 (0),.int .i64 (0),.string ⟨#[]⟩]:List Value) rfl).range Tryz.underlying33 rfl cr
     by_cases hm:m=2
     ·subst hm;have z0:=HF5.out.cell 0 _ rfl;have y0:=HF5.out.2 0 (by simp);obtain⟨V7,hV7⟩:∃V7,V7=V5.setCell ⟨V4.heap.size,0,none⟩ (.int .i64 65535):=⟨_,rfl⟩;replace HF5:Hid (Box V7 V4.heap.size [.int .i64 65535,.int .i64 p.m,.int .i64 3,.int .i64 p.p,.int .i64 q.p,.int .i64 (pk r3 4),.int .i64 (pk (r3.tdiv 4) 4),.string ⟨#[104,101,108,108,111]⟩]):=by rw [hV7];exact aa (HF5.out.set1 0 _ (by simp))
      replace HP3:Hid (Box V7 W0.heap.size [.int .i64 p.i,.int .i64 p.s,.int .i64 p.m,.int .i64 p.p,.int .i64 p.c]):=by rw [hV7];exact aa (HP3.out.set1_far (by omega) _ _)
      replace HB2:Hid (Box V7 (w.heap.size+1+1) [.int .i64 0,.int .i64 0,.int .i64 0,.int .i64 0,.int .i64 0,.int .i64 0,.int .i64 0,.string ⟨#[]⟩]):=by rw [hV7];exact aa (HB2.out.set1_far (by omega) _ _)
      replace kb:Below w.heap.size w V7:=by rw [hV7];exact kb.setCell (p:=⟨V4.heap.size,0,none⟩) (by simp only;omega) _
      have HV7:=aa hV7.symm;clear hV7;go_wp2_with (first | rw [HV5.out] | rw [HV7.out] |(go_at_call 34;refine(ag HT9 _).mono ?_;rintro e w' ⟨rfl,hw9⟩;rw [hw9];clear hw9))
      clear HV5 HT9;refine wp_region_held_drew (S:=(fun w'=>w'.cell? ⟨W0.heap.size,0,none⟩=some (.int .i64 (p.i))∧w'.rangeAt V4.heap.size 0 [.int .i64 (65535),.int .i64 (p.m),.int .i64 (3),.int .i64 (p.p),.int .i64 (q.p),.int .i64 (pk r3 4),.int .i64 (pk (r3.tdiv 4) 4),.string ⟨#[104,101,108,108,111]⟩])) (by kernel_rfl) ⟨HP3.out.cell 0 _ rfl,HF5.out.range⟩ (fun hHeld=>?_);refine sqA [(0,101),(1,102)] ?_;(iterate 2 (refine sqN rfl (by kernel_rfl) (fun _ _ _ h=>h) rfl ‹_› (by intro w h;go_simp <;>with_reducible rfl) ?_;simp only [nz]));refine sqZ ?_;refine wpAnyH_take (i:=2) (oi:=⟨some 103,_,_,_,_,_⟩) (v:=.agg #[.int .i64 (65535),.int .i64 (p.m),.int .i64 (3),.int .i64 (p.p),.int .i64 (q.p),.int .i64 (pk r3 4),.int .i64 (pk (r3.tdiv 4) 4),.string ⟨#[104,101,108,108,111]⟩]) rfl (by kernel_rfl) (by kernel_rfl) (by kernel_rfl) (fun _ _ _ h=>h) (yieldsIf_load_mid (by rfl) 33 (.tmp 8) rfl V4.heap.size 0 rfl [.int .i64 (65535),.int .i64 (p.m),.int .i64 (3),.int .i64 (p.p),.int .i64 (q.p),.int .i64 (pk r3 4),.int .i64 (pk (r3.tdiv 4) 4),.string ⟨#[104,101,108,108,111]⟩] _ (fun w h=>h.2) Tryz.underlying33 rfl cr) (by assumption) ?_;(try simp only [nz]);refine tq 3 4 rfl (by kernel_rfl) (fun _ _ _ h=>h) rfl ‹_› (by intro w h;go_simp <;>with_reducible rfl) ?_;simp only [nz];have hbDV8:Below V7.heap.size V7 V7.drew:=(Below.refl _ _).drew;replace HP3:=aa (HP3.out.below hbDV8);replace HB2:=aa (HB2.out.below hbDV8);replace HF5:=aa (HF5.out.below hbDV8);replace kb:=kb.trans (hbDV8.mono kb.size);clear hbDV8;generalize V7.drew=V8 at*;refine Go.Proofs.YtaiedioffemhdaaGreat.rn 4 (by kernel_rfl) rfl (fun Kk hKk=>?_);refine wp_store_mid 33 (.tmp 5) (.tmp 103) rfl (w.heap.size+1+1) 0 _ rfl rfl (HB2.out.fit 8 rfl) cr (dO rfl) ?_;refine hKk.out _ _ ⟨(HP3.out.set_far (by omega) _ _).cell 0 _ rfl,(HF5.out.set_far (by omega) _ _).range⟩ (fun hHeld=>?_);clear hKk Kk;refine wpAnyH_done (by kernel_rfl) ?_ _;clear hHeld;go_wp2_with fail
      refine bodyPost_ret (v:=.tuple #[.int .i64 p.i,.agg #[.int .i64 (65535),.int .i64 (p.m),.int .i64 (3),.int .i64 (p.p),.int .i64 (q.p),.int .i64 (pk r3 4),.int .i64 (pk (r3.tdiv 4) 4),.string ⟨#[104,101,108,108,111]⟩]]) ?_ rfl ⟨p.i,65535,p.m,3,p.p,q.p,pk r3 4,pk (r3.tdiv 4) 4,⟨#[104,101,108,108,111]⟩,rfl,⟨pf (by omega) (by omega) (by omega) (by omega) (by omega) (by omega) (by omega) (by decide) (by first | exact .inl rfl | exact .inr ⟨rfl,rfl,rfl⟩),.inr ⟨p,HMK.out,rfl⟩⟩,aE _ (by omega) _ _ kb⟩;exact dQ (cs:=[.int .i64 (65535),.int .i64 (p.m),.int .i64 (3),.int .i64 (p.p),.int .i64 (q.p),.int .i64 (pk r3 4),.int .i64 (pk (r3.tdiv 4) 4),.string ⟨#[104,101,108,108,111]⟩]) Tryz.results12 rfl (HB2.out.set ([.int .i64 (65535),.int .i64 (p.m),.int .i64 (3),.int .i64 (p.p),.int .i64 (q.p),.int .i64 (pk r3 4),.int .i64 (pk (r3.tdiv 4) 4),.string ⟨#[104,101,108,108,111]⟩]:List Value) rfl).range Tryz.underlying33 rfl cr
     by_cases hm7:m=7
     ·have hm:=hm7;subst hm;have z0:=HF5.out.cell 1 _ rfl;have y0:=HF5.out.2 1 (by simp);have q2:=HQ3.out.cell 2 _ rfl;obtain⟨V7,hV7⟩:∃V7,V7=V5.setCell ⟨V4.heap.size,1,none⟩ (.int .i64 q.m):=⟨_,rfl⟩;replace HF5:Hid (Box V7 V4.heap.size [.int .i64 q.m,.int .i64 q.m,.int .i64 3,.int .i64 p.p,.int .i64 q.p,.int .i64 (pk r3 4),.int .i64 (pk (r3.tdiv 4) 4),.string ⟨#[104,101,108,108,111]⟩]):=by rw [hV7];exact aa (HF5.out.set1 1 _ (by simp))
      replace HP3:Hid (Box V7 W0.heap.size [.int .i64 p.i,.int .i64 p.s,.int .i64 p.m,.int .i64 p.p,.int .i64 p.c]):=by rw [hV7];exact aa (HP3.out.set1_far (by omega) _ _)
      replace HB2:Hid (Box V7 (w.heap.size+1+1) [.int .i64 0,.int .i64 0,.int .i64 0,.int .i64 0,.int .i64 0,.int .i64 0,.int .i64 0,.string ⟨#[]⟩]):=by rw [hV7];exact aa (HB2.out.set1_far (by omega) _ _)
      replace kb:Below w.heap.size w V7:=by rw [hV7];exact kb.setCell (p:=⟨V4.heap.size,1,none⟩) (by simp only;omega) _
      have HV7:=aa hV7.symm;clear hV7;go_wp2_with (first | rw [HV5.out] | rw [HV7.out] |(go_at_call 34;refine(ag HT9 _).mono ?_;rintro e w' ⟨rfl,hw9⟩;rw [hw9];clear hw9))
      clear HV5 HT9;refine wp_region_held_drew (S:=(fun w'=>w'.cell? ⟨W0.heap.size,0,none⟩=some (.int .i64 (p.i))∧w'.rangeAt V4.heap.size 0 [.int .i64 (q.m),.int .i64 (q.m),.int .i64 (3),.int .i64 (p.p),.int .i64 (q.p),.int .i64 (pk r3 4),.int .i64 (pk (r3.tdiv 4) 4),.string ⟨#[104,101,108,108,111]⟩])) (by kernel_rfl) ⟨HP3.out.cell 0 _ rfl,HF5.out.range⟩ (fun hHeld=>?_);refine sqA [(0,101),(1,102)] ?_;(iterate 2 (refine sqN rfl (by kernel_rfl) (fun _ _ _ h=>h) rfl ‹_› (by intro w h;go_simp <;>with_reducible rfl) ?_;simp only [nz]));refine sqZ ?_;refine wpAnyH_take (i:=2) (oi:=⟨some 103,_,_,_,_,_⟩) (v:=.agg #[.int .i64 (q.m),.int .i64 (q.m),.int .i64 (3),.int .i64 (p.p),.int .i64 (q.p),.int .i64 (pk r3 4),.int .i64 (pk (r3.tdiv 4) 4),.string ⟨#[104,101,108,108,111]⟩]) rfl (by kernel_rfl) (by kernel_rfl) (by kernel_rfl) (fun _ _ _ h=>h) (yieldsIf_load_mid (by rfl) 33 (.tmp 8) rfl V4.heap.size 0 rfl [.int .i64 (q.m),.int .i64 (q.m),.int .i64 (3),.int .i64 (p.p),.int .i64 (q.p),.int .i64 (pk r3 4),.int .i64 (pk (r3.tdiv 4) 4),.string ⟨#[104,101,108,108,111]⟩] _ (fun w h=>h.2) Tryz.underlying33 rfl cr) (by assumption) ?_;(try simp only [nz]);refine tq 3 4 rfl (by kernel_rfl) (fun _ _ _ h=>h) rfl ‹_› (by intro w h;go_simp <;>with_reducible rfl) ?_;simp only [nz];have hbDV8:Below V7.heap.size V7 V7.drew:=(Below.refl _ _).drew;replace HP3:=aa (HP3.out.below hbDV8);replace HB2:=aa (HB2.out.below hbDV8);replace HF5:=aa (HF5.out.below hbDV8);replace kb:=kb.trans (hbDV8.mono kb.size);clear hbDV8;generalize V7.drew=V8 at*;refine Go.Proofs.YtaiedioffemhdaaGreat.rn 4 (by kernel_rfl) rfl (fun Kk hKk=>?_);refine wp_store_mid 33 (.tmp 5) (.tmp 103) rfl (w.heap.size+1+1) 0 _ rfl rfl (HB2.out.fit 8 rfl) cr (dO rfl) ?_;refine hKk.out _ _ ⟨(HP3.out.set_far (by omega) _ _).cell 0 _ rfl,(HF5.out.set_far (by omega) _ _).range⟩ (fun hHeld=>?_);clear hKk Kk;refine wpAnyH_done (by kernel_rfl) ?_ _;clear hHeld;go_wp2_with fail
      refine bodyPost_ret (v:=.tuple #[.int .i64 p.i,.agg #[.int .i64 (q.m),.int .i64 (q.m),.int .i64 (3),.int .i64 (p.p),.int .i64 (q.p),.int .i64 (pk r3 4),.int .i64 (pk (r3.tdiv 4) 4),.string ⟨#[104,101,108,108,111]⟩]]) ?_ rfl ⟨p.i,q.m,q.m,3,p.p,q.p,pk r3 4,pk (r3.tdiv 4) 4,⟨#[104,101,108,108,111]⟩,rfl,⟨pf (by omega) (by omega) (by omega) (by omega) (by omega) (by omega) (by omega) (by decide) (by first | exact .inl rfl | exact .inr ⟨rfl,rfl,rfl⟩),.inr ⟨p,HMK.out,rfl⟩⟩,aE _ (by omega) _ _ kb⟩;exact dQ (cs:=[.int .i64 (q.m),.int .i64 (q.m),.int .i64 (3),.int .i64 (p.p),.int .i64 (q.p),.int .i64 (pk r3 4),.int .i64 (pk (r3.tdiv 4) 4),.string ⟨#[104,101,108,108,111]⟩]) Tryz.results12 rfl (HB2.out.set ([.int .i64 (q.m),.int .i64 (q.m),.int .i64 (3),.int .i64 (p.p),.int .i64 (q.p),.int .i64 (pk r3 4),.int .i64 (pk (r3.tdiv 4) 4),.string ⟨#[104,101,108,108,111]⟩]:List Value) rfl).range Tryz.underlying33 rfl cr
     by_cases hm3:m≤6
     ·obtain⟨v0,v1⟩:=bv r3 2 (by omega);have HTB:=aa (fun W=>aI r3 2 W xc0 xc1 (by omega) (by omega));generalize pk r3 2=tb at*;have hws:=az (60000+p.s) (by omega) (by omega);have hwt:=az (pk r3 4+tb) (by omega) (by omega);have h36:m=3∨m=4∨m=5∨m=6:=(by omega);rcases h36 with rfl | rfl | rfl | rfl
      all_goals
       go_wp2_with (first | rw [HV5.out] |(go_at_call 34;refine(ag HT9 _).mono ?_;rintro e w' ⟨rfl,hw9⟩;rw [hw9];clear hw9))
       clear HV5 HT9;refine wp_region_held_drew (S:=(fun w'=>w'.cell? ⟨W0.heap.size,1,none⟩=some (.int .i64 (p.s))∧w'.cell? ⟨w.heap.size+1,3,none⟩=some (.int .i64 (r3)))) (by kernel_rfl) ⟨HP3.out.cell 1 _ rfl,rc⟩ (fun hHeld=>?_);refine sqA [(0,85),(1,86),(2,87),(3,88),(5,90),(6,91)] ?_;(iterate 6 (refine sqN rfl (by kernel_rfl) (fun _ _ _ h=>h) rfl ‹_› (by intro w h;go_simp <;>with_reducible rfl) ?_;simp only [nz]));refine sqZ ?_;have hbDV6:Below V5.heap.size V5 V5.drew:=(Below.refl _ _).drew;replace HP3:=aa (HP3.out.below hbDV6);replace HB2:=aa (HB2.out.below hbDV6);replace HF5:=aa (HF5.out.below hbDV6);replace rc:=zC rc hbDV6;replace kb:=kb.trans (hbDV6.mono kb.size);clear hbDV6;generalize V5.drew=V6 at*;have z0:=HF5.out.cell 0 _ rfl;have y0:=HF5.out.2 0 (by simp);have z5:=HF5.out.cell 5 _ rfl;have y5:=HF5.out.2 5 (by simp);refine wpAnyH_ready (rs:=[4,7]) (by kernel_rfl) (by simp) ?_;refine(AllReadyH.cons (o:=⟨some 89,_,_,_,_,_⟩) rfl (fun Kk hKk=>?_) (AllReadyH.cons (o:=⟨some 92,_,_,_,_,_⟩) rfl (fun Kk hKk=>?_) AllReadyH.nil));go_simp;refine hKk.out _ _ ⟨HP3.out.cell 1 _ rfl,rc⟩ (fun hHeld=>?_);clear hKk Kk;(try simp only [nz]);refine tq 9 94 rfl (by kernel_rfl) (fun _ _ _ h=>h) rfl ‹_› (by intro w h;go_simp <;>with_reducible rfl) ?_;simp only [nz];refine Go.Proofs.YtaiedioffemhdaaGreat.rs 7 92 (by kernel_rfl) rfl (fun Kk hKk=>?_);go_simp;refine(ag HTB _).mono ?_;rintro e w' ⟨rfl,hw9⟩;rw [hw9];clear hw9 w';refine hKk.out _ _ ⟨HP3.out.cell 1 _ rfl,rc⟩ (fun hHeld=>?_);clear hKk Kk;(try simp only [nz]);refine tq 8 93 rfl (by kernel_rfl) (fun _ _ _ h=>h) rfl ‹_› (by intro w h;go_simp <;>with_reducible rfl) ?_;simp only [nz]
       rotate_left
       go_simp;refine(ag HTB _).mono ?_;rintro e w' ⟨rfl,hw9⟩;rw [hw9];clear hw9 w';refine hKk.out _ _ ⟨HP3.out.cell 1 _ rfl,rc⟩ (fun hHeld=>?_);clear hKk Kk;(try simp only [nz]);refine Go.Proofs.YtaiedioffemhdaaGreat.rs 4 89 (by kernel_rfl) rfl (fun Kk hKk=>?_);go_simp;refine hKk.out _ _ ⟨HP3.out.cell 1 _ rfl,rc⟩ (fun hHeld=>?_);clear hKk Kk;(try simp only [nz]);refine sqA [(8,93),(9,94)] ?_;(iterate 2 (refine sqN rfl (by kernel_rfl) (fun _ _ _ h=>h) rfl ‹_› (by intro w h;go_simp <;>with_reducible rfl) ?_;simp only [nz]));refine sqZ ?_
       all_goals
        refine Go.Proofs.YtaiedioffemhdaaGreat.rn 10 (by kernel_rfl) rfl (fun Kk hKk=>?_);go_simp;refine hKk.out _ _ ⟨(HP3.out.set1_far (b':=V4.heap.size) (by omega) 0 (.int .i64 (60000+p.s))).cell 1 _ rfl,(World.cell?_setCells_out V4.heap.size [.int .i64 (60000+p.s)] 0 _ ⟨w.heap.size+1,3,none⟩ (fun e=>absurd e (by simp only;omega))).trans rc⟩ (fun hHeld=>?_);clear hKk Kk;obtain⟨V7,hV7⟩:∃V7,V7=V6.setCell ⟨V4.heap.size,0,none⟩ (.int .i64 (60000+p.s)):=⟨_,rfl⟩;rw [←hV7]at hHeld⊢;replace rc:V7.cell? ⟨w.heap.size+1,3,none⟩=some (.int .i64 r3):=by rw [hV7];exact(World.cell?_setCells_out V4.heap.size [.int .i64 (60000+p.s)] 0 _ ⟨w.heap.size+1,3,none⟩ (fun e=>absurd e (by simp only;omega))).trans rc
        replace HF5:Hid (Box V7 V4.heap.size [.int .i64 (60000+p.s),.int .i64 p.m,.int .i64 3,.int .i64 p.p,.int .i64 q.p,.int .i64 (pk r3 4),.int .i64 (pk (r3.tdiv 4) 4),.string ⟨#[104,101,108,108,111]⟩]):=by rw [hV7];exact aa (HF5.out.set1 0 _ (by simp))
        replace HP3:Hid (Box V7 W0.heap.size [.int .i64 p.i,.int .i64 p.s,.int .i64 p.m,.int .i64 p.p,.int .i64 p.c]):=by rw [hV7];exact aa (HP3.out.set1_far (by omega) _ _)
        replace HB2:Hid (Box V7 (w.heap.size+1+1) [.int .i64 0,.int .i64 0,.int .i64 0,.int .i64 0,.int .i64 0,.int .i64 0,.int .i64 0,.string ⟨#[]⟩]):=by rw [hV7];exact aa (HB2.out.set1_far (by omega) _ _)
        replace kb:Below w.heap.size w V7:=by rw [hV7];exact kb.setCell (p:=⟨V4.heap.size,0,none⟩) (by simp only;omega) _
        clear hV7 z0 y0 z5 y5;have z5:=HF5.out.cell 5 _ rfl;have y5:=HF5.out.2 5 (by simp);refine tq 11 95 rfl (by kernel_rfl) (fun _ _ _ h=>h) rfl ‹_› (by intro w h;go_simp <;>with_reducible rfl) ?_;simp only [nz];refine Go.Proofs.YtaiedioffemhdaaGreat.rn 12 (by kernel_rfl) rfl (fun Kk hKk=>?_);go_simp;refine hKk.out _ _ ⟨(HP3.out.set1_far (b':=V4.heap.size) (by omega) 5 (.int .i64 (pk r3 4+tb))).cell 1 _ rfl,(World.cell?_setCells_out V4.heap.size [.int .i64 (pk r3 4+tb)] 5 _ ⟨w.heap.size+1,3,none⟩ (fun e=>absurd e (by simp only;omega))).trans rc⟩ (fun hHeld=>?_);clear hKk Kk;refine wpAnyH_done (by kernel_rfl) ?_ _;clear hHeld;obtain⟨V8,hV8⟩:∃V8,V8=V7.setCell ⟨V4.heap.size,5,none⟩ (.int .i64 (pk r3 4+tb)):=⟨_,rfl⟩;rw [←hV8];replace HF5:Hid (Box V8 V4.heap.size [.int .i64 (60000+p.s),.int .i64 p.m,.int .i64 3,.int .i64 p.p,.int .i64 q.p,.int .i64 (pk r3 4+tb),.int .i64 (pk (r3.tdiv 4) 4),.string ⟨#[104,101,108,108,111]⟩]):=by rw [hV8];exact aa (HF5.out.set1 5 _ (by simp))
        replace HP3:Hid (Box V8 W0.heap.size [.int .i64 p.i,.int .i64 p.s,.int .i64 p.m,.int .i64 p.p,.int .i64 p.c]):=by rw [hV8];exact aa (HP3.out.set1_far (by omega) _ _)
        replace HB2:Hid (Box V8 (w.heap.size+1+1) [.int .i64 0,.int .i64 0,.int .i64 0,.int .i64 0,.int .i64 0,.int .i64 0,.int .i64 0,.string ⟨#[]⟩]):=by rw [hV8];exact aa (HB2.out.set1_far (by omega) _ _)
        replace kb:Below w.heap.size w V8:=by rw [hV8];exact kb.setCell (p:=⟨V4.heap.size,5,none⟩) (by simp only;omega) _
        clear hV8 z5 y5 rc;go_wp2_with fail
        refine wp_region_held_drew (S:=(fun w'=>w'.cell? ⟨W0.heap.size,0,none⟩=some (.int .i64 (p.i))∧w'.rangeAt V4.heap.size 0 [.int .i64 (60000+p.s),.int .i64 (p.m),.int .i64 (3),.int .i64 (p.p),.int .i64 (q.p),.int .i64 (pk r3 4+tb),.int .i64 (pk (r3.tdiv 4) 4),.string ⟨#[104,101,108,108,111]⟩])) (by kernel_rfl) ⟨HP3.out.cell 0 _ rfl,HF5.out.range⟩ (fun hHeld=>?_);refine sqA [(0,101),(1,102)] ?_;(iterate 2 (refine sqN rfl (by kernel_rfl) (fun _ _ _ h=>h) rfl ‹_› (by intro w h;go_simp <;>with_reducible rfl) ?_;simp only [nz]));refine sqZ ?_;refine wpAnyH_take (i:=2) (oi:=⟨some 103,_,_,_,_,_⟩) (v:=.agg #[.int .i64 (60000+p.s),.int .i64 (p.m),.int .i64 (3),.int .i64 (p.p),.int .i64 (q.p),.int .i64 (pk r3 4+tb),.int .i64 (pk (r3.tdiv 4) 4),.string ⟨#[104,101,108,108,111]⟩]) rfl (by kernel_rfl) (by kernel_rfl) (by kernel_rfl) (fun _ _ _ h=>h) (yieldsIf_load_mid (by rfl) 33 (.tmp 8) rfl V4.heap.size 0 rfl [.int .i64 (60000+p.s),.int .i64 (p.m),.int .i64 (3),.int .i64 (p.p),.int .i64 (q.p),.int .i64 (pk r3 4+tb),.int .i64 (pk (r3.tdiv 4) 4),.string ⟨#[104,101,108,108,111]⟩] _ (fun w h=>h.2) Tryz.underlying33 rfl cr) (by assumption) ?_;(try simp only [nz]);refine tq 3 4 rfl (by kernel_rfl) (fun _ _ _ h=>h) rfl ‹_› (by intro w h;go_simp <;>with_reducible rfl) ?_;simp only [nz];have hbDV9:Below V8.heap.size V8 V8.drew:=(Below.refl _ _).drew;replace HP3:=aa (HP3.out.below hbDV9);replace HB2:=aa (HB2.out.below hbDV9);replace HF5:=aa (HF5.out.below hbDV9);replace kb:=kb.trans (hbDV9.mono kb.size);clear hbDV9;generalize V8.drew=V9 at*;refine Go.Proofs.YtaiedioffemhdaaGreat.rn 4 (by kernel_rfl) rfl (fun Kk hKk=>?_);refine wp_store_mid 33 (.tmp 5) (.tmp 103) rfl (w.heap.size+1+1) 0 _ rfl rfl (HB2.out.fit 8 rfl) cr (dO rfl) ?_;refine hKk.out _ _ ⟨(HP3.out.set_far (by omega) _ _).cell 0 _ rfl,(HF5.out.set_far (by omega) _ _).range⟩ (fun hHeld=>?_);clear hKk Kk;refine wpAnyH_done (by kernel_rfl) ?_ _;clear hHeld;go_wp2_with fail
        refine bodyPost_ret (v:=.tuple #[.int .i64 p.i,.agg #[.int .i64 (60000+p.s),.int .i64 (p.m),.int .i64 (3),.int .i64 (p.p),.int .i64 (q.p),.int .i64 (pk r3 4+tb),.int .i64 (pk (r3.tdiv 4) 4),.string ⟨#[104,101,108,108,111]⟩]]) ?_ rfl ⟨p.i,60000+p.s,p.m,3,p.p,q.p,pk r3 4+tb,pk (r3.tdiv 4) 4,⟨#[104,101,108,108,111]⟩,rfl,⟨pf (by omega) (by omega) (by omega) (by omega) (by omega) (by omega) (by omega) (by decide) (by first | exact .inl rfl | exact .inr ⟨rfl,rfl,rfl⟩),.inr ⟨p,HMK.out,rfl⟩⟩,aE _ (by omega) _ _ kb⟩;exact dQ (cs:=[.int .i64 (60000+p.s),.int .i64 (p.m),.int .i64 (3),.int .i64 (p.p),.int .i64 (q.p),.int .i64 (pk r3 4+tb),.int .i64 (pk (r3.tdiv 4) 4),.string ⟨#[104,101,108,108,111]⟩]) Tryz.results12 rfl (HB2.out.set ([.int .i64 (60000+p.s),.int .i64 (p.m),.int .i64 (3),.int .i64 (p.p),.int .i64 (q.p),.int .i64 (pk r3 4+tb),.int .i64 (pk (r3.tdiv 4) 4),.string ⟨#[104,101,108,108,111]⟩]:List Value) rfl).range Tryz.underlying33 rfl cr
     ·have g0:(m==0)=false:=by simp;omega
      have g1:(m==1)=false:=by simp;omega
      have g2:(m==2)=false:=by simp;omega
      have g3:(m==3)=false:=by simp;omega
      have g4:(m==4)=false:=by simp;omega
      have g5:(m==5)=false:=by simp;omega
      have g6:(m==6)=false:=by simp;omega
      have g7:(m==7)=false:=by simp;omega
      go_wp2_with (first | rw [HV5.out] |(go_at_call 34;refine(ag HT9 _).mono ?_;rintro e w' ⟨rfl,hw9⟩;rw [hw9];clear hw9))
      clear HV5 HT9;refine wp_region_held_drew (S:=(fun w'=>w'.cell? ⟨W0.heap.size,0,none⟩=some (.int .i64 (p.i))∧w'.rangeAt V4.heap.size 0 [.int .i64 (q.m),.int .i64 (p.m),.int .i64 (3),.int .i64 (p.p),.int .i64 (q.p),.int .i64 (pk r3 4),.int .i64 (pk (r3.tdiv 4) 4),.string ⟨#[104,101,108,108,111]⟩])) (by kernel_rfl) ⟨HP3.out.cell 0 _ rfl,HF5.out.range⟩ (fun hHeld=>?_);refine sqA [(0,101),(1,102)] ?_;(iterate 2 (refine sqN rfl (by kernel_rfl) (fun _ _ _ h=>h) rfl ‹_› (by intro w h;go_simp <;>with_reducible rfl) ?_;simp only [nz]));refine sqZ ?_;refine wpAnyH_take (i:=2) (oi:=⟨some 103,_,_,_,_,_⟩) (v:=.agg #[.int .i64 (q.m),.int .i64 (p.m),.int .i64 (3),.int .i64 (p.p),.int .i64 (q.p),.int .i64 (pk r3 4),.int .i64 (pk (r3.tdiv 4) 4),.string ⟨#[104,101,108,108,111]⟩]) rfl (by kernel_rfl) (by kernel_rfl) (by kernel_rfl) (fun _ _ _ h=>h) (yieldsIf_load_mid (by rfl) 33 (.tmp 8) rfl V4.heap.size 0 rfl [.int .i64 (q.m),.int .i64 (p.m),.int .i64 (3),.int .i64 (p.p),.int .i64 (q.p),.int .i64 (pk r3 4),.int .i64 (pk (r3.tdiv 4) 4),.string ⟨#[104,101,108,108,111]⟩] _ (fun w h=>h.2) Tryz.underlying33 rfl cr) (by assumption) ?_;(try simp only [nz]);refine tq 3 4 rfl (by kernel_rfl) (fun _ _ _ h=>h) rfl ‹_› (by intro w h;go_simp <;>with_reducible rfl) ?_;simp only [nz];have hbDV6:Below V5.heap.size V5 V5.drew:=(Below.refl _ _).drew;replace HP3:=aa (HP3.out.below hbDV6);replace HB2:=aa (HB2.out.below hbDV6);replace HF5:=aa (HF5.out.below hbDV6);replace kb:=kb.trans (hbDV6.mono kb.size);clear hbDV6;generalize V5.drew=V6 at*;refine Go.Proofs.YtaiedioffemhdaaGreat.rn 4 (by kernel_rfl) rfl (fun Kk hKk=>?_);refine wp_store_mid 33 (.tmp 5) (.tmp 103) rfl (w.heap.size+1+1) 0 _ rfl rfl (HB2.out.fit 8 rfl) cr (dO rfl) ?_;refine hKk.out _ _ ⟨(HP3.out.set_far (by omega) _ _).cell 0 _ rfl,(HF5.out.set_far (by omega) _ _).range⟩ (fun hHeld=>?_);clear hKk Kk;refine wpAnyH_done (by kernel_rfl) ?_ _;clear hHeld;go_wp2_with fail
      refine bodyPost_ret (v:=.tuple #[.int .i64 p.i,.agg #[.int .i64 (q.m),.int .i64 (p.m),.int .i64 (3),.int .i64 (p.p),.int .i64 (q.p),.int .i64 (pk r3 4),.int .i64 (pk (r3.tdiv 4) 4),.string ⟨#[104,101,108,108,111]⟩]]) ?_ rfl ⟨p.i,q.m,p.m,3,p.p,q.p,pk r3 4,pk (r3.tdiv 4) 4,⟨#[104,101,108,108,111]⟩,rfl,⟨pf (by omega) (by omega) (by omega) (by omega) (by omega) (by omega) (by omega) (by decide) (by first | exact .inl rfl | exact .inr ⟨rfl,rfl,rfl⟩),.inr ⟨p,HMK.out,rfl⟩⟩,aE _ (by omega) _ _ kb⟩;exact dQ (cs:=[.int .i64 (q.m),.int .i64 (p.m),.int .i64 (3),.int .i64 (p.p),.int .i64 (q.p),.int .i64 (pk r3 4),.int .i64 (pk (r3.tdiv 4) 4),.string ⟨#[104,101,108,108,111]⟩]) Tryz.results12 rfl (HB2.out.set ([.int .i64 (q.m),.int .i64 (p.m),.int .i64 (3),.int .i64 (p.p),.int .i64 (q.p),.int .i64 (pk r3 4),.int .i64 (pk (r3.tdiv 4) 4),.string ⟨#[104,101,108,108,111]⟩]:List Value) rfl).range Tryz.underlying33 rfl cr
def wD (w:World) (b0:Nat) (p:Pr→Bool):Prop:=∀(W:World) (x:Pr),Below w.heap.size w W→Calls Tryz.prog 131 #[.agg #[.int .i64 x.i,.int .i64 x.s,.int .i64 x.m,.int .i64 x.p,.int .i64 x.c],.pointer (some ⟨b0,0,none⟩)] W fun e w'=>e= .returned (.bool (p x))∧Below W.heap.size W w'
theorem vJ (l:List Pr) (p:Pr→Bool) (v:Value) (b0:Nat) (w:World) (hF:eR w v l) (hT:wD w b0 p) (hl:l.length*40≤140737488355328):
  Calls Tryz.prog 58 #[v,.func (.func 131) #[] #[.pointer (some ⟨b0,0,none⟩)]] w fun e w'=>e= .returned (.int .i64 (idx p l))∧Below w.heap.size w w':=by
 have HF:=aa hF;have HT:=aa hT;obtain⟨a,cap,rfl⟩:=hF.slice;clear hF hT;go_enter Tryz.func58,Tryz.ntmps58;go_wp2_with fail
 go_loopw [8] (fun i wr=>∃k:Nat,k≤l.length∧i= .int .i64 k∧Hid (∀j,j<k→p (l.getD j pr0)=false)∧Below w.heap.size w wr) (fun i _=>l.length-(intOf i).toNat)
 case atStart=>exact⟨0,by omega,rfl,aa (fun j h=>absurd h (by omega)),Below.refl _ _⟩
 case round=>
  obtain⟨k,hk,rfl,HALL,hbr⟩:=hrel;by_cases hlt:k<l.length
  ·obtain⟨b,off,cap',e1,hcap, -,g0,g1,g2,g3,g4⟩:=fK (RowAt.below HF.out hbr zr) hlt;simp only [Value.slice.injEq,true_and]at e1;obtain⟨rfl,rfl⟩:=e1;have HST:Hid (∀W:World,Below w.heap.size w W→Calls Tryz.prog 131 #[.agg #[.int .i64 (l.getD k pr0).i,.int .i64 (l.getD k pr0).s,.int .i64 (l.getD k pr0).m,.int .i64 (l.getD k pr0).p,.int .i64 (l.getD k pr0).c],.pointer (some ⟨b0,0,none⟩)] W fun e w'=>e= .returned (.bool (p (l.getD k pr0)))∧Below W.heap.size W w'):=fun W hW=>HT.out W _ hW;have HNX:Hid (p (l.getD k pr0)=false→∀j,j<k+1→p (l.getD j pr0)=false):=fun h j hj=>by
    by_cases e:j=k
    ·subst e;exact h
    ·exact HALL.out j (by omega)
   have HFD:Hid (p (l.getD k pr0)=true→idx p l=k):=fun h=>iz pr0 hlt HALL.out h;generalize p (l.getD k pr0)=R at*;generalize (l.getD k pr0).i=y0 at*;generalize (l.getD k pr0).s=y1 at*;generalize (l.getD k pr0).m=y2 at*;generalize (l.getD k pr0).p=y3 at*;generalize (l.getD k pr0).c=y4 at*;have q1:(0:Int)≤(k:Int):=(by omega);have q2:(k:Int)<(l.length:Int):=(by omega);clear HALL;go_wp2_with fail
   refine(ag HST _ ?_).mono ?_
   ·first | exact hbr | exact hbr.drew | exact⟨hbr.os,hbr.tape,hbr.output,hbr.size,hbr.block⟩
   rintro e w1 ⟨rfl,hb1⟩;have HB1:Hid (Below w.heap.size w w1):=hbr.trans (hb1.mono hbr.size);clear hb1 hbr HST g0 g1 g2 g3 g4;cases R
   ·have HN:=aa (HNX.out rfl);clear HNX HFD;go_wp2_with fail
    go_roundw
    case rel=>exact⟨k+1,by omega,by go_num,HN,HB1.out⟩
    case measure=>simp [intOf];omega
   ·have HN:=aa (HFD.out rfl);clear HNX HFD;go_wp2_with fail
    go_ret;exact⟨am HN.out.symm,HB1.out⟩
  ·have HN:Hid (idx p l= -1):=iJ pr0 fun i hi=>HALL.out i (by omega);have HB1:=aa hbr;clear HALL hbr;go_wp2_with fail
   go_ret;exact⟨am HN.out.symm,HB1.out⟩
structure Ax where
 k:Int
 si:Int
 st:Int
 sg:Int
 pi:Int
 ps:Int
 pm:Int
 pp:Int
 pc:Int
 rs:Int
 rp:Int
 rn:Bool
 rf:Int
 rb:Int
 rt:Int
 re:Int
 ro:Int
 rd:Bool
 n:Int
 m:Int
 f0:Int
 f1:Int
 f2:Int
 f3:Int
 f4:Int
 f5:Int
 f6:Int
 body:ByteArray
def Ax.s (a:Ax):Sw:=⟨a.si,a.st,a.sg⟩
def Ax.p (a:Ax):Pr:=⟨a.pi,a.ps,a.pm,a.pp,a.pc⟩
def Ax.r (a:Ax):Ac:=⟨a.rs,a.rp,a.rn,a.rf,a.rb,a.rt,a.re,a.ro,a.rd⟩
abbrev eF (a:Ax):Value:=.agg #[.int .i64 a.k,.int .i64 a.si,.int .i64 a.st,.int .i64 a.sg,.int .i64 a.pi,.int .i64 a.ps,.int .i64 a.pm,.int .i64 a.pp,.int .i64 a.pc,.int .i64 a.rs,.int .i64 a.rp,.bool a.rn,.int .i64 a.rf,.int .i64 a.rb,.int .i64 a.rt,.int .i64 a.re,.int .i64 a.ro,.bool a.rd,.int .i64 a.n,.int .i64 a.m,.int .i64 a.f0,.int .i64 a.f1,.int .i64 a.f2,.int .i64 a.f3,.int .i64 a.f4,.int .i64 a.f5,.int .i64 a.f6,.string a.body]
theorem xO (x:Pr) (id:Int) (b:Nat) (w:World) (h:w.cell? ⟨b,0,none⟩=some (.int .i64 id)):
  Calls Tryz.prog 131 #[.agg #[.int .i64 x.i,.int .i64 x.s,.int .i64 x.m,.int .i64 x.p,.int .i64 x.c],.pointer (some ⟨b,0,none⟩)] w fun e w'=>e= .returned (.bool (x.i==id))∧Below w.heap.size w w':=by
 have hlt:=ap h;have hne:b≠w.heap.size:=by omega
 go_enter Tryz.func131,Tryz.ntmps131;go_wp2
 all_goals go_ret
 all_goals exact⟨aF (by rw [Bool.eq_iff_iff] <;>simp),(Below.refl _ _).alloc zr _⟩
theorem Bh {w:World} {b:Nat} {id:Int} (h:w.cell? ⟨b,0,none⟩=some (.int .i64 id)):wD w b (fun x=>x.i==id):=fun W x hW=>xO x id b W (zC h hW)
def pat (P:List Pr) (id:Int):Int:=idx (fun x=>x.i==id) P
theorem jY (sv pv av:Value) (S:List Sw) (P:List Pr) (A:List Ac) (id:Int) (w:World) (hC:CfAt w sv pv av S P A) (h2:P.length*40≤140737488355328):
  Calls Tryz.prog 84 #[.agg #[sv,pv,av],.int .i64 id] w fun e w'=>e= .returned (.int .i64 (pat P id))∧Below w.heap.size w w':=by
 have HI:Hid (∀(W:World) (b:Nat),Below w.heap.size w W→W.cell? ⟨b,0,none⟩=some (.int .i64 id)→Calls Tryz.prog 58 #[pv,.func (.func 131) #[] #[.pointer (some ⟨b,0,none⟩)]] W fun e w'=>e= .returned (.int .i64 (pat P id))∧Below W.heap.size W w'):=
  fun W b hW a=>vJ P _ pv _ W (RowAt.below hC.2.1 hW zr) (Bh a) h2
 obtain⟨s1,s2,rfl⟩:=hC.1.slice;obtain⟨p1,p2,rfl⟩:=hC.2.1.slice;obtain⟨a1,a2,rfl⟩:=hC.2.2.slice;clear hC;generalize pat P id=R at*;go_enter Tryz.func84,Tryz.ntmps84;go_wp2_with fail
 refine(ag HI _ _ (((Below.refl _ _).alloc zr _).alloc (by simp) _) (by first | exact aj _ _ (by simp) _ _ _ _ rfl | exact aq (aj w _ rfl _ _ _ _ rfl) _)).mono ?_;rintro e w1 ⟨rfl,hb1⟩;have hb:Below w.heap.size w w1:=(((Below.refl _ w).alloc zr _).alloc (by simp) _).trans (hb1.mono (by simp;omega));clear hb1 HI;go_wp2_with fail
 go_ret;exact⟨rfl,hb⟩
theorem fO (place many:Int) (w:World) (h0:0≤many) (h1:many≤1000000000000000):
  Calls Tryz.prog 83 #[.int .i64 place,.int .i64 many] w fun e w'=>e= .returned (.int .i64 (if inB place 0 (many-1)=true then 0 else 6))∧w'=w:=by
 have HW:=aa (fun W=>dd place 0 (many-1) W);have hw:IntKind.i64.wrap (many-1)=many-1:=by
  simp [IntKind.wrap,IntKind.bits,IntKind.signed];split <;>omega
 generalize inB place 0 (many-1)=R at*;go_enter Tryz.func83,Tryz.ntmps83;go_wp2_with fail
 refine(ag HW _).mono ?_;rintro e w' ⟨rfl,rfl⟩;cases R
 ·go_wp2_with fail
  go_ret;exact⟨rfl,rfl⟩
 ·go_wp2_with fail
  go_ret;exact⟨rfl,rfl⟩
theorem ot (sv pv av:Value) (S:List Sw) (P:List Pr) (A:List Ac) (id m:Int) (w:World) (hC:CfAt w sv pv av S P A) (h2:P.length*40≤140737488355328):
  Calls Tryz.prog 85 #[.agg #[sv,pv,av],.int .i64 id,.int .i64 m] w fun e w'=>e= .returned (.int .i64 (if inB (pat P id) 0 (P.length-1)=true then(if inB m (-1) 5=true then 0 else 2)else 6))∧Below w.heap.size w w':=by
 have HI:Hid (∀(W:World),Below w.heap.size w W→Calls Tryz.prog 84 #[.agg #[sv,pv,av],.int .i64 id] W fun e w'=>e= .returned (.int .i64 (pat P id))∧Below W.heap.size W w'):=fun W hW=>jY sv pv av S P A id W (hC.below hW zr) h2;have HT:=aa (fun W=>fO (pat P id) (P.length:Int) W (by omega) (by omega));have HB:=aa (fun W=>jG m W);obtain⟨s1,s2,rfl⟩:=hC.1.slice;obtain⟨p1,p2,rfl⟩:=hC.2.1.slice;obtain⟨a1,a2,rfl⟩:=hC.2.2.slice;clear hC;obtain⟨E,hE⟩:∃E:Int,E=if inB (pat P id) 0 ((P.length:Int)-1)=true then 0 else 6:=⟨_,rfl⟩;rw [←hE]at HT;have HE:=aa hE;clear hE;generalize inB (pat P id) 0 ((P.length:Int)-1)=R at*;generalize pat P id=I at*;generalize inB m (-1) 5=Q at*;have hb0:Below w.heap.size w (w.alloc (.cells #[.slice s1 S.length s2,.slice p1 P.length p2,.slice a1 A.length a2] 30)):=(Below.refl _ _).alloc zr _;go_enter Tryz.func85,Tryz.ntmps85;go_wp2_with fail
 obtain⟨W0,hW0⟩:∃W0,W0=w.alloc (.cells #[.slice s1 S.length s2,.slice p1 P.length p2,.slice a1 A.length a2] 30):=⟨_,rfl⟩;have c0:W0.cell? ⟨w.heap.size,0,none⟩=some (.slice s1 S.length s2):=zN1 hW0 rfl;have c1:W0.cell? ⟨w.heap.size,1,none⟩=some (.slice p1 P.length p2):=zN1 hW0 rfl;have c2:W0.cell? ⟨w.heap.size,2,none⟩=some (.slice a1 A.length a2):=zN1 hW0 rfl;rw [←hW0]at hb0⊢;clear hW0;go_region_held3 (fun w'=>w'.cell? ⟨w.heap.size,0,none⟩=some (.slice s1 S.length s2)∧w'.cell? ⟨w.heap.size,1,none⟩=some (.slice p1 P.length p2)∧w'.cell? ⟨w.heap.size,2,none⟩=some (.slice a1 A.length a2)) (go_keep)
  (first |(go_at_call 84;refine(ag HI _ hb0.drew).mono ?_;rintro e w1 ⟨rfl,hc1⟩;have g1:Below W0.heap.size W0 w1:=((Below.refl _ W0).drew).trans hc1;have hb:Below w.heap.size w w1:=hb0.trans (g1.mono hb0.size);have z0:=zC c0 g1;have z1:=zC c1 g1;have z2:=zC c2 g1) |(go_at_call 83;refine(ag HT _).mono ?_;rintro e w2 ⟨rfl,rfl⟩))
 clear c0 c1 c2 z0 z1 z2 g1 hc1 hb0 HI HT;cases R
 ·obtain rfl:E=6:=HE.out;go_wp2_with fail
  go_ret;exact⟨rfl,hb⟩
 ·obtain rfl:E=0:=HE.out;go_wp2_with fail
  refine(ag HB _).mono ?_;rintro e w2 ⟨rfl,rfl⟩;cases Q
  ·go_wp2_with fail
   go_ret;exact⟨rfl,hb⟩
  ·go_wp2_with fail
   go_ret;exact⟨rfl,hb⟩
def bO (S:List Sw) (P:List Pr) (A:List Ac) (a:Ax):Int:=
 if a.k=1 then bo S P a.s else if a.k=2 then bn S P a.p else if a.k=3 then bE S A a.r else if a.k=4 then(if inB (pat P a.n) 0 (P.length-1)=true then 0 else 6)else
 if a.k=6 then(if inB (pat P a.n) 0 (P.length-1)=true then(if inB a.m (-1) 5=true then 0 else 2)else 6)else if a.k=5 then(if inB a.n 0 (A.length-1)=true then 0 else 6)else 3
theorem pJ (sv pv av:Value) (S:List Sw) (P:List Pr) (A:List Ac) (a:Ax) (w:World) (hC:CfAt w sv pv av S P A) (h1:S.length*24≤140737488355328) (h2:P.length*40≤140737488355328) (h3:A.length*72≤140737488355328):
  Calls Tryz.prog 54 #[.agg #[sv,pv,av],eF a] w fun e w'=>e= .returned (.int .i64 (bO S P A a))∧Below w.heap.size w w':=by
 have H1:=aa (fun W (hW:Below w.heap.size w W)=>iu sv pv av S P A a.s W (hC.below hW zr) h1 h2);have H2:=aa (fun W (hW:Below w.heap.size w W)=>jH sv pv av S P A a.p W (hC.below hW zr) h1 h2);have H3:=aa (fun W (hW:Below w.heap.size w W)=>kH sv pv av S P A a.r W (hC.below hW zr) h1);have H4:=aa (fun W (hW:Below w.heap.size w W)=>jY sv pv av S P A a.n W (hC.below hW zr) h2);have H5:=aa (fun W=>fO (pat P a.n) (P.length:Int) W (by omega) (by omega));have H6:=aa (fun W (hW:Below w.heap.size w W)=>ot sv pv av S P A a.n a.m W (hC.below hW zr) h2);have H7:=aa (fun W=>fO a.n (A.length:Int) W (by omega) (by omega));obtain⟨s1,s2,rfl⟩:=hC.1.slice;obtain⟨p1,p2,rfl⟩:=hC.2.1.slice;obtain⟨a1,a2,rfl⟩:=hC.2.2.slice;clear hC;obtain⟨k,si,st,sg,pi,ps,pm,pp,pc,rs,rp,rn,rf,rb,rt,re,ro,rd,n,m,f0,f1,f2,f3,f4,f5,f6,body⟩:=a;have hcase:k=1∨k=2∨k=3∨k=4∨k=5∨k=6∨(¬k=1∧¬k=2∧¬k=3∧¬k=4∧¬k=5∧¬k=6):=by omega
 have HR:Hid (bO S P A ⟨k,si,st,sg,pi,ps,pm,pp,pc,rs,rp,rn,rf,rb,rt,re,ro,rd,n,m,f0,f1,f2,f3,f4,f5,f6,body⟩=if k=1 then bo S P ⟨si,st,sg⟩else if k=2 then bn S P ⟨pi,ps,pm,pp,pc⟩else if k=3 then bE S A ⟨rs,rp,rn,rf,rb,rt,re,ro,rd⟩else if k=4 then(if inB (pat P n) 0 (P.length-1)=true then 0 else 6)else
  if k=6 then(if inB (pat P n) 0 (P.length-1)=true then(if inB m (-1) 5=true then 0 else 2)else 6)else if k=5 then(if inB n 0 (A.length-1)=true then 0 else 6)else 3):=rfl
 generalize bO S P A ⟨k,si,st,sg,pi,ps,pm,pp,pc,rs,rp,rn,rf,rb,rt,re,ro,rd,n,m,f0,f1,f2,f3,f4,f5,f6,body⟩=R at*;simp only [Ax.s,Ax.p,Ax.r]at H1 H2 H3 H4 H5 H6 H7⊢;generalize bo S P ⟨si,st,sg⟩=E1 at*;generalize bn S P ⟨pi,ps,pm,pp,pc⟩=E2 at*;generalize bE S A ⟨rs,rp,rn,rf,rb,rt,re,ro,rd⟩=E3 at*;generalize (if inB (pat P n) 0 ((P.length:Int)-1)=true then(if inB m (-1) 5=true then(0:Int)else 2)else 6)=E6 at*;generalize (if inB (pat P n) 0 ((P.length:Int)-1)=true then(0:Int)else 6)=E4 at*;generalize (if inB n 0 ((A.length:Int)-1)=true then(0:Int)else 6)=E5 at*;generalize pat P n=I at*;have hb0:Below w.heap.size w ((w.alloc (.cells #[.slice s1 S.length s2,.slice p1 P.length p2,.slice a1 A.length a2] 30)).alloc (.cells #[.int .i64 k,.int .i64 si,.int .i64 st,.int .i64 sg,.int .i64 pi,.int .i64 ps,.int .i64 pm,.int .i64 pp,.int .i64 pc,.int .i64 rs,.int .i64 rp,.bool rn,.int .i64 rf,.int .i64 rb,.int .i64 rt,.int .i64 re,.int .i64 ro,.bool rd,.int .i64 n,.int .i64 m,.int .i64 f0,.int .i64 f1,.int .i64 f2,.int .i64 f3,.int .i64 f4,.int .i64 f5,.int .i64 f6,.string body] 57)):=((Below.refl _ _).alloc zr _).alloc (by simp) _;go_enter Tryz.func54,Tryz.ntmps54;rcases hcase with rfl | rfl | rfl | rfl | rfl | rfl |⟨k1,k2,k3,k4,k5,k6⟩
 ·go_wp2_with fail
  refine(ag H1 _ hb0).mono ?_;rintro e w1 ⟨rfl,hb1⟩;have hb:=hb0.trans (hb1.mono hb0.size);clear hb0 hb1 H1 H2 H3 H4 H5 H6 H7;go_wp2_with fail
  go_ret;exact⟨am (by rw [HR.out];simp),hb⟩
 ·go_wp2_with fail
  refine(ag H2 _ hb0).mono ?_;rintro e w1 ⟨rfl,hb1⟩;have hb:=hb0.trans (hb1.mono hb0.size);clear hb0 hb1 H1 H2 H3 H4 H5 H6 H7;go_wp2_with fail
  go_ret;exact⟨am (by rw [HR.out];simp),hb⟩
 ·go_wp2_with fail
  refine(ag H3 _ hb0).mono ?_;rintro e w1 ⟨rfl,hb1⟩;have hb:=hb0.trans (hb1.mono hb0.size);clear hb0 hb1 H1 H2 H3 H4 H5 H6 H7;go_wp2_with fail
  go_ret;exact⟨am (by rw [HR.out];simp),hb⟩
 ·go_wp2_with fail
  obtain⟨W0,hW0⟩:∃W0,W0=(w.alloc (.cells #[.slice s1 S.length s2,.slice p1 P.length p2,.slice a1 A.length a2] 30)).alloc (.cells #[.int .i64 4,.int .i64 si,.int .i64 st,.int .i64 sg,.int .i64 pi,.int .i64 ps,.int .i64 pm,.int .i64 pp,.int .i64 pc,.int .i64 rs,.int .i64 rp,.bool rn,.int .i64 rf,.int .i64 rb,.int .i64 rt,.int .i64 re,.int .i64 ro,.bool rd,.int .i64 n,.int .i64 m,.int .i64 f0,.int .i64 f1,.int .i64 f2,.int .i64 f3,.int .i64 f4,.int .i64 f5,.int .i64 f6,.string body] 57):=⟨_,rfl⟩;have c0:W0.cell? ⟨w.heap.size,0,none⟩=some (.slice s1 S.length s2):=by rw [hW0];exact aq (aj w _ rfl _ _ _ _ rfl) _
  have c1:W0.cell? ⟨w.heap.size,1,none⟩=some (.slice p1 P.length p2):=by rw [hW0];exact aq (aj w _ rfl _ _ _ _ rfl) _
  have c2:W0.cell? ⟨w.heap.size,2,none⟩=some (.slice a1 A.length a2):=by rw [hW0];exact aq (aj w _ rfl _ _ _ _ rfl) _
  have c3:W0.cell? ⟨w.heap.size+1,18,none⟩=some (.int .i64 n):=by rw [hW0];exact aj _ _ (by simp) _ _ _ _ rfl
  rw [←hW0]at hb0⊢;clear hW0 H1 H2 H3 H6 H7;go_region_held3 (fun w'=>w'.cell? ⟨w.heap.size,0,none⟩=some (.slice s1 S.length s2)∧w'.cell? ⟨w.heap.size,1,none⟩=some (.slice p1 P.length p2)∧w'.cell? ⟨w.heap.size,2,none⟩=some (.slice a1 A.length a2)∧w'.cell? ⟨w.heap.size+1,18,none⟩=some (.int .i64 n)) (go_keep)
   (first |(go_at_call 84;refine(ag H4 _ hb0.drew).mono ?_;rintro e w1 ⟨rfl,hc1⟩;have g1:Below W0.heap.size W0 w1:=((Below.refl _ W0).drew).trans hc1;have hb:Below w.heap.size w w1:=hb0.trans (g1.mono hb0.size);have z0:=zC c0 g1;have z1:=zC c1 g1;have z2:=zC c2 g1;have z3:=zC c3 g1) |(go_at_call 83;refine(ag H5 _).mono ?_;rintro e w2 ⟨rfl,rfl⟩))
  clear c0 c1 c2 c3 z0 z1 z2 z3 g1 hc1 hb0 H4 H5;go_wp2_with fail
  go_ret;exact⟨am (by rw [HR.out];simp),hb⟩
 ·clear H1 H2 H3 H4 H5 H6;go_wp2_with fail
  refine(ag H7 _).mono ?_;rintro e w2 ⟨rfl,rfl⟩;go_wp2_with fail
  go_ret;exact⟨am (by rw [HR.out];simp),hb0⟩
 ·go_wp2_with fail
  refine(ag H6 _ hb0).mono ?_;rintro e w1 ⟨rfl,hb1⟩;have hb:=hb0.trans (hb1.mono hb0.size);clear hb0 hb1 H1 H2 H3 H4 H5 H6 H7;go_wp2_with fail
  go_ret;exact⟨am (by rw [HR.out];simp),hb⟩
 ·clear H1 H2 H3 H4 H5 H6 H7;go_wp2_with fail
  go_ret;exact⟨am (by rw [HR.out];simp_all),hb0⟩
theorem tS {w:World} {g j:Nat} {v:Value} {cur:Array Value} {e:TypeId} (h:w.heap[g]? =some (.cells cur e (0,0))):(w.setCell ⟨g,j,none⟩ v).heap[g]? =some (.cells (cur.setIfInBounds j v) e (0,0)):=by
 rw [Go.Sort.setCell_eq];unfold Go.Sort.mapBlock;simp only [Array.getElem?_modify,if_true];rw [h];rfl
theorem lm {w:World} {B e size n cap g:Nat} {xs:List Value} (h:w.ownsRow B e size (.slice (some ⟨g,0,none⟩) n cap) n xs) (j:Nat) (v:Value):(w.setCell ⟨g,j,none⟩ v).ownsRow B e size (.slice (some ⟨g,0,none⟩) n cap) n (xs.set j v):=by
 obtain⟨hlen,⟨h,_⟩ |⟨g',cap',cur,hv,hB,hheap,hnc,hcm,hcs,htk⟩⟩:=h
 ·simp at h
 simp only [Value.slice.injEq,Option.some.injEq,Addr.mk.injEq]at hv;obtain⟨⟨rfl,_⟩,_,rfl⟩:=hv;refine⟨by simpa using hlen,.inr ⟨g,cap,_,rfl,hB,tS hheap,hnc,hcm,by simpa using hcs,?_⟩⟩;rw [←htk,Array.toList_setIfInBounds];refine List.ext_getElem? fun i=>?_;simp only [List.getElem?_take,List.getElem?_set,List.length_take];by_cases hi:i<n*size
 ·simp only [hi,if_true];by_cases hji:j=i
  ·subst hji;simp only [if_true];have:(j<min (n*size) cur.toList.length)↔j<cur.toList.length:=(by omega);simp only [this]
  ·simp [hji]
 ·simp only [hi,if_false];by_cases hji:j=i
  ·subst hji;simp;omega
  ·simp [hji]
theorem ve {xs:List Value} {j:Nat} {v:Value} (h:xs.length≤j):xs.set j v=xs:=List.set_eq_of_length_le h
theorem kA {w:World} {B e size n m cap g:Nat} {xs:List Value} (h:w.ownsRow B e size (.slice (some ⟨g,0,none⟩) n cap) n xs) (hm:m≤n):w.ownsRow B e size (.slice (some ⟨g,0,none⟩) m cap) m (xs.take (m*size)):=by
 obtain⟨hlen,⟨h,_⟩ |⟨g',cap',cur,hv,hB,hheap,hnc,hcm,hcs,htk⟩⟩:=h
 ·simp at h
 simp only [Value.slice.injEq,Option.some.injEq,Addr.mk.injEq]at hv;obtain⟨⟨rfl,_⟩,_,rfl⟩:=hv;have hmn:m*size≤n*size:=Nat.mul_le_mul_right _ hm;refine⟨by rw [List.length_take,hlen];omega,.inr ⟨g,cap,cur,rfl,hB,hheap,by omega,hcm,hcs,?_⟩⟩;rw [←htk,List.take_take,Nat.min_eq_left hmn]
theorem gg {w w':World} {g j:Nat} {v:Value} (h:w.grownBy w' (some g)):w.grownBy (w'.setCell ⟨g,j,none⟩ v) (some g):=
 ⟨h.os,h.tape,h.output,by simpa using h.size,fun k hk hne=>(Below.heap_setCell w' _ _ k (fun e=>hne (by rw [e]))).trans (h.block k hk hne)⟩
theorem gZ (w:World) (row:Option Nat):w.grownBy w row:=⟨rfl,rfl,rfl,Nat.le_refl _,fun _ _ _=>rfl⟩
theorem fQ {B e size n cap g:Nat} {xs:List Value}:∀(vs:List Value) (o:Nat) (w:World),w.ownsRow B e size (.slice (some ⟨g,0,none⟩) n cap) n xs→n*size≤o→(w.setCells g o vs).ownsRow B e size (.slice (some ⟨g,0,none⟩) n cap) n xs
 | [],_,_,h,_=>h
 | v::r,o,w,h,ho=>by
  have h1:=lm h o v;rw [ve (by rw [h.1];exact ho)]at h1;exact fQ r (o+1) _ h1 (by omega)
theorem cW {g:Nat} {w:World}:∀(vs:List Value) (o:Nat) (w':World),w.grownBy w' (some g)→w.grownBy (w'.setCells g o vs) (some g)
 | [],_,_,h=>h
 | v::r,o,w',h=>cW r (o+1) _ (gg h)
def ovr:List Value→Nat→List Value→List Value
 | xs,_,[]=>xs
 | xs,o,v::r=>ovr (xs.set o v) (o+1) r
theorem pt {B e size n cap g:Nat}:∀(vs:List Value) (xs:List Value) (o:Nat) (w:World),w.ownsRow B e size (.slice (some ⟨g,0,none⟩) n cap) n xs→(w.setCells g o vs).ownsRow B e size (.slice (some ⟨g,0,none⟩) n cap) n (ovr xs o vs)
 | [],_,_,_,h=>h
 | v::r,xs,o,w,h=>pt r (xs.set o v) (o+1) _ (lm h o v)
theorem wo:∀(vs:List Value) (xs:List Value) (o:Nat),o+vs.length≤xs.length→ovr xs o vs=xs.take o++vs++xs.drop (o+vs.length)
 | [],xs,o,_=>by simp [ovr]
 | v::r,xs,o,h=>by
  simp only [List.length_cons]at h;simp only [ovr];rw [wo r (xs.set o v) (o+1) (by simp;omega)];have h1:(xs.set o v).take (o+1)=xs.take o++ [v]:=by
   rw [List.take_succ_eq_append_getElem (by simp;omega),List.take_set_of_le zr];simp
  have h2:(xs.set o v).drop (o+1+r.length)=xs.drop (o+(v::r).length):=by
   rw [List.drop_set_of_lt (by omega)];simp only [List.length_cons];congr 1;omega
  rw [h1,h2];simp
theorem oT {α:Type} {C:α→List Value} {sz:Nat} (hC:∀x,(C x).length=sz):∀(l:List α) (k:Nat),(l.flatMap C).take (k*sz)=(l.take k).flatMap C
 | [],k=>by simp
 | x::r,0=>by simp
 | x::r,k+1=>by
  have ih:=oT hC r k;rw [List.flatMap_cons,List.take_succ_cons,List.flatMap_cons, ←ih,List.take_append,hC];have e:(k+1)*sz-sz=k*sz:=by rw [Nat.add_mul];omega
  rw [e,List.take_of_length_le (by rw [hC,Nat.add_mul];omega)]
theorem ll {α:Type} {C:α→List Value} {sz:Nat} (hC:∀x,(C x).length=sz):∀(l:List α) (k:Nat),(l.flatMap C).drop (k*sz)=(l.drop k).flatMap C
 | [],k=>by simp
 | x::r,0=>by simp
 | x::r,k+1=>by
  have ih:=ll hC r k;rw [List.flatMap_cons,List.drop_succ_cons, ←ih,List.drop_append,hC];have e:(k+1)*sz-sz=k*sz:=by rw [Nat.add_mul];omega
  rw [e,List.drop_of_length_le (by rw [hC,Nat.add_mul];omega)];simp
theorem qn {α:Type} {C:α→List Value} {sz:Nat} (hC:∀x,(C x).length=sz) (l:List α) (k:Nat) (hk:k<l.length):(ovr (l.flatMap C) (k*sz) ((l.drop (k+1)).flatMap C)).take ((l.length-1)*sz)=(l.eraseIdx k).flatMap C:=by
 have hl:=cO hC l;have hd:=cO hC (l.drop (k+1));rw [List.length_drop]at hd;have hle:k*sz+(l.length-(k+1))*sz=(l.length-1)*sz:=by rw [←Nat.add_mul];congr 1;omega
 have hle2:(l.length-1)*sz≤l.length*sz:=Nat.mul_le_mul_right _ (by omega);rw [wo _ _ _ (by rw [hl,hd];omega),oT hC,List.take_append_of_le_length]
 ·rw [List.take_of_length_le]
  ·rw [List.eraseIdx_eq_take_drop_succ,List.flatMap_append]
  ·rw [List.length_append,cO hC,hd,List.length_take];have:min k l.length=k:=(by omega);rw [this];omega
 ·rw [List.length_append,cO hC,hd,List.length_take];have:min k l.length=k:=(by omega);rw [this];omega
theorem zq (w:World) (b o c:Nat) (hc:∀j,j<5→(w.cell? ⟨b,o+j,none⟩).isSome=true) (hf:∀j,j<5→w.frozen? ⟨b,o+j,none⟩=false):
  ∃vs,∀ty,(Builtin.clear_ #[27] ty #[.slice (some ⟨b,o,none⟩) 1 c]).run Tryz.prog w= .ok (.tuple #[]) (w.setCells b o vs):=by
 have hv:∀w,(zeroValue 53).run Tryz.prog w= .ok (.agg #[.int .i64 0,.int .i64 0,.int .i64 0,.int .i64 0,.int .i64 0]) w:=fun w=>by kernel_rfl
 refine⟨(Builtin.zeroCells #[.int .i64 0,.int .i64 0,.int .i64 0,.int .i64 0,.int .i64 0] 1).toList,fun ty=>?_⟩;have hlen:(Builtin.zeroCells #[Value.int .i64 0,.int .i64 0,.int .i64 0,.int .i64 0,.int .i64 0] 1).toList.length=5:=by simp [Builtin.zeroCells]
 have hone:∀v∈(Builtin.zeroCells #[Value.int .i64 0,.int .i64 0,.int .i64 0,.int .i64 0,.int .i64 0] 1).toList,v.oneCell'=true:=ee (by kernel_rfl);have hst:=run_storeCells_cells (P:=Tryz.prog) b o (Builtin.zeroCells #[.int .i64 0,.int .i64 0,.int .i64 0,.int .i64 0,.int .i64 0] 1).toList 0 w (by rw [hlen];simpa using hc) (by rw [hlen];simpa using hf) hone;simp only [Nat.add_zero]at hst;simp [Builtin.clear_,run_underlying Tryz.underlying27,hv,hst,Value.cells]
theorem pO (l:List Pr) (B g cap k:Nat) (w:World) (hown:w.ownsRow B 53 5 (.slice (some ⟨g,0,none⟩) l.length cap) l.length (l.flatMap prC)) (hk:k<l.length) (hl:l.length≤1000):
  Calls Tryz.prog 86 #[.slice (some ⟨g,0,none⟩) l.length cap,.int .i64 k,.int .i64 (k+1)] w fun e w'=>e= .returned (.slice (some ⟨g,0,none⟩) (l.length-1) cap)∧
   w'.ownsRow B 53 5 (.slice (some ⟨g,0,none⟩) (l.length-1) cap) (l.length-1) ((l.eraseIdx k).flatMap prC)∧w.grownBy w' (some g):=by
 obtain⟨i0,hi,hz0,hz1,hz2⟩:=info_parts pr;have HO:=aa hown;have hcap:l.length≤cap∧cap≤maxLen:=by
  obtain⟨_,⟨h,_⟩ |⟨g',cap',cur,hv,_,_,hnc,hm,_⟩⟩:=hown
  ·simp at h
  ·simp only [Value.slice.injEq]at hv;obtain⟨_,_,rfl⟩:=hv;exact⟨hnc,hm⟩
 obtain⟨hcap,hcm⟩:=hcap;unfold maxLen at hcm;have hcells:∀j,j<l.length*5→w.cell? ⟨g,j,none⟩=(l.flatMap prC)[j]?:=fun j hj=>hown.cellAt j hj;have hfz:∀j,w.frozen? ⟨g,j,none⟩=false:=fun j=>hown.frozenAt j;clear hown;obtain⟨news,hnews⟩:∃news,news=(l.drop (k+1)).flatMap prC:=⟨_,rfl⟩;have hlen:news.length=(l.length-(k+1))*5:=by rw [hnews,cO bK,List.length_drop]
 have hfl:=cO bK l;have hget:∀t u,news[t]? =some u→w.cell? ⟨g,(k+1)*5+t,none⟩=some u:=fun t u hu=>by
  have ht:t<news.length:=(List.getElem?_eq_some_iff.1 hu).1;rw [hcells _ (by rw [hlen]at ht;omega)];rw [hnews, ←ll bK,List.getElem?_drop]at hu;exact hu
 have s1:Hid (news.length=(l.length-(k+1))*5):=hlen;have s2:Hid (∀u∈news,u.oneCell'=true):=by rw [hnews];exact t7 _
 have s3:Hid (∀t,t<news.length→(w.drew.cell? ⟨g,0+k*5+t,none⟩).isSome=true∧w.drew.frozen? ⟨g,0+k*5+t,none⟩=false):=by
  intro t ht;refine⟨?_,hfz _⟩;show(w.cell? _).isSome=true;have hjl:0+k*5+t<l.length*5:=by rw [hlen]at ht;omega
  rw [hcells _ hjl,List.getElem?_eq_getElem (by rw [hfl];exact hjl)];rfl
 obtain⟨A,hA,hsrc⟩:∃A:Addr,(if cap=k+1 then some (⟨g,0,none⟩:Addr)else some ⟨g,(k+1)*5,none⟩)=some A∧Hid (∀t u,news[t]? =some u→w.drew.cell? (A.add t)=some u):=by
  by_cases h:cap=k+1
  ·refine⟨⟨g,0,none⟩,by simp [h],fun t u hu=>?_⟩;have h0:news.length=0:=by rw [hlen,(show l.length-(k+1)=0 by omega),Nat.zero_mul]
   rw [List.length_eq_zero_iff.1 h0]at hu;simp at hu
  ·refine⟨⟨g,(k+1)*5,none⟩,by simp [h],fun t u hu=>?_⟩;rw [gS];exact hget t u hu
 obtain⟨W1,hW1⟩:∃W1,W1=w.drew.setCells g (0+k*5) news:=⟨_,rfl⟩;have HW:Hid (W1=w.drew.setCells g (0+k*5) news):=hW1;have HO1:Hid (W1.ownsRow B 53 5 (.slice (some ⟨g,0,none⟩) l.length cap) l.length (ovr (l.flatMap prC) (k*5) news)):=by
  show World.ownsRow _ _ _ _ _ _ _;rw [hW1,Nat.zero_add];exact pt news _ _ _ HO.out.drew
 have HG1:Hid (w.grownBy W1 (some g)):=by
  show World.grownBy _ _ _;rw [hW1];exact cW news _ _ ⟨rfl,rfl,rfl,Nat.le_refl _,fun _ _ _=>rfl⟩
 obtain⟨vs,hclr⟩:=zq W1 g ((l.length-1)*5) (cap-(l.length-1)) (fun j hj=>by
  have:=HO1.out.cellAt ((l.length-1)*5+j) (by omega);rw [this,List.getElem?_eq_getElem (by rw [HO1.out.1];omega)];rfl) (fun j hj=>HO1.out.frozenAt _)
 have HP1:Hid (W1.ownsRow B 53 5 (.slice (some ⟨g,0,none⟩) (l.length-1) cap) (l.length-1) ((l.eraseIdx k).flatMap prC)):=by
  show World.ownsRow _ _ _ _ _ _ _;rw [←qn bK l k hk, ←hnews];exact kA HO1.out (by omega)
 have HP2:=aa (fQ vs ((l.length-1)*5) W1 HP1.out zr);have HG2:=aa (cW vs ((l.length-1)*5) W1 HG1.out);clear hW1 hcells hfz hget hlen hfl hnews HO1 HP1 HG1 HO;have hic:k≤cap:=by omega
 have hjc:k+1≤cap:=by omega
 have hq1:(0:Int)≤(k:Int)+1:=by omega
 have hq2:(k:Int)+1≤(l.length:Int):=by omega
 have hq3:k+(l.length-(k+1))=l.length-1:=by omega
 have hq4:l.length-(l.length-1)=1:=by omega
 go_enter Tryz.func86,Tryz.ntmps86;go_wp2_with fail
 go_region_law (refine step_append_room rfl (.tmp 22) (.tmp 25) 27 rfl 53 i0 5 Tryz.underlying27 hi hz1 g 0 k cap (by simp [Act.eval,Act.put]) A (l.length-(k+1)) (cap-(k+1)) news (by simp [Act.eval,Act.put]) s1.out hsrc.out s2.out (by omega) s3.out ?_;rw [←HW.out]);have hr1:((l.length-1:Nat):Int)≤(l.length:Int):=by omega
 have hr2:(l.length:Int)≤(cap:Int):=by omega
 have hr3:¬cap=l.length-1:=by omega
 have hr4:(0:Int)≤((l.length-1:Nat):Int):=by omega
 generalize hq:l.length-1=q at*;clear s1 s2 s3 hsrc hA HW;go_wp2_with (simp only [hclr])
 go_ret;subst hq;exact⟨rfl,HP2.out,HG2.out⟩
theorem zF (w:World) (b o c:Nat) (hc:∀j,j<9→(w.cell? ⟨b,o+j,none⟩).isSome=true) (hf:∀j,j<9→w.frozen? ⟨b,o+j,none⟩=false):
  ∃vs,∀ty,(Builtin.clear_ #[28] ty #[.slice (some ⟨b,o,none⟩) 1 c]).run Tryz.prog w= .ok (.tuple #[]) (w.setCells b o vs):=by
 have hv:∀w,(zeroValue 55).run Tryz.prog w= .ok (.agg #[.int .i64 0,.int .i64 0,.bool false,.int .i64 0,.int .i64 0,.int .i64 0,.int .i64 0,.int .i64 0,.bool false]) w:=fun w=>by kernel_rfl
 refine⟨(Builtin.zeroCells #[.int .i64 0,.int .i64 0,.bool false,.int .i64 0,.int .i64 0,.int .i64 0,.int .i64 0,.int .i64 0,.bool false] 1).toList,fun ty=>?_⟩;have hlen:(Builtin.zeroCells #[Value.int .i64 0,.int .i64 0,.bool false,.int .i64 0,.int .i64 0,.int .i64 0,.int .i64 0,.int .i64 0,.bool false] 1).toList.length=9:=by simp [Builtin.zeroCells]
 have hone:∀v∈(Builtin.zeroCells #[Value.int .i64 0,.int .i64 0,.bool false,.int .i64 0,.int .i64 0,.int .i64 0,.int .i64 0,.int .i64 0,.bool false] 1).toList,v.oneCell'=true:=ee (by kernel_rfl);have hst:=run_storeCells_cells (P:=Tryz.prog) b o (Builtin.zeroCells #[.int .i64 0,.int .i64 0,.bool false,.int .i64 0,.int .i64 0,.int .i64 0,.int .i64 0,.int .i64 0,.bool false] 1).toList 0 w (by rw [hlen];simpa using hc) (by rw [hlen];simpa using hf) hone;simp only [Nat.add_zero]at hst;simp [Builtin.clear_,run_underlying Tryz.underlying28,hv,hst,Value.cells]
theorem pW (l:List Ac) (B g cap k:Nat) (w:World) (hown:w.ownsRow B 55 9 (.slice (some ⟨g,0,none⟩) l.length cap) l.length (l.flatMap acC)) (hk:k<l.length) (hl:l.length≤1000):
  Calls Tryz.prog 87 #[.slice (some ⟨g,0,none⟩) l.length cap,.int .i64 k,.int .i64 (k+1)] w fun e w'=>e= .returned (.slice (some ⟨g,0,none⟩) (l.length-1) cap)∧
   w'.ownsRow B 55 9 (.slice (some ⟨g,0,none⟩) (l.length-1) cap) (l.length-1) ((l.eraseIdx k).flatMap acC)∧w.grownBy w' (some g):=by
 obtain⟨i0,hi,hz0,hz1,hz2⟩:=info_parts pY;have HO:=aa hown;have hcap:l.length≤cap∧cap≤maxLen:=by
  obtain⟨_,⟨h,_⟩ |⟨g',cap',cur,hv,_,_,hnc,hm,_⟩⟩:=hown
  ·simp at h
  ·simp only [Value.slice.injEq]at hv;obtain⟨_,_,rfl⟩:=hv;exact⟨hnc,hm⟩
 obtain⟨hcap,hcm⟩:=hcap;unfold maxLen at hcm;have hcells:∀j,j<l.length*9→w.cell? ⟨g,j,none⟩=(l.flatMap acC)[j]?:=fun j hj=>hown.cellAt j hj;have hfz:∀j,w.frozen? ⟨g,j,none⟩=false:=fun j=>hown.frozenAt j;clear hown;obtain⟨news,hnews⟩:∃news,news=(l.drop (k+1)).flatMap acC:=⟨_,rfl⟩;have hlen:news.length=(l.length-(k+1))*9:=by rw [hnews,cO cL,List.length_drop]
 have hfl:=cO cL l;have hget:∀t u,news[t]? =some u→w.cell? ⟨g,(k+1)*9+t,none⟩=some u:=fun t u hu=>by
  have ht:t<news.length:=(List.getElem?_eq_some_iff.1 hu).1;rw [hcells _ (by rw [hlen]at ht;omega)];rw [hnews, ←ll cL,List.getElem?_drop]at hu;exact hu
 have s1:Hid (news.length=(l.length-(k+1))*9):=hlen;have s2:Hid (∀u∈news,u.oneCell'=true):=by rw [hnews];exact ur _
 have s3:Hid (∀t,t<news.length→(w.drew.cell? ⟨g,0+k*9+t,none⟩).isSome=true∧w.drew.frozen? ⟨g,0+k*9+t,none⟩=false):=by
  intro t ht;refine⟨?_,hfz _⟩;show(w.cell? _).isSome=true;have hjl:0+k*9+t<l.length*9:=by rw [hlen]at ht;omega
  rw [hcells _ hjl,List.getElem?_eq_getElem (by rw [hfl];exact hjl)];rfl
 obtain⟨A,hA,hsrc⟩:∃A:Addr,(if cap=k+1 then some (⟨g,0,none⟩:Addr)else some ⟨g,(k+1)*9,none⟩)=some A∧Hid (∀t u,news[t]? =some u→w.drew.cell? (A.add t)=some u):=by
  by_cases h:cap=k+1
  ·refine⟨⟨g,0,none⟩,by simp [h],fun t u hu=>?_⟩;have h0:news.length=0:=by rw [hlen,(show l.length-(k+1)=0 by omega),Nat.zero_mul]
   rw [List.length_eq_zero_iff.1 h0]at hu;simp at hu
  ·refine⟨⟨g,(k+1)*9,none⟩,by simp [h],fun t u hu=>?_⟩;rw [gS];exact hget t u hu
 obtain⟨W1,hW1⟩:∃W1,W1=w.drew.setCells g (0+k*9) news:=⟨_,rfl⟩;have HW:Hid (W1=w.drew.setCells g (0+k*9) news):=hW1;have HO1:Hid (W1.ownsRow B 55 9 (.slice (some ⟨g,0,none⟩) l.length cap) l.length (ovr (l.flatMap acC) (k*9) news)):=by
  show World.ownsRow _ _ _ _ _ _ _;rw [hW1,Nat.zero_add];exact pt news _ _ _ HO.out.drew
 have HG1:Hid (w.grownBy W1 (some g)):=by
  show World.grownBy _ _ _;rw [hW1];exact cW news _ _ ⟨rfl,rfl,rfl,Nat.le_refl _,fun _ _ _=>rfl⟩
 obtain⟨vs,hclr⟩:=zF W1 g ((l.length-1)*9) (cap-(l.length-1)) (fun j hj=>by
  have:=HO1.out.cellAt ((l.length-1)*9+j) (by omega);rw [this,List.getElem?_eq_getElem (by rw [HO1.out.1];omega)];rfl) (fun j hj=>HO1.out.frozenAt _)
 have HP1:Hid (W1.ownsRow B 55 9 (.slice (some ⟨g,0,none⟩) (l.length-1) cap) (l.length-1) ((l.eraseIdx k).flatMap acC)):=by
  show World.ownsRow _ _ _ _ _ _ _;rw [←qn cL l k hk, ←hnews];exact kA HO1.out (by omega)
 have HP2:=aa (fQ vs ((l.length-1)*9) W1 HP1.out zr);have HG2:=aa (cW vs ((l.length-1)*9) W1 HG1.out);clear hW1 hcells hfz hget hlen hfl hnews HO1 HP1 HG1 HO;have hic:k≤cap:=by omega
 have hjc:k+1≤cap:=by omega
 have hq1:(0:Int)≤(k:Int)+1:=by omega
 have hq2:(k:Int)+1≤(l.length:Int):=by omega
 have hq3:k+(l.length-(k+1))=l.length-1:=by omega
 have hq4:l.length-(l.length-1)=1:=by omega
 go_enter Tryz.func87,Tryz.ntmps87;go_wp2_with fail
 go_region_law (refine step_append_room rfl (.tmp 22) (.tmp 25) 28 rfl 55 i0 9 Tryz.underlying28 hi hz1 g 0 k cap (by simp [Act.eval,Act.put]) A (l.length-(k+1)) (cap-(k+1)) news (by simp [Act.eval,Act.put]) s1.out hsrc.out s2.out (by omega) s3.out ?_;rw [←HW.out]);have hr1:((l.length-1:Nat):Int)≤(l.length:Int):=by omega
 have hr2:(l.length:Int)≤(cap:Int):=by omega
 have hr3:¬cap=l.length-1:=by omega
 have hr4:(0:Int)≤((l.length-1:Nat):Int):=by omega
 generalize hq:l.length-1=q at*;clear s1 s2 s3 hsrc hA HW;go_wp2_with (simp only [hclr])
 go_ret;subst hq;exact⟨rfl,HP2.out,HG2.out⟩
theorem qU (v:Value) (l:List Sw) (w:World) (hM:et w v l) (hl:l.length*24≤140737488355328):
  Calls Tryz.prog 46 #[v] w fun e w'=>∃u,e= .returned u∧w'.ownsRow w.heap.size 51 3 u l.length (l.flatMap swC)∧Below w.heap.size w w':=by
 obtain⟨i0,hi,hz0,hz1,hz2⟩:=info_parts sZ;have HM:=aa hM;obtain⟨a,cap,rfl,hn,hL⟩:=hM;cases a with
 | none=>
  obtain rfl:=hn rfl;have h0:l.length=0:=by
   rcases hL with h |⟨_,_,h,_⟩
   ·exact h
   ·simp at h
  obtain rfl:l= []:=List.eq_nil_of_length_eq_zero h0;clear hL hn HM h0 hl;go_enter Tryz.func46,Tryz.ntmps46;go_wp2;go_ret;exact⟨_,rfl,World.ownsRow_nil _ _ _ _,Below.refl _ _⟩
 | some ad=>
  have HN:=aa (RowAt.news eC HM.out);have H1:=aa (Ak l);clear hL hn;go_enter Tryz.func46,Tryz.ntmps46;go_wp2_with (at_builtin;refine wpList_append_own _ rfl _ _ 26 rfl w.heap.size 51 i0 _ 3 24 Tryz.underlying26 hi hz0 hz1 hz2 rfl (by decide) _ _ _ rfl (World.ownsRow_nil w w.heap.size 51 3) ad l.length cap (l.flatMap swC) rfl ?a0 HN.out H1.out ?a1 ?a2 ?a3 ?_)
  case a0=>rw [cO eC]
  case a1=>unfold maxLen;omega
  case a2=>omega
  case a3=>exact Nat.le_refl _
  intro v1 w1 ho1 hg1 _;have hb1:Below w.heap.size w w1:=(Below.refl _ w).grown hg1 (by simp) (ay (World.ownsRow_nil w w.heap.size 51 3));have HO:Hid (w1.ownsRow w.heap.size 51 3 v1 l.length (l.flatMap swC)):=aa ho1;clear ho1 hg1;go_wp2;go_ret;exact⟨v1,rfl,HO.out,hb1⟩
theorem rj (v:Value) (l:List Pr) (w:World) (hM:eR w v l) (hl:l.length*40≤140737488355328):
  Calls Tryz.prog 47 #[v] w fun e w'=>∃u,e= .returned u∧w'.ownsRow w.heap.size 53 5 u l.length (l.flatMap prC)∧Below w.heap.size w w':=by
 obtain⟨i0,hi,hz0,hz1,hz2⟩:=info_parts pr;have HM:=aa hM;obtain⟨a,cap,rfl,hn,hL⟩:=hM;cases a with
 | none=>
  obtain rfl:=hn rfl;have h0:l.length=0:=by
   rcases hL with h |⟨_,_,h,_⟩
   ·exact h
   ·simp at h
  obtain rfl:l= []:=List.eq_nil_of_length_eq_zero h0;clear hL hn HM h0 hl;go_enter Tryz.func47,Tryz.ntmps47;go_wp2;go_ret;exact⟨_,rfl,World.ownsRow_nil _ _ _ _,Below.refl _ _⟩
 | some ad=>
  have HN:=aa (RowAt.news bK HM.out);have H1:=aa (t7 l);clear hL hn;go_enter Tryz.func47,Tryz.ntmps47;go_wp2_with (at_builtin;refine wpList_append_own _ rfl _ _ 27 rfl w.heap.size 53 i0 _ 5 40 Tryz.underlying27 hi hz0 hz1 hz2 rfl (by decide) _ _ _ rfl (World.ownsRow_nil w w.heap.size 53 5) ad l.length cap (l.flatMap prC) rfl ?a0 HN.out H1.out ?a1 ?a2 ?a3 ?_)
  case a0=>rw [cO bK]
  case a1=>unfold maxLen;omega
  case a2=>omega
  case a3=>exact Nat.le_refl _
  intro v1 w1 ho1 hg1 _;have hb1:Below w.heap.size w w1:=(Below.refl _ w).grown hg1 (by simp) (ay (World.ownsRow_nil w w.heap.size 53 5));have HO:Hid (w1.ownsRow w.heap.size 53 5 v1 l.length (l.flatMap prC)):=aa ho1;clear ho1 hg1;go_wp2;go_ret;exact⟨v1,rfl,HO.out,hb1⟩
theorem sd (v:Value) (l:List Ac) (w:World) (hM:uC w v l) (hl:l.length*72≤140737488355328):
  Calls Tryz.prog 48 #[v] w fun e w'=>∃u,e= .returned u∧w'.ownsRow w.heap.size 55 9 u l.length (l.flatMap acC)∧Below w.heap.size w w':=by
 obtain⟨i0,hi,hz0,hz1,hz2⟩:=info_parts pY;have HM:=aa hM;obtain⟨a,cap,rfl,hn,hL⟩:=hM;cases a with
 | none=>
  obtain rfl:=hn rfl;have h0:l.length=0:=by
   rcases hL with h |⟨_,_,h,_⟩
   ·exact h
   ·simp at h
  obtain rfl:l= []:=List.eq_nil_of_length_eq_zero h0;clear hL hn HM h0 hl;go_enter Tryz.func48,Tryz.ntmps48;go_wp2;go_ret;exact⟨_,rfl,World.ownsRow_nil _ _ _ _,Below.refl _ _⟩
 | some ad=>
  have HN:=aa (RowAt.news cL HM.out);have H1:=aa (ur l);clear hL hn;go_enter Tryz.func48,Tryz.ntmps48;go_wp2_with (at_builtin;refine wpList_append_own _ rfl _ _ 28 rfl w.heap.size 55 i0 _ 9 72 Tryz.underlying28 hi hz0 hz1 hz2 rfl (by decide) _ _ _ rfl (World.ownsRow_nil w w.heap.size 55 9) ad l.length cap (l.flatMap acC) rfl ?a0 HN.out H1.out ?a1 ?a2 ?a3 ?_)
  case a0=>rw [cO cL]
  case a1=>unfold maxLen;omega
  case a2=>omega
  case a3=>exact Nat.le_refl _
  intro v1 w1 ho1 hg1 _;have hb1:Below w.heap.size w w1:=(Below.refl _ w).grown hg1 (by simp) (ay (World.ownsRow_nil w w.heap.size 55 9));have HO:Hid (w1.ownsRow w.heap.size 55 9 v1 l.length (l.flatMap acC)):=aa ho1;clear ho1 hg1;go_wp2;go_ret;exact⟨v1,rfl,HO.out,hb1⟩
structure Own3 (w:World) (B:Nat) (sv pv av:Value) (S:List Sw) (P:List Pr) (A:List Ac):Prop where
 s:w.ownsRow B 51 3 sv S.length (S.flatMap swC)
 p:w.ownsRow B 53 5 pv P.length (P.flatMap prC)
 a:w.ownsRow B 55 9 av A.length (A.flatMap acC)
 sp:sv.ownBlock=none∨sv.ownBlock≠pv.ownBlock
 sa:sv.ownBlock=none∨sv.ownBlock≠av.ownBlock
 pa:pv.ownBlock=none∨pv.ownBlock≠av.ownBlock
theorem Own3.cf {w:World} {B:Nat} {sv pv av:Value} {S:List Sw} {P:List Pr} {A:List Ac} (h:Own3 w B sv pv av S P A):CfAt w sv pv av S P A:=
 ⟨RowAt.of_own eC (by omega) h.s,RowAt.of_own bK (by omega) h.p,RowAt.of_own cL (by omega) h.a⟩
theorem xR (sv pv av:Value) (S:List Sw) (P:List Pr) (A:List Ac) (w:World) (hC:CfAt w sv pv av S P A) (h1:S.length*24≤140737488355328) (h2:P.length*40≤140737488355328) (h3:A.length*72≤140737488355328):
  Calls Tryz.prog 24 #[.agg #[sv,pv,av]] w fun e w'=>∃su pu au,e= .returned (.agg #[su,pu,au])∧Own3 w' w.heap.size su pu au S P A∧Below w.heap.size w w':=by
 have HC:=aa hC;have HS:Hid (∀W:World,Below w.heap.size w W→Calls Tryz.prog 46 #[sv] W fun e w'=>∃u,e= .returned u∧w'.ownsRow W.heap.size 51 3 u S.length (S.flatMap swC)∧Below W.heap.size W w'):=fun W hW=>qU sv S W (RowAt.below HC.out.1 hW zr) h1;have HP:Hid (∀W:World,Below w.heap.size w W→Calls Tryz.prog 47 #[pv] W fun e w'=>∃u,e= .returned u∧w'.ownsRow W.heap.size 53 5 u P.length (P.flatMap prC)∧Below W.heap.size W w'):=fun W hW=>rj pv P W (RowAt.below HC.out.2.1 hW zr) h2;have HA:Hid (∀W:World,Below w.heap.size w W→Calls Tryz.prog 48 #[av] W fun e w'=>∃u,e= .returned u∧w'.ownsRow W.heap.size 55 9 u A.length (A.flatMap acC)∧Below W.heap.size W w'):=fun W hW=>sd av A W (RowAt.below HC.out.2.2 hW zr) h3;obtain⟨s1,s2,rfl⟩:=hC.1.slice;obtain⟨p1,p2,rfl⟩:=hC.2.1.slice;obtain⟨a1,a2,rfl⟩:=hC.2.2.slice;clear hC HC;go_enter Tryz.func24,Tryz.ntmps24;go_wp2_with fail
 obtain⟨W0,hW0⟩:∃W0,W0=(w.alloc (.cells #[.slice s1 S.length s2,.slice p1 P.length p2,.slice a1 A.length a2] 30)).alloc (.cells #[.slice none 0 0,.slice none 0 0,.slice none 0 0] 30):=⟨_,rfl⟩;have hb0:Below w.heap.size w W0:=by rw [hW0];exact((Below.refl _ _).alloc zr _).alloc (by simp) _
 have hz0:w.heap.size+2≤W0.heap.size:=by rw [hW0];simp
 have c0:W0.cell? ⟨w.heap.size,0,none⟩=some (.slice s1 S.length s2):=by rw [hW0];simp
 have c1:W0.cell? ⟨w.heap.size,1,none⟩=some (.slice p1 P.length p2):=by rw [hW0];simp
 have c2:W0.cell? ⟨w.heap.size,2,none⟩=some (.slice a1 A.length a2):=by rw [hW0];simp
 have r0:W0.cell? ⟨w.heap.size+1,0,none⟩=some (.slice none 0 0):=by rw [hW0];simp
 have r1:W0.cell? ⟨w.heap.size+1,1,none⟩=some (.slice none 0 0):=by rw [hW0];simp
 have r2:W0.cell? ⟨w.heap.size+1,2,none⟩=some (.slice none 0 0):=by rw [hW0];simp
 have f0:W0.frozen? ⟨w.heap.size+1,0,none⟩=false:=by rw [hW0];simp
 have f1:W0.frozen? ⟨w.heap.size+1,1,none⟩=false:=by rw [hW0];simp
 have f2:W0.frozen? ⟨w.heap.size+1,2,none⟩=false:=by rw [hW0];simp
 rw [←hW0];clear hW0 h1 h2 h3;have e0:Below (w.heap.size+2) W0 W0.drew:=(Below.refl _ _).drew;go_region_held3 (fun w'=>w'.cell? ⟨w.heap.size,0,none⟩=some (.slice s1 S.length s2)∧w'.cell? ⟨w.heap.size,1,none⟩=some (.slice p1 P.length p2)∧w'.cell? ⟨w.heap.size,2,none⟩=some (.slice a1 A.length a2)) (go_keep)
  (first |(go_at_call 46;refine(ag HS _ hb0.drew).mono ?_;rintro e w1 ⟨u1,rfl,ho1,hb1⟩;obtain⟨o1,m1,rfl⟩:=aG ho1;have HO1:=aa ho1;clear ho1;have g1:Below (w.heap.size+2) W0 w1:=e0.trans (hb1.mono hz0);have k1:Below w.heap.size w w1:=hb0.trans (g1.mono (by omega));have y0:=(g1.cell (p:=⟨w.heap.size,0,none⟩) (by simp)).trans c0;have y1:=(g1.cell (p:=⟨w.heap.size,1,none⟩) (by simp)).trans c1;have y2:=(g1.cell (p:=⟨w.heap.size,2,none⟩) (by simp)).trans c2)
               |(go_at_call 47;refine(ag HP _ k1).mono ?_;rintro e w2 ⟨u2,rfl,ho2,hb2⟩;obtain⟨o2,m2,rfl⟩:=aG ho2;have HO2:=aa ho2;clear ho2;have g2:Below (w.heap.size+2) W0 w2:=g1.trans (hb2.mono (Nat.le_trans hz0 g1.size));have k2:Below w.heap.size w w2:=hb0.trans (g2.mono (by omega));have x0:=(g2.cell (p:=⟨w.heap.size,0,none⟩) (by simp)).trans c0;have x1:=(g2.cell (p:=⟨w.heap.size,1,none⟩) (by simp)).trans c1;have x2:=(g2.cell (p:=⟨w.heap.size,2,none⟩) (by simp)).trans c2)
               |(go_at_call 48;refine(ag HA _ k2).mono ?_;rintro e w3 ⟨u3,rfl,ho3,hb3⟩;obtain⟨o3,m3,rfl⟩:=aG ho3;have HO3:=aa ho3;clear ho3;have g3:Below (w.heap.size+2) W0 w3:=g2.trans (hb3.mono (Nat.le_trans hz0 g2.size));have k3:Below w.heap.size w w3:=hb0.trans (g3.mono (by omega));have v0:=(g3.cell (p:=⟨w.heap.size,0,none⟩) (by simp)).trans c0;have v1:=(g3.cell (p:=⟨w.heap.size,1,none⟩) (by simp)).trans c1;have v2:=(g3.cell (p:=⟨w.heap.size,2,none⟩) (by simp)).trans c2;have t0:=(g3.cell (p:=⟨w.heap.size+1,0,none⟩) (by simp)).trans r0;have t1:=(g3.cell (p:=⟨w.heap.size+1,1,none⟩) (by simp)).trans r1;have t2:=(g3.cell (p:=⟨w.heap.size+1,2,none⟩) (by simp)).trans r2;have l0:=(g3.frozen (p:=⟨w.heap.size+1,0,none⟩) (by simp)).trans f0;have l1:=(g3.frozen (p:=⟨w.heap.size+1,1,none⟩) (by simp)).trans f1;have l2:=(g3.frozen (p:=⟨w.heap.size+1,2,none⟩) (by simp)).trans f2))
 have N1:w.heap.size+1<W0.drew.heap.size:=by have:=hz0;simp;omega
 have N2:w.heap.size+1<w1.heap.size:=Nat.lt_of_lt_of_le N1 hb1.size;have N3:w.heap.size+1<w2.heap.size:=Nat.lt_of_lt_of_le N2 hb2.size;have O1:=aa (aA (aA HO1.out hb2) hb3);have O2:=aa (aA HO2.out hb3);have A12:=aa (kY HO1.out HO2.out zr);have A13:=aa (kY (aA HO1.out hb2) HO3.out zr);have A23:=aa (kY HO2.out HO3.out zr);clear HO1 HO2 y0 y1 y2 x0 x1 x2 v0 v1 v2 g1 g2 g3 k1 k2 l0 l1 l2 hb2 hb3 hb1 c0 c1 c2 r0 r1 r2 f0 f1 f2 e0 HS HP HA;obtain⟨q0,q1,q2⟩:=xS t0 t1 t2 (.slice o1 S.length m1) (.slice o2 P.length m2) (.slice o3 A.length m3);have HB:Hid (Below w.heap.size w (((w3.setCell ⟨w.heap.size+1,0,none⟩ (.slice o1 S.length m1)).setCell ⟨w.heap.size+1,1,none⟩ (.slice o2 P.length m2)).setCell ⟨w.heap.size+1,2,none⟩ (.slice o3 A.length m3))):=((k3.setCell (Nat.le_succ _) _).setCell (Nat.le_succ _) _).setCell (Nat.le_succ _) _;have R1:=aa (aw (ownsRow_setCell_below (ownsRow_setCell_below (ownsRow_setCell_below O1.out (a:=⟨w.heap.size+1,0,none⟩) N1 (.slice o1 S.length m1)) (a:=⟨w.heap.size+1,1,none⟩) N1 (.slice o2 P.length m2)) (a:=⟨w.heap.size+1,2,none⟩) N1 (.slice o3 A.length m3)) (show w.heap.size≤W0.drew.heap.size by omega));have R2:=aa (aw (ownsRow_setCell_below (ownsRow_setCell_below (ownsRow_setCell_below O2.out (a:=⟨w.heap.size+1,0,none⟩) N2 (.slice o1 S.length m1)) (a:=⟨w.heap.size+1,1,none⟩) N2 (.slice o2 P.length m2)) (a:=⟨w.heap.size+1,2,none⟩) N2 (.slice o3 A.length m3)) (show w.heap.size≤w1.heap.size by omega));have R3:=aa (aw (ownsRow_setCell_below (ownsRow_setCell_below (ownsRow_setCell_below HO3.out (a:=⟨w.heap.size+1,0,none⟩) N3 (.slice o1 S.length m1)) (a:=⟨w.heap.size+1,1,none⟩) N3 (.slice o2 P.length m2)) (a:=⟨w.heap.size+1,2,none⟩) N3 (.slice o3 A.length m3)) (show w.heap.size≤w2.heap.size by omega));clear O1 O2 HO3 k3 t0 t1 t2 N1 N2 N3;generalize (((w3.setCell ⟨w.heap.size+1,0,none⟩ (.slice o1 S.length m1)).setCell ⟨w.heap.size+1,1,none⟩ (.slice o2 P.length m2)).setCell ⟨w.heap.size+1,2,none⟩ (.slice o3 A.length m3))=W at*;go_wp2_with fail
 refine bodyPost_ret (v:=.agg #[.slice o1 S.length m1,.slice o2 P.length m2,.slice o3 A.length m3]) ?_ rfl ⟨_,_,_,rfl,⟨R1.out,R2.out,R3.out,A12.out,A13.out,A23.out⟩,HB.out⟩;simp [results,Tryz.results24,go_sem,q0,q1,q2]
def nxS (S:List Sw) (a:Ax):List Sw:=if a.k=1 then S++ [a.s]else S
def nxP (P:List Pr) (a:Ax):List Pr:=if a.k=2 then P++ [a.p]else if a.k=4 then P.eraseIdx (pat P a.n).toNat else if a.k=6 then P.set (pat P a.n).toNat ⟨(P.getD (pat P a.n).toNat pr0).i,(P.getD (pat P a.n).toNat pr0).s,(P.getD (pat P a.n).toNat pr0).m,(P.getD (pat P a.n).toNat pr0).p,a.m⟩else P
def nxA (A:List Ac) (a:Ax):List Ac:=if a.k=3 then A++ [a.r]else if a.k=5 then A.eraseIdx a.n.toNat else A
theorem RowAt.set_far {α:Type} {C:α→List Value} {sz:Nat} {w:World} {v:Value} {l:List α} (h:RowAt C sz w v l) {b:Nat} (hne:v.ownBlock≠some b) (o:Nat) (x:Value):RowAt C sz (w.setCell ⟨b,o,none⟩ x) v l:=by
 obtain⟨a,cap,rfl,hn,h0 |⟨b',off,rfl,hc,hL⟩⟩:=h
 ·exact⟨a,cap,rfl,hn,.inl h0⟩
 ·refine⟨_,cap,rfl,hn,.inr ⟨b',off,rfl,hc,fun i y hy j u hu=>?_⟩⟩;rw [World.cell?_setCell_other _ _ _ _ (fun e=>hne (by simp only [Addr.mk.injEq]at e;simp [Value.ownBlock,e.1]))];exact hL i y hy j u hu
theorem CfAt.set_far {w:World} {sv pv av:Value} {S:List Sw} {P:List Pr} {A:List Ac} (h:CfAt w sv pv av S P A) {b:Nat} (h1:sv.ownBlock≠some b) (h2:pv.ownBlock≠some b) (h3:av.ownBlock≠some b) (o:Nat) (x:Value):CfAt (w.setCell ⟨b,o,none⟩ x) sv pv av S P A:=
 ⟨RowAt.set_far h.1 h1 o x,RowAt.set_far h.2.1 h2 o x,RowAt.set_far h.2.2 h3 o x⟩
theorem j5 {u v:Value} (h:u.ownBlock=none∨u.ownBlock≠v.ownBlock):v.ownBlock=none∨v.ownBlock≠u.ownBlock:=by
 rcases h with h | h
 ·rw [h];cases v.ownBlock
  ·exact .inl rfl
  ·exact .inr (by simp)
 ·exact .inr fun e=>h e.symm
theorem hJ {w:World} {B e size n:Nat} {v:Value} {xs:List Value} (h:w.ownsRow B e size v n xs) {b:Nat} (hb:w.heap.size≤b):v.ownBlock≠some b:=fun e=>by
 have:=bW h e;omega
theorem Am {w w':World} {row:Option Nat} (hg:w.grownBy w' row) {b o:Nat} (hb:b<w.heap.size) (h:w.frozen? ⟨b,o,none⟩=false) (hne:some b≠row):w'.frozen? ⟨b,o,none⟩=false:=
 (World.frozen?_of_block (w:=w) (hg.block b hb hne)).trans h
theorem li {α:Type} (C:α→List Value) (l:List α) (x:α):l.flatMap C++C x=(l++ [x]).flatMap C:=by simp
theorem qP:∀(l:List Pr) (k:Nat) (m:Int),k<l.length→(l.flatMap prC).set (k*5+4) (.int .i64 m)=(l.set k ⟨(l.getD k pr0).i,(l.getD k pr0).s,(l.getD k pr0).m,(l.getD k pr0).p,m⟩).flatMap prC
 | [],k,m,h=>by simp at h
 | y::r,0,m,_=>by simp [prC]
 | y::r,k+1,m,h=>by
  have ih:=qP r k m (by simpa using h);have e:(k+1)*5+4=(k*5+4)+5:=(by omega);simp only [List.flatMap_cons,List.set_cons_succ,List.getD_cons_succ]at ih⊢;rw [e, ←ih];simp [prC]
end Go.Proofs.YtaiedioffemhdaaGreat
