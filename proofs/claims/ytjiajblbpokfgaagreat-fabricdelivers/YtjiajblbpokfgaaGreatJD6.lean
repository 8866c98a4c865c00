/- Texts joined: Xf, Xt, Tt, Zs, Qs, Zt, Zi, Zw, Zy, Zz, Qs0, Zx0, Zx, Lay2, Xm, Sar, Kz, Cia, Cap, Cd, Ch, Ch2, Cap2, Cap3, Xg, Xh, Xi, Xl, Xj0, Rx, Mg, Mh, Xo, Yr, Rt. -/
import Derived.Deep.DeepCutAuto
import Derived.Deep.Light
import Derived.Test.YtjiajblbpokfgaaGreatRows
import Derived.Shelf.SlSortCmp.NoneTotal
import Derived.Deep.RegionLaw
import Derived.Deep.RegionHeld3
import Derived.Lib.SliceRun
import Derived.Sort.WalkB12
import Derived.Deep.AppendLies
import Derived.Maps.AppendAt
import Derived.Deep.MidRow
import Derived.Test.YtjiajblbpokfgaaGreatJD5
namespace Go.Proofs.YtjiajblbpokfgaaGreat
open Go.RowKit
set_option linter.unusedVariables false
set_option maxRecDepth 100000
set_option maxHeartbeats 16000000
theorem qQ {α:Type} {p:α→Bool} (d:α) {l:List α} (h:0≤idx p l):∃k:Nat,k<l.length∧idx p l=k∧p (l.getD k d)=true:=by
 unfold idx at h⊢;cases hf:l.findIdx? p with
 | none=>rw [hf]at h;simp at h
 | some k=>
  obtain⟨hk,hp,_⟩:=List.findIdx?_eq_some_iff_getElem.1 hf;exact⟨k,hk,rfl,by rw [List.getD_eq_getElem?_getD,List.getElem?_eq_getElem hk];exact hp⟩
theorem oW (ks:List Value) (K:Nat→List Fl) (s1 p1 a1:Option Addr) (s0 s2 p2 a0 a2:Nat) (P:List Pr) (id dst src kind ips ipd ttl port:Int) (body:ByteArray) (w:World) (hK:KAt w ks K) (hP:ft w (.slice p1 P.length p2) P) (hl:P.length≤100000) (hc:∀p∈P,p.c= -1∨0≤p.c∧p.c≤5) (hb:body.size≤maxLen)
  (hS:fT K P id dst src kind ips ipd ttl port body.size=0→lI (fW K P id dst src kind ips ipd ttl port body.size)):
  Calls Tryz.prog 12 #[.agg ks.toArray,.agg #[.slice s1 s0 s2,.slice p1 P.length p2,.slice a1 a0 a2],.int .i64 id,fr dst src kind ips ipd ttl port body] w fun e w'=>∃u,e= .returned (.tuple #[u,.int .i64 (fT K P id dst src kind ips ipd ttl port body.size)])∧∃l',(l'.Perm (fW K P id dst src kind ips ipd ttl port body.size)∧eI l'∧w'.ownsRow w.heap.size 58 9 u l'.length (AR body l'))∧Below w.heap.size w w':=by
 obtain⟨i0,hi,hz0,hz1,hz2⟩:=info_parts yC;have HK:=aa hK;obtain⟨k0,k1,k2,k3,k4,k5,rfl⟩:=six hK.1;have HP:=aa hP;have HC:=aa hc;have HS:=aa hS;clear hK hP hc hS;have HAE:Hid (fT K P id dst src kind ips ipd ttl port body.size=if idx (cv id) P<0 then 6 else if pkE dst src kind ips ipd ttl port body.size id 0 0=0 then(if dM (K (dY P id).c.toNat) [id,dst,src,kind,ips,ipd,ttl,port,0,0] body.size=0 then jP K body.size (ran (K (dY P id).c.toNat) [id,dst,src,kind,ips,ipd,ttl,port,0,0])else dM (K (dY P id).c.toNat) [id,dst,src,kind,ips,ipd,ttl,port,0,0] body.size)else pkE dst src kind ips ipd ttl port body.size id 0 0):=rfl;have HAL:Hid (fW K P id dst src kind ips ipd ttl port body.size=if fT K P id dst src kind ips ipd ttl port body.size=0 then dh K body.size (ran (K (dY P id).c.toNat) [id,dst,src,kind,ips,ipd,ttl,port,0,0])else []):=rfl;obtain⟨W0,hW0⟩:∃W0,W0=((((w.alloc (.cells #[k0,k1,k2,k3,k4,k5] 45)).alloc (.cells #[.slice s1 s0 s2,.slice p1 P.length p2,.slice a1 a0 a2] 26)).alloc (.cells #[.int .i64 id] 3)).alloc (.cells #[.int .i64 dst,.int .i64 src,.int .i64 kind,.int .i64 ips,.int .i64 ipd,.int .i64 ttl,.int .i64 port,.string body] 28)):=⟨_,rfl⟩;have kb:Below w.heap.size w W0:=by rw [hW0];exact((((Below.refl _ w).alloc zr _).alloc (by simp) _).alloc (by simp;omega) _).alloc (by simp;omega) _
 have HKB:Hid (Box W0 w.heap.size [k0,k1,k2,k3,k4,k5]):=by rw [hW0];have h:=(((Box.new w [k0,k1,k2,k3,k4,k5] 45).alloc (.cells #[.slice s1 s0 s2,.slice p1 P.length p2,.slice a1 a0 a2] 26)).alloc (.cells #[.int .i64 id] 3)).alloc (.cells #[.int .i64 dst,.int .i64 src,.int .i64 kind,.int .i64 ips,.int .i64 ipd,.int .i64 ttl,.int .i64 port,.string body] 28);simpa using aa h
 have HCB:Hid (Box W0 (w.heap.size+1) [.slice s1 s0 s2,.slice p1 P.length p2,.slice a1 a0 a2]):=by rw [hW0];have h:=((Box.new (w.alloc (.cells #[k0,k1,k2,k3,k4,k5] 45)) [.slice s1 s0 s2,.slice p1 P.length p2,.slice a1 a0 a2] 26).alloc (.cells #[.int .i64 id] 3)).alloc (.cells #[.int .i64 dst,.int .i64 src,.int .i64 kind,.int .i64 ips,.int .i64 ipd,.int .i64 ttl,.int .i64 port,.string body] 28);simpa using aa h
 have HIB:Hid (Box W0 (w.heap.size+1+1) [.int .i64 id]):=by rw [hW0];have h:=(Box.new ((w.alloc (.cells #[k0,k1,k2,k3,k4,k5] 45)).alloc (.cells #[.slice s1 s0 s2,.slice p1 P.length p2,.slice a1 a0 a2] 26)) [.int .i64 id] 3).alloc (.cells #[.int .i64 dst,.int .i64 src,.int .i64 kind,.int .i64 ips,.int .i64 ipd,.int .i64 ttl,.int .i64 port,.string body] 28);simpa using aa h
 have HFB:Hid (Box W0 (w.heap.size+1+1+1) [.int .i64 dst,.int .i64 src,.int .i64 kind,.int .i64 ips,.int .i64 ipd,.int .i64 ttl,.int .i64 port,.string body]):=by rw [hW0];have h:=Box.new (((w.alloc (.cells #[k0,k1,k2,k3,k4,k5] 45)).alloc (.cells #[.slice s1 s0 s2,.slice p1 P.length p2,.slice a1 a0 a2] 26)).alloc (.cells #[.int .i64 id] 3)) [.int .i64 dst,.int .i64 src,.int .i64 kind,.int .i64 ips,.int .i64 ipd,.int .i64 ttl,.int .i64 port,.string body] 28;simpa using aa h
 have HW0:Hid (((((w.alloc (.cells #[k0,k1,k2,k3,k4,k5] 45)).alloc (.cells #[.slice s1 s0 s2,.slice p1 P.length p2,.slice a1 a0 a2] 26)).alloc (.cells #[.int .i64 id] 3)).alloc (.cells #[.int .i64 dst,.int .i64 src,.int .i64 kind,.int .i64 ips,.int .i64 ipd,.int .i64 ttl,.int .i64 port,.string body] 28))=W0):=hW0.symm;clear hW0;replace HK:=aa (HK.out.below kb);replace HP:=aa (RowAt.below HP.out kb zr);have c1:=HCB.out.cell 1 _ rfl;have ci:=HIB.out.cell 0 _ rfl;go_enter Tryz.func12,Tryz.ntmps12;go_wp2_with (rw [HW0.out])
 refine(mH P (cv id) _ _ _ _ HP.out (vN id _ _ ci) vI (by omega)).mono ?_;rintro e w1 ⟨rfl,hb1⟩;clear HW0 c1 ci;replace HKB:=aa (HKB.out.below hb1);replace HCB:=aa (HCB.out.below hb1);replace HIB:=aa (HIB.out.below hb1);replace HFB:=aa (HFB.out.below hb1);replace HK:=aa (HK.out.below hb1);replace HP:=aa (RowAt.below HP.out hb1 zr);replace kb:=kb.trans (hb1.mono kb.size);clear hb1;by_cases hix:idx (cv id) P<0
 ·rw [if_pos hix]at HAE;go_wp2_with fail
  rw [HAE.out];go_ret2;exact⟨_,rfl,[],⟨by rw [HAL.out,HAE.out];exact List.Perm.refl _,List.Pairwise.nil,World.ownsRow_nil _ _ _ _⟩,kb⟩
 ·rw [if_neg hix]at HAE;obtain⟨k,hk,hke,hks⟩:=qQ pr0 (Int.not_lt.1 hix);have HFP:Hid (dY P id=P.getD k pr0):=by unfold dY;rw [hke];exact aa rfl
  rw [HFP.out]at HAE HAL;have hcc:0≤(P.getD k pr0).c∧(P.getD k pr0).c≤5:=by
   rcases HC.out _ (show P.getD k pr0∈P by rw [List.getD_eq_getElem?_getD,List.getElem?_eq_getElem hk];exact List.getElem_mem hk)with h | h
   ·unfold cv at hks;rw [h]at hks;simp at hks
   ·exact h
  clear hks HC HFP;rw [hke]at hix⊢;clear hke;have q0:(0:Int)≤(k:Int):=(by omega);have q1:(k:Int)<(P.length:Int):=(by omega);have HPK:=aa (fun W=>kW dst src kind ips ipd ttl port body id 0 0 W hb);generalize hE:pkE dst src kind ips ipd ttl port body.size id 0 0=E at*;have ci:=HIB.out.cell 0 _ rfl;go_wp2_with (refine wpList_load_mid rfl 28 (.tmp 7) rfl (w.heap.size+1+1+1) 0 rfl _ _ HFB.out.range Tryz.underlying28 rfl mS ?_)
  refine(ag HPK _).mono ?_;rintro e w2 ⟨rfl,hb2⟩;clear ci HPK;replace HKB:=aa (HKB.out.below hb2);replace HCB:=aa (HCB.out.below hb2);replace HIB:=aa (HIB.out.below hb2);replace HFB:=aa (HFB.out.below hb2);replace HK:=aa (HK.out.below hb2);replace HP:=aa (RowAt.below HP.out hb2 zr);replace kb:=kb.trans (hb2.mono kb.size);clear hb2;by_cases hE0:E=0
  ·subst hE0;rw [if_pos rfl]at HAE⊢;clear hE;obtain⟨W3,hW3⟩:∃W3,W3=w2.alloc (.cells #[.int .i64 id,.int .i64 dst,.int .i64 src,.int .i64 kind,.int .i64 ips,.int .i64 ipd,.int .i64 ttl,.int .i64 port,.int .i64 0,.int .i64 0,.string body] 78):=⟨_,rfl⟩;have hbN:Below w2.heap.size w2 W3:=by rw [hW3];exact(Below.refl _ _).alloc zr _
   have HPB:Hid (Box W3 w2.heap.size [.int .i64 id,.int .i64 dst,.int .i64 src,.int .i64 kind,.int .i64 ips,.int .i64 ipd,.int .i64 ttl,.int .i64 port,.int .i64 0,.int .i64 0,.string body]):=by rw [hW3];exact aa (Box.new w2 [.int .i64 id,.int .i64 dst,.int .i64 src,.int .i64 kind,.int .i64 ips,.int .i64 ipd,.int .i64 ttl,.int .i64 port,.int .i64 0,.int .i64 0,.string body] 78)
   replace HKB:=aa (HKB.out.below hbN);replace HCB:=aa (HCB.out.below hbN);replace HIB:=aa (HIB.out.below hbN);replace HFB:=aa (HFB.out.below hbN);replace HK:=aa (HK.out.below hbN);replace HP:=aa (RowAt.below HP.out hbN zr);replace kb:=kb.trans (hbN.mono kb.size);have HW3:=aa hW3.symm;clear hbN hW3;obtain⟨pb,off,cap,e1,hcap, -,g0,g1,g2,g3,g4⟩:=eO HP.out hk;simp only [Value.slice.injEq,true_and]at e1;obtain⟨rfl,rfl⟩:=e1;clear g0 g1 g2 g3;generalize (P.getD k pr0).c=cc at*;obtain⟨m,rfl⟩:=Int.eq_ofNat_of_zero_le hcc.1;have hm6:m<6:=(by omega);simp only [Int.toNat_natCast]at HAE HAL;obtain⟨kv,hkv⟩:=sM HK.out.1 hm6;have HF:=aa (HK.out.2 m hm6 kv hkv).1;have HLN:=aa (HK.out.2 m hm6 kv hkv).2;have ck:=HKB.out.cell m kv hkv;have c1:=HCB.out.cell 1 _ rfl;obtain⟨fa,fc,rfl,_⟩:=HF.out;clear hkv;have q2:(0:Int)≤(m:Int):=(by omega);have q3:(m:Int)<6:=(by omega);go_wp2_with (rw [HW3.out])
   clear HW3;refine wp_region_held_drew (S:=(fun w'=>w'.cell? ⟨w.heap.size+1,1,none⟩=some (.slice (some ⟨pb,off,none⟩) P.length p2)∧w'.cell? ⟨pb,off+k*5+4,none⟩=some (.int .i64 (m:Int))∧w'.cell? ⟨w.heap.size,m,none⟩=some (.slice fa (K m).length fc)∧w'.rangeAt w2.heap.size 0 [.int .i64 id,.int .i64 dst,.int .i64 src,.int .i64 kind,.int .i64 ips,.int .i64 ipd,.int .i64 ttl,.int .i64 port,.int .i64 0,.int .i64 0,.string body])) (by kernel_rfl) ⟨c1,g4,ck,HPB.out.range⟩ (fun hHeld=>?_);refine sqA [(0,35),(1,36),(2,37),(3,38),(4,39),(5,40),(6,41),(7,42)] ?_;(iterate 8 (refine sqN rfl (by kernel_rfl) (fun _ _ _ h=>h) rfl ‹_› (by intro w h;go_simp <;>with_reducible rfl) ?_;simp only [nz]));refine sqZ ?_;refine wpAnyH_take (i:=8) (oi:=⟨some 43,_,_,_,_,_⟩) (v:=.agg #[.int .i64 id,.int .i64 dst,.int .i64 src,.int .i64 kind,.int .i64 ips,.int .i64 ipd,.int .i64 ttl,.int .i64 port,.int .i64 0,.int .i64 0,.string body]) rfl (by kernel_rfl) (by kernel_rfl) (by kernel_rfl) (fun _ _ _ h=>h) (yieldsIf_load_mid (by rfl) 78 (.tmp 11) rfl w2.heap.size 0 rfl [.int .i64 id,.int .i64 dst,.int .i64 src,.int .i64 kind,.int .i64 ips,.int .i64 ipd,.int .i64 ttl,.int .i64 port,.int .i64 0,.int .i64 0,.string body] _ (fun w h=>h.2.2.2) Tryz.underlying78 rfl gw) (by assumption) ?_;(try simp only [nz]);refine rsq 9 44 (by kernel_rfl) rfl (fun Kk hKk=>?_);go_simp;have hbD:Below W3.heap.size W3 W3.drew:=(Below.refl _ _).drew;refine(rF id dst src kind ips ipd ttl port 0 0 body _ (K m) W3.drew (HF.out.below hbD zr) hb HLN.out).mono ?_;rintro e w4 ⟨v4,rfl,ho4,hb4⟩;have hb34:Below W3.heap.size W3 w4:=hbD.trans hb4;have HO:=aa ho4;have sN:w.heap.size≤W3.drew.heap.size:=kb.size;go_wp2_with fail
   refine hKk.out _ _ ⟨zC c1 hb34,zC g4 hb34,zC ck hb34,eD HPB.out.range hb34 HPB.out.lt⟩ (fun hHeld=>?_);clear hKk Kk;(try simp only [nz]);refine sqA [(10,34),(11,45),(12,46),(13,13),(14,12)] ?_;(iterate 5 (refine sqN rfl (by kernel_rfl) (fun _ _ _ h=>h) rfl ‹_› (by intro w h;go_simp <;>with_reducible rfl) ?_;simp only [nz]));refine sqZ ?_;refine wpAnyH_done (by kernel_rfl) ?_ _;replace HKB:=aa (HKB.out.below hb34);replace HCB:=aa (HCB.out.below hb34);replace HIB:=aa (HIB.out.below hb34);replace HFB:=aa (HFB.out.below hb34);replace HK:=aa (HK.out.below hb34);replace HP:=aa (RowAt.below HP.out hb34 zr);replace kb:=kb.trans (hb34.mono kb.size);clear hHeld ho4 hb4 hbD hb34 ck c1 g4 HPB HF HLN;have HRL:Hid (dM (K m) [id,dst,src,kind,ips,ipd,ttl,port,0,0] body.size=0→jC (K m) [id,dst,src,kind,ips,ipd,ttl,port,0,0] body.size=ran (K m) [id,dst,src,kind,ips,ipd,ttl,port,0,0]):=fun h=>by unfold jC;rw [if_pos h]
   have HRO:Hid (dM (K m) [id,dst,src,kind,ips,ipd,ttl,port,0,0] body.size=0→OutOk (ran (K m) [id,dst,src,kind,ips,ipd,ttl,port,0,0])∧(ran (K m) [id,dst,src,kind,ips,ipd,ttl,port,0,0]).length≤1000000):=fun h=>pS rfl h;generalize hR:dM (K m) [id,dst,src,kind,ips,ipd,ttl,port,0,0] body.size=R at*;by_cases hR0:R=0
   ·subst hR0;rw [HRL.out rfl]at HO;rw [if_pos rfl]at HAE;obtain⟨HOK,hll⟩:=HRO.out rfl;replace HOK:=aa HOK;clear hR HRL HRO;generalize ran (K m) [id,dst,src,kind,ips,ipd,ttl,port,0,0]=l at*;have hs4:=kb.size;replace HO:=aa (aA HO.out sN);have HL:=HO;obtain⟨oo,oc,rfl,hoc,hg⟩:=eh HO.out;clear HO;have hle:jP K body.size l=0→(dh K body.size l).length≤1000000*l.length:=fun _=>mJ l;clear hle;go_wp2_with fail
    go_loopw [14,52] (fun u i wr=>∃j:Nat,j≤l.length∧i= .int .i64 j∧Hid (wr.ownsRow w4.heap.size 58 9 u (dh K body.size (l.take j)).length (AR body (dh K body.size (l.take j))))∧Hid ((l.take j).find? (jT K body.size)=none)∧Below w4.heap.size w4 wr) (fun _ i _=>l.length-(intOf i).toNat)
    case atStart=>exact⟨0,by omega,rfl,aa (by simpa [dh,AR] using World.ownsRow_nil w4 w4.heap.size 58 9),aa rfl,Below.refl _ _⟩
    case round=>
     obtain⟨j,hj,rfl,HO,HBAD,hbr⟩:=hrel;have sr:w4.heap.size≤wr.heap.size:=hbr.size;by_cases hlt:j<l.length
     ·obtain⟨g,rfl,hgB,hgw⟩:=hg (by omega);have R0:=aa (eD (oG (C:=snC body) (fun _=>rfl) snz HL.out hlt) hbr hgw);have HN:=aa (vh (K:=K) (n:=body.size) hlt);have HB1:=aa (sU (K:=K) (n:=body.size) hlt HBAD.out);have HB2:=aa (wh (K:=K) (n:=body.size) hlt HBAD.out);have hlen:=mJ (K:=K) (n:=body.size) (l.take j);have hlt2:(l.take j).length≤1000000:=by rw [List.length_take];omega
      have hcl:=uw (K:=K) (n:=body.size) (l.getD j snz);have HOX:Hid (zn (l.getD j snz)):=HOK.out _ (by rw [List.getD_eq_getElem?_getD,List.getElem?_eq_getElem hlt];exact List.getElem_mem hlt);obtain⟨o1,o2,rfl⟩:=az HO.out;obtain⟨N,hN⟩:∃N,N=(dh K body.size (l.take j)).length:=⟨_,rfl⟩;rw [←hN]at HO hlen⊢;have HNN:=aa hN;clear hN HBAD;generalize l.getD j snz=x at*;have q4:(0:Int)≤(j:Int):=(by omega);have q5:(j:Int)<(l.length:Int):=(by omega);have HCR:=aa (fun W (h:KAt W [k0,k1,k2,k3,k4,k5] K)=>ql [k0,k1,k2,k3,k4,k5] K x body W h HOX.out hb);have HXC:Hid (snC body x= [.int .i64 x.k,.int .i64 x.n,.int .i64 (x.F.getD 0 0),.int .i64 (x.F.getD 1 0),.int .i64 (x.F.getD 2 0),.int .i64 (x.F.getD 3 0),.int .i64 (x.F.getD 4 0),.int .i64 (x.F.getD 5 0),.int .i64 (x.F.getD 6 0),.int .i64 (x.F.getD 7 0),.int .i64 (x.F.getD 8 0),.int .i64 (x.F.getD 9 0),.string body]):=rfl;rw [HXC.out]at R0 HCR;clear HXC HOX;generalize x.F.getD 0 0=y0 at*;generalize x.F.getD 1 0=y1 at*;generalize x.F.getD 2 0=y2 at*;generalize x.F.getD 3 0=y3 at*;generalize x.F.getD 4 0=y4 at*;generalize x.F.getD 5 0=y5 at*;generalize x.F.getD 6 0=y6 at*;generalize x.F.getD 7 0=y7 at*;generalize x.F.getD 8 0=y8 at*;generalize x.F.getD 9 0=y9 at*;generalize x.n=xn at*;generalize x.k=xk at*;obtain⟨W5,hW5⟩:∃W5,W5=wr.alloc (.cells #[.int .i64 xk,.int .i64 xn,.int .i64 y0,.int .i64 y1,.int .i64 y2,.int .i64 y3,.int .i64 y4,.int .i64 y5,.int .i64 y6,.int .i64 y7,.int .i64 y8,.int .i64 y9,.string body] 85):=⟨_,rfl⟩;have hb5:Below wr.heap.size wr W5:=by rw [hW5];exact(Below.refl _ _).alloc zr _
      have HSB:Hid (Box W5 wr.heap.size [.int .i64 xk,.int .i64 xn,.int .i64 y0,.int .i64 y1,.int .i64 y2,.int .i64 y3,.int .i64 y4,.int .i64 y5,.int .i64 y6,.int .i64 y7,.int .i64 y8,.int .i64 y9,.string body]):=by rw [hW5];exact aa (Box.new wr [.int .i64 xk,.int .i64 xn,.int .i64 y0,.int .i64 y1,.int .i64 y2,.int .i64 y3,.int .i64 y4,.int .i64 y5,.int .i64 y6,.int .i64 y7,.int .i64 y8,.int .i64 y9,.string body] 85)
      have hb45:Below w4.heap.size w4 W5:=hbr.trans (hb5.mono sr);have HKB5:=aa (HKB.out.below hb45);have HK5:=aa (HK.out.below hb45);replace HO:=zO HO hb5;have HW5:=aa hW5.symm;clear hW5 hb5;go_wp2_with (first | rw [HW5.out] |(refine wpList_load_mid rfl 85 (.tmp 54) rfl g (j*13) rfl _ _ R0.out Tryz.underlying85 rfl iu ?_) |(refine wpList_load_mid rfl 85 (.tmp 16) rfl wr.heap.size 0 rfl _ _ HSB.out.range Tryz.underlying85 rfl iu ?_) |(refine wpList_load_mid rfl 45 (.tmp 4) rfl w.heap.size 0 rfl _ _ HKB5.out.range Tryz.underlying45 rfl fq ?_))
      refine(ag HCR _ HK5.out).mono ?_;rintro e w6 ⟨u6,rfl,ho6,hb6⟩;have HO6:=aa ho6;replace HO:=zO HO hb6;have hb46:Below w4.heap.size w4 w6:=hb45.trans (hb6.mono hb45.size);have s46:w4.heap.size≤w6.heap.size:=hb46.size;clear ho6 hb6 hb45 HCR R0 HSB HKB5 HK5 HW5 hbr;obtain⟨o3,o4,rfl,_⟩:=eh HO6.out;generalize hCE:m8 K body.size x=CE at*;by_cases hC0:CE=0
      ·subst hC0;have HBD:=HB1;clear HB1 HB2 hCE;go_wp2_with (at_builtin;refine jB rfl _ _ 29 rfl w4.heap.size 58 i0 _ 9 80 Tryz.underlying29 hi hz0 hz1 hz2 rfl (by decide) _ _ _ rfl HO.out _ _ _ _ rfl HO6.out (A5 _ _) ?a1 ?a2 s46 ?_)
       case a1=>unfold maxLen;omega
       case a2=>omega
       intro v7 w7 ho7 hg7;have hb7:Below w4.heap.size w4 w7:=hb46.grown hg7 s46 (aS HO.out);have HE7:Hid (w7.ownsRow w4.heap.size 58 9 v7 (dh K body.size (l.take (j+1))).length (AR body (dh K body.size (l.take (j+1))))):=by
        refine aa ?_;rw [HN.out,List.length_append, ←HNN.out,A7];exact ho7
       clear ho7 hg7 HO HO6;go_wp2_with fail
       go_roundw
       case rel=>exact⟨j+1,by omega,by go_num,HE7,HBD.out trivial,hb7⟩
       case measure=>simp [intOf];omega
      ·have hCb:(CE != 0)=true:=(by simpa using hC0);have HCE:=aa (HB2.out hC0);clear HB1 HB2;rw [HCE.out]at HAE;have hAL:fW K P id dst src kind ips ipd ttl port body.size= []:=(by rw [HAL.out,HAE.out,if_neg hC0]);have HAL2:=aa hAL;clear hAL;go_wp2_with fail
       rw [HAE.out];go_ret2;exact⟨_,rfl,[],⟨by rw [HAL2.out],List.Pairwise.nil,World.ownsRow_nil _ _ _ _⟩,kb.trans (hb46.mono hs4)⟩
     ·have hje:j=l.length:=(by omega);subst hje;rw [List.take_length]at HO HBAD;have hE0:jP K body.size l=0:=by unfold jP;rw [HBAD.out]
      rw [hE0]at HAE;have HAL2:Hid (fW K P id dst src kind ips ipd ttl port body.size=dh K body.size l):=by rw [HAL.out,if_pos HAE.out];exact aa rfl
      have HSS:=aa (HS.out HAE.out);rw [HAL2.out]at HSS;clear HS HBAD hE0;obtain⟨o1,o2,rfl⟩:=az HO.out;have hkk:¬((l.length:Int)<(l.length:Int)):=(by omega);go_wp2_with fail
      refine(HSS.out body _ _ _ HO.out sr).mono ?_;rintro e w8 ⟨rfl,l8,hp8,hs8,ho8,hg8⟩;have HP8:=aa hp8;have HS8:=aa hs8;have HO8:=aa ho8;have kb8:Below w.heap.size w w8:=(kb.trans (hbr.mono hs4)).grown hg8 (by omega) (fun k hk=>Nat.le_trans hs4 (aS HO.out k hk));clear hp8 hs8 ho8 hg8;go_wp2_with fail
      rw [HAE.out,HAL2.out];go_ret2;exact⟨_,rfl,l8,⟨HP8.out,HS8.out,by rw [HP8.out.length_eq];exact aA HO8.out hs4⟩,kb8⟩
   ·rw [if_neg hR0]at HAE;have hRb:(R != 0)=true:=(by simpa using hR0);obtain⟨oo,oc,rfl,_⟩:=eh HO.out;go_wp2_with fail
    rw [HAE.out];go_ret2;exact⟨_,rfl,[],⟨by rw [HAL.out,HAE.out,if_neg hR0],List.Pairwise.nil,World.ownsRow_nil _ _ _ _⟩,kb⟩
  ·rw [if_neg hE0]at HAE⊢;have hEb:(E != 0)=true:=(by simpa using hE0);go_wp2_with fail
   rw [HAE.out];go_ret2;exact⟨_,rfl,[],⟨by rw [HAL.out,HAE.out,if_neg hE0],List.Pairwise.nil,World.ownsRow_nil _ _ _ _⟩,kb.alloc kb.size _⟩
def KD (S:List Sw) (P:List Pr) (A:List Ac) (k:Nat) (i:Nat):List Fl:=if i<k then cmL S P A i else []
def yR (S:List Sw) (P:List Pr) (A:List Ac) (id dst src kind ips ipd ttl port:Int) (n:Nat):Int:=if may S P A=true then fT (KD S P A 6) P id dst src kind ips ipd ttl port n else 8
def te (S:List Sw) (P:List Pr) (A:List Ac) (id dst src kind ips ipd ttl port:Int) (n:Nat):List Ar:=if may S P A=true then fW (KD S P A 6) P id dst src kind ips ipd ttl port n else []
theorem yS {S:List Sw} {P:List Pr} {A:List Ac} {k:Nat} (h:cmE S P A k=0):lB S P A (KD S P A k) k=KD S P A (k+1):=by
 unfold lB;rw [if_pos h];funext i;unfold KD;by_cases e:i=k
 ·subst e;simp
 ·by_cases l:i<k
  ·rw [if_neg (by simpa using e),if_pos l,if_pos (by omega)]
  ·rw [if_neg (by simpa using e),if_neg l,if_neg (by omega)]
theorem Bj {S:List Sw} {P:List Pr} {A:List Ac} {k:Nat} (h:k=0∨may S P A=true) (hk:k≤6):Kok (KD S P A k):=by
 intro i;unfold KD;by_cases l:i<k
 ·rw [if_pos l];have hm:may S P A=true:=by rcases h with h | h;omega;exact h
  exact sG (by unfold cmE;rw [if_pos hm,if_pos (by omega)])
 ·rw [if_neg l];exact⟨⟨List.Pairwise.nil,by simp⟩,by simp,by simp⟩
theorem ri (S:List Sw) (P:List Pr) (A:List Ac) (s1 p1 a1:Option Addr) (s2 p2 a2:Nat) (id dst src kind ips ipd ttl port:Int) (body:ByteArray) (w:World) (hC:CfAt w (.slice s1 S.length s2) (.slice p1 P.length p2) (.slice a1 A.length a2) S P A) (h1:S.length*24≤140737488355328) (h2:P.length*40≤140737488355328) (h3:A.length*72≤140737488355328) (hSA:may S P A=true→∀s b,eV (aP A s b)) (hb:body.size≤maxLen)
  (hS:may S P A=true→fT (KD S P A 6) P id dst src kind ips ipd ttl port body.size=0→lI (fW (KD S P A 6) P id dst src kind ips ipd ttl port body.size)):
  Calls Tryz.prog 5 #[.agg #[.slice s1 S.length s2,.slice p1 P.length p2,.slice a1 A.length a2],.int .i64 id,fr dst src kind ips ipd ttl port body] w fun e w'=>∃u,e= .returned (.tuple #[u,.int .i64 (yR S P A id dst src kind ips ipd ttl port body.size)])∧∃l',(l'.Perm (te S P A id dst src kind ips ipd ttl port body.size)∧eI l'∧w'.ownsRow w.heap.size 58 9 u l'.length (AR body l'))∧Below w.heap.size w w':=by
 have HSA:=aa hSA;have HS:=aa hS;have HDE:Hid (yR S P A id dst src kind ips ipd ttl port body.size=if may S P A=true then fT (KD S P A 6) P id dst src kind ips ipd ttl port body.size else 8):=rfl;have HDL:Hid (te S P A id dst src kind ips ipd ttl port body.size=if may S P A=true then fW (KD S P A 6) P id dst src kind ips ipd ttl port body.size else []):=rfl;obtain⟨W0,hW0⟩:∃W0,W0=((w.alloc (.cells #[.slice s1 S.length s2,.slice p1 P.length p2,.slice a1 A.length a2] 26)).alloc (.cells #[.int .i64 dst,.int .i64 src,.int .i64 kind,.int .i64 ips,.int .i64 ipd,.int .i64 ttl,.int .i64 port,.string body] 28)).alloc (.cells #[.slice none 0 0,.slice none 0 0,.slice none 0 0,.slice none 0 0,.slice none 0 0,.slice none 0 0] 45):=⟨_,rfl⟩;have kb:Below w.heap.size w W0:=by rw [hW0];exact(((Below.refl _ w).alloc zr _).alloc (by simp) _).alloc (by simp;omega) _
 have HB0:Hid (Box W0 w.heap.size [.slice s1 S.length s2,.slice p1 P.length p2,.slice a1 A.length a2]):=by rw [hW0];exact aa (((Box.new w [.slice s1 S.length s2,.slice p1 P.length p2,.slice a1 A.length a2] 26).alloc _).alloc _)
 have HB1:Hid (Box W0 (w.heap.size+1) [.int .i64 dst,.int .i64 src,.int .i64 kind,.int .i64 ips,.int .i64 ipd,.int .i64 ttl,.int .i64 port,.string body]):=by rw [hW0];have h:=(Box.new (w.alloc (.cells #[.slice s1 S.length s2,.slice p1 P.length p2,.slice a1 A.length a2] 26)) [.int .i64 dst,.int .i64 src,.int .i64 kind,.int .i64 ips,.int .i64 ipd,.int .i64 ttl,.int .i64 port,.string body] 28).alloc (.cells #[.slice none 0 0,.slice none 0 0,.slice none 0 0,.slice none 0 0,.slice none 0 0,.slice none 0 0] 45);simpa using aa h
 have HB2:Hid (Box W0 (w.heap.size+1+1) [.slice none 0 0,.slice none 0 0,.slice none 0 0,.slice none 0 0,.slice none 0 0,.slice none 0 0]):=by rw [hW0];have h:=Box.new ((w.alloc (.cells #[.slice s1 S.length s2,.slice p1 P.length p2,.slice a1 A.length a2] 26)).alloc (.cells #[.int .i64 dst,.int .i64 src,.int .i64 kind,.int .i64 ips,.int .i64 ipd,.int .i64 ttl,.int .i64 port,.string body] 28)) [.slice none 0 0,.slice none 0 0,.slice none 0 0,.slice none 0 0,.slice none 0 0,.slice none 0 0] 45;simpa using aa h
 have HW0:Hid (((w.alloc (.cells #[.slice s1 S.length s2,.slice p1 P.length p2,.slice a1 A.length a2] 26)).alloc (.cells #[.int .i64 dst,.int .i64 src,.int .i64 kind,.int .i64 ips,.int .i64 ipd,.int .i64 ttl,.int .i64 port,.string body] 28)).alloc (.cells #[.slice none 0 0,.slice none 0 0,.slice none 0 0,.slice none 0 0,.slice none 0 0,.slice none 0 0] 45)=W0):=hW0.symm;clear hW0;have HKA:Hid (Kept (fun k=>k<w.heap.size+3) W0 fun W=>KAt W [.slice none 0 0,.slice none 0 0,.slice none 0 0,.slice none 0 0,.slice none 0 0,.slice none 0 0] (KD S P A 0)):=aa (fun w' _=>⟨rfl,fun i hi v hv=>⟨by
   have:v= .slice none 0 0:=by
    have h6:i=0∨i=1∨i=2∨i=3∨i=4∨i=5:=(by omega);rcases h6 with rfl | rfl | rfl | rfl | rfl | rfl <;>simpa using hv.symm
   rw [this];exact⟨none,0,rfl,fun _=>rfl,.inl rfl⟩,by simp [KD]⟩⟩)
 have HC:=aa hC;clear hC hSA hS;go_enter Tryz.func5,Tryz.ntmps5;go_wp2_with fail
 rw [HW0.out];clear HW0;go_loopw [11] (fun i wr=>∃k:Nat,k≤6∧i= .int .i64 k∧Hid (k=0∨may S P A=true)∧(∃ks,Hid (Kept (fun k=>k<w.heap.size+3) wr fun W=>KAt W ks (KD S P A k))∧Hid (Box wr (w.heap.size+1+1) ks))∧Hid (Box wr w.heap.size [.slice s1 S.length s2,.slice p1 P.length p2,.slice a1 A.length a2])∧Hid (Box wr (w.heap.size+1) [.int .i64 dst,.int .i64 src,.int .i64 kind,.int .i64 ips,.int .i64 ipd,.int .i64 ttl,.int .i64 port,.string body])∧Below w.heap.size w wr) (fun i _=>6-(intOf i).toNat)
 case atStart=>exact⟨0,by omega,rfl,aa (.inl rfl),⟨_,HKA,HB2⟩,HB0,HB1,kb⟩
 case round=>
  clear HKA HB0 HB1 HB2 kb;obtain⟨k,hk,rfl,HM,⟨ks,HKA,HB2⟩,HB0,HB1,kb⟩:=hrel;have hsz:=HB2.out.lt;have HL:Hid (ks.length=6):=aa HKA.out.here.1;replace HC:=aa (HC.out.below kb zr);by_cases hlt:k<6
  ·have q6:(k:Int)<6:=(by omega);have HSY:=aa (sX S P A s1 p1 a1 s2 p2 a2 (KD S P A k) ks k (fun k=>k<w.heap.size+3) wr (fun k h=>by omega) HKA.out HC.out h1 h2 h3 HSA.out (Bj HM.out hk));go_wp2_with (first |(refine wpList_load_mid rfl 45 (.tmp 8) rfl (w.heap.size+1+1) 0 rfl _ _ HB2.out.range Tryz.underlying45 rfl (by rw [HL.out];exact fq) ?_) |(refine wpList_load_mid rfl 26 (.tmp 3) rfl w.heap.size 0 rfl _ _ HB0.out.range Tryz.underlying26 rfl mu ?_))
   refine(ag HSY).mono ?_;rintro e w1 ⟨kn,rfl,hkn,hb1⟩;replace HB0:=aa (HB0.out.below hb1);replace HB1:=aa (HB1.out.below hb1);replace HB2:=aa (HB2.out.below hb1);have hs1:=hb1.size;replace kb:=kb.trans (hb1.mono kb.size);have HKN:=aa hkn;have HKL:Hid (kn.length=6):=aa hkn.here.1;have HKO:=aa (xL hkn.here);clear hkn hb1 HSY HKA;obtain⟨W2,hW2⟩:∃W2,W2=w1.setCells (w.heap.size+1+1) 0 kn:=⟨_,rfl⟩;have HN2:Hid (Box W2 (w.heap.size+1+1) kn):=by rw [hW2];exact aa (HB2.out.set kn (by rw [HKL.out,HL.out]))
   have HN0:Hid (Box W2 w.heap.size [.slice s1 S.length s2,.slice p1 P.length p2,.slice a1 A.length a2]):=by rw [hW2];exact aa (HB0.out.set_far (by omega) 0 kn)
   have HN1:Hid (Box W2 (w.heap.size+1) [.int .i64 dst,.int .i64 src,.int .i64 kind,.int .i64 ips,.int .i64 ipd,.int .i64 ttl,.int .i64 port,.string body]):=by rw [hW2];exact aa (HB1.out.set_far (by omega) 0 kn)
   replace HKN:Hid (Kept (fun k=>k<w.heap.size+3) W2 fun W=>KAt W kn (lB S P A (KD S P A k) k)):=by rw [hW2];exact aa (HKN.out.set (b:=w.heap.size+1+1) (show _<_ by omega) 0 kn)
   have kb2:Below w.heap.size w W2:=by rw [hW2];exact bj _ (by omega) _ _ kb
   have HW2:Hid (w1.setCells (w.heap.size+1+1) 0 kn.toArray.toList=W2):=hW2.symm;have HFT:Hid (w1.there (w.heap.size+1+1) 0 kn.toArray.size):=by show Hid (World.there _ _ _ kn.length);rw [HKL.out];exact aa (HB2.out.fit 6 HL.out)
   clear hW2 HB0 HB1 HB2 kb;by_cases hm:may S P A=true
   ·have HE:Hid (cmE S P A k=0):=by refine aa ?_;unfold cmE;rw [if_pos hm,if_pos (by omega)]
    rw [yS HE.out]at HKN;rw [HE.out];have HM2:=aa (Or.inr (a:=k+1=0) hm);clear hm;go_wp2_with (refine wpList_store_mid rfl 45 (.tmp 8) (.tmp 19) rfl (w.heap.size+1+1) 0 _ rfl rfl HFT.out (by show _=some kn.length;rw [HKL.out];exact fq) HKO.out ?_;rw [HW2.out])
    go_roundw
    case rel=>exact⟨k+1,by omega,by go_num,HM2,⟨kn,HKN,HN2⟩,HN0,HN1,kb2⟩
    case measure=>simp [intOf];omega
   ·have HE:Hid (cmE S P A k=8):=by refine aa ?_;unfold cmE;rw [if_neg hm]
    rw [HE.out];rw [if_neg hm]at HDE HDL;clear hm;go_wp2_with (refine wpList_store_mid rfl 45 (.tmp 8) (.tmp 19) rfl (w.heap.size+1+1) 0 _ rfl rfl HFT.out (by show _=some kn.length;rw [HKL.out];exact fq) HKO.out ?_;rw [HW2.out])
    rw [HDE.out,HDL.out];go_ret2;exact⟨_,rfl,[],⟨List.Perm.refl _,List.Pairwise.nil,World.ownsRow_nil _ _ _ _⟩,kb2⟩
  ·obtain rfl:k=6:=(by omega);have hm:may S P A=true:=by rcases HM.out with h | h;omega;exact h
   have n40:=(iN hm).2.1;rw [if_pos hm]at HDE HDL;have HAR:=aa (oW ks (KD S P A 6) s1 p1 a1 S.length s2 p2 A.length a2 P id dst src kind ips ipd ttl port body wr HKA.out.here HC.out.2.1 (by omega) (fun p hp=>by have:=(bI (aR hm).1 (aR hm).2.1).2 p hp;omega) hb (HS.out hm));clear hm HM HS;go_wp2_with (first |(refine wpList_load_mid rfl 45 (.tmp 8) rfl (w.heap.size+1+1) 0 rfl _ _ HB2.out.range Tryz.underlying45 rfl (by rw [HL.out];exact fq) ?_) |(refine wpList_load_mid rfl 26 (.tmp 3) rfl w.heap.size 0 rfl _ _ HB0.out.range Tryz.underlying26 rfl mu ?_) |(refine wpList_load_mid rfl 28 (.tmp 5) rfl (w.heap.size+1) 0 rfl _ _ HB1.out.range Tryz.underlying28 rfl mS ?_))
   refine(ag HAR).mono ?_;rintro e w1 ⟨u,rfl,l',⟨hp,hs,ho⟩,hb1⟩;have HP:=aa hp;have HQ:=aa hs;have HO:=aa (aA ho kb.size);have kb2:=kb.trans (hb1.mono kb.size);clear hp hs ho hb1 HAR;go_wp2_with fail
   rw [HDE.out,HDL.out];go_ret2;exact⟨_,rfl,l',⟨HP.out,HQ.out,HO.out⟩,kb2⟩
theorem yQ {α:Type} {l:List α} {f:List α→α→Int} (h:∀L x R,l=L++x::R→f L x=0) {r:α→α→Prop} (hf:∀L x y,x∈L→f L y=0→r x y):l.Pairwise r:=by
 rw [List.pairwise_iff_getElem];intro i j hi hj hij;refine hf (l.take j) l[i] l[j] ?_ (h (l.take j) l[j] (l.drop (j+1)) ?_)
 ·rw [List.mem_take_iff_getElem];exact⟨i,by omega,rfl⟩
 ·rw [←List.drop_eq_getElem_cons hj,List.take_append_drop]
theorem kY {S:List Sw} {P:List Pr} (h:aL S P=true):P.Pairwise fun x y=>x.i≠y.i:=by
 refine yQ ((cG S P).1 h) fun L x y hx hz e=>?_;have:=((ed _ _ _).1 hz).2.2.1;rw [List.any_eq_false]at this;exact this x hx (by simp [e])
theorem ox {S:List Sw} {P:List Pr} (h:aL S P=true) {p:Pr} (hp:p∈P):P.find? (fun q=>q.i==p.i)=some p:=by
 cases hf:P.find? (fun q=>q.i==p.i)with
 | none=>have:=List.find?_eq_none.1 hf p hp;simp at this
 | some q=>
  have h2:=List.find?_some hf;rw [cI h (List.mem_of_find?_eq_some hf) hp (by simpa using h2)]
def goA (g:Gl):Ar:=⟨g.u,g.f⟩
section
variable {S:List Sw} {P:List Pr} {A:List Ac}
theorem qp (hm:may S P A=true) {p:Pr} (hp:p∈P) (d sc k a b t o:Int):led S P A p.c p.i d sc k a b t o=if sc=p.m∧a=p.p then
   (if k=1 then kf P (dz S p.s) p.i p.c p.m p.p b else if k=3∧bN A (dz S p.s).i true a b o=true then lE S P (dz S p.s) p.i d sc a b t o else [])else []:=by
 unfold led;rw [ox (aR hm).2.1 hp];simp
theorem xW {p:Pr} (h:∀q∈P,q.i=p.i→q.c= -1):idx (cv p.i) P<0:=by
 unfold idx;rw [List.findIdx?_eq_none_iff.2 (fun q hq=>by
  unfold cv;by_cases e:q.i=p.i
  ·rw [h q hq e];simp
  ·have:(q.i==p.i)=false:=(by simpa using e);rw [this];rfl)]
 decide
theorem A3 {α:Type} {l:List α} (hn:l.Pairwise (fun x y=>x≠y)) (h:∀x∈l,∀y∈l,x=y):l.length≤1:=by
 match l,hn,h with
 | [],_,_=>simp
 | [x],_,_=>simp
 | x::y::r,hn,h=>exact absurd (h x (by simp) y (by simp)) ((List.pairwise_cons.1 hn).1 y (by simp))
theorem na (hm:may S P A=true) {p:Pr} (hp:p∈P) (c m ip b:Int):(kf P (dz S p.s) p.i c m ip b).length≤1:=by
 obtain⟨hS,hP,_⟩:=aR hm;obtain⟨hso,hsi⟩:=jZ hP hp;have htn:=uq hS hso;rw [hsi]at htn;unfold kf;rw [List.length_map,List.length_append,List.length_map];have h1:(P.filter (fun q=>q.s==(dz S p.s).i&&(!(q.i==p.i)&&q.p==b))).length≤1:=by
  refine A3 (((kY hP).imp fun h e=>h (by rw [e])).filter _) fun x hx y hy=>?_;obtain⟨hx,bx⟩:=List.mem_filter.1 hx;obtain⟨hy,bz⟩:=List.mem_filter.1 hy;simp only [Bool.and_eq_true,beq_iff_eq]at bx bz;exact iQ hS hP hx hy (by rw [bx.1,bz.1]) (by rw [bx.2.2,bz.2.2])
 by_cases hb:(dz S p.s).g≠0∧b=(dz S p.s).g
 ·rw [if_pos hb];have h0:P.filter (fun q=>q.s==(dz S p.s).i&&(!(q.i==p.i)&&q.p==b))= []:=by
   rw [List.filter_eq_nil_iff];intro q hq hq2;simp only [Bool.and_eq_true,beq_iff_eq]at hq2;refine lH hS hP hso hq (by rw [hq2.1,hsi];exact htn) ?_;rw [hq2.2.2,hb.2]
  rw [h0];simp
 ·rw [if_neg hb];simpa using h1
theorem oH {P:List Pr} (h:P.Pairwise fun x y=>x.i≠y.i) (f:Pr→Bool):((P.filter f).map (·.i)).Nodup:=by
 rw [List.nodup_iff_pairwise_ne,List.pairwise_map];exact h.filter _
theorem xD (hm:may S P A=true) {p:Pr} (hp:p∈P) (d sc k a b t o:Int):((led S P A p.c p.i d sc k a b t o).map (·.u)).Nodup:=by
 obtain⟨hS,hP,_⟩:=aR hm;obtain⟨hso,hsi⟩:=jZ hP hp;have hap:=kY hP;rw [qp hm hp];split
 ·split
  ·have:=na hm hp p.c p.m p.p b
   match kf P (dz S p.s) p.i p.c p.m p.p b,this with
   | [],_=>exact List.nodup_nil
   | [x],_=>simp
  ·split
   ·unfold lE;rw [List.map_append,List.map_map,List.map_map];show((P.filter _).map (·.i)++(P.filter _).map (·.i)).Nodup;by_cases hd:d=60000+(dz S p.s).i
    ·have h0:P.filter (brB (dz S p.s) p.i d)= []:=by
      rw [List.filter_eq_nil_iff];intro q hq hb;unfold brB at hb;simp only [Bool.and_eq_true,Bool.or_eq_true,beq_iff_eq]at hb;have h1:=(bI hS hP).2 q hq;have h2:=(dE hS).2 _ hso;rcases hb.2.2 with h | h <;>omega
     rw [h0,List.map_nil,List.nil_append];exact oH hap _
    ·have h0:P.filter (rtB S (dz S p.s) d b t)= []:=by
      rw [List.filter_eq_nil_iff];intro q hq hb;unfold rtB at hb;simp only [Bool.and_eq_true,decide_eq_true_eq]at hb;exact hd hb.2.1.2.1
     rw [h0,List.map_nil,List.append_nil];exact oH hap _
   ·exact List.nodup_nil
 ·exact List.nodup_nil
end
theorem rq {l l1 l2:List Ar} (hn:(l.map (·.n)).Nodup) (p1:l1.Perm l) (p2:l2.Perm l) (h1:eI l1) (h2:eI l2):l1=l2:=by
 have key:∀x∈l1,∀y∈l1,x.n=y.n→x=y:=by
  intro x hx y hy e;have hx:=p1.mem_iff.1 hx;have hy:=p1.mem_iff.1 hy;rw [List.nodup_iff_pairwise_ne,List.pairwise_map]at hn;rcases xJ hx hy with e' |⟨L,M,R,e'⟩ |⟨L,M,R,e'⟩
  ·exact e'
  ·rw [e',List.append_assoc,List.cons_append]at hn;exact absurd e ((List.pairwise_cons.1 (List.pairwise_append.1 hn).2.1).1 y (by simp))
  ·rw [e',List.append_assoc,List.cons_append]at hn;exact absurd e.symm ((List.pairwise_cons.1 (List.pairwise_append.1 hn).2.1).1 x (by simp))
 refine List.Perm.eq_of_pairwise (le:=fun a b:Ar=>¬b.n<a.n) ?_ h1 h2 (p1.trans p2.symm);intro x y hx hy a b;exact key x hx y ((p1.trans p2.symm).mem_iff.2 hy) (by omega)
theorem pX {x y:Ac}:aD x y=false↔x.p<y.p:=by
 simp only [aD,decide_eq_false_iff_not];omega
theorem acLe_is {x y:Ac}:aD x y=true↔y.p≤x.p:=by
 simp only [aD,decide_eq_true_eq]
def AscA (L:List Ac):Prop:=Asc aD L
theorem AscA.at {L:List Ac} (h:AscA L) {i j:Nat} (hij:i<j) (hj:j<L.length):(L.getD j ac0).p≤(L.getD i ac0).p:=by
 have:=List.pairwise_iff_getElem.1 h i j (by omega) hj hij;rw [List.getD_eq_getElem?_getD,List.getD_eq_getElem?_getD,List.getElem?_eq_getElem hj,List.getElem?_eq_getElem (show i<L.length by omega)];exact acLe_is.1 this
theorem AscA.le {L:List Ac} (h:AscA L) {i j:Nat} (hij:i≤j) (hj:j<L.length):(L.getD j ac0).p≤(L.getD i ac0).p:=by
 rcases Nat.lt_or_ge i j with h' | h'
 ·exact h.at h' hj
 ·obtain rfl:i=j:=(by omega);exact Int.le_refl _
theorem AscA.left {A B:List Ac} (h:AscA (A++B)):AscA A:=(List.pairwise_append.1 h).1
theorem AscA.right {A B:List Ac} (h:AscA (A++B)):AscA B:=(List.pairwise_append.1 h).2.1
theorem AscA.take {A:List Ac} (h:AscA A) (k:Nat):AscA (A.take k):=List.Pairwise.sublist (List.take_sublist k A) h
theorem AscA.drop {A:List Ac} (h:AscA A) (k:Nat):AscA (A.drop k):=List.Pairwise.sublist (List.drop_sublist k A) h
theorem lS {A:List Ac} {k:Nat} {x:Ac} (h:x∈A.take k):∃i,i<k∧i<A.length∧A.getD i ac0=x:=by
 obtain⟨i,hi,e⟩:=List.getElem_of_mem h;rw [List.length_take]at hi;refine⟨i,by omega,by omega,?_⟩;rw [List.getElem_take]at e;rw [List.getD_eq_getElem?_getD,List.getElem?_eq_getElem (by omega)];exact e
theorem lP {A:List Ac} {k:Nat} {x:Ac} (h:x∈A.drop k):∃i,k≤i∧i<A.length∧A.getD i ac0=x:=by
 obtain⟨i,hi,e⟩:=List.getElem_of_mem h;rw [List.length_drop]at hi;refine⟨k+i,by omega,by omega,?_⟩;rw [List.getElem_drop]at e;rw [List.getD_eq_getElem?_getD,List.getElem?_eq_getElem (by omega)];exact e
theorem vQ {x:Ac} {B:List Ac} (hB:AscA B) {k:Nat} (hk:k≤B.length) (h1:k=0∨x.p<(B.getD (k-1) ac0).p) (h2:k=B.length∨(B.getD k ac0).p≤x.p):mrg aD [x] B=B.take k++x::B.drop k:=by
 have:=zY aD x (B.take k) (B.drop k) (fun y hy=>by
  obtain⟨i,hi,hl,rfl⟩:=lS hy;rw [pX];have:=hB.le (show i≤k-1 by omega) (by omega);omega) (fun y hy=>by
  obtain⟨i,hi,hl,rfl⟩:=lP hy;rw [acLe_is];have:=hB.le hi hl;omega)
 rwa [List.take_append_drop]at this
theorem nt {y:Ac} {A:List Ac} (hA:AscA A) {k:Nat} (hk:k≤A.length) (h1:k=0∨y.p≤(A.getD (k-1) ac0).p) (h2:k=A.length∨(A.getD k ac0).p<y.p):mrg aD A [y]=A.take k++y::A.drop k:=by
 have:=wV aD y (A.take k) (A.drop k) (fun x hx=>by
  obtain⟨i,hi,hl,rfl⟩:=lS hx;rw [acLe_is];have:=hA.le (show i≤k-1 by omega) (by omega);omega) (fun x hx=>by
  obtain⟨i,hi,hl,rfl⟩:=lP hx;rw [pX];have:=hA.le hi hl;omega)
 rwa [List.take_append_drop]at this
theorem xN {A B:List Ac} (hA:AscA A) (hB:AscA B) {k m:Nat} (hk:k≤A.length) (hm:m≤B.length) (h1:k=0∨m=B.length∨(B.getD m ac0).p≤(A.getD (k-1) ac0).p) (h2:k=A.length∨m=0∨(A.getD k ac0).p<(B.getD (m-1) ac0).p):
  mrg aD A B=mrg aD (A.take k) (B.take m)++mrg aD (A.drop k) (B.drop m):=by
 have:=gb aD _ (A.take k) (A.drop k) (B.take m) (B.drop m) rfl (fun x hx y hy=>by
  obtain⟨i,hi,hl,rfl⟩:=lS hx;obtain⟨j,hj,hl',rfl⟩:=lP hy;rw [acLe_is];have a1:=hA.le (show i≤k-1 by omega) (by omega);have a2:=hB.le hj hl';omega) (fun y hy x hx=>by
  obtain⟨i,hi,hl,rfl⟩:=lP hx;obtain⟨j,hj,hl',rfl⟩:=lS hy;rw [pX];have a1:=hA.le hi hl;have a2:=hB.le (show j≤m-1 by omega) (by omega);omega)
 rwa [List.take_append_drop,List.take_append_drop]at this
def Bz (xs:List Value) (k:Nat) (x:Ac):List Value:=
 ((((((((xs.set k (.int .i64 x.s)).set (k+1) (.int .i64 x.p)).set (k+2) (.bool x.n)).set (k+3) (.int .i64 x.src)).set (k+4) (.int .i64 x.sb)).set (k+5) (.int .i64 x.dst)).set (k+6) (.int .i64 x.db)).set (k+7) (.int .i64 x.o)).set (k+8) (.bool x.d)
theorem eQ {α:Type} (A B:List α) (j:Nat) (v:α):(A++B).set (A.length+j) v=A++B.set j v:=by
 rw [List.set_append_right _ _ (by omega)];congr 2;omega
theorem wP {L:List Ac} {i:Nat} (hi:i<L.length) (x:Ac):Bz (L.flatMap acC) (i*9) x=(L.set i x).flatMap acC:=by
 have e:L=L.take i++L[i]::L.drop (i+1):=by
  rw [←List.drop_eq_getElem_cons hi,List.take_append_drop]
 have hl:((L.take i).flatMap acC).length=i*9:=by rw [mz iJ,List.length_take,Nat.min_eq_left (by omega)]
 have e2:(L.set i x).flatMap acC=(L.take i).flatMap acC++(acC x++(L.drop (i+1)).flatMap acC):=by
  rw [List.set_eq_take_append_cons_drop,if_pos hi,List.flatMap_append,List.flatMap_cons]
 have e3:L.flatMap acC=(L.take i).flatMap acC++(acC L[i]++(L.drop (i+1)).flatMap acC):=by
  conv=>lhs;rw [e]
  rw [List.flatMap_append,List.flatMap_cons]
 rw [e2,e3];unfold Bz;generalize (L.take i).flatMap acC=T at*;rw [←hl];rw [show T.length=T.length+0 from rfl,eQ,show T.length+0+1=T.length+1 from rfl,eQ,show T.length+0+2=T.length+2 from rfl,eQ,show T.length+0+3=T.length+3 from rfl,eQ,show T.length+0+4=T.length+4 from rfl,eQ,show T.length+0+5=T.length+5 from rfl,eQ,show T.length+0+6=T.length+6 from rfl,eQ,show T.length+0+7=T.length+7 from rfl,eQ,show T.length+0+8=T.length+8 from rfl,eQ];rfl
def yW (w:World) (g k:Nat) (x:Ac):World:=
 ((((((((w.setCell ⟨g,k,none⟩ (.int .i64 x.s)).setCell ⟨g,k+1,none⟩ (.int .i64 x.p)).setCell ⟨g,k+2,none⟩ (.bool x.n)).setCell ⟨g,k+3,none⟩ (.int .i64 x.src)).setCell ⟨g,k+4,none⟩ (.int .i64 x.sb)).setCell ⟨g,k+5,none⟩ (.int .i64 x.dst)).setCell ⟨g,k+6,none⟩ (.int .i64 x.db)).setCell ⟨g,k+7,none⟩ (.int .i64 x.o)).setCell ⟨g,k+8,none⟩ (.bool x.d)
theorem ay {a b c:World} {r:Option Nat} (h1:a.grownBy b r) (h2:b.grownBy c r):a.grownBy c r:=
 ⟨h2.os.trans h1.os,h2.tape.trans h1.tape,h2.output.trans h1.output,Nat.le_trans h1.size h2.size,fun k hk hne=>(h2.block k (Nat.lt_of_lt_of_le hk h1.size) hne).trans (h1.block k hk hne)⟩
theorem wW {w:World} {B g n c i:Nat} {L:List Ac} (h:w.ownsRow B 62 9 (.slice (some ⟨g,0,none⟩) n c) n (L.flatMap acC)) (hi:i<L.length) (x:Ac):
  (yW w g (i*9) x).ownsRow B 62 9 (.slice (some ⟨g,0,none⟩) n c) n ((L.set i x).flatMap acC)∧w.grownBy (yW w g (i*9) x) (some g):=by
 rw [←wP hi x];obtain⟨h0,q0⟩:=h.stored (i*9) (.int .i64 x.s);obtain⟨h1,q1⟩:=h0.stored (i*9+1) (.int .i64 x.p);obtain⟨h2,q2⟩:=h1.stored (i*9+2) (.bool x.n);obtain⟨h3,q3⟩:=h2.stored (i*9+3) (.int .i64 x.src);obtain⟨h4,q4⟩:=h3.stored (i*9+4) (.int .i64 x.sb);obtain⟨h5,q5⟩:=h4.stored (i*9+5) (.int .i64 x.dst);obtain⟨h6,q6⟩:=h5.stored (i*9+6) (.int .i64 x.db);obtain⟨h7,q7⟩:=h6.stored (i*9+7) (.int .i64 x.o);obtain⟨h8,q8⟩:=h7.stored (i*9+8) (.bool x.d);exact⟨h8,ay (ay (ay (ay (ay (ay (ay (ay q0 q1) q2) q3) q4) q5) q6) q7) q8⟩
theorem aF:(Tryz.prog.info? 62).map (·.size)=some 9:=by kernel_rfl
def AcR (w:World) (B g c N:Nat) (L:List Ac):Prop:=L.length=N∧w.ownsRow B 62 9 (.slice (some ⟨g,0,none⟩) N c) N (L.flatMap acC)
theorem AcR.below {w w':World} {B g c N:Nat} {L:List Ac} (h:AcR w B g c N L) (hb:Below w.heap.size w w'):AcR w' B g c N L:=⟨h.1,ar h.2 hb⟩
theorem AcR.lt {w:World} {B g c N:Nat} {L:List Ac} (h:AcR w B g c N L):g<w.heap.size:=dD h.2 rfl
theorem vq {L:List Ac} {i:Nat} (hi:i<L.length) {j:Nat} {v:Value} (hj:(acC (L.getD i ac0))[j]? =some v):(L.flatMap acC)[i*9+j]? =some v:=by
 have e:L=L.take i++L[i]::L.drop (i+1):=by
  rw [←List.drop_eq_getElem_cons hi,List.take_append_drop]
 have hl:((L.take i).flatMap acC).length=i*9:=by rw [mz iJ,List.length_take,Nat.min_eq_left (by omega)]
 have e3:L.flatMap acC=(L.take i).flatMap acC++(acC L[i]++(L.drop (i+1)).flatMap acC):=by
  conv=>lhs;rw [e]
  rw [List.flatMap_append,List.flatMap_cons]
 rw [List.getD_eq_getElem?_getD,List.getElem?_eq_getElem hi]at hj;have hj9:j<(acC L[i]).length:=by
  rcases Nat.lt_or_ge j (acC L[i]).length with h | h
  ·exact h
  ·rw [List.getElem?_eq_none (by simpa using h)]at hj;cases hj
 rw [e3,List.getElem?_append_right (by omega),List.getElem?_append_left (by omega),hl,Nat.add_sub_cancel_left];exact hj
theorem AcR.range {w:World} {B g c N:Nat} {L:List Ac} (h:AcR w B g c N L) {i:Nat} (hi:i<N):w.rangeAt g (i*9) (acC (L.getD i ac0)):=fun j v hj=>by
 have h1:=h.2.cells rfl (i*9+j) v (vq (by rw [h.1];exact hi) hj);rw [Addr.add_mid]at h1;simpa using h1
theorem AcR.there {w:World} {B g c N:Nat} {L:List Ac} (h:AcR w B g c N L) {i:Nat} (hi:i<N):w.there g (i*9) 9:=fun j hj=>by
 refine⟨(h.range hi).isSome j (by rw [iJ];exact hj),?_⟩;exact h.2.frozenAt _
theorem tK (w:World) (g k:Nat) (x:Ac):w.setCells g k (acC x)=yW w g k x:=by
 simp only [yW,acC,World.setCells,Nat.add_assoc,Nat.reduceAdd]
theorem AcR.put {w:World} {B g c N:Nat} {L:List Ac} (h:AcR w B g c N L) {i:Nat} (hi:i<N) (x:Ac):AcR (w.setCells g (i*9) (acC x)) B g c N (L.set i x)∧w.grownBy (w.setCells g (i*9) (acC x)) (some g):=by
 have:=wW h.2 (by rw [h.1];exact hi) x;rw [tK];exact⟨⟨by rw [List.length_set];exact h.1,this.1⟩,this.2⟩
theorem grown_refl' (w:World) (r:Option Nat):w.grownBy w r:=⟨rfl,rfl,rfl,Nat.le_refl _,fun _ _ _=>rfl⟩
theorem cl {w w1 w2:World} {r:Nat} (h:w.grownBy w1 (some r)) (hb:Below w1.heap.size w1 w2):w.grownBy w2 (some r):=dd h hb
def bo (X A:List Ac) (y:Ac) (R:List Ac) (m:Nat):List Ac:=X++(A.take m++y::A.drop m)++R
theorem dt {A B:List Ac} {i:Nat} (h:i<A.length):(A++B).getD i ac0=A.getD i ac0:=by
 rw [List.getD_eq_getElem?_getD,List.getD_eq_getElem?_getD,List.getElem?_append_left h]
theorem bf {A B:List Ac} (i:Nat):(A++B).getD (A.length+i) ac0=B.getD i ac0:=by
 rw [List.getD_eq_getElem?_getD,List.getD_eq_getElem?_getD,List.getElem?_append_right (by omega),Nat.add_sub_cancel_left]
theorem jM {X A:List Ac} {y:Ac} {R:List Ac} {m:Nat} (hm:m≤A.length):(bo X A y R m).getD (X.length+m) ac0=y:=by
 unfold bo;rw [List.append_assoc,bf,List.append_assoc];have h:(A.take m).length+0=m:=by simp;omega
 have:=bf (A:=A.take m) (B:=y::A.drop m++R) 0;rw [h]at this;rw [this];rfl
theorem jA {X A:List Ac} {y:Ac} {R:List Ac} {m:Nat} (hm:m<A.length):(bo X A y R (m+1)).getD (X.length+m) ac0=A.getD m ac0:=by
 unfold bo;rw [List.append_assoc,bf,List.append_assoc,dt (by simp;omega)];rw [List.getD_eq_getElem?_getD,List.getD_eq_getElem?_getD,List.getElem?_take_of_lt (by omega)]
theorem oM {X A:List Ac} {y:Ac} {R:List Ac} {m:Nat} (hm:m<A.length):((bo X A y R (m+1)).set (X.length+m+1) (A.getD m ac0)).set (X.length+m) y=bo X A y R m:=by
 have e1:bo X A y R (m+1)=(X++A.take m)++A.getD m ac0:: []++y::(A.drop (m+1)++R):=by
  unfold bo;have:A.take (m+1)=A.take m++ [A.getD m ac0]:=by
   rw [List.take_add_one,List.getD_eq_getElem?_getD,List.getElem?_eq_getElem hm];rfl
  rw [this];simp
 have e2:bo X A y R m=(X++A.take m)++y:: []++A.getD m ac0::(A.drop (m+1)++R):=by
  unfold bo;have:A.drop m=A.getD m ac0::A.drop (m+1):=by
   rw [List.drop_eq_getElem_cons hm,List.getD_eq_getElem?_getD,List.getElem?_eq_getElem hm];rfl
  rw [this];simp
 have hl:(X++A.take m).length=X.length+m:=by simp;omega
 rw [e1,e2];have:=mN (X++A.take m) [] (A.drop (m+1)++R) (A.getD m ac0) y;rw [hl]at this;rw [List.set_comm _ _ (by omega)];simpa using this
theorem np {X A:List Ac} {y:Ac} {R:List Ac} {m:Nat} (hm:m<A.length):((bo X A y R m).set (X.length+m) (A.getD m ac0)).set (X.length+m+1) y=bo X A y R (m+1):=by
 have e1:bo X A y R (m+1)=(X++A.take m)++A.getD m ac0:: []++y::(A.drop (m+1)++R):=by
  unfold bo;have:A.take (m+1)=A.take m++ [A.getD m ac0]:=by
   rw [List.take_add_one,List.getD_eq_getElem?_getD,List.getElem?_eq_getElem hm];rfl
  rw [this];simp
 have e2:bo X A y R m=(X++A.take m)++y:: []++A.getD m ac0::(A.drop (m+1)++R):=by
  unfold bo;have:A.drop m=A.getD m ac0::A.drop (m+1):=by
   rw [List.drop_eq_getElem_cons hm,List.getD_eq_getElem?_getD,List.getElem?_eq_getElem hm];rfl
  rw [this];simp
 have hl:(X++A.take m).length=X.length+m:=by simp;omega
 rw [e1,e2];have:=mN (X++A.take m) [] (A.drop (m+1)++R) y (A.getD m ac0);rw [hl]at this;simpa using this
theorem uW {X A:List Ac} {y:Ac} {R:List Ac} {m:Nat} (hm:m<A.length):(bo X A y R m).getD (X.length+m+1) ac0=A.getD m ac0:=by
 have:=jA (X:=X) (y:=y) (R:=R) hm;rw [←np hm]at this;have e:(bo X A y R m).getD (X.length+m+1) ac0=A.getD m ac0:=by
  unfold bo;rw [List.append_assoc,show X.length+m+1=X.length+(m+1) by omega,bf,List.append_assoc];have hl:(A.take m).length+1=m+1:=by simp;omega
  have h2:=bf (A:=A.take m) (B:=y::A.drop m++R) 1;rw [hl]at h2;rw [h2];have:A.drop m=A.getD m ac0::A.drop (m+1):=by
   rw [List.drop_eq_getElem_cons hm,List.getD_eq_getElem?_getD,List.getElem?_eq_getElem hm];rfl
  rw [this];rfl
 exact e
theorem iC (x y:Ac) (w:World):Calls Tryz.prog 136 #[.agg (acC x).toArray,.agg (acC y).toArray] w fun e w'=>e= .returned (.int .i64 (aJ y.p x.p))∧Below w.heap.size w w':=qG x y w
theorem kj (x y:Int):(aJ x y<0)=(x<y):=by
 unfold aJ;by_cases h:x<y
 ·rw [if_pos h];simp [h]
 ·rw [if_neg h];split <;>simp [h]
theorem jH {P:Program} {c:Code} {Q:Exit→Act→World→Prop} {a:Act} {w:World} (A1:Act) (F:World→Prop) (h:c.wp P (fun e a' w'=>e= .normal∧a'=A1∧F w') a w) (hq:∀w',F w'→Q .normal A1 w'):c.wp P Q a w:=
 Code.wp_mono (fun e a' w' ⟨he,ha,hf⟩=>by subst he;subst ha;exact hq w' hf) h
theorem s6 {X Y Z A:List Ac} {y:Ac} {k m:Nat} (hk:k<Y.length) (hA:A=aM aD (Y.take k)) (hy:y=Y.getD k ac0) (hm:m≤A.length) (h1:m=0∨y.p≤(A.getD (m-1) ac0).p) (h2:m=A.length∨(A.getD m ac0).p<y.p):
  bo X A y (Y.drop (k+1)++Z) m=X++aM aD (Y.take (k+1))++Y.drop (k+1)++Z:=by
 have e:Y.take (k+1)=Y.take k++ [y]:=by
  rw [List.take_add_one,hy,List.getD_eq_getElem?_getD,List.getElem?_eq_getElem hk];rfl
 rw [e,fE, ←hA,nt (by rw [hA];exact dG fO fK _) hm h1 h2];unfold bo;simp
theorem rY {X Y Z:List Ac} {k:Nat} (hk:k<Y.length):X++aM aD (Y.take k)++Y.drop k++Z=bo X (aM aD (Y.take k)) (Y.getD k ac0) (Y.drop (k+1)++Z) k:=by
 have hl:(aM aD (Y.take k)).length=k:=by rw [aO];simp;omega
 have e:Y.drop k=Y.getD k ac0::Y.drop (k+1):=by
  rw [List.drop_eq_getElem_cons hk,List.getD_eq_getElem?_getD,List.getElem?_eq_getElem hk];rfl
 unfold bo;generalize aM aD (Y.take k)=A at hl⊢;rw [List.take_of_length_le (Nat.le_of_eq hl),List.drop_of_length_le (Nat.le_of_eq hl),e];simp
theorem le2 {a b:Nat} (h:a=b):a≤b∧b≤a:=⟨Nat.le_of_eq h,Nat.le_of_eq h.symm⟩
theorem sJ (X Y Z:List Ac) (B g c N a b:Nat) (w:World) (hA:AcR w B g c N (X++Y++Z)) (ha:a=X.length) (hb:b=X.length+Y.length) (hN:N≤1000):
  Calls Tryz.prog 204 #[.slice (some ⟨g,0,none⟩) N c,.int .i64 (a:Int),.int .i64 (b:Int),.func (.func 136) #[] #[]] w fun e w'=>e= .returned (.tuple #[])∧AcR w' B g c N (X++aM aD Y++Z)∧w.grownBy w' (some g):=by
 obtain⟨T,hT⟩:∃T,T=X++aM aD Y++Z:=⟨_,rfl⟩;rw [←hT];have HT:=aa hT;clear hT;have HCM:=aa iC;have HA0:=aa hA;have hlen:X.length+Y.length+Z.length=N:=by have:=hA.1;simpa [Nat.add_assoc] using this
 clear hA;obtain⟨ha2,ha3⟩:=le2 ha;obtain⟨hb2,hb3⟩:=le2 hb;obtain⟨hl2,hl3⟩:=le2 hlen;clear ha hb hlen;obtain⟨a1,ha1⟩:∃a1,a1=a+1:=⟨_,rfl⟩;obtain⟨ha4,ha5⟩:=le2 ha1;clear ha1;have hw1:IntKind.i64.wrap ((a:Int)+1)=(a1:Int):=(ba _ (by omega) (by omega)).trans (by omega);go_enter Tryz.func204,Tryz.ntmps204;go_wp2_with fail
 go_loopw [8] (fun i wr=>∃k i0:Nat,1≤k∧(k≤Y.length∨k=1)∧i0=a+k∧i= .int .i64 (i0:Int)∧Hid (AcR wr B g c N (X++aM aD (Y.take k)++Y.drop k++Z))∧Hid (w.grownBy wr (some g))) (fun i _=>b-(intOf i).toNat)
 case atStart=>exact⟨1,a1,by omega,.inr rfl,by omega,rfl,by have e:aM aD (Y.take 1)=Y.take 1:=(by cases Y <;>simp [aM,mrg]);rw [e,List.append_assoc X,List.take_append_drop];exact HA0,aa (grown_refl' _ _)⟩
 case round=>
  clear HA0;obtain⟨k,i0,hk1,hk2,hi0,rfl,HAk,HG⟩:=hrel
  rename World=>W1
  obtain⟨hi2,hi3⟩:=le2 hi0;clear hi0;by_cases hlt:i0<b
  ·have hkY:k<Y.length:=(by omega);have qlt:(i0:Int)<(b:Int):=(by omega);obtain⟨A,hAe⟩:∃A,A=aM aD (Y.take k):=⟨_,rfl⟩;obtain⟨y,hye⟩:∃y,y=Y.getD k ac0:=⟨_,rfl⟩;obtain⟨R,hRe⟩:∃R,R=Y.drop (k+1)++Z:=⟨_,rfl⟩;have hAl:A.length=k:=by rw [hAe,aO];simp;omega
   have HNX:Hid (∀m,m≤A.length→(m=0∨y.p≤(A.getD (m-1) ac0).p)→(m=A.length∨(A.getD m ac0).p<y.p)→bo X A y R m=X++aM aD (Y.take (k+1))++Y.drop (k+1)++Z):=aa (fun m h0 h1 h2=>by rw [hRe];exact s6 hkY hAe hye h0 h1 h2);have HA0:Hid (AcR W1 B g c N (bo X A y R k)):=by have:=HAk.out;rw [rY hkY, ←hAe, ←hye, ←hRe]at this;exact aa this
   have hAl2:=aa hAl;obtain⟨hA2,hA3⟩:=le2 hAl;clear HAk hAe hye hRe hAl;have hai:a≤i0:=(by omega);obtain⟨i1,hi1⟩:∃i1,i1=i0+1:=⟨_,rfl⟩;obtain⟨hi4,hi5⟩:=le2 hi1;clear hi1;have hw2:IntKind.i64.wrap ((i0:Int)+1)=(i1:Int):=(ba _ (by omega) (by omega)).trans (by omega);go_wp2_with fail
   go_loopw [9] (fun j wr=>∃m j0:Nat,m≤k∧j0=a+m∧j= .int .i64 (j0:Int)∧Hid (m=A.length∨(A.getD m ac0).p<y.p)∧Hid (AcR wr B g c N (bo X A y R m))∧Hid (w.grownBy wr (some g))) (fun j _=>(intOf j).toNat)
   case atStart=>exact⟨k,i0,Nat.le_refl _,by omega,rfl,aa (.inl hAl2.out.symm),HA0,HG⟩
   case round=>
    clear HA0 HG;obtain⟨m,j0,hmk,hj0,rfl,HM2,HA,HG⟩:=hrel;obtain⟨hj2,hj3⟩:=le2 hj0;clear hj0;by_cases hm0:m=0
    ·subst hm0;have hm0:True:=trivial;have hng:¬(a<j0):=(by omega);have hng2:¬((a:Int)<(j0:Int)):=(by omega);go_wp2_with fail
     have hDr:Below wr.heap.size wr wr.drew:=(Below.refl _ _).drew;replace HA:=aa (HA.out.below hDr);replace HG:=aa (cl HG.out hDr);clear hDr;refine wp_region_held_drew (S:=fun _=>True) (by kernel_rfl) trivial (fun hHeld=>?_);generalize wr.drew=V at*;refine sqA [(0,18),(1,19),(2,20),(3,21)] ?_;(iterate 4 (refine sqN rfl (by kernel_rfl) (fun _ _ _ h=>h) rfl ‹_› (by intro w h;go_simp <;>with_reducible rfl) ?_;simp only [nz]));refine sqZ ?_;refine wpAnyH_take (i:=4) (oi:=⟨some 22,_,_,_,_,_⟩) (v:=undef) rfl (by kernel_rfl) (by kernel_rfl) (by kernel_rfl) (fun _ _ _ h=>h) (Or.inr ⟨by rfl,rfl⟩) (by assumption) ?_;(try simp only [nz]);refine wpAnyH_take (i:=5) (oi:=⟨some 23,_,_,_,_,_⟩) (v:=undef) rfl (by kernel_rfl) (by kernel_rfl) (by kernel_rfl) (fun _ _ _ h=>h) (Or.inr ⟨by rfl,rfl⟩) (by assumption) ?_;(try simp only [nz]);refine wpAnyH_take (i:=6) (oi:=⟨some 24,_,_,_,_,_⟩) (v:=undef) rfl (by kernel_rfl) (by kernel_rfl) (by kernel_rfl) (fun _ _ _ h=>h) (Or.inr ⟨by rfl,rfl⟩) (by assumption) ?_;(try simp only [nz]);refine wpAnyH_take (i:=7) (oi:=⟨some 25,_,_,_,_,_⟩) (v:=undef) rfl (by kernel_rfl) (by kernel_rfl) (by kernel_rfl) (fun _ _ _ h=>h) (Or.inr ⟨by rfl,rfl⟩) (by assumption) ?_;(try simp only [nz]);refine wpAnyH_take (i:=8) (oi:=⟨some 26,_,_,_,_,_⟩) (v:=undef) rfl (by kernel_rfl) (by kernel_rfl) (by kernel_rfl) (fun _ _ _ h=>h) (Or.inr ⟨by rfl,rfl⟩) (by assumption) ?_;(try simp only [nz]);refine wpAnyH_take (i:=9) (oi:=⟨some 27,_,_,_,_,_⟩) (v:=undef) rfl (by kernel_rfl) (by kernel_rfl) (by kernel_rfl) (fun _ _ _ h=>h) (Or.inr ⟨by rfl,rfl⟩) (by assumption) ?_;(try simp only [nz]);refine wpAnyH_take (i:=10) (oi:=⟨some 28,_,_,_,_,_⟩) (v:=undef) rfl (by kernel_rfl) (by kernel_rfl) (by kernel_rfl) (fun _ _ _ h=>h) (Or.inr ⟨by rfl,rfl⟩) (by assumption) ?_;(try simp only [nz]);refine wpAnyH_take (i:=11) (oi:=⟨some 29,_,_,_,_,_⟩) (v:=undef) rfl (by kernel_rfl) (by kernel_rfl) (by kernel_rfl) (fun _ _ _ h=>h) (Or.inr ⟨by rfl,rfl⟩) (by assumption) ?_;(try simp only [nz]);refine wpAnyH_take (i:=12) (oi:=⟨some 30,_,_,_,_,_⟩) (v:=undef) rfl (by kernel_rfl) (by kernel_rfl) (by kernel_rfl) (fun _ _ _ h=>h) (Or.inr ⟨by rfl,rfl⟩) (by assumption) ?_;(try simp only [nz]);refine wpAnyH_take (i:=13) (oi:=⟨some 31,_,_,_,_,_⟩) (v:=undef) rfl (by kernel_rfl) (by kernel_rfl) (by kernel_rfl) (fun _ _ _ h=>h) (Or.inr ⟨by rfl,rfl⟩) (by assumption) ?_;(try simp only [nz]);refine rsq 14 32 (by kernel_rfl) rfl (fun K hK=>?_);rw [if_neg (by rw [Bool.not_eq_true];rfl)];refine hK.out _ _ trivial (fun hHeld=>?_);clear hK K;(try simp only [nz]);refine wpAnyH_take (i:=15) (oi:=⟨some 33,_,_,_,_,_⟩) (v:=undef) rfl (by kernel_rfl) (by kernel_rfl) (by kernel_rfl) (fun _ _ _ h=>h) (Or.inr ⟨by rfl,rfl⟩) (by assumption) ?_;(try simp only [nz])
     refine tq 16 34 rfl (by kernel_rfl) (fun _ _ _ h=>h) rfl ‹_› (by intro w h;go_simp <;>with_reducible rfl) ?_;simp only [nz];refine wpAnyH_done (by kernel_rfl) ?_ _;clear hHeld
     skip
     have HE:Hid (AcR V B g c N (X++aM aD (Y.take (k+1))++Y.drop (k+1)++Z)):=by rw [←HNX.out 0 (by rw [hAl2.out];exact hmk) (.inl rfl) HM2.out];exact HA
     clear HA HM2 HNX;go_wp2_with fail
     go_roundw
     case rel=>exact⟨k+1,i1,by omega,.inl (by omega),by omega,rfl,HE,HG⟩
     case measure=>simp [intOf];omega
    ·obtain⟨l,rfl⟩:∃l,m=l+1:=⟨m-1,by omega⟩;obtain⟨jl,hjl⟩:∃jl,jl=a+l:=⟨_,rfl⟩;obtain⟨hj4,hj5⟩:=le2 hjl;clear hjl;have hgt:(a:Int)<(j0:Int):=(by omega);have hw3:IntKind.i64.wrap ((j0:Int)-1)=(jl:Int):=(ba _ (by omega) (by omega)).trans (by omega);have t0:(0:Int)≤(j0:Int):=(by omega);have t1:(j0:Int)<(N:Int):=(by omega);have t2:(0:Int)≤(jl:Int):=(by omega);have t3:(jl:Int)<(N:Int):=(by omega);have hlA:l<A.length:=by rw [hAl2.out];omega
     obtain⟨x,hx⟩:∃x,x=A.getD l ac0:=⟨_,rfl⟩;have HR1:Hid (∀W,AcR W B g c N (bo X A y R (l+1))→W.rangeAt g (j0*9) (acC y)):=aa (fun W h=>by have:=h.range (i:=j0) (by omega);rwa [show j0=X.length+(l+1) by omega,jM (by omega), ←show j0=X.length+(l+1) by omega]at this);have HR2:Hid (∀W,AcR W B g c N (bo X A y R (l+1))→W.rangeAt g (jl*9) (acC x)):=aa (fun W h=>by have:=h.range (i:=jl) (by omega);rwa [show jl=X.length+l by omega,jA hlA, ←hx, ←show jl=X.length+l by omega]at this);have HSW:Hid (((bo X A y R (l+1)).set j0 x).set jl y=bo X A y R l):=aa (by rw [hx,show j0=X.length+l+1 by omega,show jl=X.length+l by omega];exact oM hlA);have HLT:=aa (kj x.p y.p);have hx2:=aa hx;clear hx;go_wp2_with fail
     have HD:Hid (AcR wr.drew B g c N _):=aa (HA.out.below ((Below.refl _ _).drew));refine wp_region_held_drew (S:=fun w'=>w'.rangeAt g (j0*9) (acC y)∧w'.rangeAt g (jl*9) (acC x)) (by kernel_rfl) ⟨HR1.out _ HD.out,HR2.out _ HD.out⟩ (fun hHeld=>?_);refine sqA [(0,18),(1,19),(2,20),(3,21),(4,22),(5,23),(6,24),(7,25)] ?_;(iterate 8 (refine sqN rfl (by kernel_rfl) (fun _ _ _ h=>h) rfl ‹_› (by intro w h;go_simp <;>with_reducible rfl) ?_;simp only [nz]));refine sqZ ?_;refine wpAnyH_take (i:=8) (oi:=⟨some 26,_,_,_,_,_⟩) (v:=.agg (acC y).toArray) rfl (by kernel_rfl) (by kernel_rfl) (by kernel_rfl) (fun _ _ _ h=>h) (yieldsIf_load_mid (by rfl) 62 (.tmp 25) rfl g (j0*9) rfl (acC y) _ (fun w h=>h.1) Tryz.underlying62 rfl aF) (by assumption) ?_;(try simp only [nz]);refine sqA [(9,27),(10,28),(11,29),(12,30)] ?_;(iterate 4 (refine sqN rfl (by kernel_rfl) (fun _ _ _ h=>h) rfl ‹_› (by intro w h;go_simp <;>with_reducible rfl) ?_;simp only [nz]));refine sqZ ?_;refine wpAnyH_take (i:=13) (oi:=⟨some 31,_,_,_,_,_⟩) (v:=.agg (acC x).toArray) rfl (by kernel_rfl) (by kernel_rfl) (by kernel_rfl) (fun _ _ _ h=>h) (yieldsIf_load_mid (by rfl) 62 (.tmp 30) rfl g (jl*9) rfl (acC x) _ (fun w h=>h.2) Tryz.underlying62 rfl aF) (by assumption) ?_;(try simp only [nz]);refine rsq 14 32 (by kernel_rfl) rfl (fun K hK=>?_);go_simp;clear hHeld;refine(ag HCM y x _).mono ?_;rintro e V ⟨rfl,hb⟩;replace HA:=aa (HD.out.below hb);replace HG:=aa (cl HG.out (((Below.refl _ _).drew).trans hb));clear HD hb;refine hK.out _ _ ⟨HR1.out _ HA.out,HR2.out _ HA.out⟩ (fun hHeld=>?_);clear hK K;(try simp only [nz]);refine sqA [(15,33),(16,34)] ?_;(iterate 2 (refine sqN rfl (by kernel_rfl) (fun _ _ _ h=>h) rfl ‹_› (by intro w h;go_simp <;>with_reducible rfl) ?_;simp only [nz]));refine sqZ ?_;refine wpAnyH_done (by kernel_rfl) ?_ _;clear hHeld;by_cases hle:x.p<y.p
     ·have hlt2:aJ x.p y.p<0:=by rw [HLT.out];exact hle
      go_wp2_with fail
      apply jH _ (fun w'=>AcR w' B g c N (((bo X A y R (l+1)).set j0 x).set jl y)∧w.grownBy w' (some g))
      ·have hDr:Below V.heap.size V V.drew:=(Below.refl _ _).drew;replace HA:=aa (HA.out.below hDr);replace HG:=aa (cl HG.out hDr);clear hDr;refine wp_region_held_drew (S:=fun _=>True) (by kernel_rfl) trivial (fun hHeld=>?_);generalize V.drew=V2 at*;refine sqA [(0,37),(1,38),(2,39),(3,40),(4,41),(5,42),(6,43),(7,44),(8,45),(10,47),(11,48),(12,49)] ?_;(iterate 12 (refine sqN rfl (by kernel_rfl) (fun _ _ _ h=>absurd h.1 (by simp)) rfl ‹_› (by intro w h;go_simp <;>with_reducible rfl) ?_;simp only [nz]));refine sqZ ?_;refine wpAnyH_ready (rs:=[9,13]) (by kernel_rfl) (by simp) ?_;refine(AllReadyH.cons (o:=⟨some 46,_,_,_,_,_⟩) rfl (fun K hK=>?_) (AllReadyH.cons (o:=⟨some 50,_,_,_,_,_⟩) rfl (fun K hK=>?_) AllReadyH.nil))
       ·rw [if_pos (by rfl)];clear hHeld;refine wp_load_mid 62 (.tmp 45) rfl g (jl*9) rfl (acC x) _ (HR2.out _ HA.out) Tryz.underlying62 rfl aF ?_;refine hK.out _ _ trivial (fun hHeld=>?_);clear hK K;(try simp only [nz]);refine rsq 13 50 (by kernel_rfl) rfl (fun K hK=>?_);rw [if_pos (by rfl)];clear hHeld;refine wp_load_mid 62 (.tmp 49) rfl g (j0*9) rfl (acC y) _ (HR1.out _ HA.out) Tryz.underlying62 rfl aF ?_;refine hK.out _ _ trivial (fun hHeld=>?_);clear hK K;(try simp only [nz]);refine tq 14 51 rfl (by kernel_rfl) (fun _ _ _ h=>absurd h.1 (by simp)) rfl ‹_› (by intro w h;go_simp <;>with_reducible rfl) ?_;simp only [nz];refine rnq 15 (by kernel_rfl) rfl (fun K hK=>?_);rw [if_pos (by rfl)];clear hHeld;refine wp_store_mid 62 (.tmp 51) (.tmp 46) rfl g (j0*9) (acC x).toArray rfl rfl (AcR.there HA.out (i:=j0) (by omega)) aF (fu rfl) ?_;rw [show(acC x).toArray.toList=acC x from rfl];have HP0:=aa (AcR.put HA.out (i:=j0) (by omega) x).1;have hq0:=(AcR.put HA.out (i:=j0) (by omega) x).2;generalize World.setCells _ g (j0*9) (acC x)=V20 at*;refine hK.out _ _ trivial (fun hHeld=>?_);clear hK K;(try simp only [Act.put]);refine tq 16 52 rfl (by kernel_rfl) (fun _ _ _ h=>absurd h.1 (by simp)) rfl ‹_› (by intro w h;go_simp <;>with_reducible rfl) ?_;simp only [nz];refine rnq 17 (by kernel_rfl) rfl (fun K hK=>?_);rw [if_pos (by rfl)];clear hHeld;refine wp_store_mid 62 (.tmp 52) (.tmp 50) rfl g (jl*9) (acC y).toArray rfl rfl (AcR.there HP0.out (i:=jl) (by omega)) aF (fu rfl) ?_;rw [show(acC y).toArray.toList=acC y from rfl];have HP1:=aa (AcR.put HP0.out (i:=jl) (by omega) y).1;have hq1:=(AcR.put HP0.out (i:=jl) (by omega) y).2;generalize World.setCells _ g (jl*9) (acC y)=V21 at*;refine hK.out _ _ trivial (fun hHeld=>?_);clear hK K;(try simp only [Act.put]);refine wpAnyH_done (by kernel_rfl) ?_ _;clear hHeld;exact⟨rfl,rfl,HP1.out,ay HG.out (ay hq0 hq1)⟩
       ·rw [if_pos (by rfl)];clear hHeld;refine wp_load_mid 62 (.tmp 49) rfl g (j0*9) rfl (acC y) _ (HR1.out _ HA.out) Tryz.underlying62 rfl aF ?_;refine hK.out _ _ trivial (fun hHeld=>?_);clear hK K;(try simp only [nz]);refine rsq 9 46 (by kernel_rfl) rfl (fun K hK=>?_);rw [if_pos (by rfl)];clear hHeld;refine wp_load_mid 62 (.tmp 45) rfl g (jl*9) rfl (acC x) _ (HR2.out _ HA.out) Tryz.underlying62 rfl aF ?_;refine hK.out _ _ trivial (fun hHeld=>?_);clear hK K;(try simp only [nz]);refine tq 14 51 rfl (by kernel_rfl) (fun _ _ _ h=>absurd h.1 (by simp)) rfl ‹_› (by intro w h;go_simp <;>with_reducible rfl) ?_;simp only [nz];refine rnq 15 (by kernel_rfl) rfl (fun K hK=>?_);rw [if_pos (by rfl)];clear hHeld;refine wp_store_mid 62 (.tmp 51) (.tmp 46) rfl g (j0*9) (acC x).toArray rfl rfl (AcR.there HA.out (i:=j0) (by omega)) aF (fu rfl) ?_;rw [show(acC x).toArray.toList=acC x from rfl];have HP0:=aa (AcR.put HA.out (i:=j0) (by omega) x).1;have hq0:=(AcR.put HA.out (i:=j0) (by omega) x).2;generalize World.setCells _ g (j0*9) (acC x)=V20 at*;refine hK.out _ _ trivial (fun hHeld=>?_);clear hK K;(try simp only [Act.put]);refine tq 16 52 rfl (by kernel_rfl) (fun _ _ _ h=>absurd h.1 (by simp)) rfl ‹_› (by intro w h;go_simp <;>with_reducible rfl) ?_;simp only [nz];refine rnq 17 (by kernel_rfl) rfl (fun K hK=>?_);rw [if_pos (by rfl)];clear hHeld;refine wp_store_mid 62 (.tmp 52) (.tmp 50) rfl g (jl*9) (acC y).toArray rfl rfl (AcR.there HP0.out (i:=jl) (by omega)) aF (fu rfl) ?_;rw [show(acC y).toArray.toList=acC y from rfl];have HP1:=aa (AcR.put HP0.out (i:=jl) (by omega) y).1;have hq1:=(AcR.put HP0.out (i:=jl) (by omega) y).2;generalize World.setCells _ g (jl*9) (acC y)=V21 at*;refine hK.out _ _ trivial (fun hHeld=>?_);clear hK K;(try simp only [Act.put]);refine wpAnyH_done (by kernel_rfl) ?_ _;clear hHeld;exact⟨rfl,rfl,HP1.out,ay HG.out (ay hq0 hq1)⟩
      intro W3 hW3;obtain⟨hA3,hG3⟩:=hW3;rw [HSW.out]at hA3;have HA3:=aa hA3;have HG3:=aa hG3;have HM3:Hid (l=A.length∨(A.getD l ac0).p<y.p):=aa (.inr (by rw [←hx2.out];exact hle));clear hA3 hG3 HA HG HR1 HR2 HSW HM2;go_wp2_with fail
      go_roundw
      case rel=>exact⟨l,jl,by omega,by omega,rfl,HM3,HA3,HG3⟩
      case measure=>simp [intOf];omega
     ·have hlt2:¬aJ x.p y.p<0:=by rw [HLT.out];exact hle
      have HE:Hid (AcR V B g c N (X++aM aD (Y.take (k+1))++Y.drop (k+1)++Z)):=by rw [←HNX.out (l+1) (by rw [hAl2.out];exact hmk) (.inr (by rw [show l+1-1=l by omega, ←hx2.out];omega)) HM2.out];exact HA
      clear HA HM2 HNX;go_wp2_with fail
      go_roundw
      case rel=>exact⟨k+1,i1,by omega,.inl (by omega),by omega,rfl,HE,HG⟩
      case measure=>simp [intOf];omega
  ·have hke:Y.length≤k:=(by omega);have nlt:¬((i0:Int)<(b:Int)):=(by omega);have HE:Hid (AcR W1 B g c N T):=by rw [HT.out];have:=HAk.out;rw [List.take_of_length_le hke,List.drop_of_length_le hke,List.append_nil]at this;exact aa this
   clear HAk;go_wp2_with fail
   go_end0;exact⟨rfl,HE.out,HG.out⟩
theorem Bi (P1 P2 P3:List Ac) (x y:Ac):(P1++x::P2++y::P3).getD P1.length ac0=x:=by
 rw [List.append_assoc,show P1.length=P1.length+0 from rfl,bf];rfl
theorem Bh (P1 P2 P3:List Ac) (x y:Ac):(P1++x::P2++y::P3).getD (P1.length+1+P2.length) ac0=y:=by
 have:=bf (A:=P1++x::P2) (B:=y::P3) 0;have hl:(P1++x::P2).length+0=P1.length+1+P2.length:=by simp;omega
 rw [hl]at this;exact this
def ph (P U Q V R:List Ac) (k:Nat):List Ac:=P++(V.take k++U.drop k)++Q++(U.take k++V.drop k)++R
theorem zN {P U Q V R:List Ac} {n k:Nat} (hU:U.length=n) (hV:V.length=n) (hk:k<n):ph P U Q V R k=(P++V.take k)++U.getD k ac0::(U.drop (k+1)++Q++U.take k)++V.getD k ac0::(V.drop (k+1)++R):=by
 have e1:U.drop k=U.getD k ac0::U.drop (k+1):=by
  rw [List.drop_eq_getElem_cons (by omega),List.getD_eq_getElem?_getD,List.getElem?_eq_getElem (by omega)];rfl
 have e2:V.drop k=V.getD k ac0::V.drop (k+1):=by
  rw [List.drop_eq_getElem_cons (by omega),List.getD_eq_getElem?_getD,List.getElem?_eq_getElem (by omega)];rfl
 unfold ph;rw [e1,e2];simp
theorem vE {P U Q V R:List Ac} {n k:Nat} (hU:U.length=n) (hV:V.length=n) (hk:k<n):ph P U Q V R (k+1)=(P++V.take k)++V.getD k ac0::(U.drop (k+1)++Q++U.take k)++U.getD k ac0::(V.drop (k+1)++R):=by
 have e1:U.take (k+1)=U.take k++ [U.getD k ac0]:=by
  rw [List.take_add_one,List.getD_eq_getElem?_getD,List.getElem?_eq_getElem (by omega)];rfl
 have e2:V.take (k+1)=V.take k++ [V.getD k ac0]:=by
  rw [List.take_add_one,List.getD_eq_getElem?_getD,List.getElem?_eq_getElem (by omega)];rfl
 unfold ph;rw [e1,e2];simp
theorem mo (P U Q V R:List Ac) (B g c N a b n:Nat) (w:World) (hA:AcR w B g c N (P++U++Q++V++R)) (hU:U.length=n) (hV:V.length=n) (ha:a=P.length) (hb:b=P.length+n+Q.length) (hN:N≤1000):
  Calls Tryz.prog 219 #[.slice (some ⟨g,0,none⟩) N c,.int .i64 (a:Int),.int .i64 (b:Int),.int .i64 (n:Int),.func (.func 136) #[] #[]] w fun e w'=>e= .returned (.tuple #[])∧AcR w' B g c N (P++V++Q++U++R)∧w.grownBy w' (some g):=by
 obtain⟨T,hT⟩:∃T,T=P++V++Q++U++R:=⟨_,rfl⟩;rw [←hT];have HT:=aa hT;clear hT;have HA0:Hid (AcR w B g c N (ph P U Q V R 0)):=by refine aa ?_;unfold ph;simpa using hA
 have hlen:P.length+n+Q.length+n+R.length=N:=by have:=hA.1;simp only [List.length_append,hU,hV]at this;omega
 obtain⟨ha2,ha3⟩:=le2 ha;obtain⟨hb2,hb3⟩:=le2 hb;obtain⟨hl2,hl3⟩:=le2 hlen;have HU:=aa hU;have HV:=aa hV;clear hA ha hb hlen hU hV;go_enter Tryz.func219,Tryz.ntmps219;go_wp2_with fail
 go_loopw [10] (fun i wr=>∃k:Nat,k≤n∧i= .int .i64 (k:Int)∧Hid (AcR wr B g c N (ph P U Q V R k))∧Hid (w.grownBy wr (some g))) (fun i _=>n-(intOf i).toNat)
 case atStart=>exact⟨0,by omega,rfl,HA0,aa (grown_refl' _ _)⟩
 case round=>
  clear HA0;obtain⟨k,hk,rfl,HA,HG⟩:=hrel;by_cases hlt:k<n
  ·have qlt:(k:Int)<(n:Int):=(by omega);obtain⟨ai,hai⟩:∃ai,ai=a+k:=⟨_,rfl⟩;obtain⟨bi,hbi⟩:∃bi,bi=b+k:=⟨_,rfl⟩;obtain⟨hai2,hai3⟩:=le2 hai;obtain⟨hbi2,hbi3⟩:=le2 hbi;have hw1:IntKind.i64.wrap ((a:Int)+(k:Int))=(ai:Int):=(ba _ (by omega) (by omega)).trans (by omega);have hw2:IntKind.i64.wrap ((b:Int)+(k:Int))=(bi:Int):=(ba _ (by omega) (by omega)).trans (by omega);clear hai hbi;have t0:(0:Int)≤(ai:Int):=(by omega);have t1:(ai:Int)<(N:Int):=(by omega);have t2:(0:Int)≤(bi:Int):=(by omega);have t3:(bi:Int)<(N:Int):=(by omega);have HI:=aa (zN (P:=P) (Q:=Q) (R:=R) HU.out HV.out hlt);have HX:=aa (vE (P:=P) (Q:=Q) (R:=R) HU.out HV.out hlt);obtain⟨P1,hP1⟩:∃P1,P1=P++V.take k:=⟨_,rfl⟩;obtain⟨P2,hP2⟩:∃P2,P2=U.drop (k+1)++Q++U.take k:=⟨_,rfl⟩;have hl1:P1.length=ai:=by rw [hP1];simp [HV.out];omega
   have hl4:P1.length+1+P2.length=bi:=by rw [hl1,hP2];simp [HU.out];omega
   rw [←hP1, ←hP2]at HI HX;clear hP1 hP2;generalize U.getD k ac0=x at*;generalize V.getD k ac0=y at*;generalize V.drop (k+1)++R=P3 at*;rw [HI.out]at HA;have HR1:Hid (∀W,AcR W B g c N (P1++x::P2++y::P3)→W.rangeAt g (ai*9) (acC x)):=aa (fun W h=>by have:=h.range (i:=ai) (by omega);rwa [←hl1,Bi,hl1]at this);have HR2:Hid (∀W,AcR W B g c N (P1++x::P2++y::P3)→W.rangeAt g (bi*9) (acC y)):=aa (fun W h=>by have:=h.range (i:=bi) (by omega);rwa [←hl4,Bh,hl4]at this);have HSW:Hid (((P1++x::P2++y::P3).set ai y).set bi x=ph P U Q V R (k+1)):=aa (by rw [HX.out, ←hl1, ←hl4, ←mN P1 P2 P3 x y,hl1]);clear HI HX hl1 hl4;obtain⟨k1,hk1⟩:∃k1,k1=k+1:=⟨_,rfl⟩;have HK1:=aa hk1;have hw3:IntKind.i64.wrap ((k:Int)+1)=(k1:Int):=(ba _ (by omega) (by omega)).trans (by omega);obtain⟨hk2,hk3⟩:=le2 hk1;rw [←hk1]at HSW;clear hk1;obtain⟨LL,hLL⟩:∃LL,LL=P1++x::P2++y::P3:=⟨_,rfl⟩;rw [←hLL]at HA HR1 HR2 HSW;clear hLL;go_wp2_with fail
   apply jH _ (fun w'=>AcR w' B g c N ((LL.set ai y).set bi x)∧w.grownBy w' (some g))
   ·have hDr:Below wr.heap.size wr wr.drew:=(Below.refl _ _).drew;replace HA:=aa (HA.out.below hDr);replace HG:=aa (cl HG.out hDr);clear hDr;refine wp_region_held_drew (S:=fun _=>True) (by kernel_rfl) trivial (fun hHeld=>?_);generalize wr.drew=V2 at*;refine sqA [(0,16),(1,17),(2,18),(3,19),(4,20),(5,21),(6,22),(7,23),(8,24),(9,25),(10,26),(11,27),(12,28),(14,30),(15,31),(16,32),(17,33),(18,34)] ?_;(iterate 18 (refine sqN rfl (by kernel_rfl) (fun _ _ _ h=>absurd h.1 (by simp)) rfl ‹_› (by intro w h;go_simp <;>with_reducible rfl) ?_;simp only [nz]));refine sqZ ?_;refine wpAnyH_ready (rs:=[13,19]) (by kernel_rfl) (by simp) ?_;refine(AllReadyH.cons (o:=⟨some 29,_,_,_,_,_⟩) rfl (fun K hK=>?_) (AllReadyH.cons (o:=⟨some 35,_,_,_,_,_⟩) rfl (fun K hK=>?_) AllReadyH.nil))
    ·rw [if_pos (by rfl)];clear hHeld;refine wp_load_mid 62 (.tmp 28) rfl g (bi*9) rfl (acC y) _ (HR2.out _ HA.out) Tryz.underlying62 rfl aF ?_;refine hK.out _ _ trivial (fun hHeld=>?_);clear hK K;(try simp only [nz]);refine rsq 19 35 (by kernel_rfl) rfl (fun K hK=>?_);rw [if_pos (by rfl)];clear hHeld;refine wp_load_mid 62 (.tmp 34) rfl g (ai*9) rfl (acC x) _ (HR1.out _ HA.out) Tryz.underlying62 rfl aF ?_;refine hK.out _ _ trivial (fun hHeld=>?_);clear hK K;(try simp only [nz]);refine tq 20 36 rfl (by kernel_rfl) (fun _ _ _ h=>absurd h.1 (by simp)) rfl ‹_› (by intro w h;go_simp <;>with_reducible rfl) ?_;simp only [nz];refine rnq 21 (by kernel_rfl) rfl (fun K hK=>?_);rw [if_pos (by rfl)];clear hHeld;refine wp_store_mid 62 (.tmp 36) (.tmp 29) rfl g (ai*9) (acC y).toArray rfl rfl (AcR.there HA.out (i:=ai) (by omega)) aF (fu rfl) ?_;rw [show(acC y).toArray.toList=acC y from rfl];have HP0:=aa (AcR.put HA.out (i:=ai) (by omega) y).1;have hq0:=(AcR.put HA.out (i:=ai) (by omega) y).2;generalize World.setCells _ g (ai*9) (acC y)=V20 at*;refine hK.out _ _ trivial (fun hHeld=>?_);clear hK K;(try simp only [Act.put]);refine tq 22 37 rfl (by kernel_rfl) (fun _ _ _ h=>absurd h.1 (by simp)) rfl ‹_› (by intro w h;go_simp <;>with_reducible rfl) ?_;simp only [nz];refine rnq 23 (by kernel_rfl) rfl (fun K hK=>?_);rw [if_pos (by rfl)];clear hHeld;refine wp_store_mid 62 (.tmp 37) (.tmp 35) rfl g (bi*9) (acC x).toArray rfl rfl (AcR.there HP0.out (i:=bi) (by omega)) aF (fu rfl) ?_;rw [show(acC x).toArray.toList=acC x from rfl];have HP1:=aa (AcR.put HP0.out (i:=bi) (by omega) x).1;have hq1:=(AcR.put HP0.out (i:=bi) (by omega) x).2;generalize World.setCells _ g (bi*9) (acC x)=V21 at*;refine hK.out _ _ trivial (fun hHeld=>?_);clear hK K;(try simp only [Act.put]);refine wpAnyH_done (by kernel_rfl) ?_ _;clear hHeld;exact⟨rfl,rfl,HP1.out,ay HG.out (ay hq0 hq1)⟩
    ·rw [if_pos (by rfl)];clear hHeld;refine wp_load_mid 62 (.tmp 34) rfl g (ai*9) rfl (acC x) _ (HR1.out _ HA.out) Tryz.underlying62 rfl aF ?_;refine hK.out _ _ trivial (fun hHeld=>?_);clear hK K;(try simp only [nz]);refine rsq 13 29 (by kernel_rfl) rfl (fun K hK=>?_);rw [if_pos (by rfl)];clear hHeld;refine wp_load_mid 62 (.tmp 28) rfl g (bi*9) rfl (acC y) _ (HR2.out _ HA.out) Tryz.underlying62 rfl aF ?_;refine hK.out _ _ trivial (fun hHeld=>?_);clear hK K;(try simp only [nz]);refine tq 20 36 rfl (by kernel_rfl) (fun _ _ _ h=>absurd h.1 (by simp)) rfl ‹_› (by intro w h;go_simp <;>with_reducible rfl) ?_;simp only [nz];refine rnq 21 (by kernel_rfl) rfl (fun K hK=>?_);rw [if_pos (by rfl)];clear hHeld;refine wp_store_mid 62 (.tmp 36) (.tmp 29) rfl g (ai*9) (acC y).toArray rfl rfl (AcR.there HA.out (i:=ai) (by omega)) aF (fu rfl) ?_;rw [show(acC y).toArray.toList=acC y from rfl];have HP0:=aa (AcR.put HA.out (i:=ai) (by omega) y).1;have hq0:=(AcR.put HA.out (i:=ai) (by omega) y).2;generalize World.setCells _ g (ai*9) (acC y)=V20 at*;refine hK.out _ _ trivial (fun hHeld=>?_);clear hK K;(try simp only [Act.put]);refine tq 22 37 rfl (by kernel_rfl) (fun _ _ _ h=>absurd h.1 (by simp)) rfl ‹_› (by intro w h;go_simp <;>with_reducible rfl) ?_;simp only [nz];refine rnq 23 (by kernel_rfl) rfl (fun K hK=>?_);rw [if_pos (by rfl)];clear hHeld;refine wp_store_mid 62 (.tmp 37) (.tmp 35) rfl g (bi*9) (acC x).toArray rfl rfl (AcR.there HP0.out (i:=bi) (by omega)) aF (fu rfl) ?_;rw [show(acC x).toArray.toList=acC x from rfl];have HP1:=aa (AcR.put HP0.out (i:=bi) (by omega) x).1;have hq1:=(AcR.put HP0.out (i:=bi) (by omega) x).2;generalize World.setCells _ g (bi*9) (acC x)=V21 at*;refine hK.out _ _ trivial (fun hHeld=>?_);clear hK K;(try simp only [Act.put]);refine wpAnyH_done (by kernel_rfl) ?_ _;clear hHeld;exact⟨rfl,rfl,HP1.out,ay HG.out (ay hq0 hq1)⟩
   intro W3 hW3;obtain⟨hA3,hG3⟩:=hW3;rw [HSW.out]at hA3;have HA3:=aa hA3;have HG3:=aa hG3;clear hA3 hG3 HA HG HR1 HR2 HSW;go_wp2_with fail
   go_roundw
   case rel=>exact⟨k1,by omega,rfl,HA3,HG3⟩
   case measure=>simp [intOf];omega
  ·have hke:k=n:=(by omega);have nlt:¬((k:Int)<(n:Int)):=(by omega);have HE:Hid (AcR wr B g c N T):=by rw [HT.out];have:=HA.out;unfold ph at this;rw [hke,List.take_of_length_le (Nat.le_of_eq HV.out),List.take_of_length_le (Nat.le_of_eq HU.out),List.drop_of_length_le (Nat.le_of_eq HV.out),List.drop_of_length_le (Nat.le_of_eq HU.out)]at this;simp only [List.append_nil]at this;exact aa this
   clear HA hke;go_wp2_with fail
   go_end0;exact⟨rfl,HE.out,HG.out⟩
theorem sw (P U V R:List Ac) (B g c N a m b:Nat) (w:World) (hA:AcR w B g c N (P++U++V++R)) (hU:0<U.length) (hV:0<V.length) (ha:a=P.length) (hm:m=P.length+U.length) (hb:b=P.length+U.length+V.length) (hN:N≤1000):
  Calls Tryz.prog 215 #[.slice (some ⟨g,0,none⟩) N c,.int .i64 (a:Int),.int .i64 (m:Int),.int .i64 (b:Int),.func (.func 136) #[] #[]] w fun e w'=>e= .returned (.tuple #[])∧AcR w' B g c N (P++V++U++R)∧w.grownBy w' (some g):=by
 have hlen:P.length+U.length+V.length+R.length=N:=by have:=hA.1;simp only [List.length_append]at this;omega
 obtain⟨T,hT⟩:∃T,T=P++V++U++R:=⟨_,rfl⟩;rw [←hT];have HT:=aa hT.symm;have HA0:=aa hA;obtain⟨i1,hi1⟩:∃i1,i1=U.length:=⟨_,rfl⟩;obtain⟨j1,hj1⟩:∃j1,j1=V.length:=⟨_,rfl⟩;have HI1:=aa hi1.symm;have HJ1:=aa hj1.symm;have HM1:Hid (P.length+i1=m):=aa (by omega);have hw1:IntKind.i64.wrap ((m:Int)-(a:Int))=(i1:Int):=(ba _ (by omega) (by omega)).trans (by omega);have hw2:IntKind.i64.wrap ((b:Int)-(m:Int))=(j1:Int):=(ba _ (by omega) (by omega)).trans (by omega);have h0i:0<i1∧0<j1∧i1≤m∧m+j1≤N:=by omega
 clear hA hT ha hm hb hlen hi1 hj1 hU hV;go_enter Tryz.func215,Tryz.ntmps215;go_wp2_with fail
 go_loopw [10,11] (fun i j wr=>∃(P' U' V' R':List Ac) (i0 j0:Nat),Hid (P'++V'++U'++R'=T)∧(Hid (U'.length=i0)∧Hid (V'.length=j0)∧Hid (P'.length+i0=m))∧(0<i0∧0<j0∧i0≤m∧m+j0≤N)∧i= .int .i64 (i0:Int)∧j= .int .i64 (j0:Int)∧Hid (AcR wr B g c N (P'++U'++V'++R'))∧Hid (w.grownBy wr (some g))) (fun i j _=>(intOf i).toNat+(intOf j).toNat)
 case atStart=>exact⟨P,U,V,R,i1,j1,HT,⟨HI1,HJ1,HM1⟩,h0i,rfl,rfl,HA0,aa (grown_refl' _ _)⟩
 case round=>
  clear HA0 HT HI1 HJ1 HM1 h0i;obtain⟨P2,U2,V2,R2,i0,j0,HT,⟨HI,HJ,HM⟩,⟨hi,hj,him,hjn⟩,rfl,rfl,HA,HG⟩:=hrel;obtain⟨mi,hmi⟩:∃mi,mi=m-i0:=⟨_,rfl⟩;have HMI:=aa hmi;have hw3:IntKind.i64.wrap ((m:Int)-(i0:Int))=(mi:Int):=(ba _ (by omega) (by omega)).trans (by omega);clear hmi;rcases Nat.lt_trichotomy i0 j0 with hlt | heq | hgt
  ·have q1:(i0 != j0)=true:=by simp;omega
   have q2:¬(j0<i0):=(by omega);have q3:¬i0=j0:=(by omega);obtain⟨ji,hji⟩:∃ji,ji=j0-i0:=⟨_,rfl⟩;obtain⟨mj,hmj⟩:∃mj,mj=m+j0:=⟨_,rfl⟩;obtain⟨mk,hmk⟩:∃mk,mk=mj-i0:=⟨_,rfl⟩;have hw4:IntKind.i64.wrap ((m:Int)+(j0:Int))=(mj:Int):=(ba _ (by omega) (by omega)).trans (by omega);have hw5:IntKind.i64.wrap ((mj:Int)-(i0:Int))=(mk:Int):=(ba _ (by omega) (by omega)).trans (by omega);have hw6:IntKind.i64.wrap ((j0:Int)-(i0:Int))=(ji:Int):=(ba _ (by omega) (by omega)).trans (by omega);have hjl:(V2.drop ji).length=i0:=by rw [List.length_drop,HJ.out];omega
   have hjt:(V2.take ji).length=ji:=by rw [List.length_take,HJ.out];omega
   have HSW:=aa (mo P2 U2 (V2.take ji) (V2.drop ji) R2 B g c N mi mk i0 wr (by have:=HA.out;rw [List.append_assoc (P2++U2),List.append_assoc (P2++U2),List.take_append_drop];simpa using this) HI.out hjl (by have:=HM.out;have:=HMI.out;omega) (by have:=HM.out;rw [hjt];omega) hN);have HT2:Hid (P2++V2.take ji++V2.drop ji++(U2++R2)=T):=by rw [←HT.out,List.append_assoc P2,List.take_append_drop];exact aa (by simp)
   have HJL:=aa hjl;have HJT:=aa hjt;have hjx:0<ji∧ji<j0:=(by omega);have hjy:m+ji≤N:=(by omega);have HMJ:Hid (P2.length+i0=m):=HM;clear hji hmj hmk hjl hjt HA;go_wp2_with fail
   refine(ag HSW).mono ?_;rintro e W3 ⟨rfl,hA3,hG3⟩;have HA3:Hid (AcR W3 B g c N (P2++V2.drop ji++V2.take ji++(U2++R2))):=aa (by simpa using hA3);have HG3:=aa (ay HG.out hG3);clear hA3 hG3 HSW HG HT HM;go_wp2_with fail
   go_roundw
   case rel=>exact⟨P2,V2.drop ji,V2.take ji,U2++R2,i0,ji,HT2,⟨HJL,HJT,HMJ⟩,⟨hi,hjx.1,him,hjy⟩,rfl,rfl,HA3,HG3⟩
   case measure=>simp [intOf];omega
  ·subst heq;have q1:(i0 != i0)=false:=(by simp);have HSW:=aa (mo P2 U2 [] V2 R2 B g c N mi m i0 wr (by simpa using HA.out) HI.out HJ.out (by have:=HM.out;have:=HMI.out;omega) (by have:=HM.out;simp;omega) hN);clear HA;go_wp2_with fail
   refine(ag HSW).mono ?_;rintro e W3 ⟨rfl,hA3,hG3⟩;have HA3:Hid (AcR W3 B g c N T):=by rw [←HT.out];exact aa (by simpa using hA3)
   have HG3:=aa (ay HG.out hG3);clear hA3 hG3 HSW HG HT;go_wp2_with fail
   go_end0;exact⟨rfl,HA3.out,HG3.out⟩
  ·have q1:(i0 != j0)=true:=by simp;omega
   have q3:¬i0=j0:=(by omega);obtain⟨ij,hij⟩:∃ij,ij=i0-j0:=⟨_,rfl⟩;have hw6:IntKind.i64.wrap ((i0:Int)-(j0:Int))=(ij:Int):=(ba _ (by omega) (by omega)).trans (by omega);have hjl:(U2.take j0).length=j0:=by rw [List.length_take,HI.out];omega
   have hjt:(U2.drop j0).length=ij:=by rw [List.length_drop,HI.out];omega
   have HSW:=aa (mo P2 (U2.take j0) (U2.drop j0) V2 R2 B g c N mi m j0 wr (by have:=HA.out;rw [List.append_assoc P2,List.take_append_drop];exact this) hjl HJ.out (by have:=HM.out;have:=HMI.out;omega) (by have:=HM.out;rw [hjt];omega) hN);have HT2:Hid (P2++V2++U2.take j0++U2.drop j0++R2=T):=by rw [←HT.out,List.append_assoc (P2++V2),List.take_append_drop];exact aa rfl
   have HJL:=aa hjl;have HJT:=aa hjt;have hjx:0<ij∧ij<i0:=(by omega);have hjy:ij≤m:=(by omega);have HMJ:Hid ((P2++V2).length+ij=m):=by have:=HM.out;rw [List.length_append,HJ.out];exact aa (by omega)
   clear hij hjl hjt HA;go_wp2_with fail
   refine(ag HSW).mono ?_;rintro e W3 ⟨rfl,hA3,hG3⟩;have HA3:Hid (AcR W3 B g c N ((P2++V2)++U2.drop j0++U2.take j0++R2)):=aa (by simpa using hA3);have HG3:=aa (ay HG.out hG3);clear hA3 hG3 HSW HG HT HM;go_wp2_with fail
   go_roundw
   case rel=>exact⟨P2++V2,U2.drop j0,U2.take j0,R2,ij,j0,HT2,⟨HJT,HJL,HMJ⟩,⟨hjx.1,hj,hjy,hjn⟩,rfl,rfl,HA3,HG3⟩
   case measure=>simp [intOf];omega
theorem yl {X A:List Ac} {y:Ac} {R:List Ac} {i:Nat} (hi:i<A.length):(bo X A y R 0).getD (X.length+1+i) ac0=A.getD i ac0:=by
 unfold bo;simp only [List.take_zero,List.drop_zero,List.nil_append];rw [List.append_assoc,Nat.add_assoc,bf,Nat.add_comm 1 i];show((y::A)++R).getD (i+1) ac0=_;rw [dt (by simp;omega)];rfl
theorem wC {X A:List Ac} {y:Ac} {R:List Ac} {i:Nat} (hi:i<A.length):(bo X A y R A.length).getD (X.length+i) ac0=A.getD i ac0:=by
 unfold bo;rw [List.take_length,List.drop_length,List.append_assoc,bf,List.append_assoc,dt hi]
theorem By {p q h:Nat} (hh:h=(p+q)/2):((p:Int)+(q:Int))/2=(h:Int):=by omega
theorem sK (P Bq R:List Ac) (x:Ac) (B g c N a m b:Nat) (w:World) (hA:AcR w B g c N (P++ [x]++Bq++R)) (hS:AscA Bq) (ha:a=P.length) (hm:m=P.length+1) (hb:b=P.length+1+Bq.length) (hN:N≤1000):
  Calls Tryz.prog 205 #[.slice (some ⟨g,0,none⟩) N c,.int .i64 (a:Int),.int .i64 (m:Int),.int .i64 (b:Int),.func (.func 136) #[] #[]] w fun e w'=>e= .returned (.tuple #[])∧AcR w' B g c N (P++mrg aD [x] Bq++R)∧w.grownBy w' (some g):=by
 have hlen:P.length+1+Bq.length+R.length=N:=by have:=hA.1;simp only [List.length_append,List.length_cons,List.length_nil]at this;omega
 obtain⟨T,hT⟩:∃T,T=P++mrg aD [x] Bq++R:=⟨_,rfl⟩;rw [←hT];have HT:Hid (∀k,k≤Bq.length→(k=0∨x.p<(Bq.getD (k-1) ac0).p)→(k=Bq.length∨(Bq.getD k ac0).p≤x.p)→bo P Bq x R k=T):=aa (fun k h0 h1 h2=>by rw [hT,vQ hS h0 h1 h2];rfl);have HA0:Hid (AcR w B g c N (bo P Bq x R 0)):=by refine aa ?_;unfold bo;simpa using hA
 have HCM:=aa iC;obtain⟨n,hn⟩:∃n,n=Bq.length:=⟨_,rfl⟩;have HN:=aa hn;obtain⟨ha2,ha3⟩:=le2 ha;obtain⟨hm2,hm3⟩:=le2 hm;obtain⟨hb2,hb3⟩:=le2 hb;obtain⟨hl2,hl3⟩:=le2 hlen;obtain⟨hn2,hn3⟩:=le2 hn;have hw1:IntKind.i64.wrap ((m:Int)-(a:Int))=1:=(ba _ (by omega) (by omega)).trans (by omega);clear hA hT ha hm hb hlen hn hS;go_enter Tryz.func205,Tryz.ntmps205;go_wp2_with fail
 go_loopw [10,11] (fun i j wr=>∃(k1 k2 i0 j0:Nat),(i0=m+k1∧j0=m+k2)∧(k1≤k2∧k2≤n)∧i= .int .i64 (i0:Int)∧j= .int .i64 (j0:Int)∧Hid (k1=0∨x.p<(Bq.getD (k1-1) ac0).p)∧Hid (k2=n∨(Bq.getD k2 ac0).p≤x.p)∧Hid (AcR wr B g c N (bo P Bq x R 0))∧Hid (w.grownBy wr (some g))) (fun i j _=>(intOf j).toNat-(intOf i).toNat)
 case atStart=>exact⟨0,n,m,b,⟨by omega,by omega⟩,⟨by omega,Nat.le_refl _⟩,rfl,rfl,aa (.inl rfl),aa (.inl rfl),HA0,aa (grown_refl' _ _)⟩
 case round=>
  clear HA0;obtain⟨k1,k2,i0,j0,⟨hi,hj⟩,⟨hk1,hk2⟩,rfl,rfl,HF1,HF2,HA,HG⟩:=hrel;obtain⟨hi2,hi3⟩:=le2 hi;obtain⟨hj2,hj3⟩:=le2 hj;clear hi hj;by_cases hlt:i0<j0
  ·obtain⟨h,hh⟩:∃h,h=(i0+j0)/2:=⟨_,rfl⟩;have e2:=By hh;have hih:i0≤h:=(by omega);have hhj:h<j0:=(by omega);clear hh;obtain⟨kh,hkh⟩:∃kh,kh=h-m:=⟨_,rfl⟩;obtain⟨hkh2,hkh3⟩:=le2 hkh;obtain⟨h1,hh1⟩:∃h1,h1=h+1:=⟨_,rfl⟩;obtain⟨hh2,hh3⟩:=le2 hh1;have hw2:IntKind.i64.wrap ((h:Int)+1)=(h1:Int):=(ba _ (by omega) (by omega)).trans (by omega);clear hkh hh1;have t0:(0:Int)≤(h:Int):=(by omega);have t1:(h:Int)<(N:Int):=(by omega);have t2:(0:Int)≤(a:Int):=(by omega);have t3:(a:Int)<(N:Int):=(by omega);obtain⟨z,hz⟩:∃z,z=Bq.getD kh ac0:=⟨_,rfl⟩;have HR1:Hid (∀W,AcR W B g c N (bo P Bq x R 0)→W.rangeAt g (h*9) (acC z)):=aa (fun W hW=>by have:=hW.range (i:=h) (by omega);rwa [show h=P.length+1+kh by omega,yl (by omega), ←hz, ←show h=P.length+1+kh by omega]at this);have HR2:Hid (∀W,AcR W B g c N (bo P Bq x R 0)→W.rangeAt g (a*9) (acC x)):=aa (fun W hW=>by have:=hW.range (i:=a) (by omega);rwa [show a=P.length+0 by omega,jM (by omega), ←show a=P.length+0 by omega]at this);have HLT:=aa (kj x.p z.p);have HZ:=aa hz;clear hz;go_wp2_with fail
   clear e2;have HD:Hid (AcR wr.drew B g c N _):=aa (HA.out.below ((Below.refl _ _).drew));refine wp_region_held_drew (S:=fun w'=>w'.rangeAt g (h*9) (acC z)∧w'.rangeAt g (a*9) (acC x)) (by kernel_rfl) ⟨HR1.out _ HD.out,HR2.out _ HD.out⟩ (fun hHeld=>?_);refine sqA [(0,40),(1,41),(2,42),(3,43)] ?_;(iterate 4 (refine sqN rfl (by kernel_rfl) (fun _ _ _ h=>h) rfl ‹_› (by intro w h;go_simp <;>with_reducible rfl) ?_;simp only [nz]));refine sqZ ?_;refine wpAnyH_take (i:=4) (oi:=⟨some 44,_,_,_,_,_⟩) (v:=.agg (acC z).toArray) rfl (by kernel_rfl) (by kernel_rfl) (by kernel_rfl) (fun _ _ _ h=>h) (yieldsIf_load_mid (by rfl) 62 (.tmp 43) rfl g (h*9) rfl (acC z) _ (fun w h=>h.1) Tryz.underlying62 rfl aF) (by assumption) ?_;(try simp only [nz]);refine sqA [(5,45),(6,46),(7,47)] ?_;(iterate 3 (refine sqN rfl (by kernel_rfl) (fun _ _ _ h=>h) rfl ‹_› (by intro w h;go_simp <;>with_reducible rfl) ?_;simp only [nz]));refine sqZ ?_;refine wpAnyH_take (i:=8) (oi:=⟨some 48,_,_,_,_,_⟩) (v:=.agg (acC x).toArray) rfl (by kernel_rfl) (by kernel_rfl) (by kernel_rfl) (fun _ _ _ h=>h) (yieldsIf_load_mid (by rfl) 62 (.tmp 47) rfl g (a*9) rfl (acC x) _ (fun w h=>h.2) Tryz.underlying62 rfl aF) (by assumption) ?_;(try simp only [nz]);refine rsq 9 49 (by kernel_rfl) rfl (fun K hK=>?_);go_simp;clear hHeld;refine(ag HCM z x _).mono ?_;rintro e V ⟨rfl,hb⟩;replace HA:=aa (HD.out.below hb);replace HG:=aa (cl HG.out (((Below.refl _ _).drew).trans hb));clear HD hb;refine hK.out _ _ ⟨HR1.out _ HA.out,HR2.out _ HA.out⟩ (fun hHeld=>?_);clear hK K;(try simp only [nz]);refine tq 10 50 rfl (by kernel_rfl) (fun _ _ _ h=>h) rfl ‹_› (by intro w h;go_simp <;>with_reducible rfl) ?_;simp only [nz];refine wpAnyH_done (by kernel_rfl) ?_ _;clear hHeld;by_cases hle:x.p<z.p
   ·have hl2x:aJ x.p z.p<0:=by rw [HLT.out];exact hle
    have HF3:Hid (kh+1=0∨x.p<(Bq.getD (kh+1-1) ac0).p):=aa (.inr (by rw [Nat.add_sub_cancel, ←HZ.out];exact hle));clear HR1 HR2 HF1;go_wp2_with fail
    go_roundw
    case rel=>exact⟨kh+1,k2,h1,j0,⟨by omega,by omega⟩,⟨by omega,hk2⟩,rfl,rfl,HF3,HF2,HA,HG⟩
    case measure=>simp [intOf];omega
   ·have hl2x:¬aJ x.p z.p<0:=by rw [HLT.out];exact hle
    have HF3:Hid (kh=n∨(Bq.getD kh ac0).p≤x.p):=aa (.inr (by rw [←HZ.out];omega));clear HR1 HR2 HF2;go_wp2_with fail
    go_roundw
    case rel=>exact⟨k1,kh,i0,h,⟨by omega,by omega⟩,⟨by omega,by omega⟩,rfl,rfl,HF1,HF3,HA,HG⟩
    case measure=>simp [intOf];omega
  ·have hke:k1=k2:=(by omega);have HTT:=aa (HT.out k1 (by omega) HF1.out (by rw [hke, ←HN.out];exact HF2.out));clear hke HF1 HF2 HT;obtain⟨il,hil⟩:∃il,il=i0-1:=⟨_,rfl⟩;obtain⟨hil2,hil3⟩:=le2 hil;have hw3:IntKind.i64.wrap ((i0:Int)-1)=(il:Int):=(ba _ (by omega) (by omega)).trans (by omega);clear hil
   rename World=>W1
   go_wp2_with fail
   go_loopw [13] (fun v wr=>∃(t v0:Nat),v0=a+t∧t≤k1∧v= .int .i64 (v0:Int)∧Hid (AcR wr B g c N (bo P Bq x R t))∧Hid (w.grownBy wr (some g))) (fun v _=>i0-(intOf v).toNat)
   case atStart=>exact⟨0,a,by omega,by omega,rfl,HA,HG⟩
   case round=>
    clear HA HG;obtain⟨t,v0,hv,htk,rfl,HA,HG⟩:=hrel;obtain⟨hv2,hv3⟩:=le2 hv;clear hv;by_cases htl:t<k1
    ·have htn:t<Bq.length:=(by omega);have q1:(v0:Int)<(il:Int):=(by omega);obtain⟨v1,hv1⟩:∃v1,v1=v0+1:=⟨_,rfl⟩;obtain⟨hv4,hv5⟩:=le2 hv1;have hw4:IntKind.i64.wrap ((v0:Int)+1)=(v1:Int):=(ba _ (by omega) (by omega)).trans (by omega);clear hv1;have t0:(0:Int)≤(v0:Int):=(by omega);have t1:(v0:Int)<(N:Int):=(by omega);have t2:(0:Int)≤(v1:Int):=(by omega);have t3:(v1:Int)<(N:Int):=(by omega);obtain⟨z,hz⟩:∃z,z=Bq.getD t ac0:=⟨_,rfl⟩;have HR1:Hid (∀W,AcR W B g c N (bo P Bq x R t)→W.rangeAt g (v0*9) (acC x)):=aa (fun W hW=>by have:=hW.range (i:=v0) (by omega);rwa [show v0=P.length+t by omega,jM (by omega), ←show v0=P.length+t by omega]at this);have HR2:Hid (∀W,AcR W B g c N (bo P Bq x R t)→W.rangeAt g (v1*9) (acC z)):=aa (fun W hW=>by have:=hW.range (i:=v1) (by omega);rwa [show v1=P.length+t+1 by omega,uW htn, ←hz, ←show v1=P.length+t+1 by omega]at this);have HSW:Hid (((bo P Bq x R t).set v0 z).set v1 x=bo P Bq x R (t+1)):=aa (by rw [hz,show v1=P.length+t+1 by omega,show v0=P.length+t by omega];exact np htn);clear hz;obtain⟨LL,hLL⟩:∃LL,LL=bo P Bq x R t:=⟨_,rfl⟩;rw [←hLL]at HA HR1 HR2 HSW;clear hLL;go_wp2_with fail
     apply jH _ (fun w'=>AcR w' B g c N ((LL.set v0 z).set v1 x)∧w.grownBy w' (some g))
     ·have hDr:Below wr.heap.size wr wr.drew:=(Below.refl _ _).drew;replace HA:=aa (HA.out.below hDr);replace HG:=aa (cl HG.out hDr);clear hDr;refine wp_region_held_drew (S:=fun _=>True) (by kernel_rfl) trivial (fun hHeld=>?_);generalize wr.drew=V2 at*;refine sqA [(0,61),(1,62),(2,63),(3,64),(4,65),(5,66),(6,67),(7,68),(8,69),(10,71),(11,72),(12,73)] ?_;(iterate 12 (refine sqN rfl (by kernel_rfl) (fun _ _ _ h=>absurd h.1 (by simp)) rfl ‹_› (by intro w h;go_simp <;>with_reducible rfl) ?_;simp only [nz]));refine sqZ ?_;refine wpAnyH_ready (rs:=[9,13]) (by kernel_rfl) (by simp) ?_;refine(AllReadyH.cons (o:=⟨some 70,_,_,_,_,_⟩) rfl (fun K hK=>?_) (AllReadyH.cons (o:=⟨some 74,_,_,_,_,_⟩) rfl (fun K hK=>?_) AllReadyH.nil))
      ·rw [if_pos (by rfl)];clear hHeld;refine wp_load_mid 62 (.tmp 69) rfl g (v1*9) rfl (acC z) _ (HR2.out _ HA.out) Tryz.underlying62 rfl aF ?_;refine hK.out _ _ trivial (fun hHeld=>?_);clear hK K;(try simp only [nz]);refine rsq 13 74 (by kernel_rfl) rfl (fun K hK=>?_);rw [if_pos (by rfl)];clear hHeld;refine wp_load_mid 62 (.tmp 73) rfl g (v0*9) rfl (acC x) _ (HR1.out _ HA.out) Tryz.underlying62 rfl aF ?_;refine hK.out _ _ trivial (fun hHeld=>?_);clear hK K;(try simp only [nz]);refine tq 14 75 rfl (by kernel_rfl) (fun _ _ _ h=>absurd h.1 (by simp)) rfl ‹_› (by intro w h;go_simp <;>with_reducible rfl) ?_;simp only [nz];refine rnq 15 (by kernel_rfl) rfl (fun K hK=>?_);rw [if_pos (by rfl)];clear hHeld;refine wp_store_mid 62 (.tmp 75) (.tmp 70) rfl g (v0*9) (acC z).toArray rfl rfl (AcR.there HA.out (i:=v0) (by omega)) aF (fu rfl) ?_;rw [show(acC z).toArray.toList=acC z from rfl];have HP0:=aa (AcR.put HA.out (i:=v0) (by omega) z).1;have hq0:=(AcR.put HA.out (i:=v0) (by omega) z).2;generalize World.setCells _ g (v0*9) (acC z)=V20 at*;refine hK.out _ _ trivial (fun hHeld=>?_);clear hK K;(try simp only [Act.put]);refine tq 16 76 rfl (by kernel_rfl) (fun _ _ _ h=>absurd h.1 (by simp)) rfl ‹_› (by intro w h;go_simp <;>with_reducible rfl) ?_;simp only [nz];refine rnq 17 (by kernel_rfl) rfl (fun K hK=>?_);rw [if_pos (by rfl)];clear hHeld;refine wp_store_mid 62 (.tmp 76) (.tmp 74) rfl g (v1*9) (acC x).toArray rfl rfl (AcR.there HP0.out (i:=v1) (by omega)) aF (fu rfl) ?_;rw [show(acC x).toArray.toList=acC x from rfl];have HP1:=aa (AcR.put HP0.out (i:=v1) (by omega) x).1;have hq1:=(AcR.put HP0.out (i:=v1) (by omega) x).2;generalize World.setCells _ g (v1*9) (acC x)=V21 at*;refine hK.out _ _ trivial (fun hHeld=>?_);clear hK K;(try simp only [Act.put]);refine wpAnyH_done (by kernel_rfl) ?_ _;clear hHeld;exact⟨rfl,rfl,HP1.out,ay HG.out (ay hq0 hq1)⟩
      ·rw [if_pos (by rfl)];clear hHeld;refine wp_load_mid 62 (.tmp 73) rfl g (v0*9) rfl (acC x) _ (HR1.out _ HA.out) Tryz.underlying62 rfl aF ?_;refine hK.out _ _ trivial (fun hHeld=>?_);clear hK K;(try simp only [nz]);refine rsq 9 70 (by kernel_rfl) rfl (fun K hK=>?_);rw [if_pos (by rfl)];clear hHeld;refine wp_load_mid 62 (.tmp 69) rfl g (v1*9) rfl (acC z) _ (HR2.out _ HA.out) Tryz.underlying62 rfl aF ?_;refine hK.out _ _ trivial (fun hHeld=>?_);clear hK K;(try simp only [nz]);refine tq 14 75 rfl (by kernel_rfl) (fun _ _ _ h=>absurd h.1 (by simp)) rfl ‹_› (by intro w h;go_simp <;>with_reducible rfl) ?_;simp only [nz];refine rnq 15 (by kernel_rfl) rfl (fun K hK=>?_);rw [if_pos (by rfl)];clear hHeld;refine wp_store_mid 62 (.tmp 75) (.tmp 70) rfl g (v0*9) (acC z).toArray rfl rfl (AcR.there HA.out (i:=v0) (by omega)) aF (fu rfl) ?_;rw [show(acC z).toArray.toList=acC z from rfl];have HP0:=aa (AcR.put HA.out (i:=v0) (by omega) z).1;have hq0:=(AcR.put HA.out (i:=v0) (by omega) z).2;generalize World.setCells _ g (v0*9) (acC z)=V20 at*;refine hK.out _ _ trivial (fun hHeld=>?_);clear hK K;(try simp only [Act.put]);refine tq 16 76 rfl (by kernel_rfl) (fun _ _ _ h=>absurd h.1 (by simp)) rfl ‹_› (by intro w h;go_simp <;>with_reducible rfl) ?_;simp only [nz];refine rnq 17 (by kernel_rfl) rfl (fun K hK=>?_);rw [if_pos (by rfl)];clear hHeld;refine wp_store_mid 62 (.tmp 76) (.tmp 74) rfl g (v1*9) (acC x).toArray rfl rfl (AcR.there HP0.out (i:=v1) (by omega)) aF (fu rfl) ?_;rw [show(acC x).toArray.toList=acC x from rfl];have HP1:=aa (AcR.put HP0.out (i:=v1) (by omega) x).1;have hq1:=(AcR.put HP0.out (i:=v1) (by omega) x).2;generalize World.setCells _ g (v1*9) (acC x)=V21 at*;refine hK.out _ _ trivial (fun hHeld=>?_);clear hK K;(try simp only [Act.put]);refine wpAnyH_done (by kernel_rfl) ?_ _;clear hHeld;exact⟨rfl,rfl,HP1.out,ay HG.out (ay hq0 hq1)⟩
     intro W3 hW3;obtain⟨hA3,hG3⟩:=hW3;rw [HSW.out]at hA3;have HA3:=aa hA3;have HG3:=aa hG3;clear hA3 hG3 HA HG HR1 HR2 HSW;go_wp2_with fail
     go_roundw
     case rel=>exact⟨t+1,v1,by omega,by omega,rfl,HA3,HG3⟩
     case measure=>simp [intOf];omega
    ·have htk2:t=k1:=(by omega);have q1:¬((v0:Int)<(il:Int)):=(by omega);have HE:Hid (AcR wr B g c N T):=by rw [←HTT.out, ←htk2];exact HA
     clear HA HTT htk2;go_wp2_with fail
     (try simp only [Exit.inBlock,Exit.then]);refine bodyPost_ret (results_none rfl _ _ _) rfl ?_
     exact⟨rfl,HE.out,HG.out⟩
theorem qw (P A R:List Ac) (y:Ac) (B g c N a m b:Nat) (w:World) (hA:AcR w B g c N (P++A++ [y]++R)) (hS:AscA A) (h2:2≤A.length) (ha:a=P.length) (hm:m=P.length+A.length) (hb:b=P.length+A.length+1) (hN:N≤1000):
  Calls Tryz.prog 205 #[.slice (some ⟨g,0,none⟩) N c,.int .i64 (a:Int),.int .i64 (m:Int),.int .i64 (b:Int),.func (.func 136) #[] #[]] w fun e w'=>e= .returned (.tuple #[])∧AcR w' B g c N (P++mrg aD A [y]++R)∧w.grownBy w' (some g):=by
 have hlen:P.length+A.length+1+R.length=N:=by have:=hA.1;simp only [List.length_append,List.length_cons,List.length_nil]at this;omega
 obtain⟨T,hT⟩:∃T,T=P++mrg aD A [y]++R:=⟨_,rfl⟩;rw [←hT];have HT:Hid (∀k,k≤A.length→(k=0∨y.p≤(A.getD (k-1) ac0).p)→(k=A.length∨(A.getD k ac0).p<y.p)→bo P A y R k=T):=aa (fun k h0 h1 h2=>by rw [hT,nt hS h0 h1 h2];rfl);have HA0:Hid (AcR w B g c N (bo P A y R A.length)):=by refine aa ?_;unfold bo;simpa using hA
 have HCM:=aa iC;obtain⟨n,hn⟩:∃n,n=A.length:=⟨_,rfl⟩;have HN:=aa hn;rw [←hn]at HA0;obtain⟨ha2,ha3⟩:=le2 ha;obtain⟨hm2,hm3⟩:=le2 hm;obtain⟨hb2,hb3⟩:=le2 hb;obtain⟨hl2,hl3⟩:=le2 hlen;obtain⟨hn2,hn3⟩:=le2 hn;obtain⟨ma,hma⟩:∃ma,ma=m-a:=⟨_,rfl⟩;obtain⟨hma2,hma3⟩:=le2 hma;have hw1:IntKind.i64.wrap ((m:Int)-(a:Int))=(ma:Int):=(ba _ (by omega) (by omega)).trans (by omega);have hw0:IntKind.i64.wrap ((b:Int)-(m:Int))=1:=(ba _ (by omega) (by omega)).trans (by omega);have hm1:((ma:Int)==1)=false:=by simp;omega
 have hm1b:¬ma=1:=by omega
 clear hA hT ha hm hb hlen hn hS hma h2;go_enter Tryz.func205,Tryz.ntmps205;go_wp2_with fail
 go_loopw [14,15] (fun i j wr=>∃(k1 k2 i0 j0:Nat),(i0=a+k1∧j0=a+k2)∧(k1≤k2∧k2≤n)∧i= .int .i64 (i0:Int)∧j= .int .i64 (j0:Int)∧Hid (k1=0∨y.p≤(A.getD (k1-1) ac0).p)∧Hid (k2=n∨(A.getD k2 ac0).p<y.p)∧Hid (AcR wr B g c N (bo P A y R n))∧Hid (w.grownBy wr (some g))) (fun i j _=>(intOf j).toNat-(intOf i).toNat)
 case atStart=>exact⟨0,n,a,m,⟨by omega,by omega⟩,⟨by omega,Nat.le_refl _⟩,rfl,rfl,aa (.inl rfl),aa (.inl rfl),HA0,aa (grown_refl' _ _)⟩
 case round=>
  clear HA0;obtain⟨k1,k2,i0,j0,⟨hi,hj⟩,⟨hk1,hk2⟩,rfl,rfl,HF1,HF2,HA,HG⟩:=hrel;obtain⟨hi2,hi3⟩:=le2 hi;obtain⟨hj2,hj3⟩:=le2 hj;clear hi hj;by_cases hlt:i0<j0
  ·obtain⟨h,hh⟩:∃h,h=(i0+j0)/2:=⟨_,rfl⟩;have e2:=By hh;have hih:i0≤h:=(by omega);have hhj:h<j0:=(by omega);clear hh;obtain⟨kh,hkh⟩:∃kh,kh=h-a:=⟨_,rfl⟩;obtain⟨hkh2,hkh3⟩:=le2 hkh;obtain⟨h1,hh1⟩:∃h1,h1=h+1:=⟨_,rfl⟩;obtain⟨hh2,hh3⟩:=le2 hh1;have hw2:IntKind.i64.wrap ((h:Int)+1)=(h1:Int):=(ba _ (by omega) (by omega)).trans (by omega);clear hkh hh1;have t0:(0:Int)≤(h:Int):=(by omega);have t1:(h:Int)<(N:Int):=(by omega);have t2:(0:Int)≤(m:Int):=(by omega);have t3:(m:Int)<(N:Int):=(by omega);obtain⟨z,hz⟩:∃z,z=A.getD kh ac0:=⟨_,rfl⟩;have HR1:Hid (∀W,AcR W B g c N (bo P A y R n)→W.rangeAt g (m*9) (acC y)):=aa (fun W hW=>by have:=hW.range (i:=m) (by omega);rwa [show m=P.length+n by omega,jM (by omega), ←show m=P.length+n by omega]at this);have HR2:Hid (∀W,AcR W B g c N (bo P A y R n)→W.rangeAt g (h*9) (acC z)):=aa (fun W hW=>by have:=hW.range (i:=h) (by omega);rwa [HN.out,show h=P.length+kh by omega,wC (by omega), ←hz, ←show h=P.length+kh by omega]at this);have HLT:=aa (kj z.p y.p);have HZ:=aa hz;clear hz;go_wp2_with fail
   clear e2;have HD:Hid (AcR wr.drew B g c N _):=aa (HA.out.below ((Below.refl _ _).drew));refine wp_region_held_drew (S:=fun w'=>w'.rangeAt g (m*9) (acC y)∧w'.rangeAt g (h*9) (acC z)) (by kernel_rfl) ⟨HR1.out _ HD.out,HR2.out _ HD.out⟩ (fun hHeld=>?_);refine sqA [(0,92),(1,93),(2,94),(3,95)] ?_;(iterate 4 (refine sqN rfl (by kernel_rfl) (fun _ _ _ h=>h) rfl ‹_› (by intro w h;go_simp <;>with_reducible rfl) ?_;simp only [nz]));refine sqZ ?_;refine wpAnyH_take (i:=4) (oi:=⟨some 96,_,_,_,_,_⟩) (v:=.agg (acC y).toArray) rfl (by kernel_rfl) (by kernel_rfl) (by kernel_rfl) (fun _ _ _ h=>h) (yieldsIf_load_mid (by rfl) 62 (.tmp 95) rfl g (m*9) rfl (acC y) _ (fun w h=>h.1) Tryz.underlying62 rfl aF) (by assumption) ?_;(try simp only [nz]);refine sqA [(5,97),(6,98),(7,99)] ?_;(iterate 3 (refine sqN rfl (by kernel_rfl) (fun _ _ _ h=>h) rfl ‹_› (by intro w h;go_simp <;>with_reducible rfl) ?_;simp only [nz]));refine sqZ ?_;refine wpAnyH_take (i:=8) (oi:=⟨some 100,_,_,_,_,_⟩) (v:=.agg (acC z).toArray) rfl (by kernel_rfl) (by kernel_rfl) (by kernel_rfl) (fun _ _ _ h=>h) (yieldsIf_load_mid (by rfl) 62 (.tmp 99) rfl g (h*9) rfl (acC z) _ (fun w h=>h.2) Tryz.underlying62 rfl aF) (by assumption) ?_;(try simp only [nz]);refine rsq 9 101 (by kernel_rfl) rfl (fun K hK=>?_);go_simp;clear hHeld;refine(ag HCM y z _).mono ?_;rintro e V ⟨rfl,hb⟩;replace HA:=aa (HD.out.below hb);replace HG:=aa (cl HG.out (((Below.refl _ _).drew).trans hb));clear HD hb;refine hK.out _ _ ⟨HR1.out _ HA.out,HR2.out _ HA.out⟩ (fun hHeld=>?_);clear hK K;(try simp only [nz]);refine sqA [(10,102),(11,103)] ?_;(iterate 2 (refine sqN rfl (by kernel_rfl) (fun _ _ _ h=>h) rfl ‹_› (by intro w h;go_simp <;>with_reducible rfl) ?_;simp only [nz]));refine sqZ ?_;refine wpAnyH_done (by kernel_rfl) ?_ _;clear hHeld;by_cases hle:z.p<y.p
   ·have hl2x:aJ z.p y.p<0:=by rw [HLT.out];exact hle
    have hl3x:(!decide (aJ z.p y.p<0))=false:=(by simp only [hl2x,decide_true,Bool.not_true]);rw [hl3x];have HF3:Hid (kh=n∨(A.getD kh ac0).p<y.p):=aa (.inr (by rw [←HZ.out];exact hle));clear HR1 HR2 HF2;go_wp2_with fail
    go_roundw
    case rel=>exact⟨k1,kh,i0,h,⟨by omega,by omega⟩,⟨by omega,by omega⟩,rfl,rfl,HF1,HF3,HA,HG⟩
    case measure=>simp [intOf];omega
   ·have hl2x:¬aJ z.p y.p<0:=by rw [HLT.out];exact hle
    have hl3x:(!decide (aJ z.p y.p<0))=true:=(by simp only [hl2x,decide_false,Bool.not_false]);rw [hl3x];have HF3:Hid (kh+1=0∨y.p≤(A.getD (kh+1-1) ac0).p):=aa (.inr (by rw [Nat.add_sub_cancel, ←HZ.out];omega));clear HR1 HR2 HF1;go_wp2_with fail
    go_roundw
    case rel=>exact⟨kh+1,k2,h1,j0,⟨by omega,by omega⟩,⟨by omega,hk2⟩,rfl,rfl,HF3,HF2,HA,HG⟩
    case measure=>simp [intOf];omega
  ·have hke:k1=k2:=(by omega);have HTT:=aa (HT.out k1 (by omega) HF1.out (by rw [hke, ←HN.out];exact HF2.out));clear hke HF1 HF2 HT
   rename World=>W1
   go_wp2_with fail
   go_loopw [17] (fun v wr=>∃(t v0:Nat),v0=a+t∧(k1≤t∧t≤n)∧v= .int .i64 (v0:Int)∧Hid (AcR wr B g c N (bo P A y R t))∧Hid (w.grownBy wr (some g))) (fun v _=>(intOf v).toNat)
   case atStart=>exact⟨n,m,by omega,⟨by omega,Nat.le_refl _⟩,rfl,HA,HG⟩
   case round=>
    clear HA HG;obtain⟨t,v0,hv,⟨htk,htn⟩,rfl,HA,HG⟩:=hrel;obtain⟨hv2,hv3⟩:=le2 hv;clear hv;by_cases htl:k1<t
    ·obtain⟨l,rfl⟩:∃l,t=l+1:=⟨t-1,by omega⟩;have hln:l<A.length:=(by omega);have q1:(i0:Int)<(v0:Int):=(by omega);obtain⟨v1,hv1⟩:∃v1,v1=v0-1:=⟨_,rfl⟩;obtain⟨hv4,hv5⟩:=le2 hv1;have hw4:IntKind.i64.wrap ((v0:Int)-1)=(v1:Int):=(ba _ (by omega) (by omega)).trans (by omega);clear hv1;have t0:(0:Int)≤(v0:Int):=(by omega);have t1:(v0:Int)<(N:Int):=(by omega);have t2:(0:Int)≤(v1:Int):=(by omega);have t3:(v1:Int)<(N:Int):=(by omega);obtain⟨z,hz⟩:∃z,z=A.getD l ac0:=⟨_,rfl⟩;have HR1:Hid (∀W,AcR W B g c N (bo P A y R (l+1))→W.rangeAt g (v0*9) (acC y)):=aa (fun W hW=>by have:=hW.range (i:=v0) (by omega);rwa [show v0=P.length+(l+1) by omega,jM (by omega), ←show v0=P.length+(l+1) by omega]at this);have HR2:Hid (∀W,AcR W B g c N (bo P A y R (l+1))→W.rangeAt g (v1*9) (acC z)):=aa (fun W hW=>by have:=hW.range (i:=v1) (by omega);rwa [show v1=P.length+l by omega,jA hln, ←hz, ←show v1=P.length+l by omega]at this);have HSW:Hid (((bo P A y R (l+1)).set v0 z).set v1 y=bo P A y R l):=aa (by rw [hz,show v0=P.length+l+1 by omega,show v1=P.length+l by omega];exact oM hln);clear hz;obtain⟨LL,hLL⟩:∃LL,LL=bo P A y R (l+1):=⟨_,rfl⟩;rw [←hLL]at HA HR1 HR2 HSW;clear hLL;go_wp2_with fail
     apply jH _ (fun w'=>AcR w' B g c N ((LL.set v0 z).set v1 y)∧w.grownBy w' (some g))
     ·have hDr:Below wr.heap.size wr wr.drew:=(Below.refl _ _).drew;replace HA:=aa (HA.out.below hDr);replace HG:=aa (cl HG.out hDr);clear hDr;refine wp_region_held_drew (S:=fun _=>True) (by kernel_rfl) trivial (fun hHeld=>?_);generalize wr.drew=V2 at*;refine sqA [(0,113),(1,114),(2,115),(3,116),(4,117),(5,118),(6,119),(7,120),(8,121),(10,123),(11,124),(12,125)] ?_;(iterate 12 (refine sqN rfl (by kernel_rfl) (fun _ _ _ h=>absurd h.1 (by simp)) rfl ‹_› (by intro w h;go_simp <;>with_reducible rfl) ?_;simp only [nz]));refine sqZ ?_;refine wpAnyH_ready (rs:=[9,13]) (by kernel_rfl) (by simp) ?_;refine(AllReadyH.cons (o:=⟨some 122,_,_,_,_,_⟩) rfl (fun K hK=>?_) (AllReadyH.cons (o:=⟨some 126,_,_,_,_,_⟩) rfl (fun K hK=>?_) AllReadyH.nil))
      ·rw [if_pos (by rfl)];clear hHeld;refine wp_load_mid 62 (.tmp 121) rfl g (v1*9) rfl (acC z) _ (HR2.out _ HA.out) Tryz.underlying62 rfl aF ?_;refine hK.out _ _ trivial (fun hHeld=>?_);clear hK K;(try simp only [nz]);refine rsq 13 126 (by kernel_rfl) rfl (fun K hK=>?_);rw [if_pos (by rfl)];clear hHeld;refine wp_load_mid 62 (.tmp 125) rfl g (v0*9) rfl (acC y) _ (HR1.out _ HA.out) Tryz.underlying62 rfl aF ?_;refine hK.out _ _ trivial (fun hHeld=>?_);clear hK K;(try simp only [nz]);refine tq 14 127 rfl (by kernel_rfl) (fun _ _ _ h=>absurd h.1 (by simp)) rfl ‹_› (by intro w h;go_simp <;>with_reducible rfl) ?_;simp only [nz];refine rnq 15 (by kernel_rfl) rfl (fun K hK=>?_);rw [if_pos (by rfl)];clear hHeld;refine wp_store_mid 62 (.tmp 127) (.tmp 122) rfl g (v0*9) (acC z).toArray rfl rfl (AcR.there HA.out (i:=v0) (by omega)) aF (fu rfl) ?_;rw [show(acC z).toArray.toList=acC z from rfl];have HP0:=aa (AcR.put HA.out (i:=v0) (by omega) z).1;have hq0:=(AcR.put HA.out (i:=v0) (by omega) z).2;generalize World.setCells _ g (v0*9) (acC z)=V20 at*;refine hK.out _ _ trivial (fun hHeld=>?_);clear hK K;(try simp only [Act.put]);refine tq 16 128 rfl (by kernel_rfl) (fun _ _ _ h=>absurd h.1 (by simp)) rfl ‹_› (by intro w h;go_simp <;>with_reducible rfl) ?_;simp only [nz];refine rnq 17 (by kernel_rfl) rfl (fun K hK=>?_);rw [if_pos (by rfl)];clear hHeld;refine wp_store_mid 62 (.tmp 128) (.tmp 126) rfl g (v1*9) (acC y).toArray rfl rfl (AcR.there HP0.out (i:=v1) (by omega)) aF (fu rfl) ?_;rw [show(acC y).toArray.toList=acC y from rfl];have HP1:=aa (AcR.put HP0.out (i:=v1) (by omega) y).1;have hq1:=(AcR.put HP0.out (i:=v1) (by omega) y).2;generalize World.setCells _ g (v1*9) (acC y)=V21 at*;refine hK.out _ _ trivial (fun hHeld=>?_);clear hK K;(try simp only [Act.put]);refine wpAnyH_done (by kernel_rfl) ?_ _;clear hHeld;exact⟨rfl,rfl,HP1.out,ay HG.out (ay hq0 hq1)⟩
      ·rw [if_pos (by rfl)];clear hHeld;refine wp_load_mid 62 (.tmp 125) rfl g (v0*9) rfl (acC y) _ (HR1.out _ HA.out) Tryz.underlying62 rfl aF ?_;refine hK.out _ _ trivial (fun hHeld=>?_);clear hK K;(try simp only [nz]);refine rsq 9 122 (by kernel_rfl) rfl (fun K hK=>?_);rw [if_pos (by rfl)];clear hHeld;refine wp_load_mid 62 (.tmp 121) rfl g (v1*9) rfl (acC z) _ (HR2.out _ HA.out) Tryz.underlying62 rfl aF ?_;refine hK.out _ _ trivial (fun hHeld=>?_);clear hK K;(try simp only [nz]);refine tq 14 127 rfl (by kernel_rfl) (fun _ _ _ h=>absurd h.1 (by simp)) rfl ‹_› (by intro w h;go_simp <;>with_reducible rfl) ?_;simp only [nz];refine rnq 15 (by kernel_rfl) rfl (fun K hK=>?_);rw [if_pos (by rfl)];clear hHeld;refine wp_store_mid 62 (.tmp 127) (.tmp 122) rfl g (v0*9) (acC z).toArray rfl rfl (AcR.there HA.out (i:=v0) (by omega)) aF (fu rfl) ?_;rw [show(acC z).toArray.toList=acC z from rfl];have HP0:=aa (AcR.put HA.out (i:=v0) (by omega) z).1;have hq0:=(AcR.put HA.out (i:=v0) (by omega) z).2;generalize World.setCells _ g (v0*9) (acC z)=V20 at*;refine hK.out _ _ trivial (fun hHeld=>?_);clear hK K;(try simp only [Act.put]);refine tq 16 128 rfl (by kernel_rfl) (fun _ _ _ h=>absurd h.1 (by simp)) rfl ‹_› (by intro w h;go_simp <;>with_reducible rfl) ?_;simp only [nz];refine rnq 17 (by kernel_rfl) rfl (fun K hK=>?_);rw [if_pos (by rfl)];clear hHeld;refine wp_store_mid 62 (.tmp 128) (.tmp 126) rfl g (v1*9) (acC y).toArray rfl rfl (AcR.there HP0.out (i:=v1) (by omega)) aF (fu rfl) ?_;rw [show(acC y).toArray.toList=acC y from rfl];have HP1:=aa (AcR.put HP0.out (i:=v1) (by omega) y).1;have hq1:=(AcR.put HP0.out (i:=v1) (by omega) y).2;generalize World.setCells _ g (v1*9) (acC y)=V21 at*;refine hK.out _ _ trivial (fun hHeld=>?_);clear hK K;(try simp only [Act.put]);refine wpAnyH_done (by kernel_rfl) ?_ _;clear hHeld;exact⟨rfl,rfl,HP1.out,ay HG.out (ay hq0 hq1)⟩
     intro W3 hW3;obtain⟨hA3,hG3⟩:=hW3;rw [HSW.out]at hA3;have HA3:=aa hA3;have HG3:=aa hG3;clear hA3 hG3 HA HG HR1 HR2 HSW;go_wp2_with fail
     go_roundw
     case rel=>exact⟨l,v1,by omega,⟨by omega,by omega⟩,rfl,HA3,HG3⟩
     case measure=>simp [intOf];omega
    ·have htk2:t=k1:=(by omega);have q1:¬((i0:Int)<(v0:Int)):=(by omega);have HE:Hid (AcR wr B g c N T):=by rw [←HTT.out, ←htk2];exact HA
     clear HA HTT htk2;go_wp2_with fail
     (try simp only [Exit.inBlock,Exit.then]);refine bodyPost_ret (results_none rfl _ _ _) rfl ?_
     exact⟨rfl,HE.out,HG.out⟩
theorem Be {P A Bq R:List Ac} {i:Nat} (hi:i<A.length):(P++A++Bq++R).getD (P.length+i) ac0=A.getD i ac0:=by
 rw [List.append_assoc,List.append_assoc,bf,dt hi]
theorem Bg {P A Bq R:List Ac} {i:Nat} (hi:i<Bq.length):(P++A++Bq++R).getD (P.length+A.length+i) ac0=Bq.getD i ac0:=by
 rw [List.append_assoc,show P.length+A.length=(P++A).length by simp,bf,dt hi]
theorem AF (n:Nat) (h:n≤1000000):IntKind.u64.wrap (n:Int)=(n:Int):=by
 simp [IntKind.wrap,IntKind.bits,IntKind.signed];omega
def Av (n:Nat):Prop:=∀(P A Bq R:List Ac) (B g c N a m b:Nat) (w:World),A.length+Bq.length≤n→0<A.length→0<Bq.length→AcR w B g c N (P++A++Bq++R)→AscA A→AscA Bq→a=P.length→m=P.length+A.length→b=P.length+A.length+Bq.length→N≤1000→
 Calls Tryz.prog 205 #[.slice (some ⟨g,0,none⟩) N c,.int .i64 (a:Int),.int .i64 (m:Int),.int .i64 (b:Int),.func (.func 136) #[] #[]] w fun e w'=>e= .returned (.tuple #[])∧AcR w' B g c N (P++mrg aD A Bq++R)∧w.grownBy w' (some g)
theorem AG {P A1 A2 B1 B2 R:List Ac} (h:A2= []∨B1= []):P++(A1++A2)++(B1++B2)++R=P++A1++B1++A2++B2++R:=by
 rcases h with rfl | rfl <;>simp
theorem ul {A1 B1:List Ac} (h:A1= []∨B1= []):mrg aD A1 B1=A1++B1:=by
 rcases h with rfl | rfl
 ·rw [eu];rfl
 ·rw [dU,List.append_nil]
theorem rU (n:Nat) (IH:Av n) (P A Bq R:List Ac) (B g c N a m b:Nat) (w:World) (hn:A.length+Bq.length≤n+1) (h2:2≤A.length) (h3:2≤Bq.length) (hA:AcR w B g c N (P++A++Bq++R)) (hSA:AscA A) (hSB:AscA Bq) (ha:a=P.length) (hm:m=P.length+A.length) (hb:b=P.length+A.length+Bq.length) (hN:N≤1000):
  Calls Tryz.prog 205 #[.slice (some ⟨g,0,none⟩) N c,.int .i64 (a:Int),.int .i64 (m:Int),.int .i64 (b:Int),.func (.func 136) #[] #[]] w fun e w'=>e= .returned (.tuple #[])∧AcR w' B g c N (P++mrg aD A Bq++R)∧w.grownBy w' (some g):=by
 have hlen:P.length+A.length+Bq.length+R.length=N:=by have:=hA.1;simp only [List.length_append]at this;omega
 obtain⟨T,hT⟩:∃T,T=P++mrg aD A Bq++R:=⟨_,rfl⟩;rw [←hT];have HT:=aa hT;have HA0:=aa hA;have HCM:=aa iC;have HI:=aa IH;have HSA:=aa hSA;have HSB:=aa hSB;obtain⟨la,hla⟩:∃la,la=A.length:=⟨_,rfl⟩;obtain⟨lb,hlb⟩:∃lb,lb=Bq.length:=⟨_,rfl⟩;have HLA:=aa hla;have HLB:=aa hlb;obtain⟨ma,hma⟩:∃ma,ma=m-a:=⟨_,rfl⟩;obtain⟨mb,hmb⟩:∃mb,mb=b-m:=⟨_,rfl⟩;obtain⟨mid,hmid⟩:∃mid,mid=(a+b)/2:=⟨_,rfl⟩;obtain⟨nn,hnn⟩:∃nn,nn=mid+m:=⟨_,rfl⟩;obtain⟨p0,hp0⟩:∃p0,p0=nn-1:=⟨_,rfl⟩;obtain⟨ab,hab⟩:∃ab,ab=a+b:=⟨_,rfl⟩;have e3:(ab:Int)/2=(mid:Int):=by omega
 have q2:=AF ab (by omega);have q3:=ba (mid:Int) (by omega) (by omega);have q1:IntKind.i64.wrap ((a:Int)+(b:Int))=(ab:Int):=by go_light;exact(ba _ (by omega) (by omega)).trans (by omega)
 have hw1:IntKind.i64.wrap ((m:Int)-(a:Int))=(ma:Int):=by go_light;exact(ba _ (by omega) (by omega)).trans (by omega)
 have hw2:IntKind.i64.wrap ((b:Int)-(m:Int))=(mb:Int):=by go_light;exact(ba _ (by omega) (by omega)).trans (by omega)
 have hw3:IntKind.i64.wrap ((mid:Int)+(m:Int))=(nn:Int):=by go_light;exact(ba _ (by omega) (by omega)).trans (by omega)
 have hw4:IntKind.i64.wrap ((nn:Int)-1)=(p0:Int):=by go_light;exact(ba _ (by omega) (by omega)).trans (by omega)
 have hma1:¬ma=1:=by omega
 have hmb1:¬mb=1:=by omega
 have hmd1:a+b≤2*mid+1∧2*mid≤a+b:=by omega
 have hp1:p0+1=nn:=by omega
 have NF:=aa (And.intro hn (And.intro h2 (And.intro h3 (And.intro hN (And.intro ha (And.intro hm (And.intro hb (And.intro hlen (And.intro hla (And.intro hlb (And.intro hnn (And.intro hp1 (hmd1)))))))))))));clear hA hT hSA hSB IH hma hmb hmid hp0 hab;obtain⟨s0,r0,hsr,HF1,HF2,hcase⟩:∃s0 r0:Nat,(a≤s0∧s0≤r0∧r0≤m∧r0≤mid∧mid≤s0+lb)∧Hid (s0=a∨mid-s0=lb∨(Bq.getD (mid-s0) ac0).p≤(A.getD (s0-a-1) ac0).p)∧Hid (r0=m∨mid=r0∨(A.getD (r0-a) ac0).p<(Bq.getD (mid-r0-1) ac0).p)∧(mid<m∧IntKind.i64.wrap ((nn:Int)-(b:Int))=(s0:Int)∧mid=r0∨m≤mid∧a=s0∧m=r0):=by
  rcases Nat.lt_or_ge mid m with hmm | hmm
  ·exact⟨nn-b,mid,by omega,aa (.inr (.inl (by omega))),aa (.inr (.inl rfl)),.inl ⟨hmm,(ba _ (by omega) (by omega)).trans (by omega),rfl⟩⟩
  ·exact⟨a,m,by omega,aa (.inl rfl),aa (.inl rfl),.inr ⟨hmm,rfl,rfl⟩⟩
 have HSR:=aa hsr;have HCASE:=aa hcase;clear hsr hcase hn h2 h3 hN ha hm hb hlen hla hlb hnn hp1 hmd1;go_enter Tryz.func205,Tryz.ntmps205;go_upto_if 140 with fail;clear e3 q1 q2 q3;go_cut [20,21] (fun s r wx=>s= .int .i64 (s0:Int)∧r= .int .i64 (r0:Int)∧w=wx)
 case first=>
  rcases HCASE.out with⟨hmm,hw5,hrm⟩ |⟨hmm,hsa,hrm⟩
  ·have HRM:=aa hrm;clear hrm;have hmm2:(mid:Int)<(m:Int):=by go_light;omega
   go_wp2_with fail
   go_meet;exact⟨rfl,by rw [HRM.out],rfl⟩
  ·have HSA0:=aa hsa;have HRM:=aa hrm;clear hsa hrm;have hmm1:¬(mid<m):=by go_light;omega
   have hmm2:¬((mid:Int)<(m:Int)):=by go_light;omega
   go_wp2_with fail
   go_meet;exact⟨by rw [HSA0.out],by rw [HRM.out],rfl⟩
 case rest=>
  clear HCASE;obtain⟨rfl,rfl,rfl⟩:=hcut;go_wp2_with fail
  go_loopw [20,21] (fun i j wr=>∃(s r:Nat),Hid (a≤s∧s≤r∧r≤m∧r≤mid∧mid≤s+lb)∧i= .int .i64 (s:Int)∧j= .int .i64 (r:Int)∧Hid (s=a∨mid-s=lb∨(Bq.getD (mid-s) ac0).p≤(A.getD (s-a-1) ac0).p)∧Hid (r=m∨mid=r∨(A.getD (r-a) ac0).p<(Bq.getD (mid-r-1) ac0).p)∧Hid (AcR wr B g c N (P++A++Bq++R))∧Hid (w.grownBy wr (some g))) (fun i j _=>(intOf j).toNat-(intOf i).toNat)
  case atStart=>exact⟨_,_,HSR,rfl,rfl,HF1,HF2,HA0,aa (grown_refl' _ _)⟩
  case round=>
   clear HA0 HF1 HF2 HSR;obtain⟨s,r,HS,rfl,rfl,HF1,HF2,HA,HG⟩:=hrel;by_cases hlt:s<r
   ·as_aux_lemma=>
     have n1:=NF.out;have n2:=HS.out;obtain⟨ci,hci⟩:∃ci,ci=(s+r)/2:=⟨_,rfl⟩;obtain⟨sr,hsr⟩:∃sr,sr=s+r:=⟨_,rfl⟩;have e2:(sr:Int)/2=(ci:Int):=by go_light;omega
     have q5:=AF sr (by go_light;omega);have q6:=ba (ci:Int) (by go_light;omega) (by go_light;omega);have q4:IntKind.i64.wrap ((s:Int)+(r:Int))=(sr:Int):=by go_light;exact(ba _ (by omega) (by omega)).trans (by omega)
     have hsc:s≤ci:=by go_light;omega
     have hcr:ci<r:=by go_light;omega
     obtain⟨pc,hpc⟩:∃pc,pc=p0-ci:=⟨_,rfl⟩;obtain⟨kc,hkc⟩:∃kc,kc=ci-a:=⟨_,rfl⟩;obtain⟨kb,hkb⟩:∃kb,kb=mid-ci-1:=⟨_,rfl⟩;obtain⟨c1,hc1⟩:∃c1,c1=ci+1:=⟨_,rfl⟩;have hw6:IntKind.i64.wrap ((p0:Int)-(ci:Int))=(pc:Int):=by go_light;exact(ba _ (by omega) (by omega)).trans (by omega)
     have hw7:IntKind.i64.wrap ((ci:Int)+1)=(c1:Int):=by go_light;exact(ba _ (by omega) (by omega)).trans (by omega)
     have xp:pc+ci=p0:=by clear hkc hkb hc1;omega
     have xk:kc+a=ci:=by clear hpc hkb hc1;omega
     have xb:kb+ci+1=mid:=by clear hpc hkc hc1;omega
     have NX:=aa (And.intro hsc (And.intro hcr (And.intro xp (And.intro xk (And.intro xb (hc1))))));have HKC:=aa hkc;have HKB:=aa hkb;have HC1:=aa hc1;have HZ0:=aa (And.intro hpc (And.intro hkc hkb));clear hpc hkc hkb;have t0:(0:Int)≤(pc:Int):=by go_light;omega
     have t1:(pc:Int)<(N:Int):=by go_light;omega
     have t2:(0:Int)≤(ci:Int):=by go_light;omega
     have t3:(ci:Int)<(N:Int):=by go_light;omega
     clear hsc hcr xp xk xb hc1 hci n1 n2 hsr HZ0;obtain⟨x,hx⟩:∃x,x=A.getD kc ac0:=⟨_,rfl⟩;obtain⟨y,hy⟩:∃y,y=Bq.getD kb ac0:=⟨_,rfl⟩;have HR1:Hid (∀W,AcR W B g c N (P++A++Bq++R)→W.rangeAt g (pc*9) (acC y)):=aa (fun W hW=>by go_light;have n1:=NF.out;have n2:=HS.out;have n3:=NX.out;have:=hW.range (i:=pc) (by omega);rwa [show pc=P.length+A.length+kb by omega,Bg (by omega), ←hy, ←show pc=P.length+A.length+kb by omega]at this);have HR2:Hid (∀W,AcR W B g c N (P++A++Bq++R)→W.rangeAt g (ci*9) (acC x)):=aa (fun W hW=>by go_light;have n1:=NF.out;have n2:=HS.out;have n3:=NX.out;have:=hW.range (i:=ci) (by omega);rwa [show ci=P.length+kc by omega,Be (by omega), ←hx, ←show ci=P.length+kc by omega]at this);have HLT:=aa (kj x.p y.p);have HX:=aa hx;have HY:=aa hy;clear hx hy;obtain⟨LL,hLL⟩:∃LL,LL=P++A++Bq++R:=⟨_,rfl⟩;have HLL:=aa hLL;rw [←hLL]at HA HR1 HR2;clear hLL;go_wp2_with fail
     clear e2 q4 q5 q6;have HD:Hid (AcR wr.drew B g c N _):=aa (HA.out.below ((Below.refl _ _).drew));refine wp_region_held_drew (S:=fun w'=>w'.rangeAt g (pc*9) (acC y)∧w'.rangeAt g (ci*9) (acC x)) (by kernel_rfl) ⟨HR1.out _ HD.out,HR2.out _ HD.out⟩ (fun hHeld=>?_);refine sqA [(0,158),(1,159),(2,160),(3,161),(4,162),(5,163)] ?_;(iterate 6 (refine sqN rfl (by kernel_rfl) (fun _ _ _ h=>h) rfl ‹_› (by intro w h;go_simp <;>with_reducible rfl) ?_;simp only [nz]));refine sqZ ?_;refine wpAnyH_take (i:=6) (oi:=⟨some 164,_,_,_,_,_⟩) (v:=.agg (acC y).toArray) rfl (by kernel_rfl) (by kernel_rfl) (by kernel_rfl) (fun _ _ _ h=>h) (yieldsIf_load_mid (by rfl) 62 (.tmp 163) rfl g (pc*9) rfl (acC y) _ (fun w h=>h.1) Tryz.underlying62 rfl aF) (by assumption) ?_;(try simp only [nz]);refine sqA [(7,165),(8,166),(9,167)] ?_;(iterate 3 (refine sqN rfl (by kernel_rfl) (fun _ _ _ h=>h) rfl ‹_› (by intro w h;go_simp <;>with_reducible rfl) ?_;simp only [nz]));refine sqZ ?_;refine wpAnyH_take (i:=10) (oi:=⟨some 168,_,_,_,_,_⟩) (v:=.agg (acC x).toArray) rfl (by kernel_rfl) (by kernel_rfl) (by kernel_rfl) (fun _ _ _ h=>h) (yieldsIf_load_mid (by rfl) 62 (.tmp 167) rfl g (ci*9) rfl (acC x) _ (fun w h=>h.2) Tryz.underlying62 rfl aF) (by assumption) ?_;(try simp only [nz]);refine rsq 11 169 (by kernel_rfl) rfl (fun K hK=>?_);go_simp;clear hHeld;refine(ag HCM y x _).mono ?_;rintro e V ⟨rfl,hb⟩;replace HA:=aa (HD.out.below hb);replace HG:=aa (cl HG.out (((Below.refl _ _).drew).trans hb));clear HD hb;refine hK.out _ _ ⟨HR1.out _ HA.out,HR2.out _ HA.out⟩ (fun hHeld=>?_);clear hK K;(try simp only [nz]);refine sqA [(12,170),(13,171)] ?_;(iterate 2 (refine sqN rfl (by kernel_rfl) (fun _ _ _ h=>h) rfl ‹_› (by intro w h;go_simp <;>with_reducible rfl) ?_;simp only [nz]));refine sqZ ?_;refine wpAnyH_done (by kernel_rfl) ?_ _;clear hHeld;rw [HLL.out]at HA;by_cases hle:x.p<y.p
     ·have hl2x:aJ x.p y.p<0:=by rw [HLT.out];exact hle
      have hl3x:(!decide (aJ x.p y.p<0))=false:=(by simp only [hl2x,decide_true,Bool.not_true]);rw [hl3x];have HF3:Hid (ci=m∨mid=ci∨(A.getD (ci-a) ac0).p<(Bq.getD (mid-ci-1) ac0).p):=aa (.inr (.inr (by rw [←HKC.out, ←HKB.out, ←HX.out, ←HY.out];exact hle)));clear HR1 HR2 HF2;go_wp2_with fail
      go_roundw
      case rel=>exact⟨s,ci,aa (by go_light;have n1:=NF.out;have n2:=HS.out;have n3:=NX.out;omega),rfl,rfl,HF1,HF3,HA,HG⟩
      case measure=>
       go_light;have n3:=NX.out;simp [intOf];omega
     ·have hl2x:¬aJ x.p y.p<0:=by rw [HLT.out];exact hle
      have hl3x:(!decide (aJ x.p y.p<0))=true:=(by simp only [hl2x,decide_false,Bool.not_false]);rw [hl3x];have HF3:Hid (c1=a∨mid-c1=lb∨(Bq.getD (mid-c1) ac0).p≤(A.getD (c1-a-1) ac0).p):=aa (.inr (.inr (by go_light;have n1:=NF.out;have n2:=HS.out;have n3:=NX.out;rw [show mid-c1=kb by omega,show c1-a-1=kc by omega, ←HX.out, ←HY.out];omega)));clear HR1 HR2 HF1;go_wp2_with fail
      go_roundw
      case rel=>exact⟨c1,r,aa (by go_light;have n1:=NF.out;have n2:=HS.out;have n3:=NX.out;omega),rfl,rfl,HF3,HF2,HA,HG⟩
      case measure=>
       go_light;have n3:=NX.out;simp [intOf];omega
   ·as_aux_lemma=>
     have n1:=NF.out;have n2:=HS.out;obtain⟨ka,hka⟩:∃ka,ka=s-a:=⟨_,rfl⟩;obtain⟨kb,hkb⟩:∃kb,kb=mid-s:=⟨_,rfl⟩;have hsr2:s=r:=by go_light;omega
     have HMP:Hid (mrg aD A Bq=mrg aD (A.take ka) (Bq.take kb)++mrg aD (A.drop ka) (Bq.drop kb)):=aa (by go_light;exact xN HSA.out HSB.out (by omega) (by omega) (by rcases HF1.out with h | h | h;exact .inl (by omega);exact .inr (.inl (by rw [hkb,h,HLB.out]));exact .inr (.inr (by rw [hka,hkb];exact h))) (by rcases HF2.out with h | h | h;exact .inl (by omega);exact .inr (.inl (by omega));exact .inr (.inr (by rw [hka,hkb,hsr2];exact h))));obtain⟨A1,hA1⟩:∃A1,A1=A.take ka:=⟨_,rfl⟩;obtain⟨A2,hA2⟩:∃A2,A2=A.drop ka:=⟨_,rfl⟩;obtain⟨B1,hB1⟩:∃B1,B1=Bq.take kb:=⟨_,rfl⟩;obtain⟨B2,hB2⟩:∃B2,B2=Bq.drop kb:=⟨_,rfl⟩;rw [←hA1, ←hA2, ←hB1, ←hB2]at HMP;have hlA1:A1.length=ka:=by go_light;rw [hA1,List.length_take];omega
     have hlA2:A2.length=la-ka:=(by rw [hA2,List.length_drop,HLA.out]);have hlB1:B1.length=kb:=by go_light;rw [hB1,List.length_take];omega
     have hlB2:B2.length=lb-kb:=(by rw [hB2,List.length_drop,HLB.out]);have HSA1:Hid (AscA A1):=by rw [hA1];exact aa (HSA.out.take _)
     have HSA2:Hid (AscA A2):=by rw [hA2];exact aa (HSA.out.drop _)
     have HSB1:Hid (AscA B1):=by rw [hB1];exact aa (HSB.out.take _)
     have HSB2:Hid (AscA B2):=by rw [hB2];exact aa (HSB.out.drop _)
     have HA3:Hid (AcR wr B g c N (P++(A1++A2)++(B1++B2)++R)):=by rw [hA1,hA2,hB1,hB2,List.take_append_drop,List.take_append_drop];exact HA
     have HT2:Hid (P++(mrg aD A1 B1++mrg aD A2 B2)++R=T):=by rw [HT.out,HMP.out];exact aa rfl
     obtain⟨en,hen⟩:∃en,en=nn-s:=⟨_,rfl⟩;have hw8:IntKind.i64.wrap ((nn:Int)-(s:Int))=(en:Int):=by go_light;exact(ba _ (by omega) (by omega)).trans (by omega)
     have xe:en+s=nn:=by clear hlA1 hlA2 hlB1 hlB2;omega
     have xa:ka+a=s:=by clear hen hlA1 hlA2 hlB1 hlB2;omega
     have xm:kb+s=mid:=by clear hen hlA1 hlA2 hlB1 hlB2;omega
     have yA:A2.length+ka=la:=by clear hen hkb xm;omega
     have yB:B2.length+kb=lb:=by clear hen hka xa;omega
     have NZ:=aa (And.intro xe (And.intro xa (And.intro xm (And.intro hlA1 (And.intro yA (And.intro hlB1 (yB)))))));have HLA1:=aa hlA1;have HLB1:=aa hlB1;have hq1:¬(s<r):=hlt;clear hA1 hA2 hB1 hB2 HA HF1 HF2 HMP HT hsr2 hen hka hkb hlA1 hlA2 hlB1 hlB2 xe xa xm yA yB hlt n1 n2 HSA HSB HLA HLB HCM;go_upto_region 39 with fail
     obtain⟨tb,htb⟩:∃tb:Bool,tb=decide (s<m∧m<en):=⟨_,rfl⟩;have HTD:=aa htb;clear htb;go_cut [185] (fun tv wx=>tv= .bool tb∧wr=wx)
     case first=>
      as_aux_lemma=>
      rcases(show(0<A2.length∧0<B1.length)∨(A2.length=0)∨(0<A2.length∧B1.length=0) by clear HA3 HG HT2;go_light;omega)with⟨u1,u2⟩ | u1 |⟨u1,u2⟩
      ·have HTB:Hid (tb=true):=aa (by go_light;have n1:=NF.out;have n2:=HS.out;have n3:=NZ.out;rw [HTD.out];simp;omega);have g1:(s<m):=by go_light;have n1:=NF.out;have n2:=HS.out;have n3:=NZ.out;omega
       have f1:((s:Int)<(m:Int)):=by go_light;have n1:=NF.out;have n2:=HS.out;have n3:=NZ.out;omega
       have g2:(m<en):=by go_light;have n1:=NF.out;have n2:=HS.out;have n3:=NZ.out;omega
       have f2:((m:Int)<(en:Int)):=by go_light;have n1:=NF.out;have n2:=HS.out;have n3:=NZ.out;omega
       clear u1 u2;go_wp2_with fail
       go_meet;exact⟨by rw [HTB.out] <;>first | rfl | simp [f1,f2] | simp [f1],rfl⟩
      ·have HTB:Hid (tb=false):=aa (by go_light;have n1:=NF.out;have n2:=HS.out;have n3:=NZ.out;rw [HTD.out];simp;omega);have g1:¬(s<m):=by go_light;have n1:=NF.out;have n2:=HS.out;have n3:=NZ.out;omega
       have f1:¬((s:Int)<(m:Int)):=by go_light;have n1:=NF.out;have n2:=HS.out;have n3:=NZ.out;omega
       clear u1;go_wp2_with fail
       go_meet;exact⟨by rw [HTB.out] <;>first | rfl | simp [f1],rfl⟩
      ·have HTB:Hid (tb=false):=aa (by go_light;have n1:=NF.out;have n2:=HS.out;have n3:=NZ.out;rw [HTD.out];simp;omega);have g1:(s<m):=by go_light;have n1:=NF.out;have n2:=HS.out;have n3:=NZ.out;omega
       have f1:((s:Int)<(m:Int)):=by go_light;have n1:=NF.out;have n2:=HS.out;have n3:=NZ.out;omega
       have g2:¬(m<en):=by go_light;have n1:=NF.out;have n2:=HS.out;have n3:=NZ.out;omega
       have f2:¬((m:Int)<(en:Int)):=by go_light;have n1:=NF.out;have n2:=HS.out;have n3:=NZ.out;omega
       clear u1 u2;go_wp2_with fail
       go_meet;exact⟨by rw [HTB.out] <;>first | rfl | simp [f1,f2] | simp [f1],rfl⟩
     case rest=>
      obtain⟨rfl,rfl⟩:=hcut;go_upto_if 185 with fail;go_cut [] (fun wx=>Hid (AcR wx B g c N (P++A1++B1++A2++B2++R))∧Hid (w.grownBy wx (some g)))
      case first=>
       as_aux_lemma=>
       rcases(show(0<A2.length∧0<B1.length)∨(A2.length=0)∨(0<A2.length∧B1.length=0) by clear HA3 HG HT2;go_light;omega)with⟨u1,u2⟩ | u1 |⟨u1,u2⟩
       ·have htb:tb=true:=by go_light;have n1:=NF.out;have n2:=HS.out;have n3:=NZ.out;rw [HTD.out];simp;omega
        clear HTD;subst htb;have HC:=aa (sw (P++A1) A2 B1 (B2++R) B g c N s m en wr (by have:=HA3.out;simpa using this) (by go_light;have n1:=NF.out;have n2:=HS.out;have n3:=NZ.out;omega) (by go_light;have n1:=NF.out;have n2:=HS.out;have n3:=NZ.out;omega) (by rw [List.length_append,HLA1.out];go_light;have n1:=NF.out;have n2:=HS.out;have n3:=NZ.out;omega) (by rw [List.length_append,HLA1.out];go_light;have n1:=NF.out;have n2:=HS.out;have n3:=NZ.out;omega) (by rw [List.length_append,HLA1.out];go_light;have n1:=NF.out;have n2:=HS.out;have n3:=NZ.out;omega) (by have:=NF.out;omega));clear u1 u2;go_wp2_with fail
        refine(ag HC).mono ?_;rintro e WQ ⟨rfl,hA4,hG4⟩;have HA4:Hid (AcR WQ B g c N (P++A1++B1++A2++B2++R)):=aa (by simpa using hA4);have HG4:=aa (ay HG.out hG4);clear hA4 hG4 HC;go_wp2_with fail
        go_meet;exact⟨HA4,HG4⟩
       ·have nl:A2= []:=List.eq_nil_of_length_eq_zero (by go_light;have n1:=NF.out;have n2:=HS.out;have n3:=NZ.out;omega);have htb:tb=false:=by go_light;have n1:=NF.out;have n2:=HS.out;have n3:=NZ.out;rw [HTD.out];simp;omega
        clear HTD;subst htb;have HA4:=aa (show AcR wr B g c N (P++A1++B1++A2++B2++R)from by rw [←AG (.inl nl)];exact HA3.out);clear nl u1;go_wp2_with fail
        go_meet;exact⟨HA4,HG⟩
       ·have nl:B1= []:=List.eq_nil_of_length_eq_zero (by go_light;have n1:=NF.out;have n2:=HS.out;have n3:=NZ.out;omega);have htb:tb=false:=by go_light;have n1:=NF.out;have n2:=HS.out;have n3:=NZ.out;rw [HTD.out];simp;omega
        clear HTD;subst htb;have HA4:=aa (show AcR wr B g c N (P++A1++B1++A2++B2++R)from by rw [←AG (.inr nl)];exact HA3.out);clear nl u1 u2;go_wp2_with fail
        go_meet;exact⟨HA4,HG⟩
      case rest=>
       clear HA3 HG HTD;obtain⟨HA3,HG⟩:=hcut;generalize wc=W3 at*;go_upto_region 41 with fail
       obtain⟨tb,htb⟩:∃tb:Bool,tb=decide (a<s∧s<mid):=⟨_,rfl⟩;have HTD:=aa htb;clear htb;go_cut [199] (fun tv wx=>tv= .bool tb∧W3=wx)
       case first=>
        as_aux_lemma=>
        rcases(show(0<A1.length∧0<B1.length)∨(A1.length=0)∨(0<A1.length∧B1.length=0) by clear HA3 HG HT2;go_light;omega)with⟨u1,u2⟩ | u1 |⟨u1,u2⟩
        ·have HTB:Hid (tb=true):=aa (by go_light;have n1:=NF.out;have n2:=HS.out;have n3:=NZ.out;rw [HTD.out];simp;omega);have g1:(a<s):=by go_light;have n1:=NF.out;have n2:=HS.out;have n3:=NZ.out;omega
         have f1:((a:Int)<(s:Int)):=by go_light;have n1:=NF.out;have n2:=HS.out;have n3:=NZ.out;omega
         have g2:(s<mid):=by go_light;have n1:=NF.out;have n2:=HS.out;have n3:=NZ.out;omega
         have f2:((s:Int)<(mid:Int)):=by go_light;have n1:=NF.out;have n2:=HS.out;have n3:=NZ.out;omega
         clear u1 u2;go_wp2_with fail
         go_meet;exact⟨by rw [HTB.out] <;>first | rfl | simp [f1,f2] | simp [f1],rfl⟩
        ·have HTB:Hid (tb=false):=aa (by go_light;have n1:=NF.out;have n2:=HS.out;have n3:=NZ.out;rw [HTD.out];simp;omega);have g1:¬(a<s):=by go_light;have n1:=NF.out;have n2:=HS.out;have n3:=NZ.out;omega
         have f1:¬((a:Int)<(s:Int)):=by go_light;have n1:=NF.out;have n2:=HS.out;have n3:=NZ.out;omega
         clear u1;go_wp2_with fail
         go_meet;exact⟨by rw [HTB.out] <;>first | rfl | simp [f1],rfl⟩
        ·have HTB:Hid (tb=false):=aa (by go_light;have n1:=NF.out;have n2:=HS.out;have n3:=NZ.out;rw [HTD.out];simp;omega);have g1:(a<s):=by go_light;have n1:=NF.out;have n2:=HS.out;have n3:=NZ.out;omega
         have f1:((a:Int)<(s:Int)):=by go_light;have n1:=NF.out;have n2:=HS.out;have n3:=NZ.out;omega
         have g2:¬(s<mid):=by go_light;have n1:=NF.out;have n2:=HS.out;have n3:=NZ.out;omega
         have f2:¬((s:Int)<(mid:Int)):=by go_light;have n1:=NF.out;have n2:=HS.out;have n3:=NZ.out;omega
         clear u1 u2;go_wp2_with fail
         go_meet;exact⟨by rw [HTB.out] <;>first | rfl | simp [f1,f2] | simp [f1],rfl⟩
       case rest=>
        obtain⟨rfl,rfl⟩:=hcut;go_upto_if 199 with fail;go_cut [] (fun wx=>Hid (AcR wx B g c N (P++mrg aD A1 B1++A2++B2++R))∧Hid (w.grownBy wx (some g)))
        case first=>
         as_aux_lemma=>
         rcases(show(0<A1.length∧0<B1.length)∨(A1.length=0)∨(0<A1.length∧B1.length=0) by clear HA3 HG HT2;go_light;omega)with⟨u1,u2⟩ | u1 |⟨u1,u2⟩
         ·have htb:tb=true:=by go_light;have n1:=NF.out;have n2:=HS.out;have n3:=NZ.out;rw [HTD.out];simp;omega
          clear HTD;subst htb;have HC:=aa (HI.out P A1 B1 (A2++B2++R) B g c N a s mid W3 (by go_light;have n1:=NF.out;have n2:=HS.out;have n3:=NZ.out;omega) (by go_light;have n1:=NF.out;have n2:=HS.out;have n3:=NZ.out;omega) (by go_light;have n1:=NF.out;have n2:=HS.out;have n3:=NZ.out;omega) (by have:=HA3.out;simpa using this) HSA1.out HSB1.out (by go_light;have n1:=NF.out;have n2:=HS.out;have n3:=NZ.out;omega) (by go_light;have n1:=NF.out;have n2:=HS.out;have n3:=NZ.out;omega) (by go_light;have n1:=NF.out;have n2:=HS.out;have n3:=NZ.out;omega) (by go_light;have n1:=NF.out;have n2:=HS.out;have n3:=NZ.out;omega));clear u1 u2;go_wp2_with fail
          refine(ag HC).mono ?_;rintro e WQ ⟨rfl,hA4,hG4⟩;have HA4:Hid (AcR WQ B g c N (P++mrg aD A1 B1++A2++B2++R)):=aa (by simpa using hA4);have HG4:=aa (ay HG.out hG4);clear hA4 hG4 HC;go_wp2_with fail
          go_meet;exact⟨HA4,HG4⟩
         ·have nl:A1= []:=List.eq_nil_of_length_eq_zero (by go_light;have n1:=NF.out;have n2:=HS.out;have n3:=NZ.out;omega);have htb:tb=false:=by go_light;have n1:=NF.out;have n2:=HS.out;have n3:=NZ.out;rw [HTD.out];simp;omega
          clear HTD;subst htb;have HA4:=aa (show AcR W3 B g c N (P++mrg aD A1 B1++A2++B2++R)from by rw [ul (.inl nl)];have:=HA3.out;simpa using this);clear nl u1;go_wp2_with fail
          go_meet;exact⟨HA4,HG⟩
         ·have nl:B1= []:=List.eq_nil_of_length_eq_zero (by go_light;have n1:=NF.out;have n2:=HS.out;have n3:=NZ.out;omega);have htb:tb=false:=by go_light;have n1:=NF.out;have n2:=HS.out;have n3:=NZ.out;rw [HTD.out];simp;omega
          clear HTD;subst htb;have HA4:=aa (show AcR W3 B g c N (P++mrg aD A1 B1++A2++B2++R)from by rw [ul (.inr nl)];have:=HA3.out;simpa using this);clear nl u1 u2;go_wp2_with fail
          go_meet;exact⟨HA4,HG⟩
        case rest=>
         clear HA3 HG HTD;obtain⟨HA3,HG⟩:=hcut;generalize wc=W4 at*;go_upto_region 43 with fail
         obtain⟨tb,htb⟩:∃tb:Bool,tb=decide (mid<en∧en<b):=⟨_,rfl⟩;have HTD:=aa htb;clear htb;go_cut [213] (fun tv wx=>tv= .bool tb∧W4=wx)
         case first=>
          as_aux_lemma=>
          rcases(show(0<A2.length∧0<B2.length)∨(A2.length=0)∨(0<A2.length∧B2.length=0) by clear HA3 HG HT2;go_light;omega)with⟨u1,u2⟩ | u1 |⟨u1,u2⟩
          ·have HTB:Hid (tb=true):=aa (by go_light;have n1:=NF.out;have n2:=HS.out;have n3:=NZ.out;rw [HTD.out];simp;omega);have g1:(mid<en):=by go_light;have n1:=NF.out;have n2:=HS.out;have n3:=NZ.out;omega
           have f1:((mid:Int)<(en:Int)):=by go_light;have n1:=NF.out;have n2:=HS.out;have n3:=NZ.out;omega
           have g2:(en<b):=by go_light;have n1:=NF.out;have n2:=HS.out;have n3:=NZ.out;omega
           have f2:((en:Int)<(b:Int)):=by go_light;have n1:=NF.out;have n2:=HS.out;have n3:=NZ.out;omega
           clear u1 u2;go_wp2_with fail
           go_meet;exact⟨by rw [HTB.out] <;>first | rfl | simp [f1,f2] | simp [f1],rfl⟩
          ·have HTB:Hid (tb=false):=aa (by go_light;have n1:=NF.out;have n2:=HS.out;have n3:=NZ.out;rw [HTD.out];simp;omega);have g1:¬(mid<en):=by go_light;have n1:=NF.out;have n2:=HS.out;have n3:=NZ.out;omega
           have f1:¬((mid:Int)<(en:Int)):=by go_light;have n1:=NF.out;have n2:=HS.out;have n3:=NZ.out;omega
           clear u1;go_wp2_with fail
           go_meet;exact⟨by rw [HTB.out] <;>first | rfl | simp [f1],rfl⟩
          ·have HTB:Hid (tb=false):=aa (by go_light;have n1:=NF.out;have n2:=HS.out;have n3:=NZ.out;rw [HTD.out];simp;omega);have g1:(mid<en):=by go_light;have n1:=NF.out;have n2:=HS.out;have n3:=NZ.out;omega
           have f1:((mid:Int)<(en:Int)):=by go_light;have n1:=NF.out;have n2:=HS.out;have n3:=NZ.out;omega
           have g2:¬(en<b):=by go_light;have n1:=NF.out;have n2:=HS.out;have n3:=NZ.out;omega
           have f2:¬((en:Int)<(b:Int)):=by go_light;have n1:=NF.out;have n2:=HS.out;have n3:=NZ.out;omega
           clear u1 u2;go_wp2_with fail
           go_meet;exact⟨by rw [HTB.out] <;>first | rfl | simp [f1,f2] | simp [f1],rfl⟩
         case rest=>
          obtain⟨rfl,rfl⟩:=hcut;rcases(show(0<A2.length∧0<B2.length)∨(A2.length=0)∨(0<A2.length∧B2.length=0) by clear HA3 HG HT2;go_light;omega)with⟨u1,u2⟩ | u1 |⟨u1,u2⟩
          ·have htb:tb=true:=by go_light;have n1:=NF.out;have n2:=HS.out;have n3:=NZ.out;rw [HTD.out];simp;omega
           clear HTD;subst htb;have hlM:(mrg aD A1 B1).length=ka+kb:=(by rw [lN,HLA1.out,HLB1.out]);have HC:=aa (HI.out (P++mrg aD A1 B1) A2 B2 R B g c N mid en b W4 (by go_light;have n1:=NF.out;have n2:=HS.out;have n3:=NZ.out;omega) (by go_light;have n1:=NF.out;have n2:=HS.out;have n3:=NZ.out;omega) (by go_light;have n1:=NF.out;have n2:=HS.out;have n3:=NZ.out;omega) (by have:=HA3.out;simpa using this) HSA2.out HSB2.out (by rw [List.length_append,hlM];go_light;have n1:=NF.out;have n2:=HS.out;have n3:=NZ.out;omega) (by rw [List.length_append,hlM];go_light;have n1:=NF.out;have n2:=HS.out;have n3:=NZ.out;omega) (by rw [List.length_append,hlM];go_light;have n1:=NF.out;have n2:=HS.out;have n3:=NZ.out;omega) (by go_light;have n1:=NF.out;have n2:=HS.out;have n3:=NZ.out;omega));clear hlM;clear u1 u2;go_wp2_with fail
           refine(ag HC).mono ?_;rintro e WQ ⟨rfl,hA4,hG4⟩;have HA4:Hid (AcR WQ B g c N (P++mrg aD A1 B1++mrg aD A2 B2++R)):=aa (by simpa using hA4);have HG4:=aa (ay HG.out hG4);clear hA4 hG4 HC;have HA5:AcR WQ B g c N T:=by rw [←HT2.out];have:=HA4.out;simpa using this
           go_wp2_with fail
           go_end0;exact⟨rfl,HA5,HG4.out⟩
          ·have nl:A2= []:=List.eq_nil_of_length_eq_zero (by go_light;have n1:=NF.out;have n2:=HS.out;have n3:=NZ.out;omega);have htb:tb=false:=by go_light;have n1:=NF.out;have n2:=HS.out;have n3:=NZ.out;rw [HTD.out];simp;omega
           clear HTD;subst htb;have HA4:=aa (show AcR W4 B g c N (P++mrg aD A1 B1++mrg aD A2 B2++R)from by rw [ul (A1:=A2) (.inl nl)];have:=HA3.out;simpa using this);clear nl u1;have HA5:AcR W4 B g c N T:=by rw [←HT2.out];have:=HA4.out;simpa using this
           go_wp2_with fail
           go_end0;exact⟨rfl,HA5,HG.out⟩
          ·have nl:B2= []:=List.eq_nil_of_length_eq_zero (by go_light;have n1:=NF.out;have n2:=HS.out;have n3:=NZ.out;omega);have htb:tb=false:=by go_light;have n1:=NF.out;have n2:=HS.out;have n3:=NZ.out;rw [HTD.out];simp;omega
           clear HTD;subst htb;have HA4:=aa (show AcR W4 B g c N (P++mrg aD A1 B1++mrg aD A2 B2++R)from by rw [ul (A1:=A2) (.inr nl)];have:=HA3.out;simpa using this);clear nl u1 u2;have HA5:AcR W4 B g c N T:=by rw [←HT2.out];have:=HA4.out;simpa using this
           go_wp2_with fail
           go_end0;exact⟨rfl,HA5,HG.out⟩
theorem uf:∀n,Av n
 | 0=>fun P A Bq R B g c N a m b w h0 h1 h2 _ _ _ _ _ _ _=>by omega
 | n+1=>fun P A Bq R B g c N a m b w h0 h1 h2 hA hSA hSB ha hm hb hN=>by
  by_cases hx:A.length=1
  ·obtain⟨x,rfl⟩:=List.length_eq_one_iff.1 hx;exact sK P Bq R x B g c N a m b w hA hSB ha hm hb hN
  ·by_cases hy:Bq.length=1
   ·obtain⟨y,rfl⟩:=List.length_eq_one_iff.1 hy;exact qw P A R y B g c N a m b w hA hSA (by omega) ha hm hb hN
   ·exact rU n (uf n) P A Bq R B g c N a m b w h0 (by omega) (by omega) hA hSA hSB ha hm hb hN
theorem mg (o:Option Addr) (c:Nat) (fv:Value) (w:World):Calls Tryz.prog 204 #[.slice o 0 c,.int .i64 0,.int .i64 0,fv] w fun e w'=>e= .returned (.tuple #[])∧w'=w:=by
 go_enter Tryz.func204,Tryz.ntmps204;go_wp2_with fail
 refine wp_loop_rounds 1 ?_;rw [rounds_succ];go_wp2_with fail
 go_end0;exact⟨rfl,rfl⟩
theorem mL (o:Option Addr) (c:Nat) (fv:Value) (w:World):Calls Tryz.prog 184 #[.slice o 0 c,.int .i64 0,fv] w fun e w'=>e= .returned (.tuple #[])∧w'=w:=by
 go_enter Tryz.func184,Tryz.ntmps184;go_wp2_with fail
 refine wp_loop_rounds 1 ?_;rw [rounds_succ];go_wp2_with fail
 refine(mg _ _ _ _).mono ?_;rintro e w1 ⟨rfl,rfl⟩;go_wp2_with fail
 refine wp_loop_rounds 1 ?_;rw [rounds_succ];go_wp2_with fail
 go_end0;exact⟨rfl,rfl⟩
theorem vO:eV []:=fun u B w ho hB=>by
 obtain⟨o,c,rfl⟩:=az ho;have HO:=aa ho;clear ho;go_enter Tryz.func135,Tryz.ntmps135;go_wp2_with fail
 refine(mL _ _ _ _).mono ?_;rintro e w1 ⟨rfl,rfl⟩;go_wp2_with fail
 go_end0;have e:aH []= []:=by simp [aH,mrg,aM]
 exact⟨rfl,by rw [e];exact HO.out,⟨rfl,rfl,rfl,Nat.le_refl _,fun _ _ _=>rfl⟩⟩
theorem eB (X Y Z:List Ac) (B g c N:Nat) (ai bi:Int) (w:World) (hA:AcR w B g c N (X++Y++Z)) (ha:ai=(X.length:Int)) (hb:bi=((X.length+Y.length:Nat):Int)) (hN:N≤1000):
  Calls Tryz.prog 204 #[.slice (some ⟨g,0,none⟩) N c,.int .i64 ai,.int .i64 bi,.func (.func 136) #[] #[]] w fun e w'=>e= .returned (.tuple #[])∧AcR w' B g c N (X++aM aD Y++Z)∧w.grownBy w' (some g):=by
 subst ha hb;exact sJ X Y Z B g c N _ _ w hA rfl rfl hN
theorem mx {L:List Ac} (h:L.length≤20):aH L=aM aD L:=by
 unfold aH;rw [List.take_of_length_le h,List.drop_of_length_le h];show mrg aD (aM aD L) []=_;rw [dU]
def gg (N:Nat):Prop:=∀(L:List Ac) (B g c:Nat) (w:World),AcR w B g c N L→Calls Tryz.prog 184 #[.slice (some ⟨g,0,none⟩) N c,.int .i64 (N:Int),.func (.func 136) #[] #[]] w fun e w'=>e= .returned (.tuple #[])∧AcR w' B g c N (aH L)∧w.grownBy w' (some g)
theorem tu {N:Nat} (h:N<20):gg N:=fun L B g c w hA=>by
 have HSI:=aa (eB [] L [] B g c N 0 N w (by simpa using hA) (by simp) (by simp [hA.1]) (by omega));have HAS:=aa (mx (L:=L) (by rw [hA.1];omega));have q1:¬(20≤N):=by omega
 have q2:¬((20:Int)≤(N:Int)):=by omega
 have q3:¬(20<N):=by omega
 have q4:¬((20:Int)<(N:Int)):=by omega
 clear hA;go_enter Tryz.func184,Tryz.ntmps184;go_wp2_with fail
 refine wp_loop_rounds 1 ?_;rw [rounds_succ];go_wp2_with fail
 refine(ag HSI).mono ?_;rintro e w1 ⟨rfl,hA1,hG1⟩;have HE:Hid (AcR w1 B g c N (aH L)):=by rw [HAS.out];exact aa (by simpa using hA1)
 have HG:=aa hG1;clear hA1 hG1 HSI HAS;go_wp2_with fail
 refine wp_loop_rounds 1 ?_;rw [rounds_succ];go_wp2_with fail
 go_end0;exact⟨rfl,HE.out,HG.out⟩
theorem wA {L:List Ac} (h:gg L.length):eV L:=by
 by_cases h0:L.length=0
 ·rw [List.eq_nil_of_length_eq_zero h0];exact vO
 ·intro u B w ho hB;obtain⟨g,c,rfl,_,_⟩:=bu ho (by omega);have HST:=aa (h L B g c w ⟨rfl,ho⟩);obtain⟨N,hN⟩:∃N,N=L.length:=⟨_,rfl⟩;rw [←hN]at HST⊢h;clear ho hN h0 h;go_enter Tryz.func135,Tryz.ntmps135;go_wp2_with fail
  refine(ag HST).mono ?_;rintro e w1 ⟨rfl,hA1,hG1⟩;have HE:=aa hA1.2;have HG:=aa hG1;clear hA1 hG1 HST;go_wp2_with fail
  go_end0;exact⟨rfl,HE.out,HG.out⟩
theorem At (A Bq:List Ac) (B g c N:Nat) (ai mi bi:Int) (w:World) (h1:0<A.length) (h2:0<Bq.length) (hA:AcR w B g c N (A++Bq)) (hSA:AscA A) (hSB:AscA Bq) (ha:ai=((0:Nat):Int)) (hm:mi=(A.length:Int)) (hb:bi=((A.length+Bq.length:Nat):Int)) (hN:N≤1000):
  Calls Tryz.prog 205 #[.slice (some ⟨g,0,none⟩) N c,.int .i64 ai,.int .i64 mi,.int .i64 bi,.func (.func 136) #[] #[]] w fun e w'=>e= .returned (.tuple #[])∧AcR w' B g c N (mrg aD A Bq)∧w.grownBy w' (some g):=by
 subst ha hm hb;have:=uf _ [] A Bq [] B g c N 0 A.length (A.length+Bq.length) w zr h1 h2 (by simpa using hA) hSA hSB rfl (by simp) (by simp) hN;simpa using this
theorem nE:gg 20:=fun L B g c w hA=>by
 have HSI:=aa (eB [] L [] B g c 20 0 20 w (by simpa using hA) (by simp) (by simp [hA.1]) (by omega));have HAS:=aa (mx (L:=L) (by rw [hA.1];omega));have HSJ:=aa (fun W (hW:AcR W B g c 20 (aM aD L))=>eB (aM aD L) [] [] B g c 20 20 20 W (by simpa using hW) (by rw [aO,hA.1];rfl) (by rw [aO,hA.1];rfl) (by omega));clear hA;go_enter Tryz.func184,Tryz.ntmps184;go_wp2_with fail
 refine wp_loop_rounds 2 ?_;rw [rounds_succ];go_wp2_with fail
 refine(ag HSI).mono ?_;rintro e w1 ⟨rfl,hA1,hG1⟩;have HA1:Hid (AcR w1 B g c 20 (aM aD L)):=aa (by simpa using hA1);have HG:=aa hG1;clear hA1 hG1 HSI;go_wp2_with fail
 rw [rounds_succ];go_wp2_with fail
 refine(ag HSJ _ HA1.out).mono ?_;rintro e w2 ⟨rfl,hA2,hG2⟩;have HE:Hid (AcR w2 B g c 20 (aH L)):=by
  rw [HAS.out];have e:aM aD ([]:List Ac)= []:=rfl;rw [e]at hA2;exact aa (by simpa using hA2)
 have HG2:=aa (ay HG.out hG2);clear hA2 hG2 HSJ HAS HA1 HG;go_wp2_with fail
 refine wp_loop_rounds 1 ?_;rw [rounds_succ];go_wp2_with fail
 go_end0;exact⟨rfl,HE.out,HG2.out⟩
theorem uB {L:List Ac} {N:Nat} (h:L.length=N) (h2:20≤N):(L.take 20).length=20∧(L.drop 20).length=N-20∧L.take 20++L.drop 20=L:=⟨by rw [List.length_take];omega,by rw [List.length_drop];omega,List.take_append_drop _ _⟩
theorem tk {N:Nat} (h1:20<N) (h2:N<40):gg N:=fun L B g c w hA=>by
 obtain⟨hx,hy,hxy⟩:=uB hA.1 (by omega);have HT:Hid (aH L=mrg aD (aM aD (L.take 20)) (aM aD (L.drop 20))):=rfl;obtain⟨T,hT⟩:∃T,T=aH L:=⟨_,rfl⟩;rw [←hT];rw [←hT]at HT;rw [←hxy]at hA;generalize L.take 20=X at*;generalize L.drop 20=Y at*;have HS1:=aa (eB [] X Y B g c N 0 20 w (by simpa using hA) (by simp) (by simp [hx]) (by omega));have HS2:=aa (fun W (hW:AcR W B g c N (aM aD X++Y))=>eB (aM aD X) Y [] B g c N 20 N W (by simpa using hW) (by rw [aO,hx];rfl) (by rw [aO,hx,hy];omega) (by omega));have HS3:=aa (fun W (hW:AcR W B g c N (aM aD X++aM aD Y))=>At (aM aD X) (aM aD Y) B g c N 0 20 N W (by rw [aO,hx];omega) (by rw [aO,hy];omega) hW (dG fO fK _) (dG fO fK _) rfl (by rw [aO,hx];rfl) (by rw [aO,aO,hx,hy];omega) (by omega));have q1:20≤N:=by omega
 have q2:(20:Int)≤(N:Int):=by omega
 have q3:¬(40≤N):=by omega
 have q4:¬((40:Int)≤(N:Int)):=by omega
 have q5:(20:Int)<(N:Int):=by omega
 have q6:¬(40<N):=by omega
 have q7:¬((40:Int)<(N:Int)):=by omega
 clear hA hT hx hy hxy;go_enter Tryz.func184,Tryz.ntmps184;go_wp2_with fail
 refine wp_loop_rounds 2 ?_;rw [rounds_succ];go_wp2_with fail
 refine(ag HS1).mono ?_;rintro e w1 ⟨rfl,hA1,hG1⟩;have HA1:Hid (AcR w1 B g c N (aM aD X++Y)):=aa (by simpa using hA1);have HG:=aa hG1;clear hA1 hG1 HS1;go_wp2_with fail
 rw [rounds_succ];go_wp2_with fail
 refine(ag HS2 _ HA1.out).mono ?_;rintro e w2 ⟨rfl,hA2,hG2⟩;have HA2:Hid (AcR w2 B g c N (aM aD X++aM aD Y)):=aa (by simpa using hA2);have HG2:=aa (ay HG.out hG2);clear hA2 hG2 HS2 HA1 HG;go_wp2_with fail
 refine wp_loop_rounds 2 ?_;rw [rounds_succ];go_wp2_with fail
 refine wp_loop_rounds 1 ?_;rw [rounds_succ];go_wp2_with fail
 refine(ag HS3 _ HA2.out).mono ?_;rintro e w3 ⟨rfl,hA3,hG3⟩;have HE:Hid (AcR w3 B g c N T):=by rw [HT.out];exact aa hA3
 have HG3:=aa (ay HG2.out hG3);clear hA3 hG3 HS3 HA2 HG2;go_wp2_with fail
 rw [rounds_succ];go_wp2_with fail
 go_end0;exact⟨rfl,HE.out,HG3.out⟩
theorem pW:gg 40:=fun L B g c w hA=>by
 obtain⟨hx,hy,hxy⟩:=uB hA.1 (by omega);have HT:Hid (aH L=mrg aD (aM aD (L.take 20)) (aM aD (L.drop 20))):=rfl;obtain⟨T,hT⟩:∃T,T=aH L:=⟨_,rfl⟩;rw [←hT];rw [←hT]at HT;rw [←hxy]at hA;generalize L.take 20=X at*;generalize L.drop 20=Y at*;have HS1:=aa (eB [] X Y B g c 40 0 20 w (by simpa using hA) (by simp) (by simp [hx]) (by omega));have HS2:=aa (fun W (hW:AcR W B g c 40 (aM aD X++Y))=>eB (aM aD X) Y [] B g c 40 20 40 W (by simpa using hW) (by rw [aO,hx];rfl) (by rw [aO,hx,hy];rfl) (by omega));have HS4:=aa (fun W (hW:AcR W B g c 40 (aM aD X++aM aD Y))=>eB (aM aD X++aM aD Y) [] [] B g c 40 40 40 W (by simpa using hW) (by rw [List.length_append,aO,aO,hx,hy];rfl) (by rw [List.length_append,aO,aO,hx,hy];rfl) (by omega));have HS3:=aa (fun W (hW:AcR W B g c 40 (aM aD X++aM aD Y))=>At (aM aD X) (aM aD Y) B g c 40 0 20 40 W (by rw [aO,hx];omega) (by rw [aO,hy];omega) hW (dG fO fK _) (dG fO fK _) rfl (by rw [aO,hx];rfl) (by rw [aO,aO,hx,hy];rfl) (by omega));clear hA hT hx hy hxy;go_enter Tryz.func184,Tryz.ntmps184;go_wp2_with fail
 refine wp_loop_rounds 3 ?_;rw [rounds_succ];go_wp2_with fail
 refine(ag HS1).mono ?_;rintro e w1 ⟨rfl,hA1,hG1⟩;have HA1:Hid (AcR w1 B g c 40 (aM aD X++Y)):=aa (by simpa using hA1);have HG:=aa hG1;clear hA1 hG1 HS1;go_wp2_with fail
 rw [rounds_succ];go_wp2_with fail
 refine(ag HS2 _ HA1.out).mono ?_;rintro e w2 ⟨rfl,hA2,hG2⟩;have HA2:Hid (AcR w2 B g c 40 (aM aD X++aM aD Y)):=aa (by simpa using hA2);have HG2:=aa (ay HG.out hG2);clear hA2 hG2 HS2 HA1 HG;go_wp2_with fail
 rw [rounds_succ];go_wp2_with fail
 refine(ag HS4 _ HA2.out).mono ?_;rintro e w4 ⟨rfl,hA4,hG4⟩;have HA4:Hid (AcR w4 B g c 40 (aM aD X++aM aD Y)):=by
  have e:aM aD ([]:List Ac)= []:=rfl;rw [e]at hA4;exact aa (by simpa using hA4)
 have HG4:=aa (ay HG2.out hG4);clear hA4 hG4 HS4 HA2 HG2;go_wp2_with fail
 refine wp_loop_rounds 2 ?_;rw [rounds_succ];go_wp2_with fail
 refine wp_loop_rounds 2 ?_;rw [rounds_succ];go_wp2_with fail
 refine(ag HS3 _ HA4.out).mono ?_;rintro e w3 ⟨rfl,hA3,hG3⟩;have HE:Hid (AcR w3 B g c 40 T):=by rw [HT.out];exact aa hA3
 have HG3:=aa (ay HG4.out hG3);clear hA3 hG3 HS3 HA4 HG4;go_wp2_with fail
 rw [rounds_succ];go_wp2_with fail
 rw [rounds_succ];go_wp2_with fail
 go_end0;exact⟨rfl,HE.out,HG3.out⟩
theorem sP {N:Nat} (h:N≤40):gg N:=by
 rcases Nat.lt_or_ge N 20 with h1 | h1
 ·exact tu h1
 ·by_cases h2:N=20
  ·subst h2;exact nE
  ·by_cases h3:N=40
   ·subst h3;exact pW
   ·exact tk (by omega) (by omega)
theorem uR {L:List Ac} (h:L.length≤40):eV L:=wA (sP h)
section
open Go.Shelf
def Tryz.sortAr_ren:Go.Shelf.Ren:=⟨fun | 6=>29 | 15=>58 | 14=>57 | 28=>112 | 29=>113 | 20=>104 | 21=>105 | 22=>106 | 23=>107 | 24=>108 | 25=>109 | 26=>110 | 27=>111 | 46=>165 | 47=>166 | 48=>167 | 49=>168 | 50=>169 | 57=>199 | n=>n,fun | 22=>29 | 24=>58 | 25=>89 | 3=>3 | 39=>121 | 0=>0 | 53=>175 | 55=>177 | 4=>4 | 46=>169 | 45=>168 | 50=>154 | 5=>5 | 9=>9 | 66=>215 | 70=>219 | 76=>239 | 77=>240 | n=>n,fun | n=>n⟩
theorem Tryz.sortAr:Go.Proofs.SlLaysF0.n6 Tryz.prog Tryz.sortAr_ren:={
 mixed:=by kernel_rfl
 f6:=⟨Tryz.f29.name,by decide,Tryz.func29.trans (congrArg some (by kernel_rfl))⟩
 f14:=⟨Tryz.f57.name,by decide,Tryz.func57.trans (congrArg some (by kernel_rfl))⟩
 f15:=Tryz.func58.trans (congrArg some (by kernel_rfl))
 f20:=⟨Tryz.f104.name,by decide,Tryz.func104.trans (congrArg some (by kernel_rfl))⟩
 f21:=⟨Tryz.f105.name,by decide,Tryz.func105.trans (congrArg some (by kernel_rfl))⟩
 f22:=⟨Tryz.f106.name,by decide,Tryz.func106.trans (congrArg some (by kernel_rfl))⟩
 f23:=⟨Tryz.f107.name,by decide,Tryz.func107.trans (congrArg some (by kernel_rfl))⟩
 f24:=⟨Tryz.f108.name,by decide,Tryz.func108.trans (congrArg some (by kernel_rfl))⟩
 f25:=⟨Tryz.f109.name,by decide,Tryz.func109.trans (congrArg some (by kernel_rfl))⟩
 f26:=⟨Tryz.f110.name,by decide,Tryz.func110.trans (congrArg some (by kernel_rfl))⟩
 f27:=⟨Tryz.f111.name,by decide,Tryz.func111.trans (congrArg some (by kernel_rfl))⟩
 f28:=Tryz.func112.trans (congrArg some (by kernel_rfl))
 f29:=Tryz.func113.trans (congrArg some (by kernel_rfl))
 f46:=⟨Tryz.f165.name,by decide,Tryz.func165.trans (congrArg some (by kernel_rfl))⟩
 f47:=Tryz.func166.trans (congrArg some (by kernel_rfl))
 f48:=Tryz.func167.trans (congrArg some (by kernel_rfl))
 f49:=⟨Tryz.f168.name,by decide,Tryz.func168.trans (congrArg some (by kernel_rfl))⟩
 f50:=⟨Tryz.f169.name,by decide,Tryz.func169.trans (congrArg some (by kernel_rfl))⟩
 f57:=⟨Tryz.f199.name,by decide,Tryz.func199.trans (congrArg some (by kernel_rfl))⟩
 t0:=Tryz.underlying0
 a0:=Tryz.isAgg0
 z0:=Tryz.sizeOf0
 v0:=Tryz.zeroValue0
 t3:=Tryz.underlying3
 a3:=Tryz.isAgg3
 z3:=Tryz.sizeOf3
 v3:=Tryz.zeroValue3
 t4:=Tryz.underlying4
 a4:=Tryz.isAgg4
 z4:=Tryz.sizeOf4
 v4:=Tryz.zeroValue4
 t5:=Tryz.underlying5
 a5:=Tryz.isAgg5
 z5:=Tryz.sizeOf5
 v5:=Tryz.zeroValue5
 t9:=Tryz.underlying9
 a9:=Tryz.isAgg9
 z9:=Tryz.sizeOf9
 v9:=Tryz.zeroValue9
 t22:=Tryz.underlying29
 a22:=Tryz.isAgg29
 z22:=Tryz.sizeOf29
 v22:=Tryz.zeroValue29
 t25:=Tryz.underlying89
 a25:=Tryz.isAgg89
 z25:=Tryz.sizeOf89
 v25:=Tryz.zeroValue89
 t39:=Tryz.underlying121
 a39:=Tryz.isAgg121
 z39:=Tryz.sizeOf121
 v39:=Tryz.zeroValue121
 t45:=Tryz.underlying168
 a45:=Tryz.isAgg168
 z45:=Tryz.sizeOf168
 v45:=Tryz.zeroValue168
 t46:=Tryz.underlying169
 a46:=Tryz.isAgg169
 z46:=Tryz.sizeOf169
 v46:=Tryz.zeroValue169
 t50:=Tryz.underlying154
 a50:=Tryz.isAgg154
 z50:=Tryz.sizeOf154
 v50:=Tryz.zeroValue154
 t53:=Tryz.underlying175
 a53:=Tryz.isAgg175
 z53:=Tryz.sizeOf175
 v53:=Tryz.zeroValue175
 t55:=Tryz.underlying177
 a55:=Tryz.isAgg177
 z55:=Tryz.sizeOf177
 v55:=Tryz.zeroValue177
 t66:=Tryz.underlying215
 a66:=Tryz.isAgg215
 z66:=Tryz.sizeOf215
 v66:=Tryz.zeroValue215
 t70:=Tryz.underlying219
 a70:=Tryz.isAgg219
 z70:=Tryz.sizeOf219
 v70:=Tryz.zeroValue219
 t76:=Tryz.underlying239
 a76:=Tryz.isAgg239
 z76:=Tryz.sizeOf239
 v76:=Tryz.zeroValue239
 t77:=Tryz.underlying240
 a77:=Tryz.isAgg240
 z77:=Tryz.sizeOf240
 v77:=Tryz.zeroValue240}
end
theorem lG (p:Option Addr) (n cap:Nat) (fv:Value) (w:World) (hn:n≤1):
  Calls Tryz.prog 104 #[.slice p n cap,.int .i64 0,.int .i64 n,fv] w fun e w'=>e= .returned (.tuple #[])∧w'=w:=by
 go_enter Tryz.func104,Tryz.ntmps104;go_wp2_with fail
 refine wp_loop_rounds 1 ?_;rw [rounds_succ];go_wp2_with fail
 go_end0;exact⟨rfl,rfl⟩
theorem nH (n:Nat) (w:World) (hn:n≤1):
  Calls Tryz.prog 58 #[.int .u64 n] w fun e w'=>(∃r:Int,e= .returned (.int .i64 r))∧w'=w:=by
 have hn':n=0∨n=1:=by omega
 have h64:Hid (∀W:World,Calls Tryz.prog 113 #[.int .u64 n] W fun e w'=>(∃r:Int,e= .returned (.int .i64 r))∧w'=W):=by
  intro W;rcases hn' with rfl | rfl
  ·go_enter Tryz.func113,Tryz.ntmps113;go_wp2;go_ret;exact⟨⟨_,rfl⟩,rfl⟩
  ·go_enter Tryz.func113,Tryz.ntmps113;go_wp2;go_ret;exact⟨⟨_,rfl⟩,rfl⟩
 rcases hn' with rfl | rfl
 all_goals
  go_enter Tryz.func58,Tryz.ntmps58;go_wp2_with fail
  refine(ag h64 _).mono ?_;rintro e w1 ⟨⟨r,rfl⟩,rfl⟩;go_wp2_with fail
  go_ret;exact⟨⟨_,rfl⟩,rfl⟩
theorem uS (p:Option Addr) (n cap:Nat) (lim:Int) (fv:Value) (w:World) (hn:n≤1):
  Calls Tryz.prog 57 #[.slice p n cap,.int .i64 0,.int .i64 n,.int .i64 lim,fv] w fun e w'=>e= .returned (.tuple #[])∧w'=w:=by
 go_enter Tryz.func57,Tryz.ntmps57;go_wp2_with fail
 refine wp_loop_rounds 1 ?_;rw [rounds_succ];go_wp2_with fail
 refine(lG _ _ _ _ _ hn).mono ?_;rintro e w1 ⟨rfl,rfl⟩;go_wp2_with fail
 (try simp only [Exit.inBlock,Exit.then]);refine bodyPost_ret (results_none rfl _ _ _) rfl ?_
 exact⟨rfl,rfl⟩
theorem nr (p:Option Addr) (n cap:Nat) (fv:Value) (w:World) (hn:n≤1):
  Calls Tryz.prog 29 #[.slice p n cap,fv] w fun e w'=>e= .returned (.tuple #[])∧w'=w:=by
 go_enter Tryz.func29,Tryz.ntmps29;go_wp2_with fail
 refine(nH n _ hn).mono ?_;rintro e w1 ⟨⟨r,rfl⟩,rfl⟩;go_wp2_with fail
 refine(uS _ _ _ _ _ _ hn).mono ?_;rintro e w1 ⟨rfl,rfl⟩;go_wp2_with fail
 go_end0;exact⟨rfl,rfl⟩
theorem px {l:List Ar} (hl:l.length≤1):lI l:=fun body u B w ho hB=>by
 obtain⟨o,c,rfl⟩:=az ho;refine(nr o l.length c _ w hl).mono ?_;rintro e w1 ⟨rfl,rfl⟩;refine⟨rfl,l,List.Perm.refl _,?_,ho,⟨rfl,rfl,rfl,Nat.le_refl _,fun _ _ _=>rfl⟩⟩
 match l,hl with
 | [],_=>exact List.Pairwise.nil
 | [x],_=>exact List.pairwise_singleton _ _
section
open Go.Sort (grow PermIn SortedIn SWO flatK get_flatK size_flatK HoldsK Holds putRowK putRow putCells mapBlock onCells)
theorem vw (body:ByteArray) (x y:Ar) (w:World):Calls Tryz.prog 30 #[.agg (arC body x).toArray,.agg (arC body y).toArray] w fun e w'=>e= .returned (.int .i64 (aJ x.n y.n))∧Grw w w':=by
 have H0:=aa (fun W=>cJ x.n y.n W);generalize aJ x.n y.n=R at H0⊢;unfold arC;go_enter Tryz.func30,Tryz.ntmps30;go_wp2_with fail
 refine(ag H0 _).mono ?_;rintro e w1 ⟨rfl,rfl⟩;go_wp2_with fail
 go_ret;exact⟨rfl,((Grw.refl w).alloc _).alloc _⟩
abbrev rN:Inhabited Ar:=⟨ar0⟩
def zh (x y:Ar):Int:=aJ x.n y.n
theorem za (x y:Ar):ltOf zh x y=decide (x.n<y.n):=by
 unfold ltOf zh aJ;by_cases h:x.n<y.n
 ·simp [h]
 ·by_cases h2:y.n<x.n
  ·simp [h,h2]
  ·simp [h,h2]
theorem Bo:SWO (ltOf zh) where
 irrefl x:=by rw [za];simp
 trans x y z h1 h2:=by
  rw [za]at*;simp only [decide_eq_true_eq]at*;omega
 ntrans x y z h1 h2:=by
  rw [za]at*;simp only [decide_eq_false_iff_not]at*;omega
section
variable {w:World} {blk:Nat} {body:ByteArray}
theorem vk (n:Nat) (d:Array Ar) (os:Array Obj):letI:=rN
  w.grownBy (sortWorldK (arC body) 9 w blk 0 n d os) (some blk):=by
 letI:=rN
 refine⟨rfl,rfl,rfl,?_,fun k hk hne=>?_⟩
 ·exact size_sortWorldK_c (arC body) 9 w blk 0 n d os
 ·unfold sortWorldK;rw [Go.Sort.heap_grow_old _ _ (by rw [Go.Sort.size_putRowK];exact hk)];unfold putRowK putRow mapBlock;simp only [Array.getElem?_modify];rw [if_neg (fun h=>hne (by rw [h]))];rfl
theorem wH (l:List Ar):letI:=rN
  (flatK (arC body) 9 l.toArray).toList=AR body l:=by
 letI:=rN
 refine List.ext_getElem? fun j=>?_;have hl:(AR body l).length=l.length*9:=by
  unfold AR
  induction l with
  | nil=>rfl
  | cons x r ih=>rw [List.flatMap_cons,List.length_append,ih,List.length_cons];show 9+_=_;omega
 by_cases hj:j<l.length*9
 ·have hsz:j<(flatK (arC body) 9 l.toArray).size:=by rw [size_flatK];simpa using hj
  rw [Array.getElem?_toList,Array.getElem?_eq_getElem hsz, ←getElem!_pos _ j hsz,get_flatK _ _ _ _ (by simpa using hj)];have hi:j/9<l.length:=(by omega);have e:j=j/9*9+j%9:=(by omega);have hf:=mW (arC body) 9 (fun _=>rfl) ar0 l (j/9) (j%9) hi (by omega);rw [←e]at hf;unfold AR;rw [hf];have hd:l.toArray[j/9]! =l.getD (j/9) ar0:=by
   rw [getElem!_pos _ _ (by simpa using hi)];simp [List.getD,List.getElem?_eq_getElem hi]
  rw [hd];have hm:j%9<(arC body (l.getD (j/9) ar0)).length:=by show _<9;omega
  rw [List.getElem?_eq_getElem hm,getElem!_pos (arC body (l.getD (j/9) ar0)) (j%9) hm]
 ·rw [List.getElem?_eq_none (by rw [Array.length_toList,size_flatK];simp;omega),List.getElem?_eq_none (by omega)]
theorem nS (B cap:Nat) (lo:List Ar) (hown:w.ownsRow B 58 9 (.slice (some ⟨blk,0,none⟩) lo.length cap) lo.length (AR body lo)) (hl:lo.length≤2000000):
  Calls Tryz.prog 29 #[.slice (some ⟨blk,0,none⟩) lo.length cap,.func (.func 30) #[] #[]] w fun e w'=>e= .returned (.tuple #[])∧∃lo':List Ar,lo'.Perm lo∧eI lo'∧w'.ownsRow B 58 9 (.slice (some ⟨blk,0,none⟩) lo.length cap) lo.length (AR body lo')∧w.grownBy w' (some blk):=by
 letI:=rN
 have eg:∀args w,(callFunc 30 args).run Tryz.prog w= .ok (.enter 30 args) w:=enters_of Tryz.func30 (by kernel_rfl) rfl;have hfl:=wH (body:=body) lo;have hown':=hown;obtain⟨hlen,⟨h,_⟩ |⟨g',cap',cur,hv,hB,hheap,hnc,hcm,hcs,htk⟩⟩:=hown
 ·simp at h
 simp only [Value.slice.injEq,Option.some.injEq,Addr.mk.injEq]at hv;obtain⟨⟨rfl,_⟩,_,rfl⟩:=hv;have hblk:blk<w.heap.size:=by
  rcases Nat.lt_or_ge blk w.heap.size with h' | h'
  ·exact h'
  ·simp [Array.getElem?_eq_none h']at hheap
 obtain⟨d,hd⟩:∃d,d=lo.toArray:=⟨_,rfl⟩;have hds:d.size=lo.length:=by rw [hd];simp
 rw [←hd]at hfl;have hH:HoldsK (arC body) 9 w blk 0 d:=by
  intro j hj;rw [size_flatK,hds]at hj;have hc:=hown'.cellAt j hj;have hf:=hown'.frozenAt j;have e:(AR body lo)[j]? =some ((flatK (arC body) 9 d)[j]!):=by
   rw [←hfl,Array.getElem?_toList,Array.getElem?_eq_getElem (by rw [size_flatK,hds];exact hj),getElem!_pos _ j (by rw [size_flatK,hds];exact hj)]
  rw [Nat.zero_add];exact⟨hc.trans e,hf⟩
 have hone:∀x:Ar,∀v∈arC body x,v.oneCell'=true:=fun x v hv=>by
  unfold arC at hv;simp only [List.mem_cons,List.not_mem_nil,or_false]at hv;rcases hv with rfl | rfl | rfl | rfl | rfl | rfl | rfl | rfl | rfl <;>rfl
 have hcon:=AnyQ.slices_SortFunc Tryz.sortAr 9 Tryz.isAgg58 Tryz.sizeOf58 (arC body) (fun _=>rfl) hone zh Bo 30 #[] blk 0 cap d w eg (fun m os dk _ x y=>vw body x y _) hH hblk (by omega);rw [hds]at hcon;refine Calls.mono hcon ?_;rintro e w' ⟨he,d',n,os,hp,hs,rfl⟩;have hds':d'.size=lo.length:=by rw [hp.1,hds]
 have hfl':(flatK (arC body) 9 d').toList=AR body d'.toList:=wH (body:=body) d'.toList;refine⟨he,d'.toList,?_,?_,?_,?_⟩
 ·have h1:=hp.2.2;have e1:d'.extract 0 lo.length=d':=by rw [←hds'];simp
  have e2:d.extract 0 lo.length=d:=by rw [←hds];simp
  rw [e1,e2,hd]at h1;simpa using h1
 ·unfold eI;rw [List.pairwise_iff_getElem];intro i j hi hj hij;have hi':i<d'.size:=(by simpa using hi);have hj':j<d'.size:=(by simpa using hj);have h1:=hs i j (Nat.zero_le _) hij (by omega);rw [za,getElem!_pos d' i hi',getElem!_pos d' j hj']at h1;simpa using h1
 ·have hcl:(AR body d'.toList).length=lo.length*9:=(by rw [←hfl',Array.length_toList,size_flatK,hds']);refine⟨hcl,.inr ⟨blk,cap,putCells id 0 (flatK (arC body) 9 d') cur,rfl,hB,?_,hnc,hcm,?_,?_⟩⟩
  ·unfold sortWorldK;rw [Go.Sort.heap_grow_old _ _ (by rw [Go.Sort.size_putRowK];exact hblk)];unfold putRowK putRow mapBlock;simp only [Array.getElem?_modify,if_true];show(w.heap[blk]?).map _=_;rw [hheap];rfl
  ·rw [←hcs];simp [putCells]
  ·rw [←hfl'];refine List.ext_getElem? fun j=>?_;by_cases hj:j<lo.length*9
   ·rw [List.getElem?_take,if_pos hj,Array.getElem?_toList,Array.getElem?_toList];unfold putCells;rw [Array.getElem?_mapIdx];have hjc:j<cur.size:=by rw [hcs];omega
    have hjf:j<(flatK (arC body) 9 d').size:=by rw [size_flatK,hds'];exact hj
    rw [Array.getElem?_eq_getElem hjc,Array.getElem?_eq_getElem hjf];simp only [Option.map_some,Nat.zero_le,true_and,Nat.zero_add,Nat.sub_zero,id];rw [if_pos hjf,getElem!_pos _ j hjf]
   ·rw [List.getElem?_eq_none (by simp;omega),List.getElem?_eq_none (by rw [Array.length_toList,size_flatK,hds'];omega)]
 ·exact vk n d' os
end
theorem qC {l:List Ar} (hl:l.length≤2000000):lI l:=fun body u B w ho hB=>by
 by_cases h1:l.length≤1
 ·exact px h1 body u B w ho hB
 obtain⟨oo,oc,rfl,_,hg⟩:=eh ho;obtain⟨g,rfl,_,_⟩:=hg (by omega);exact nS B oc l ho hl
end
section
variable {S:List Sw} {P:List Pr} {A:List Ac}
theorem zA (hm:may S P A=true) {p:Pr} (hp:p∈P) (d sc k a b t o:Int):(led S P A p.c p.i d sc k a b t o).length≤100:=by
 obtain⟨hS,hP,_⟩:=aR hm;have hl:=(bI hS hP).1;rw [qp hm hp];split
 ·split
  ·have:=na hm hp p.c p.m p.p b;omega
  ·split
   ·unfold lE;rw [List.length_append,List.length_map,List.length_map];have h1:=List.length_filter_le (brB (dz S p.s) p.i d) P;have h2:=List.length_filter_le (rtB S (dz S p.s) d b t) P;omega
   ·simp
 ·simp
end

structure Ax where
 k:Int
 si:Int
 st:Int
 sg:Int
 pi:Int
 ps:Int
 pm:Int
 pp:Int
 pc:Int
 rs:Int
 rp:Int
 rn:Bool
 rf:Int
 rb:Int
 rt:Int
 re:Int
 ro:Int
 rd:Bool
 n:Int
 m:Int
 f0:Int
 f1:Int
 f2:Int
 f3:Int
 f4:Int
 f5:Int
 f6:Int
 body:ByteArray
def Ax.s (a:Ax):Sw:=⟨a.si,a.st,a.sg⟩
def Ax.p (a:Ax):Pr:=⟨a.pi,a.ps,a.pm,a.pp,a.pc⟩
def Ax.r (a:Ax):Ac:=⟨a.rs,a.rp,a.rn,a.rf,a.rb,a.rt,a.re,a.ro,a.rd⟩
def pat (P:List Pr) (id:Int):Int:=idx (fun x=>x.i==id) P
def j9 (S:List Sw) (P:List Pr) (A:List Ac) (a:Ax):Int:=
 if a.k=1 then aK S P a.s else if a.k=2 then aN S P a.p else if a.k=3 then aU S A a.r else if a.k=4 then(if inB (pat P a.n) 0 (P.length-1)=true then 0 else 6)else
 if a.k=6 then(if inB (pat P a.n) 0 (P.length-1)=true then(if inB a.m (-1) 5=true then 0 else 2)else 6)else if a.k=5 then(if inB a.n 0 (A.length-1)=true then 0 else 6)else 3

def nxS (S:List Sw) (a:Ax):List Sw:=if a.k=1 then S++ [a.s]else S
def nxP (P:List Pr) (a:Ax):List Pr:=if a.k=2 then P++ [a.p]else if a.k=4 then P.eraseIdx (pat P a.n).toNat else if a.k=6 then P.set (pat P a.n).toNat ⟨(P.getD (pat P a.n).toNat pr0).i,(P.getD (pat P a.n).toNat pr0).s,(P.getD (pat P a.n).toNat pr0).m,(P.getD (pat P a.n).toNat pr0).p,a.m⟩else P
def nxA (A:List Ac) (a:Ax):List Ac:=if a.k=3 then A++ [a.r]else if a.k=5 then A.eraseIdx a.n.toNat else A
theorem RowAt.set_far {α:Type} {C:α→List Value} {sz:Nat} {w:World} {v:Value} {l:List α} (h:RowAt C sz w v l) {b:Nat} (hne:v.ownBlock≠some b) (o:Nat) (x:Value):RowAt C sz (w.setCell ⟨b,o,none⟩ x) v l:=by
 obtain⟨a,cap,rfl,hn,h0 |⟨b',off,rfl,hc,hL⟩⟩:=h
 ·exact⟨a,cap,rfl,hn,.inl h0⟩
 ·refine⟨_,cap,rfl,hn,.inr ⟨b',off,rfl,hc,fun i y hy j u hu=>?_⟩⟩;rw [World.cell?_setCell_other _ _ _ _ (fun e=>hne (by simp only [Addr.mk.injEq]at e;simp [Value.ownBlock,e.1]))];exact hL i y hy j u hu
theorem CfAt.set_far {w:World} {sv pv av:Value} {S:List Sw} {P:List Pr} {A:List Ac} (h:CfAt w sv pv av S P A) {b:Nat} (h1:sv.ownBlock≠some b) (h2:pv.ownBlock≠some b) (h3:av.ownBlock≠some b) (o:Nat) (x:Value):CfAt (w.setCell ⟨b,o,none⟩ x) sv pv av S P A:=
 ⟨RowAt.set_far h.1 h1 o x,RowAt.set_far h.2.1 h2 o x,RowAt.set_far h.2.2 h3 o x⟩
theorem zZ {w w':World} {row:Option Nat} (hg:w.grownBy w' row) {b o:Nat} (hb:b<w.heap.size) (h:w.frozen? ⟨b,o,none⟩=false) (hne:some b≠row):w'.frozen? ⟨b,o,none⟩=false:=
 (World.frozen?_of_block (w:=w) (hg.block b hb hne)).trans h
def Hi3 (B:Nat) (x y z:Value):Prop:=(∀g,x.ownBlock=some g→B≤g)∧(∀g,y.ownBlock=some g→B≤g)∧(∀g,z.ownBlock=some g→B≤g)
theorem Box.grownC {w w':World} {b:Nat} {cs:List Value} {row:Option Nat} (h:Box w b cs) (hg:w.grownBy w' row) (hne:some b≠row):Box w' b cs:=
 ⟨⟨Nat.lt_of_lt_of_le h.1.1 hg.size,fun j v hj=>hg.cell (h.1.2 j v hj) hne⟩,fun j hj=>zZ hg h.1.1 (h.2 j hj) hne⟩
def Th (w W:World) (s p a:Value):Prop:=Box W w.heap.size [s,p,a]∧Box W (w.heap.size+1+1) [.slice none 0 0,.slice none 0 0,.slice none 0 0]
theorem Th.new (w:World) (s p a:Value) (x:Obj):Th w (((w.alloc (.cells #[s,p,a] 26)).alloc x).alloc (.cells #[.slice none 0 0,.slice none 0 0,.slice none 0 0] 26)) s p a:=by
 have h:=Box.new ((w.alloc (.cells #[s,p,a] 26)).alloc x) [.slice none 0 0,.slice none 0 0,.slice none 0 0] 26;rw [show((w.alloc (.cells #[s,p,a] 26)).alloc x).heap.size=w.heap.size+1+1 by simp]at h;exact⟨((Box.new w [s,p,a] 26).alloc x).alloc _,h⟩
theorem Th.below {w W V:World} {s p a:Value} (h:Th w W s p a) (hb:Below W.heap.size W V):Th w V s p a:=⟨h.1.below hb,h.2.below hb⟩
theorem Th.alloc {w W:World} {s p a:Value} (h:Th w W s p a) (x:Obj):Th w (W.alloc x) s p a:=⟨h.1.alloc x,h.2.alloc x⟩
theorem Th.grown {w W V:World} {s p a:Value} {row:Option Nat} (h:Th w W s p a) (hg:W.grownBy V row) (hn:∀b,w.heap.size≤b→some b≠row):Th w V s p a:=⟨h.1.grownC hg (hn _ zr),h.2.grownC hg (hn _ (by omega))⟩
theorem bQ {w w':World} {B b o:Nat} {cs:List Value} (h:w.rangeAt b o cs) (hb:Below B w w') (hB:w.heap.size≤B):w'.rangeAt b o cs:=fun j v hv=>dp (h j v hv) hb hB
def nY (S:List Sw) (P:List Pr) (A:List Ac) (a:Ax):Int:=if may S P A=true then j9 S P A a else 8
def apS (S:List Sw) (P:List Pr) (A:List Ac) (a:Ax):List Sw:=if nY S P A a=0 then nxS S a else []
def apP (S:List Sw) (P:List Pr) (A:List Ac) (a:Ax):List Pr:=if nY S P A a=0 then nxP P a else []
def apA (S:List Sw) (P:List Pr) (A:List Ac) (a:Ax):List Ac:=if nY S P A a=0 then nxA A a else []
theorem Hi3.none (B:Nat):Hi3 B (.slice none 0 0) (.slice none 0 0) (.slice none 0 0):=⟨fun g h=>by simp [Value.ownBlock]at h,fun g h=>by simp [Value.ownBlock]at h,fun g h=>by simp [Value.ownBlock]at h⟩
theorem Hi3.mono {B B':Nat} {x y z:Value} (h:Hi3 B x y z) (hb:B'≤B):Hi3 B' x y z:=⟨fun g e=>Nat.le_trans hb (h.1 g e),fun g e=>Nat.le_trans hb (h.2.1 g e),fun g e=>Nat.le_trans hb (h.2.2 g e)⟩

def cS (S:List Sw) (P:List Pr) (A:List Ac) (a:Ax):List Sw:=if nY S P A a=0 then apS S P A a else S
def cP (S:List Sw) (P:List Pr) (A:List Ac) (a:Ax):List Pr:=if nY S P A a=0 then apP S P A a else P
def cA (S:List Sw) (P:List Pr) (A:List Ac) (a:Ax):List Ac:=if nY S P A a=0 then apA S P A a else A
structure Rp where
 c:Int
 l:List Ar
 body:ByteArray
structure Rv where
 r:Rp
 v:Value
def rvC (x:Rv):List Value:=[.int .i64 x.r.c,x.v]
def BM (w:World) (B:Nat) (u:Value) (x:Rv):Prop:=w.ownsRow B 58 9 x.v x.r.l.length (AR x.r.body x.r.l)∧∀g,x.v.ownBlock=some g→u.ownBlock≠some g
def RR (w:World) (B:Nat) (u:Value) (rs:List Rp):Prop:=∃lo:List Rv,lo.map Rv.r=rs∧w.ownsRow B 41 2 u lo.length (lo.flatMap rvC)∧∀x∈lo,BM w B u x
theorem RR.below {w w':World} {B:Nat} {u:Value} {rs:List Rp} (h:RR w B u rs) (hb:Below w.heap.size w w'):RR w' B u rs:=by
 obtain⟨lo,e,ho,hx⟩:=h;exact⟨lo,e,ar ho hb,fun x hx'=>⟨ar (hx x hx').1 hb,(hx x hx').2⟩⟩
theorem RR.nil (w:World) (B:Nat):RR w B (.slice none 0 0) []:=⟨[],rfl,World.ownsRow_nil _ _ _ _,fun x hx=>by cases hx⟩
theorem RR.less {w:World} {B B':Nat} {u:Value} {rs:List Rp} (h:RR w B u rs) (hB:B'≤B):RR w B' u rs:=by
 obtain⟨lo,e,ho,hx⟩:=h;exact⟨lo,e,aA ho hB,fun x hx'=>⟨aA (hx x hx').1 hB,(hx x hx').2⟩⟩
theorem RR.slc {w:World} {B:Nat} {u:Value} {rs:List Rp} (h:RR w B u rs):∃o c,u= .slice o rs.length c:=by
 obtain⟨lo,e,ho,hx⟩:=h;obtain⟨o,c,h⟩:=az ho;exact⟨o,c,by rw [h, ←e,List.length_map]⟩
theorem RR.in {w:World} {B:Nat} {u:Value} {rs:List Rp} (h:RR w B u rs):∀g,u.ownBlock=some g→B≤g∧g<w.heap.size:=fun g hg=>by
 obtain⟨lo,e,ho,hx⟩:=h;exact⟨aS ho g hg,dD ho hg⟩
theorem Kept.set1 {X:Nat→Prop} {w:World} {F:World→Prop} (h:Kept X w F) {b:Nat} (hb:X b) (j:Nat) (v:Value):Kept X (w.setCell ⟨b,j,none⟩ v) F:=h.set hb j [v]
def XU (w:World) (u:Value) (k:Nat):Prop:=k<w.heap.size+3∨u.ownBlock=some k
def XR (w wr:World) (u:Value) (k:Nat):Prop:=XU w u k∨k=wr.heap.size+1
theorem Box.grown {w w':World} {b:Nat} {cs:List Value} {row:Option Nat} (h:Box w b cs) (hg:w.grownBy w' row) (hne:row≠some b):Box w' b cs:=by
 have hblk:w'.heap[b]? =w.heap[b]?:=hg.block b h.1.1 (fun e=>hne e.symm);refine⟨⟨Nat.lt_of_lt_of_le h.1.1 hg.size,fun j v hj=>?_⟩,fun j hj=>?_⟩
 ·rw [ei hblk];exact h.1.2 j v hj
 ·have:=h.2 j hj;unfold World.frozen? at this⊢;simp only [hblk];exact this
def RunAt (I:Nat→List Sw→List Pr→List Ac→(Nat→List Fl)→List Rp→Prop) (w wr:World) (k:Nat) (u:Value):Prop:=
 ∃(S:List Sw) (P:List Pr) (A:List Ac) (K:Nat→List Fl) (rs:List Rp) (sv pv av:Value) (ks:List Value),(I k S P A K rs∧rs.length=k)∧RR wr (w.heap.size+3) u rs∧Kept (XU w u) wr (fun W=>CfAt W sv pv av S P A)∧Kept (XU w u) wr (fun W=>KAt W ks K)∧
  (Box wr w.heap.size [.slice none 0 0,.slice none 0 0,.slice none 0 0]∧Box wr (w.heap.size+1) [sv,pv,av]∧Box wr (w.heap.size+2) ks)∧Below w.heap.size w wr
theorem RunAt.next {I:Nat→List Sw→List Pr→List Ac→(Nat→List Fl)→List Rp→Prop} {w wr w7 w8:World} {k:Nat} {u v:Value} {S:List Sw} {P:List Pr} {A:List Ac} {K:Nat→List Fl} {rs:List Rp} {r:Rp} {sv pv av:Value} {ks:List Value} (hI:I (k+1) S P A K (rs++ [r])) (hl:rs.length=k)
  (hR:RR w8 (w.heap.size+3) v (rs++ [r])) (hg:w7.grownBy w8 u.ownBlock) (ha:v.ownBlock=u.ownBlock∨v.ownBlock=some w7.heap.size) (hu:∀g,u.ownBlock=some g→w.heap.size+3≤g) (hC:Kept (XR w wr u) w7 fun W=>CfAt W sv pv av S P A) (hK:Kept (XR w wr u) w7 fun W=>KAt W ks K)
  (h0:Box w7 w.heap.size [.slice none 0 0,.slice none 0 0,.slice none 0 0]) (h1:Box w7 (w.heap.size+1) [sv,pv,av]) (h2:Box w7 (w.heap.size+2) ks) (hb:Below w.heap.size w w7):RunAt I w w8 (k+1) v:=by
 have hX:∀k,XU w v k→XR w wr u k∨w7.heap.size≤k:=fun k hk=>by
  rcases hk with hk | hk
  ·exact .inl (.inl (.inl hk))
  ·rcases ha with e | e
   ·exact .inl (.inl (.inr (e ▸ hk)))
   ·rw [e]at hk;cases hk;exact .inr zr
 have hne:∀b,b<w.heap.size+3→u.ownBlock≠some b:=fun b hb e=>by have:=hu b e;omega
 exact⟨S,P,A,K,rs++ [r],sv,pv,av,ks,⟨hI,by simp [hl]⟩,hR,hC.grown hg (fun g e=>.inl (.inr e)) hX,hK.grown hg (fun g e=>.inl (.inr e)) hX,⟨h0.grown hg (hne _ (by omega)),h1.grown hg (hne _ (by omega)),h2.grown hg (hne _ (by omega))⟩,hb.grown hg hb.size (fun g e=>by have:=hu g e;omega)⟩



theorem jr {α:Type} {L0 R0 L R:List α} {x:α} (h:L0++R0=L++x::R):(∃L1,L=L0++L1∧R0=L1++x::R)∨∃L1,L0=L++x::L1∧R=L1++R0:=by
 rw [List.append_eq_append_iff]at h;rcases h with⟨a,h1,h2⟩ |⟨a,h1,h2⟩
 ·exact .inl ⟨a,h1,h2⟩
 ·cases a with
  | nil=>simp at h1 h2;exact .inl ⟨[],by simp [h1],by simp [h2]⟩
  | cons b c=>
   simp at h2;obtain⟨rfl,h2⟩:=h2;exact .inr ⟨c,h1,h2⟩
def Like (y z:Pr):Prop:=y.i=z.i∧y.s=z.s∧y.m=z.m∧y.p=z.p
theorem Like.refl (y:Pr):Like y y:=⟨rfl,rfl,rfl,rfl⟩
theorem oU {S:List Sw} {P P':List Pr} {x x':Pr} (h:aN S P x=0) (hx:Like x' x) (hb:eN x'=true) (hp:∀y∈P',∃z∈P,Like y z) (hl:P'.length≤P.length):aN S P' x'=0:=by
 rw [ed]at h⊢;obtain⟨h1,h2,h3,h4,h5⟩:=h;obtain⟨e1,e2,e3,e4⟩:=hx;rw [e1,e2,e3,e4];refine⟨hb,h2,?_,?_,by omega⟩
 ·rw [List.any_eq_false]at h3⊢;intro y hy;obtain⟨z,hz,f1,f2,f3,f4⟩:=hp y hy;rw [f1,f2,f3];exact h3 z hz
 ·unfold bq at h4⊢;rw [Bool.or_eq_false_iff]at h4⊢;refine⟨h4.1,?_⟩;have h6:=h4.2;rw [List.any_eq_false]at h6⊢;intro y hy;obtain⟨z,hz,f1,f2,f3,f4⟩:=hp y hy;rw [f2,f4];exact h6 z hz
theorem xT {S:List Sw} {P:List Pr} (h:aL S P=true) (k:Nat):aL S (P.eraseIdx k)=true:=by
 rcases Nat.lt_or_ge k P.length with hk | hk
 ·have e:P=P.take k++P[k]::P.drop (k+1):=by
   conv=>lhs;rw [←List.take_append_drop k P]
   rw [List.drop_eq_getElem_cons hk]
  rw [List.eraseIdx_eq_take_drop_succ];rw [cG]at h⊢;intro L x R hq;rcases jr hq with⟨L1,rfl,h2⟩ |⟨L1,h1,rfl⟩
  ·have h3:=h (P.take k++P[k]::L1) x R (by rw [List.append_assoc,List.cons_append, ←h2];exact e);refine oU h3 (Like.refl x) ((ed _ _ _).1 h3).1 (fun y hy=>⟨y,?_,Like.refl y⟩) (by simp);simp only [List.mem_append,List.mem_cons]at hy⊢;rcases hy with hy | hy
   ·exact .inl hy
   ·exact .inr (.inr hy)
  ·exact h L x (L1++P[k]::P.drop (k+1)) (by rw [←List.cons_append, ←List.append_assoc, ←h1];exact e)
 ·rw [List.eraseIdx_of_length_le hk];exact h
theorem vZ {S:List Sw} {P:List Pr} (h:aL S P=true) (k:Nat) {m:Int} (hm:inB m (-1) 5=true):aL S (P.set k ⟨(P.getD k pr0).i,(P.getD k pr0).s,(P.getD k pr0).m,(P.getD k pr0).p,m⟩)=true:=by
 rcases Nat.lt_or_ge k P.length with hk | hk
 ·have hg:P.getD k pr0=P[k]:=(by simp [List.getD,List.getElem?_eq_getElem hk]);rw [hg];obtain⟨z,hz⟩:∃z:Pr,z=⟨P[k].i,P[k].s,P[k].m,P[k].p,m⟩:=⟨_,rfl⟩;rw [←hz];have hzb:Like z P[k]:=by rw [hz];exact⟨rfl,rfl,rfl,rfl⟩
  have hzi:eN z=true:=by
   have:=(uj h (List.getElem_mem hk)).1;rw [hz];unfold eN at this⊢;simp only [Bool.and_eq_true]at this⊢;exact⟨this.1,hm⟩
  clear hz;have e:P=P.take k++P[k]::P.drop (k+1):=by
   conv=>lhs;rw [←List.take_append_drop k P]
   rw [List.drop_eq_getElem_cons hk]
  have e2:P.set k z=P.take k++z::P.drop (k+1):=by
   rw [List.set_eq_take_append_cons_drop,if_pos hk]
  rw [e2];rw [cG]at h⊢;intro L x R hq;rcases jr hq with⟨L1,rfl,h2⟩ |⟨L1,h1,rfl⟩
  ·cases L1 with
   | nil=>
    simp at h2;obtain⟨rfl,rfl⟩:=h2;have h3:=h (P.take k) P[k] _ e;rw [List.append_nil];exact oU h3 hzb hzi (fun y hy=>⟨y,hy,Like.refl y⟩) zr
   | cons b c=>
    simp at h2;obtain⟨rfl,h2⟩:=h2;have h3:=h (P.take k++P[k]::c) x R (by rw [List.append_assoc,List.cons_append, ←h2];exact e);refine oU h3 (Like.refl x) ((ed _ _ _).1 h3).1 (fun y hy=>?_) (by simp);simp only [List.mem_append,List.mem_cons]at hy;rcases hy with hy | rfl | hy
    ·exact⟨y,by simp [hy],Like.refl y⟩
    ·exact⟨P[k],by simp,hzb⟩
    ·exact⟨y,by simp [hy],Like.refl y⟩
  ·exact h L x (L1++P[k]::P.drop (k+1)) (by rw [←List.cons_append, ←List.append_assoc, ←h1];exact e)
 ·rw [List.set_eq_of_length_le hk];exact h
theorem yV {S:List Sw} {P:List Pr} {x:Pr} (h:aL S P=true) (hx:aN S P x=0):aL S (P++ [x])=true:=by
 rw [cG]at h⊢;intro L y R hq;rcases ir hq with⟨rfl,rfl⟩ |⟨R',e⟩
 ·exact hx
 ·exact h L y R' e
theorem rV {S:List Sw} {s:Sw} {id:Int} (h:0≤idx (fun x=>x.i==id) S):idx (fun x=>x.i==id) (S++ [s])=idx (fun x=>x.i==id) S:=by
 unfold idx at h⊢;rw [List.findIdx?_append];cases hq:S.findIdx? (fun x=>x.i==id)with
 | none=>rw [hq]at h;simp at h
 | some k=>rfl
theorem zv {S:List Sw} {s:Sw} {id:Int} (h:0≤idx (fun x=>x.i==id) S):tn (S++ [s]) id=tn S id:=by
 unfold tn;rw [rV h];have:=(yJ (fun x:Sw=>x.i==id) S).2;simp only [List.getD];rw [List.getElem?_append_left (by omega)]
theorem Bv {S:List Sw} {id:Int} (h:0≤idx (fun x=>x.i==id) S):S.any (fun s=>s.i==id&&s.t==tn S id)=true:=by
 unfold tn;unfold idx at h⊢;cases hq:S.findIdx? (fun x=>x.i==id)with
 | none=>rw [hq]at h;simp at h
 | some k=>
  obtain⟨hk,hp,_⟩:=List.findIdx?_eq_some_iff_getElem.1 hq;refine List.any_eq_true.2 ⟨S[k],List.getElem_mem hk,?_⟩;simp only [Int.toNat_natCast,List.getD,List.getElem?_eq_getElem hk,Option.getD_some,beq_self_eq_true,Bool.and_true];exact hp
theorem zg {S:List Sw} {P L:List Pr} {s:Sw} {x:Pr} (hs:aK S P s=0) (hP:aL S P=true) (hL:∀y∈L,y∈P) (hx:x∈P) (h:aN S L x=0):aN (S++ [s]) L x=0:=by
 rw [ed]at h⊢;obtain⟨h1,h2,h3,h4,h5⟩:=h;rw [zv h2,rV h2];refine⟨h1,h2,h3,?_,h5⟩;obtain⟨⟨_,_,s1⟩,⟨s2,s3⟩,_⟩:=kQ hs;have hip:1≤x.p:=by
  unfold eN at h1;simp only [Bool.and_eq_true,inB,decide_eq_true_eq]at h1;omega
 unfold bq at h4⊢;rw [Bool.or_eq_false_iff]at h4⊢;obtain⟨h6,h7⟩:=h4;constructor
 ·rw [List.any_append,h6,Bool.false_or];simp only [List.any_cons,List.any_nil,Bool.or_false];refine Bool.not_eq_true _ |>.mp fun hc=>?_
  simp only [Bool.and_eq_true,beq_iff_eq]at hc;have hg:(s.g != 0)=true:=by simp;omega
  rw [hg,Bool.true_and]at s3;unfold bq at s3;rw [Bool.or_eq_false_iff]at s3;have s4:=s3.2;rw [List.any_eq_false]at s4;refine s4 x hx ?_;rw [hc.2,hc.1];simp only [beq_self_eq_true,Bool.true_and];exact Bv h2
 ·rw [List.any_eq_false]at h7⊢;intro y hy hc;refine h7 y hy ?_;simp only [Bool.and_eq_true]at hc⊢;refine⟨hc.1,?_⟩;have hc2:=hc.2;rw [List.any_append,Bool.or_eq_true]at hc2;rcases hc2 with hc2 | hc2
  ·exact hc2
  ·simp only [List.any_cons,List.any_nil,Bool.or_false,Bool.and_eq_true,beq_iff_eq]at hc2;have hy2:=(uj hP (hL y hy)).2;have ha:S.any (fun q=>q.i==y.s)=true:=by rw [←bX];simpa using hy2
   rw [←hc2.1,s2]at ha;simp at ha
theorem xh {S:List Sw} {P:List Pr} {s:Sw} (hs:aK S P s=0) (h:aL S P=true):aL (S++ [s]) P=true:=by
 have h':=(cG S P).1 h;rw [cG];rintro L x R rfl;exact zg hs h (fun y hy=>by simp [hy]) (by simp) (h' L x R rfl)
theorem uk {S S':List Sw} {A A':List Ac} {x:Ac} (h:aU S A x=0) (hs:∀y∈S,y∈S') (hl:A'.length≤A.length):aU S' A' x=0:=by
 rw [s8]at h⊢;refine⟨h.1,h.2.1,?_,by omega⟩;have h3:=h.2.2.1;rw [List.any_eq_true]at h3⊢;obtain⟨y,hy,e⟩:=h3;exact⟨y,hs y hy,e⟩
theorem yM {S:List Sw} {A:List Ac} (h:bE S A=true) (k:Nat):bE S (A.eraseIdx k)=true:=by
 rcases Nat.lt_or_ge k A.length with hk | hk
 ·have e:A=A.take k++A[k]::A.drop (k+1):=by
   conv=>lhs;rw [←List.take_append_drop k A]
   rw [List.drop_eq_getElem_cons hk]
  rw [List.eraseIdx_eq_take_drop_succ];rw [kg]at h⊢;intro L x R hq;rcases jr hq with⟨L1,rfl,h2⟩ |⟨L1,h1,rfl⟩
  ·have h3:=h (A.take k++A[k]::L1) x R (by rw [List.append_assoc,List.cons_append, ←h2];exact e);exact uk h3 (fun y hy=>hy) (by simp)
  ·exact h L x (L1++A[k]::A.drop (k+1)) (by rw [←List.cons_append, ←List.append_assoc, ←h1];exact e)
 ·rw [List.eraseIdx_of_length_le hk];exact h
theorem zM {S:List Sw} {A:List Ac} {x:Ac} (h:bE S A=true) (hx:aU S A x=0):bE S (A++ [x])=true:=by
 rw [kg]at h⊢;intro L y R hq;rcases ir hq with⟨rfl,rfl⟩ |⟨R',e⟩
 ·exact hx
 ·exact h L y R' e
theorem xQ {S:List Sw} {A:List Ac} {s:Sw} (h:bE S A=true):bE (S++ [s]) A=true:=by
 rw [kg]at h⊢;intro L x R hq;exact uk (h L x R hq) (fun y hy=>by simp [hy]) zr
theorem zU {S:List Sw} {P:List Pr} {s:Sw} (h:aK S P s=0):aK S [] s=0:=by
 obtain⟨⟨a,b,c⟩,⟨d,e⟩,f⟩:=kQ h;unfold aK;rw [a,b,c,d];have e':(s.g != 0&&bq S [] s.t s.g)=false:=by
  cases hg:(s.g != 0)with
  | false=>rfl
  | true=>
   rw [hg,Bool.true_and]at e;unfold bq at e⊢;rw [Bool.or_eq_false_iff]at e;simp [e.1]
 rw [e'];simp;omega
theorem zj {S:List Sw} {P:List Pr} {s:Sw} (h:aW S=true) (hs:aK S P s=0):aW (S++ [s])=true:=by
 rw [m9]at h⊢;intro L y R hq;rcases ir hq with⟨rfl,rfl⟩ |⟨R',e⟩
 ·exact zU hs
 ·exact h L y R' e
theorem yu {S:List Sw} {P:List Pr} {A:List Ac} {a:Ax} (h:may S P A=true) (ha:j9 S P A a=0):may (nxS S a) (nxP P a) (nxA A a)=true:=by
 obtain⟨h1,h2,h3⟩:=aR h;have go:∀{S':List Sw} {P':List Pr} {A':List Ac},aW S'=true→aL S' P'=true→bE S' A'=true→may S' P' A'=true:=fun a b c=>by unfold may;rw [a,b,c];rfl
 unfold j9 at ha;unfold nxS nxP nxA;by_cases k1:a.k=1
 ·rw [if_pos k1]at ha;simp only [k1,if_pos];exact go (zj h1 ha) (xh ha h2) (xQ h3)
 ·rw [if_neg k1]at ha;rw [if_neg k1];by_cases k2:a.k=2
  ·rw [if_pos k2]at ha;rw [if_pos k2,if_neg (by omega),if_neg (by omega)];exact go h1 (yV h2 ha) h3
  ·rw [if_neg k2]at ha;rw [if_neg k2];by_cases k3:a.k=3
   ·rw [if_pos k3]at ha;rw [if_neg (by omega),if_neg (by omega),if_pos k3];exact go h1 h2 (zM h3 ha)
   ·rw [if_neg k3]at ha;rw [if_neg k3];by_cases k4:a.k=4
    ·rw [if_pos k4,if_neg (by omega)];exact go h1 (xT h2 _) h3
    ·rw [if_neg k4]at ha;rw [if_neg k4];by_cases k6:a.k=6
     ·rw [if_pos k6]at ha;rw [if_pos k6,if_neg (by omega)];by_cases hb:inB a.m (-1) 5=true
      ·exact go h1 (vZ h2 _ hb) h3
      ·rw [if_neg hb]at ha;split at ha <;>omega
     ·rw [if_neg k6];by_cases k5:a.k=5
      ·rw [if_pos k5];exact go h1 h2 (yM h3 _)
      ·rw [if_neg k5];exact h
theorem AM {S:List Sw} {P:List Pr} {A:List Ac} {a:Ax} (h:nY S P A a=0):may S P A=true∧j9 S P A a=0:=by
 unfold nY at h;cases hm:may S P A with
 | true=>rw [hm]at h;exact⟨rfl,by simpa using h⟩
 | false=>rw [hm]at h;simp at h
theorem ve {S:List Sw} {P:List Pr} {A:List Ac} {a:Ax} (h:may S P A=true) (ha:nY S P A a=0):may (apS S P A a) (apP S P A a) (apA S P A a)=true:=by
 unfold apS apP apA;rw [if_pos ha,if_pos ha,if_pos ha];exact yu h (AM ha).2
theorem jI (F:List Int):ran [] F= []:=rfl
theorem zP:may [] [] []=true:=by decide
theorem BG {S:List Sw} {P:List Pr} {A:List Ac} (h:may S P A=true) (x:Ax):may (cS S P A x) (cP S P A x) (cA S P A x)=true:=by
 unfold cS cP cA;by_cases e:nY S P A x=0
 ·rw [if_pos e,if_pos e,if_pos e];exact ve h e
 ·rw [if_neg e,if_neg e,if_neg e];exact h
structure Stt where
 S:List Sw
 P:List Pr
 A:List Ac
 K:Nat→List Fl
def stA (σ:Stt) (x:Ax):Stt:=if x.k=7 then⟨σ.S,σ.P,σ.A,lB σ.S σ.P σ.A σ.K x.n⟩else if x.k=8 then σ else⟨cS σ.S σ.P σ.A x,cP σ.S σ.P σ.A x,cA σ.S σ.P σ.A x,σ.K⟩
def Lrn (Q:List Pr→Prop) (K:Nat→List Fl):Prop:=∀i:Nat,i<6→K i= []∨∃S P A,(may S P A=true∧Q P)∧K i=cmL S P A i
theorem Lrn.syn {Q:List Pr→Prop} {K:Nat→List Fl} (h:Lrn Q K) {S:List Sw} {P:List Pr} {A:List Ac} (hq:Q P) (ch:Int):Lrn Q (lB S P A K ch):=by
 unfold lB;split
 ·rename_i he;obtain⟨hm,h0,h1⟩:=jD he;intro i hi;by_cases e:i=ch.toNat
  ·simp only [if_pos e];exact .inr ⟨S,P,A,⟨hm,hq⟩,by rw [show((i:Nat):Int)=ch by omega]⟩
  ·simp only [if_neg e];exact h i hi
 ·exact h
theorem Lrn.mono {Q R:List Pr→Prop} {K:Nat→List Fl} (h:Lrn Q K) (hq:∀P,Q P→R P):Lrn R K:=fun i hi=>by
 rcases h i hi with h |⟨S,P,A,⟨h1,h2⟩,h3⟩
 ·exact .inl h
 ·exact .inr ⟨S,P,A,⟨h1,hq P h2⟩,h3⟩
def StOk (σ:Stt):Prop:=(may σ.S σ.P σ.A=true∧Kok σ.K)∧Lrn (fun _=>True) σ.K
theorem StOk.next {σ:Stt} (h:StOk σ) (x:Ax):StOk (stA σ x):=by
 obtain⟨⟨h1,h2⟩,h3⟩:=h;unfold stA;split
 ·exact⟨⟨h1,h2.syn _ _ _ _⟩,h3.syn trivial _⟩
 ·split
  ·exact⟨⟨h1,h2⟩,h3⟩
  ·exact⟨⟨BG h1 x,h2⟩,h3⟩
theorem Am {P:List Pr} {id:Int} (h:0≤idx (cv id) P):dY P id∈P∧(dY P id).i=id∧(dY P id).c≠ -1:=by
 unfold dY idx at*;cases hf:P.findIdx? (cv id)with
 | none=>rw [hf]at h;simp at h
 | some j=>
  obtain⟨hj,hq,_⟩:=List.findIdx?_eq_some_iff_getElem.1 hf;simp only [Int.toNat_natCast];rw [List.getD_eq_getElem?_getD,List.getElem?_eq_getElem hj];simp only [cv,Bool.and_eq_true,beq_iff_eq,Bool.not_eq_true',beq_eq_false_iff_ne]at hq;exact⟨List.getElem_mem hj,hq.1,by simpa using hq.2⟩
section
variable {Q:List Pr→Prop} {K:Nat→List Fl}
theorem ov (hK:Lrn Q K) {i:Int} {m:Nat} (hi:ap i=true) {g:Gl} (hg:uZ m g):jN K m (gh i g)= []∨jN K m (gh i g)= [goA g]∧(g.f.getD 2 0≠1∧∃P,Q P∧∃q∈P,q.i=g.u):=by
 obtain⟨d,s,k,a,b,t,o,e,hf,hn,hu,hc0,hc1⟩:=hg;obtain⟨n,u,c,f⟩:=g;simp only at e hn hu hc0 hc1;subst e;obtain⟨c,rfl⟩:=Int.eq_ofNat_of_zero_le hc0;have hff:ff [i,d,s,k,a,b,t,o,n,u] m=0:=hf;have hff0:ff [0,d,s,k,a,b,t,o,n,u] m=0:=hf;have e1:gh i ⟨n,u,(c:Int),[d,s,k,a,b,t,o]⟩=⟨6,c,[i,d,s,k,a,b,t,o,n,u]⟩:=rfl;have e2:fU [i,d,s,k,a,b,t,o,n,u]= [0,d,s,k,a,b,t,o,n,u]:=rfl;rw [e1];unfold jN;simp only [if_true,hff,e2,Int.toNat_natCast];rcases hK c (by omega)with h0 |⟨S,P,A,⟨hm,hq⟩,hKc⟩
 ·left;rw [h0,jI];split <;>rfl
 ·have hE:=pR (ch:=(c:Int)) hm hc0 hc1;have hF:=uD (i:=0) hf (by decide) hn hu;obtain⟨h1,h2,h3,h4⟩:=dI hf;have hr:=mV (ch:=(c:Int)) (fs:=cmL S P A c) hm (pO hE) hF (by omega) h2.2.2.2.2.2.2 (fun h=>⟨(h4 h).1,(h4 h).2.1⟩);have hz:=eZ (pJ hE) hF h3;rw [hKc,hz,hr,if_pos rfl];by_cases hcm:gB P A c k a b o n u=true
  ·right;rw [if_pos hcm];have hE2:atE m [⟨5,u,[0,d,s,k,a,b,t,o,n,u]⟩]=0:=by
    simp [atE,j7,n9,hff0]
   refine⟨by unfold atL;rw [if_pos hE2];rfl,?_,P,hq,?_⟩
   ·show k≠1;intro e;unfold gB at hcm;rw [e]at hcm;simp at hcm
   ·unfold gB at hcm;rw [Bool.and_eq_true]at hcm;obtain⟨q,hq1,hq2⟩:=List.any_eq_true.1 hcm.1;simp only [Bool.and_eq_true,beq_iff_eq]at hq2;exact⟨q,hq1,hq2.2.2⟩
  ·left;rw [if_neg hcm];rfl
theorem vv {S:List Sw} {P:List Pr} {A:List Ac} {ch i d s k a b t o:Int}:led S P A ch i d s k a b t o= []∨∃p∈P,p.i=i∧p.c=ch:=by
 unfold led;cases hfd:P.find? (fun p=>p.i==i)with
 | none=>exact .inl rfl
 | some p=>
  simp only;by_cases h:p.c=ch∧s=p.m∧a=p.p
  ·exact .inr ⟨p,List.mem_of_find?_eq_some hfd,by simpa using List.find?_some hfd,h.1⟩
  ·rw [if_neg h];exact .inl rfl
theorem wT (hK:Lrn Q K) {i:Int} {m:Nat} (hi:ap i=true):∀gs:List Gl,(∀g∈gs,uZ m g)→∃f:Gl→Bool,dh K m (gs.map (gh i))=(gs.filter f).map goA∧∀g∈gs,f g=true→g.f.getD 2 0≠1∧∃P,Q P∧∃q∈P,q.i=g.u:=fun gs hg=>by
 refine⟨fun g=> !(jN K m (gh i g)).isEmpty,?_,fun g h hf=>?_⟩
 ·unfold dh;rw [List.flatMap_map]
  induction gs with
  | nil=>rfl
  | cons g r ih=>
   rw [List.flatMap_cons,ih (fun x hx=>hg x (by simp [hx])),List.filter_cons];rcases ov hK hi (hg g (by simp))with h |⟨h,_⟩
   ·simp [h]
   ·simp [h]
 ·rcases ov hK hi (hg g h)with h1 |⟨_,h2⟩
  ·simp [h1]at hf
  ·exact h2
theorem kK (hK:Lrn Q K) {S:List Sw} {P:List Pr} {A:List Ac} (hm:may S P A=true) (id d s k a b t o:Int) (m:Nat):
  (((fW K P id d s k a b t o m).map (·.n)).Nodup∧(fW K P id d s k a b t o m).length≤100)∧∀x∈fW K P id d s k a b t o m,x.f.getD 2 0≠1∧∃P,Q P∧∃q∈P,q.i=x.n:=by
 by_cases h0:fT K P id d s k a b t o m=0
 ·have hL:fW K P id d s k a b t o m=dh K m (ran (K (dY P id).c.toNat) [id,d,s,k,a,b,t,o,0,0]):=by unfold fW;rw [if_pos h0]
  rw [hL];clear hL;have hx:¬idx (cv id) P<0:=fun h=>by unfold fT at h0;rw [if_pos h]at h0;omega
  have hpk:pkE d s k a b t o m id 0 0=0:=by
   unfold fT at h0;rw [if_neg hx]at h0;by_cases h:pkE d s k a b t o m id 0 0=0
   ·exact h
   ·rw [if_neg h]at h0;exact absurd h0 h
  have hf:aQ d s k a b t o m=0:=by
   unfold pkE at hpk;by_cases h:aQ d s k a b t o m=0
   ·exact h
   ·rw [if_neg h]at hpk;exact absurd hpk h
  obtain⟨hp,hpi,hpc⟩:=Am (show 0≤idx (cv id) P by omega);generalize dY P id=p at*;obtain⟨hS,hP,hA⟩:=aR hm;have hpp:=(bI hS hP).2 p hp;obtain⟨c,hcc⟩:=Int.eq_ofNat_of_zero_le (show 0≤p.c by omega);have hi:ap id=true:=by rw [er];omega
  rw [hcc,Int.toNat_natCast];rcases hK c (by omega)with hk0 |⟨S1,P1,A1,⟨hm1,_⟩,hKc⟩
  ·rw [hk0,jI];exact⟨⟨List.nodup_nil,by simp [dh]⟩,fun x hx=>by cases hx⟩
  ·have hE:=pR (ch:=(c:Int)) hm1 (by omega) (by omega);have hF:=uD (i:=id) (n:=0) (u:=0) hf hi (by decide) (by decide);obtain⟨h1,h2,h3,h4⟩:=dI hf;have hr:=qy (ch:=(c:Int)) (fs:=cmL S1 P1 A1 c) hm1 (pO hE) (i:=id) (by omega) hF (by omega) h2.2.2.2.2.2.2 (fun h=>⟨(h4 h).1,(h4 h).2.1⟩);have hr':ran (K c) [id,d,s,k,a,b,t,o,0,0]=(led S1 P1 A1 c id d s k a b t o).map (gh id):=by rw [hKc];exact hr
   rw [hr'];obtain⟨f,e1,e2⟩:=wT hK hi (led S1 P1 A1 c id d s k a b t o) (sq hm1 ⟨by omega,by omega⟩ hi hf);rw [e1];refine⟨?_,fun x hx=>?_⟩
   ·rcases vv (S:=S1) (P:=P1) (A:=A1) (ch:=(c:Int)) (i:=id) (d:=d) (s:=s) (k:=k) (a:=a) (b:=b) (t:=t) (o:=o)with h |⟨p1,hp1,hi1,hc1⟩
    ·rw [h];exact⟨List.nodup_nil,by simp⟩
    ·have g1:=xD hm1 hp1 d s k a b t o;have g2:=zA hm1 hp1 d s k a b t o;rw [hi1,hc1]at g1 g2;refine⟨?_,by rw [List.length_map];exact Nat.le_trans (List.length_filter_le _ _) g2⟩;rw [List.map_map];exact g1.sublist ((List.filter_sublist).map _)
   ·obtain⟨g,hg,rfl⟩:=List.mem_map.1 hx;obtain⟨hg1,hg2⟩:=List.mem_filter.1 hg;exact e2 g hg1 hg2
 ·have hL:fW K P id d s k a b t o m= []:=by unfold fW;rw [if_neg h0]
  rw [hL];exact⟨⟨List.nodup_nil,by simp⟩,fun x hx=>by cases hx⟩
end
def cN (S:List Sw) (P:List Pr) (t ip:Int):Bool:=S.any (fun x=>x.t==t&&x.g==ip)|| P.any (fun x=>x.p==ip&&(sof S x.s).t==t)
theorem tl {α:Type} {p:α→Bool} (d:α) {l:List α} {k:Nat} (hk:k<l.length) (h:p (l.getD k d)=true):l.any p=true:=by
 rw [List.any_eq_true];exact⟨l[k],List.getElem_mem hk,by simpa [List.getD,List.getElem?_eq_getElem hk] using h⟩
theorem ns {α:Type} {p:α→Bool} (d:α) {l:List α} (h:∀j,j<l.length→p (l.getD j d)=false):l.any p=false:=by
 rw [List.any_eq_false];intro x hx;obtain⟨j,hj,rfl⟩:=List.getElem_of_mem hx;have:=h j hj;simpa [List.getD,List.getElem?_eq_getElem hj] using this
theorem j4 (sv pv av:Value) (S:List Sw) (P:List Pr) (A:List Ac) (t ip:Int) (w:World) (hC:CfAt w sv pv av S P A) (h1:S.length*24≤140737488355328) (h2:P.length*40≤140737488355328):
  Calls Tryz.prog 61 #[.agg #[sv,pv,av],.int .i64 t,.int .i64 ip] w fun e w'=>e= .returned (.bool (cN S P t ip))∧Below w.heap.size w w':=by
 have HC:=aa hC;have HT:Hid (∀(W:World) (x:Pr),Below w.heap.size w W→Calls Tryz.prog 114 #[.agg #[sv,pv,av],.agg #[.int .i64 x.i,.int .i64 x.s,.int .i64 x.m,.int .i64 x.p,.int .i64 x.c]] W fun e w'=>e= .returned (.int .i64 (sof S x.s).t)∧Below W.heap.size W w'):=fun W x hW=>oX sv pv av S P A x W (hC.below hW zr) h1;have HY1:Hid (∀k,k<S.length→((S.getD k sw0).t==t&&(S.getD k sw0).g==ip)=true→cN S P t ip=true):=fun k hk h=>by
  unfold cN;rw [tl (p:=fun x:Sw=>x.t==t&&x.g==ip) sw0 hk h];rfl
 have HY2:Hid (∀k,k<P.length→((P.getD k pr0).p==ip&&(sof S (P.getD k pr0).s).t==t)=true→cN S P t ip=true):=fun k hk h=>by
  unfold cN;rw [tl (p:=fun x:Pr=>x.p==ip&&(sof S x.s).t==t) pr0 hk h];simp
 have HNO:Hid ((∀j,j<S.length→((S.getD j sw0).t==t&&(S.getD j sw0).g==ip)=false)→(∀j,j<P.length→((P.getD j pr0).p==ip&&(sof S (P.getD j pr0).s).t==t)=false)→cN S P t ip=false):=fun h h'=>by
  unfold cN;rw [ns (p:=fun x:Sw=>x.t==t&&x.g==ip) sw0 h,ns (p:=fun x:Pr=>x.p==ip&&(sof S x.s).t==t) pr0 h'];rfl
 generalize cN S P t ip=R at*;obtain⟨s1,s2,rfl⟩:=hC.1.slice;obtain⟨p1,p2,rfl⟩:=hC.2.1.slice;obtain⟨a1,a2,rfl⟩:=hC.2.2.slice;clear hC;go_enter Tryz.func61,Tryz.ntmps61;go_wp2_with fail
 obtain⟨W0,hW0⟩:∃W0,W0=w.alloc (.cells #[.slice s1 S.length s2,.slice p1 P.length p2,.slice a1 A.length a2] 26):=⟨_,rfl⟩;have hb0:Below w.heap.size w W0:=by rw [hW0];exact(Below.refl _ _).alloc zr _
 have d0:W0.cell? ⟨w.heap.size,0,none⟩=some (.slice s1 S.length s2):=zN1 hW0 rfl;have d1:W0.cell? ⟨w.heap.size,1,none⟩=some (.slice p1 P.length p2):=zN1 hW0 rfl;have d2:W0.cell? ⟨w.heap.size,2,none⟩=some (.slice a1 A.length a2):=zN1 hW0 rfl;rw [←hW0];clear hW0;go_loop [7] (fun i=>∃k:Nat,k≤S.length∧i= .int .i64 k∧Hid (∀j,j<k→((S.getD j sw0).t==t&&(S.getD j sw0).g==ip)=false)) (fun i=>S.length-(intOf i).toNat)
 case atStart=>exact⟨0,by omega,rfl,aa (fun j h=>absurd h (by omega))⟩
 case round=>
  obtain⟨k,hk,rfl,HALL⟩:=hrel;by_cases hlt:k<S.length
  ·obtain⟨b,off,cap',e1,hcap,hb,g0,g1,g2⟩:=ig (RowAt.below HC.out.1 hb0 zr) hlt;simp only [Value.slice.injEq,true_and]at e1;obtain⟨rfl,rfl⟩:=e1;have q3:(0:Int)≤(k:Int):=(by omega);have q4:(k:Int)<(S.length:Int):=(by omega);have HYk:=aa (HY1.out k hlt);have HN:Hid (((S.getD k sw0).t==t&&(S.getD k sw0).g==ip)=false→∀j,j<k+1→((S.getD j sw0).t==t&&(S.getD j sw0).g==ip)=false):=fun hx j hj=>by
    by_cases e:j=k
    ·subst e;exact hx
    ·exact HALL.out j (by omega)
   clear HALL HY1 HY2 HNO HT;generalize (S.getD k sw0).i=x0 at*;generalize (S.getD k sw0).t=x1 at*;generalize (S.getD k sw0).g=x2 at*;by_cases ht:x1=t
   ·subst ht;by_cases hg:x2=ip
    ·subst hg;obtain rfl:=HYk.out (by simp);clear HYk HN;go_wp2_with fail
     go_ret;exact⟨rfl,hb0⟩
    ·have HN2:=aa (HN.out (by simp [hg]));clear HN HYk;go_wp2_with fail
     go_round
     case rel=>exact⟨k+1,by omega,by go_num,HN2⟩
     case measure=>simp [intOf];omega
   ·have HN2:=aa (HN.out (by simp [ht]));clear HN HYk;go_wp2_with fail
    go_round
    case rel=>exact⟨k+1,by omega,by go_num,HN2⟩
    case measure=>simp [intOf];omega
  ·have HNP:=aa (HNO.out fun j hj=>HALL.out j (by omega));clear HALL HY1 HNO;go_wp2_with fail
   go_loopw [8] (fun i wr=>∃k:Nat,k≤P.length∧i= .int .i64 k∧Hid (∀j,j<k→((P.getD j pr0).p==ip&&(sof S (P.getD j pr0).s).t==t)=false)∧Below W0.heap.size W0 wr) (fun i _=>P.length-(intOf i).toNat)
   case atStart=>exact⟨0,by omega,rfl,aa (fun j h=>absurd h (by omega)),Below.refl _ _⟩
   case round=>
    obtain⟨k2,hk2,rfl,HALL,hbr⟩:=hrel;have hbw:=hb0.trans (hbr.mono hb0.size);have c0:=zC d0 hbr;have c1:=zC d1 hbr;have c2:=zC d2 hbr;by_cases hlt2:k2<P.length
    ·obtain⟨b,off,cap',e1,hcap,hb,g0,g1,g2,g3,g4⟩:=eO (RowAt.below HC.out.2.1 hbw zr) hlt2;simp only [Value.slice.injEq,true_and]at e1;obtain⟨rfl,rfl⟩:=e1;have q3:(0:Int)≤(k2:Int):=(by omega);have q4:(k2:Int)<(P.length:Int):=(by omega);have HYk:=aa (HY2.out k2 hlt2);have HTk:=aa (fun W hW=>HT.out W (P.getD k2 pr0) hW);have HN:Hid (((P.getD k2 pr0).p==ip&&(sof S (P.getD k2 pr0).s).t==t)=false→∀j,j<k2+1→((P.getD j pr0).p==ip&&(sof S (P.getD j pr0).s).t==t)=false):=fun hx j hj=>by
      by_cases e:j=k2
      ·subst e;exact hx
      ·exact HALL.out j (by omega)
     clear HALL HY2 HNP HT d0 d1 d2;generalize (sof S (P.getD k2 pr0).s).t=xt at*;generalize (P.getD k2 pr0).i=x0 at*;generalize (P.getD k2 pr0).s=x1 at*;generalize (P.getD k2 pr0).m=x2 at*;generalize (P.getD k2 pr0).p=x3 at*;generalize (P.getD k2 pr0).c=x4 at*;go_wp2_with fail
     by_cases hip:x3=ip
     ·subst hip;refine wp_region_held_drew (S:=(fun w'=>w'.cell? ⟨w.heap.size,0,none⟩=some (.slice s1 S.length s2)∧w'.cell? ⟨w.heap.size,1,none⟩=some (.slice (some ⟨b,off,none⟩) P.length p2)∧w'.cell? ⟨w.heap.size,2,none⟩=some (.slice a1 A.length a2)∧w'.cell? ⟨b,off+k2*5,none⟩=some (.int .i64 x0)∧w'.cell? ⟨b,off+k2*5+1,none⟩=some (.int .i64 x1)∧w'.cell? ⟨b,off+k2*5+2,none⟩=some (.int .i64 x2)∧w'.cell? ⟨b,off+k2*5+3,none⟩=some (.int .i64 x3)∧w'.cell? ⟨b,off+k2*5+4,none⟩=some (.int .i64 x4))) (by kernel_rfl) ?hS1 (fun hHeld=>?hR1)
      case hS1=>(try dsimp only);go_keep
      refine sqA [(0,41),(1,42),(2,43),(3,44),(4,45),(5,46),(6,47),(7,48),(8,49),(9,50),(10,51),(11,52),(12,53),(13,54),(14,55),(16,57)] ?_;(iterate 16 (refine sqN rfl (by kernel_rfl) (fun _ _ _ h=>h) rfl ‹_› (by intro w h;go_simp <;>with_reducible rfl) ?_;simp only [nz]));refine sqZ ?_;refine rsq 15 56 (by kernel_rfl) rfl (fun K hK=>?_);go_simp;(go_at_call 114;refine(ag HTk _ hbw.drew).mono ?_;rintro e w2 ⟨rfl,hc2⟩;have G2:Below wr.heap.size wr w2:=((Below.refl _ wr).drew).trans hc2;have z0:=zC c0 G2;have z1:=zC c1 G2;have z2:=zC c2 G2;have z3:=zC g0 G2;have z4:=zC g1 G2;have z5:=zC g2 G2;have z6:=zC g3 G2;have z7:=zC g4 G2);go_wp2_with fail
      refine hK.out _ _ ?hS18 (fun hHeld=>?hR18)
      case hS18=>(try dsimp only);go_keep
      clear hK K;(try simp only [nz]);refine sqA [(17,58),(18,59)] ?_;(iterate 2 (refine sqN rfl (by kernel_rfl) (fun _ _ _ h=>h) rfl ‹_› (by intro w h;go_simp <;>with_reducible rfl) ?_;simp only [nz]));refine sqZ ?_;refine wpAnyH_done (by kernel_rfl) ?_ _;have HB2:Hid (Below W0.heap.size W0 w2):=hbr.trans (G2.mono hbr.size);clear hHeld z0 z1 z2 z3 z4 z5 z6 z7 g0 g1 g2 g3 g4 c0 c1 c2 G2 hc2 hbw hbr HTk;by_cases ht:xt=t
      ·subst ht;obtain rfl:=HYk.out (by simp);clear HYk HN;go_wp2_with fail
       go_ret;exact⟨rfl,hb0.trans (HB2.out.mono hb0.size)⟩
      ·have HN2:=aa (HN.out (by simp [ht]));clear HN HYk;go_wp2_with fail
       go_roundw
       case rel=>exact⟨k2+1,by omega,by go_num,HN2,HB2.out⟩
       case measure=>simp [intOf];omega
     ·have hipb:(x3==ip)=false:=(by simpa using hip);refine wp_region_held_drew (S:=(fun w'=>w'.cell? ⟨w.heap.size,0,none⟩=some (.slice s1 S.length s2)∧w'.cell? ⟨w.heap.size,1,none⟩=some (.slice (some ⟨b,off,none⟩) P.length p2)∧w'.cell? ⟨w.heap.size,2,none⟩=some (.slice a1 A.length a2)∧w'.cell? ⟨b,off+k2*5,none⟩=some (.int .i64 x0)∧w'.cell? ⟨b,off+k2*5+1,none⟩=some (.int .i64 x1)∧w'.cell? ⟨b,off+k2*5+2,none⟩=some (.int .i64 x2)∧w'.cell? ⟨b,off+k2*5+3,none⟩=some (.int .i64 x3)∧w'.cell? ⟨b,off+k2*5+4,none⟩=some (.int .i64 x4))) (by kernel_rfl) ?hS21 (fun hHeld=>?hR21)
      case hS21=>(try dsimp only);go_keep
      refine sqA [(0,41),(1,42),(2,43),(3,44),(4,45),(5,46),(6,47),(7,48),(8,49)] ?_;(iterate 9 (refine sqN rfl (by kernel_rfl) (fun _ _ _ h=>h) rfl ‹_› (by intro w h;go_simp <;>with_reducible rfl) ?_;simp only [nz]));refine sqZ ?_;refine wpAnyH_take (i:=9) (oi:=⟨some 50,_,_,_,_,_⟩) (v:=undef) rfl (by kernel_rfl) (by kernel_rfl) (by kernel_rfl) (fun _ _ _ h=>h) (Or.inr ⟨by rfl,rfl⟩) (by assumption) ?_;(try simp only [nz]);refine wpAnyH_take (i:=10) (oi:=⟨some 51,_,_,_,_,_⟩) (v:=undef) rfl (by kernel_rfl) (by kernel_rfl) (by kernel_rfl) (fun _ _ _ h=>h) (Or.inr ⟨by rfl,rfl⟩) (by assumption) ?_;(try simp only [nz]);refine wpAnyH_take (i:=11) (oi:=⟨some 52,_,_,_,_,_⟩) (v:=undef) rfl (by kernel_rfl) (by kernel_rfl) (by kernel_rfl) (fun _ _ _ h=>h) (Or.inr ⟨by rfl,rfl⟩) (by assumption) ?_;(try simp only [nz]);refine wpAnyH_take (i:=12) (oi:=⟨some 53,_,_,_,_,_⟩) (v:=undef) rfl (by kernel_rfl) (by kernel_rfl) (by kernel_rfl) (fun _ _ _ h=>h) (Or.inr ⟨by rfl,rfl⟩) (by assumption) ?_;(try simp only [nz]);refine wpAnyH_take (i:=13) (oi:=⟨some 54,_,_,_,_,_⟩) (v:=undef) rfl (by kernel_rfl) (by kernel_rfl) (by kernel_rfl) (fun _ _ _ h=>h) (Or.inr ⟨by rfl,rfl⟩) (by assumption) ?_;(try simp only [nz]);refine wpAnyH_take (i:=14) (oi:=⟨some 55,_,_,_,_,_⟩) (v:=undef) rfl (by kernel_rfl) (by kernel_rfl) (by kernel_rfl) (fun _ _ _ h=>h) (Or.inr ⟨by rfl,rfl⟩) (by assumption) ?_;(try simp only [nz]);refine wpAnyH_take (i:=16) (oi:=⟨some 57,_,_,_,_,_⟩) (v:=undef) rfl (by kernel_rfl) (by kernel_rfl) (by kernel_rfl) (fun _ _ _ h=>h) (Or.inr ⟨by rfl,rfl⟩) (by assumption) ?_;(try simp only [nz]);refine rsq 15 56 (by kernel_rfl) rfl (fun K hK=>?_);rw [if_neg (by rw [Bool.not_eq_true];rfl)];refine hK.out _ _ ?hS31 (fun hHeld=>?hR31)
      case hS31=>(try dsimp only);go_keep
      clear hK K;(try simp only [nz]);refine wpAnyH_take (i:=17) (oi:=⟨some 58,_,_,_,_,_⟩) (v:=undef) rfl (by kernel_rfl) (by kernel_rfl) (by kernel_rfl) (fun _ _ _ h=>h) (Or.inr ⟨by rfl,rfl⟩) (by assumption) ?_;(try simp only [nz]);refine tq 18 59 rfl (by kernel_rfl) (fun _ _ _ h=>h) rfl ‹_› (by intro w h;go_simp <;>with_reducible rfl) ?_;simp only [nz];refine wpAnyH_done (by kernel_rfl) ?_ _;have HN2:=aa (HN.out (by simp [hip]));have HB2:Hid (Below W0.heap.size W0 wr.drew):=hbr.drew;clear hHeld g0 g1 g2 g3 g4 c0 c1 c2 hbw hbr HTk HN HYk;go_wp2_with fail
      go_roundw
      case rel=>exact⟨k2+1,by omega,by go_num,HN2,HB2.out⟩
      case measure=>simp [intOf];omega
    ·obtain rfl:=HNP.out fun j hj=>HALL.out j (by omega);clear HALL HNP HY2 HT d0 d1 d2;go_wp2_with fail
     go_ret;exact⟨rfl,hbw⟩
end Go.Proofs.YtjiajblbpokfgaaGreat
