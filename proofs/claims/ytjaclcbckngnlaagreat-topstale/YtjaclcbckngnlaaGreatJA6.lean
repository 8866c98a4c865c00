/- Texts joined: Xf, Xt, Tt, Zs, Qs, Zt, Zi, Zw, Zy, Zz, Qs0, Zx0, Zx, Lay2, Xm, Sar, Kz, Cia, Cap, Cd, Cy, Ch. -/
import Derived.Deep.DeepCutAuto
import Derived.Deep.Light
import Derived.Test.YtjaclcbckngnlaaGreatRows
import Derived.Shelf.SlSortCmp.NoneTotal
import Derived.Deep.RegionLaw
import Derived.Deep.RegionHeld3
import Derived.Lib.SliceRun
import Derived.Sort.WalkB12
import Derived.Laws.AppendOwnNone
import Derived.Deep.QuietTactic
import Derived.BigQuiet
import Derived.Deep.AppendLies
import Derived.Maps.AppendAt
import Derived.Test.YtjaclcbckngnlaaGreatJA5
namespace Go.Proofs.YtjaclcbckngnlaaGreat
open Go.RowKit
set_option linter.unusedVariables false
set_option maxRecDepth 100000
set_option maxHeartbeats 16000000
theorem yx {α:Type} {p:α→Bool} (d:α) {l:List α} (h:0≤idx p l):∃k:Nat,k<l.length∧idx p l=k∧p (l.getD k d)=true:=by
 unfold idx at h⊢;cases hf:l.findIdx? p with
 | none=>rw [hf]at h;simp at h
 | some k=>
  obtain⟨hk,hp,_⟩:=List.findIdx?_eq_some_iff_getElem.1 hf;exact⟨k,hk,rfl,by rw [List.getD_eq_getElem?_getD,List.getElem?_eq_getElem hk];exact hp⟩
theorem qc (ks:List Value) (K:Nat→List Fl) (s1 p1 a1:Option Addr) (s0 s2 p2 a0 a2:Nat) (P:List Pr) (id dst src kind ips ipd ttl port:Int) (body:ByteArray) (w:World) (hK:KAt w ks K) (hP:eS w (.slice p1 P.length p2) P) (hl:P.length≤100000) (hc:∀p∈P,p.c= -1∨0≤p.c∧p.c≤5) (hb:body.size≤maxLen)
  (hS:lM K P id dst src kind ips ipd ttl port body.size=0→l7 (jt K P id dst src kind ips ipd ttl port body.size)):
  Calls Tryz.prog 33 #[.agg ks.toArray,.agg #[.slice s1 s0 s2,.slice p1 P.length p2,.slice a1 a0 a2],.int .i64 id,fr dst src kind ips ipd ttl port body] w fun e w'=>∃u,e= .returned (.tuple #[u,.int .i64 (lM K P id dst src kind ips ipd ttl port body.size)])∧∃l',(l'.Perm (jt K P id dst src kind ips ipd ttl port body.size)∧iJ l'∧w'.ownsRow w.heap.size 49 9 u l'.length (AR body l'))∧Below w.heap.size w w':=by
 obtain⟨i0,hi,hz0,hz1,hz2⟩:=info_parts xH;have HK:=aa hK;obtain⟨k0,k1,k2,k3,k4,k5,rfl⟩:=six hK.1;have HP:=aa hP;have HC:=aa hc;have HS:=aa hS;clear hK hP hc hS;have HAE:Hid (lM K P id dst src kind ips ipd ttl port body.size=if idx (eu id) P<0 then 6 else if pkE dst src kind ips ipd ttl port body.size id 0 0=0 then(if ei (K (eY P id).c.toNat) [id,dst,src,kind,ips,ipd,ttl,port,0,0] body.size=0 then ny K body.size (ran (K (eY P id).c.toNat) [id,dst,src,kind,ips,ipd,ttl,port,0,0])else ei (K (eY P id).c.toNat) [id,dst,src,kind,ips,ipd,ttl,port,0,0] body.size)else pkE dst src kind ips ipd ttl port body.size id 0 0):=rfl;have HAL:Hid (jt K P id dst src kind ips ipd ttl port body.size=if lM K P id dst src kind ips ipd ttl port body.size=0 then dV K body.size (ran (K (eY P id).c.toNat) [id,dst,src,kind,ips,ipd,ttl,port,0,0])else []):=rfl;obtain⟨W0,hW0⟩:∃W0,W0=((((w.alloc (.cells #[k0,k1,k2,k3,k4,k5] 85)).alloc (.cells #[.slice s1 s0 s2,.slice p1 P.length p2,.slice a1 a0 a2] 30)).alloc (.cells #[.int .i64 id] 3)).alloc (.cells #[.int .i64 dst,.int .i64 src,.int .i64 kind,.int .i64 ips,.int .i64 ipd,.int .i64 ttl,.int .i64 port,.string body] 42)):=⟨_,rfl⟩;have kb:Below w.heap.size w W0:=by rw [hW0];exact((((Below.refl _ w).alloc zr _).alloc (by simp) _).alloc (by simp;omega) _).alloc (by simp;omega) _
 have HKB:Hid (Box W0 w.heap.size [k0,k1,k2,k3,k4,k5]):=by rw [hW0];have h:=(((Box.new w [k0,k1,k2,k3,k4,k5] 85).alloc (.cells #[.slice s1 s0 s2,.slice p1 P.length p2,.slice a1 a0 a2] 30)).alloc (.cells #[.int .i64 id] 3)).alloc (.cells #[.int .i64 dst,.int .i64 src,.int .i64 kind,.int .i64 ips,.int .i64 ipd,.int .i64 ttl,.int .i64 port,.string body] 42);simpa using aa h
 have HCB:Hid (Box W0 (w.heap.size+1) [.slice s1 s0 s2,.slice p1 P.length p2,.slice a1 a0 a2]):=by rw [hW0];have h:=((Box.new (w.alloc (.cells #[k0,k1,k2,k3,k4,k5] 85)) [.slice s1 s0 s2,.slice p1 P.length p2,.slice a1 a0 a2] 30).alloc (.cells #[.int .i64 id] 3)).alloc (.cells #[.int .i64 dst,.int .i64 src,.int .i64 kind,.int .i64 ips,.int .i64 ipd,.int .i64 ttl,.int .i64 port,.string body] 42);simpa using aa h
 have HIB:Hid (Box W0 (w.heap.size+1+1) [.int .i64 id]):=by rw [hW0];have h:=(Box.new ((w.alloc (.cells #[k0,k1,k2,k3,k4,k5] 85)).alloc (.cells #[.slice s1 s0 s2,.slice p1 P.length p2,.slice a1 a0 a2] 30)) [.int .i64 id] 3).alloc (.cells #[.int .i64 dst,.int .i64 src,.int .i64 kind,.int .i64 ips,.int .i64 ipd,.int .i64 ttl,.int .i64 port,.string body] 42);simpa using aa h
 have HFB:Hid (Box W0 (w.heap.size+1+1+1) [.int .i64 dst,.int .i64 src,.int .i64 kind,.int .i64 ips,.int .i64 ipd,.int .i64 ttl,.int .i64 port,.string body]):=by rw [hW0];have h:=Box.new (((w.alloc (.cells #[k0,k1,k2,k3,k4,k5] 85)).alloc (.cells #[.slice s1 s0 s2,.slice p1 P.length p2,.slice a1 a0 a2] 30)).alloc (.cells #[.int .i64 id] 3)) [.int .i64 dst,.int .i64 src,.int .i64 kind,.int .i64 ips,.int .i64 ipd,.int .i64 ttl,.int .i64 port,.string body] 42;simpa using aa h
 have HW0:Hid (((((w.alloc (.cells #[k0,k1,k2,k3,k4,k5] 85)).alloc (.cells #[.slice s1 s0 s2,.slice p1 P.length p2,.slice a1 a0 a2] 30)).alloc (.cells #[.int .i64 id] 3)).alloc (.cells #[.int .i64 dst,.int .i64 src,.int .i64 kind,.int .i64 ips,.int .i64 ipd,.int .i64 ttl,.int .i64 port,.string body] 42))=W0):=hW0.symm;clear hW0;replace HK:=aa (HK.out.below kb);replace HP:=aa (RowAt.below HP.out kb zr);have c1:=HCB.out.cell 1 _ rfl;have ci:=HIB.out.cell 0 _ rfl;go_enter Tryz.func33,Tryz.ntmps33;go_wp2_with (rw [HW0.out])
 refine(mX P (eu id) _ _ _ _ HP.out (wC id _ _ ci) vz (by omega)).mono ?_;rintro e w1 ⟨rfl,hb1⟩;clear HW0 c1 ci;replace HKB:=aa (HKB.out.below hb1);replace HCB:=aa (HCB.out.below hb1);replace HIB:=aa (HIB.out.below hb1);replace HFB:=aa (HFB.out.below hb1);replace HK:=aa (HK.out.below hb1);replace HP:=aa (RowAt.below HP.out hb1 zr);replace kb:=kb.trans (hb1.mono kb.size);clear hb1;by_cases hix:idx (eu id) P<0
 ·rw [if_pos hix]at HAE;go_wp2_with fail
  rw [HAE.out];go_ret2;exact⟨_,rfl,[],⟨by rw [HAL.out,HAE.out];exact List.Perm.refl _,List.Pairwise.nil,World.ownsRow_nil _ _ _ _⟩,kb⟩
 ·rw [if_neg hix]at HAE;obtain⟨k,hk,hke,hks⟩:=yx pr0 (Int.not_lt.1 hix);have HFP:Hid (eY P id=P.getD k pr0):=by unfold eY;rw [hke];exact aa rfl
  rw [HFP.out]at HAE HAL;have hcc:0≤(P.getD k pr0).c∧(P.getD k pr0).c≤5:=by
   rcases HC.out _ (show P.getD k pr0∈P by rw [List.getD_eq_getElem?_getD,List.getElem?_eq_getElem hk];exact List.getElem_mem hk)with h | h
   ·unfold eu at hks;rw [h]at hks;simp at hks
   ·exact h
  clear hks HC HFP;rw [hke]at hix⊢;clear hke;have q0:(0:Int)≤(k:Int):=(by omega);have q1:(k:Int)<(P.length:Int):=(by omega);have HPK:=aa (fun W=>lw dst src kind ips ipd ttl port body id 0 0 W hb);generalize hE:pkE dst src kind ips ipd ttl port body.size id 0 0=E at*;have ci:=HIB.out.cell 0 _ rfl;go_wp2_with (refine wpList_load_mid rfl 42 (.tmp 7) rfl (w.heap.size+1+1+1) 0 rfl _ _ HFB.out.range Tryz.underlying42 rfl kB ?_)
  refine(ag HPK _).mono ?_;rintro e w2 ⟨rfl,hb2⟩;clear ci HPK;replace HKB:=aa (HKB.out.below hb2);replace HCB:=aa (HCB.out.below hb2);replace HIB:=aa (HIB.out.below hb2);replace HFB:=aa (HFB.out.below hb2);replace HK:=aa (HK.out.below hb2);replace HP:=aa (RowAt.below HP.out hb2 zr);replace kb:=kb.trans (hb2.mono kb.size);clear hb2;by_cases hE0:E=0
  ·subst hE0;rw [if_pos rfl]at HAE⊢;clear hE;obtain⟨W3,hW3⟩:∃W3,W3=w2.alloc (.cells #[.int .i64 id,.int .i64 dst,.int .i64 src,.int .i64 kind,.int .i64 ips,.int .i64 ipd,.int .i64 ttl,.int .i64 port,.int .i64 0,.int .i64 0,.string body] 108):=⟨_,rfl⟩;have hbN:Below w2.heap.size w2 W3:=by rw [hW3];exact(Below.refl _ _).alloc zr _
   have HPB:Hid (Box W3 w2.heap.size [.int .i64 id,.int .i64 dst,.int .i64 src,.int .i64 kind,.int .i64 ips,.int .i64 ipd,.int .i64 ttl,.int .i64 port,.int .i64 0,.int .i64 0,.string body]):=by rw [hW3];exact aa (Box.new w2 [.int .i64 id,.int .i64 dst,.int .i64 src,.int .i64 kind,.int .i64 ips,.int .i64 ipd,.int .i64 ttl,.int .i64 port,.int .i64 0,.int .i64 0,.string body] 108)
   replace HKB:=aa (HKB.out.below hbN);replace HCB:=aa (HCB.out.below hbN);replace HIB:=aa (HIB.out.below hbN);replace HFB:=aa (HFB.out.below hbN);replace HK:=aa (HK.out.below hbN);replace HP:=aa (RowAt.below HP.out hbN zr);replace kb:=kb.trans (hbN.mono kb.size);have HW3:=aa hW3.symm;clear hbN hW3;obtain⟨pb,off,cap,e1,hcap, -,g0,g1,g2,g3,g4⟩:=eO HP.out hk;simp only [Value.slice.injEq,true_and]at e1;obtain⟨rfl,rfl⟩:=e1;clear g0 g1 g2 g3;generalize (P.getD k pr0).c=cc at*;obtain⟨m,rfl⟩:=Int.eq_ofNat_of_zero_le hcc.1;have hm6:m<6:=(by omega);simp only [Int.toNat_natCast]at HAE HAL;obtain⟨kv,hkv⟩:=ug HK.out.1 hm6;have HF:=aa (HK.out.2 m hm6 kv hkv).1;have HLN:=aa (HK.out.2 m hm6 kv hkv).2;have ck:=HKB.out.cell m kv hkv;have c1:=HCB.out.cell 1 _ rfl;obtain⟨fa,fc,rfl,_⟩:=HF.out;clear hkv;have q2:(0:Int)≤(m:Int):=(by omega);have q3:(m:Int)<6:=(by omega);go_wp2_with (rw [HW3.out])
   clear HW3;refine wp_region_held_drew (S:=(fun w'=>w'.cell? ⟨w.heap.size+1,1,none⟩=some (.slice (some ⟨pb,off,none⟩) P.length p2)∧w'.cell? ⟨pb,off+k*5+4,none⟩=some (.int .i64 (m:Int))∧w'.cell? ⟨w.heap.size,m,none⟩=some (.slice fa (K m).length fc)∧w'.rangeAt w2.heap.size 0 [.int .i64 id,.int .i64 dst,.int .i64 src,.int .i64 kind,.int .i64 ips,.int .i64 ipd,.int .i64 ttl,.int .i64 port,.int .i64 0,.int .i64 0,.string body])) (by kernel_rfl) ⟨c1,g4,ck,HPB.out.range⟩ (fun hHeld=>?_);refine sqA [(0,35),(1,36),(2,37),(3,38),(4,39),(5,40),(6,41),(7,42)] ?_;(iterate 8 (refine sqN rfl (by kernel_rfl) (fun _ _ _ h=>h) rfl ‹_› (by intro w h;go_simp <;>with_reducible rfl) ?_;simp only [nz]));refine sqZ ?_;refine wpAnyH_take (i:=8) (oi:=⟨some 43,_,_,_,_,_⟩) (v:=.agg #[.int .i64 id,.int .i64 dst,.int .i64 src,.int .i64 kind,.int .i64 ips,.int .i64 ipd,.int .i64 ttl,.int .i64 port,.int .i64 0,.int .i64 0,.string body]) rfl (by kernel_rfl) (by kernel_rfl) (by kernel_rfl) (fun _ _ _ h=>h) (yieldsIf_load_mid (by rfl) 108 (.tmp 11) rfl w2.heap.size 0 rfl [.int .i64 id,.int .i64 dst,.int .i64 src,.int .i64 kind,.int .i64 ips,.int .i64 ipd,.int .i64 ttl,.int .i64 port,.int .i64 0,.int .i64 0,.string body] _ (fun w h=>h.2.2.2) Tryz.underlying108 rfl gV) (by assumption) ?_;(try simp only [nz]);refine rsq 9 44 (by kernel_rfl) rfl (fun Kk hKk=>?_);go_simp;have hbD:Below W3.heap.size W3 W3.drew:=(Below.refl _ _).drew;refine(rM id dst src kind ips ipd ttl port 0 0 body _ (K m) W3.drew (HF.out.below hbD zr) hb HLN.out).mono ?_;rintro e w4 ⟨v4,rfl,ho4,hb4⟩;have hb34:Below W3.heap.size W3 w4:=hbD.trans hb4;have HO:=aa ho4;have sN:w.heap.size≤W3.drew.heap.size:=kb.size;go_wp2_with fail
   refine hKk.out _ _ ⟨zC c1 hb34,zC g4 hb34,zC ck hb34,eJ HPB.out.range hb34 HPB.out.lt⟩ (fun hHeld=>?_);clear hKk Kk;(try simp only [nz]);refine sqA [(10,34),(11,45),(12,46),(13,13),(14,12)] ?_;(iterate 5 (refine sqN rfl (by kernel_rfl) (fun _ _ _ h=>h) rfl ‹_› (by intro w h;go_simp <;>with_reducible rfl) ?_;simp only [nz]));refine sqZ ?_;refine wpAnyH_done (by kernel_rfl) ?_ _;replace HKB:=aa (HKB.out.below hb34);replace HCB:=aa (HCB.out.below hb34);replace HIB:=aa (HIB.out.below hb34);replace HFB:=aa (HFB.out.below hb34);replace HK:=aa (HK.out.below hb34);replace HP:=aa (RowAt.below HP.out hb34 zr);replace kb:=kb.trans (hb34.mono kb.size);clear hHeld ho4 hb4 hbD hb34 ck c1 g4 HPB HF HLN;have HRL:Hid (ei (K m) [id,dst,src,kind,ips,ipd,ttl,port,0,0] body.size=0→jG (K m) [id,dst,src,kind,ips,ipd,ttl,port,0,0] body.size=ran (K m) [id,dst,src,kind,ips,ipd,ttl,port,0,0]):=fun h=>by unfold jG;rw [if_pos h]
   have HRO:Hid (ei (K m) [id,dst,src,kind,ips,ipd,ttl,port,0,0] body.size=0→OutOk (ran (K m) [id,dst,src,kind,ips,ipd,ttl,port,0,0])∧(ran (K m) [id,dst,src,kind,ips,ipd,ttl,port,0,0]).length≤1000000):=fun h=>oX rfl h;generalize hR:ei (K m) [id,dst,src,kind,ips,ipd,ttl,port,0,0] body.size=R at*;by_cases hR0:R=0
   ·subst hR0;rw [HRL.out rfl]at HO;rw [if_pos rfl]at HAE;obtain⟨HOK,hll⟩:=HRO.out rfl;replace HOK:=aa HOK;clear hR HRL HRO;generalize ran (K m) [id,dst,src,kind,ips,ipd,ttl,port,0,0]=l at*;have hs4:=kb.size;replace HO:=aa (aH HO.out sN);have HL:=HO;obtain⟨oo,oc,rfl,hoc,hg⟩:=dG HO.out;clear HO;have hle:ny K body.size l=0→(dV K body.size l).length≤1000000*l.length:=fun _=>mz l;clear hle;go_wp2_with fail
    go_loopw [14,52] (fun u i wr=>∃j:Nat,j≤l.length∧i= .int .i64 j∧Hid (wr.ownsRow w4.heap.size 49 9 u (dV K body.size (l.take j)).length (AR body (dV K body.size (l.take j))))∧Hid ((l.take j).find? (lp K body.size)=none)∧Below w4.heap.size w4 wr) (fun _ i _=>l.length-(intOf i).toNat)
    case atStart=>exact⟨0,by omega,rfl,aa (by simpa [dV,AR] using World.ownsRow_nil w4 w4.heap.size 49 9),aa rfl,Below.refl _ _⟩
    case round=>
     obtain⟨j,hj,rfl,HO,HBAD,hbr⟩:=hrel;have sr:w4.heap.size≤wr.heap.size:=hbr.size;by_cases hlt:j<l.length
     ·obtain⟨g,rfl,hgB,hgw⟩:=hg (by omega);have R0:=aa (eJ (kW (C:=snC body) (fun _=>rfl) snz HL.out hlt) hbr hgw);have HN:=aa (vC (K:=K) (n:=body.size) hlt);have HB1:=aa (tY (K:=K) (n:=body.size) hlt HBAD.out);have HB2:=aa (yr (K:=K) (n:=body.size) hlt HBAD.out);have hlen:=mz (K:=K) (n:=body.size) (l.take j);have hlt2:(l.take j).length≤1000000:=by rw [List.length_take];omega
      have hcl:=uS (K:=K) (n:=body.size) (l.getD j snz);have HOX:Hid (AF (l.getD j snz)):=HOK.out _ (by rw [List.getD_eq_getElem?_getD,List.getElem?_eq_getElem hlt];exact List.getElem_mem hlt);obtain⟨o1,o2,rfl⟩:=aw HO.out;obtain⟨N,hN⟩:∃N,N=(dV K body.size (l.take j)).length:=⟨_,rfl⟩;rw [←hN]at HO hlen⊢;have HNN:=aa hN;clear hN HBAD;generalize l.getD j snz=x at*;have q4:(0:Int)≤(j:Int):=(by omega);have q5:(j:Int)<(l.length:Int):=(by omega);have HCR:=aa (fun W (h:KAt W [k0,k1,k2,k3,k4,k5] K)=>sq [k0,k1,k2,k3,k4,k5] K x body W h HOX.out hb);have HXC:Hid (snC body x= [.int .i64 x.k,.int .i64 x.n,.int .i64 (x.F.getD 0 0),.int .i64 (x.F.getD 1 0),.int .i64 (x.F.getD 2 0),.int .i64 (x.F.getD 3 0),.int .i64 (x.F.getD 4 0),.int .i64 (x.F.getD 5 0),.int .i64 (x.F.getD 6 0),.int .i64 (x.F.getD 7 0),.int .i64 (x.F.getD 8 0),.int .i64 (x.F.getD 9 0),.string body]):=rfl;rw [HXC.out]at R0 HCR;clear HXC HOX;generalize x.F.getD 0 0=y0 at*;generalize x.F.getD 1 0=y1 at*;generalize x.F.getD 2 0=y2 at*;generalize x.F.getD 3 0=y3 at*;generalize x.F.getD 4 0=y4 at*;generalize x.F.getD 5 0=y5 at*;generalize x.F.getD 6 0=y6 at*;generalize x.F.getD 7 0=y7 at*;generalize x.F.getD 8 0=y8 at*;generalize x.F.getD 9 0=y9 at*;generalize x.n=xn at*;generalize x.k=xk at*;obtain⟨W5,hW5⟩:∃W5,W5=wr.alloc (.cells #[.int .i64 xk,.int .i64 xn,.int .i64 y0,.int .i64 y1,.int .i64 y2,.int .i64 y3,.int .i64 y4,.int .i64 y5,.int .i64 y6,.int .i64 y7,.int .i64 y8,.int .i64 y9,.string body] 115):=⟨_,rfl⟩;have hb5:Below wr.heap.size wr W5:=by rw [hW5];exact(Below.refl _ _).alloc zr _
      have HSB:Hid (Box W5 wr.heap.size [.int .i64 xk,.int .i64 xn,.int .i64 y0,.int .i64 y1,.int .i64 y2,.int .i64 y3,.int .i64 y4,.int .i64 y5,.int .i64 y6,.int .i64 y7,.int .i64 y8,.int .i64 y9,.string body]):=by rw [hW5];exact aa (Box.new wr [.int .i64 xk,.int .i64 xn,.int .i64 y0,.int .i64 y1,.int .i64 y2,.int .i64 y3,.int .i64 y4,.int .i64 y5,.int .i64 y6,.int .i64 y7,.int .i64 y8,.int .i64 y9,.string body] 115)
      have hb45:Below w4.heap.size w4 W5:=hbr.trans (hb5.mono sr);have HKB5:=aa (HKB.out.below hb45);have HK5:=aa (HK.out.below hb45);replace HO:=zO HO hb5;have HW5:=aa hW5.symm;clear hW5 hb5;go_wp2_with (first | rw [HW5.out] |(refine wpList_load_mid rfl 115 (.tmp 54) rfl g (j*13) rfl _ _ R0.out Tryz.underlying115 rfl io ?_) |(refine wpList_load_mid rfl 115 (.tmp 16) rfl wr.heap.size 0 rfl _ _ HSB.out.range Tryz.underlying115 rfl io ?_) |(refine wpList_load_mid rfl 85 (.tmp 4) rfl w.heap.size 0 rfl _ _ HKB5.out.range Tryz.underlying85 rfl gk ?_))
      refine(ag HCR _ HK5.out).mono ?_;rintro e w6 ⟨u6,rfl,ho6,hb6⟩;have HO6:=aa ho6;replace HO:=zO HO hb6;have hb46:Below w4.heap.size w4 w6:=hb45.trans (hb6.mono hb45.size);have s46:w4.heap.size≤w6.heap.size:=hb46.size;clear ho6 hb6 hb45 HCR R0 HSB HKB5 HK5 HW5 hbr;obtain⟨o3,o4,rfl,_⟩:=dG HO6.out;generalize hCE:ri K body.size x=CE at*;by_cases hC0:CE=0
      ·subst hC0;have HBD:=HB1;clear HB1 HB2 hCE;go_wp2_with (at_builtin;refine jC rfl _ _ 45 rfl w4.heap.size 49 i0 _ 9 80 Tryz.underlying45 hi hz0 hz1 hz2 rfl (by decide) _ _ _ rfl HO.out _ _ _ _ rfl HO6.out (Ba _ _) ?a1 ?a2 s46 ?_)
       case a1=>unfold maxLen;omega
       case a2=>omega
       intro v7 w7 ho7 hg7;have hb7:Below w4.heap.size w4 w7:=hb46.grown hg7 s46 (ay HO.out);have HE7:Hid (w7.ownsRow w4.heap.size 49 9 v7 (dV K body.size (l.take (j+1))).length (AR body (dV K body.size (l.take (j+1))))):=by
        refine aa ?_;rw [HN.out,List.length_append, ←HNN.out,BF];exact ho7
       clear ho7 hg7 HO HO6;go_wp2_with fail
       go_roundw
       case rel=>exact⟨j+1,by omega,by go_num,HE7,HBD.out trivial,hb7⟩
       case measure=>simp [intOf];omega
      ·have hCb:(CE != 0)=true:=(by simpa using hC0);have HCE:=aa (HB2.out hC0);clear HB1 HB2;rw [HCE.out]at HAE;have hAL:jt K P id dst src kind ips ipd ttl port body.size= []:=(by rw [HAL.out,HAE.out,if_neg hC0]);have HAL2:=aa hAL;clear hAL;go_wp2_with fail
       rw [HAE.out];go_ret2;exact⟨_,rfl,[],⟨by rw [HAL2.out],List.Pairwise.nil,World.ownsRow_nil _ _ _ _⟩,kb.trans (hb46.mono hs4)⟩
     ·have hje:j=l.length:=(by omega);subst hje;rw [List.take_length]at HO HBAD;have hE0:ny K body.size l=0:=by unfold ny;rw [HBAD.out]
      rw [hE0]at HAE;have HAL2:Hid (jt K P id dst src kind ips ipd ttl port body.size=dV K body.size l):=by rw [HAL.out,if_pos HAE.out];exact aa rfl
      have HSS:=aa (HS.out HAE.out);rw [HAL2.out]at HSS;clear HS HBAD hE0;obtain⟨o1,o2,rfl⟩:=aw HO.out;have hkk:¬((l.length:Int)<(l.length:Int)):=(by omega);go_wp2_with fail
      refine(HSS.out body _ _ _ HO.out sr).mono ?_;rintro e w8 ⟨rfl,l8,hp8,hs8,ho8,hg8⟩;have HP8:=aa hp8;have HS8:=aa hs8;have HO8:=aa ho8;have kb8:Below w.heap.size w w8:=(kb.trans (hbr.mono hs4)).grown hg8 (by omega) (fun k hk=>Nat.le_trans hs4 (ay HO.out k hk));clear hp8 hs8 ho8 hg8;go_wp2_with fail
      rw [HAE.out,HAL2.out];go_ret2;exact⟨_,rfl,l8,⟨HP8.out,HS8.out,by rw [HP8.out.length_eq];exact aH HO8.out hs4⟩,kb8⟩
   ·rw [if_neg hR0]at HAE;have hRb:(R != 0)=true:=(by simpa using hR0);obtain⟨oo,oc,rfl,_⟩:=dG HO.out;go_wp2_with fail
    rw [HAE.out];go_ret2;exact⟨_,rfl,[],⟨by rw [HAL.out,HAE.out,if_neg hR0],List.Pairwise.nil,World.ownsRow_nil _ _ _ _⟩,kb⟩
  ·rw [if_neg hE0]at HAE⊢;have hEb:(E != 0)=true:=(by simpa using hE0);go_wp2_with fail
   rw [HAE.out];go_ret2;exact⟨_,rfl,[],⟨by rw [HAL.out,HAE.out,if_neg hE0],List.Pairwise.nil,World.ownsRow_nil _ _ _ _⟩,kb.alloc kb.size _⟩
def KD (S:List Sw) (P:List Pr) (A:List Ac) (k:Nat) (i:Nat):List Fl:=if i<k then cmL S P A i else []
theorem BS {S:List Sw} {P:List Pr} {A:List Ac} {k:Nat} (h:k=0∨may S P A=true) (hk:k≤6):Kok (KD S P A k):=by
 intro i;unfold KD;by_cases l:i<k
 ·rw [if_pos l];have hm:may S P A=true:=by rcases h with h | h;omega;exact h
  exact sO (by unfold cmE;rw [if_pos hm,if_pos (by omega)])
 ·rw [if_neg l];exact⟨⟨List.Pairwise.nil,by simp⟩,by simp,by simp⟩
theorem zv {α:Type} {l:List α} {f:List α→α→Int} (h:∀L x R,l=L++x::R→f L x=0) {r:α→α→Prop} (hf:∀L x y,x∈L→f L y=0→r x y):l.Pairwise r:=by
 rw [List.pairwise_iff_getElem];intro i j hi hj hij;refine hf (l.take j) l[i] l[j] ?_ (h (l.take j) l[j] (l.drop (j+1)) ?_)
 ·rw [List.mem_take_iff_getElem];exact⟨i,by omega,rfl⟩
 ·rw [←List.drop_eq_getElem_cons hj,List.take_append_drop]
theorem lF {S:List Sw} {P:List Pr} (h:ba S P=true):P.Pairwise fun x y=>x.i≠y.i:=by
 refine zv ((cT S P).1 h) fun L x y hx hz e=>?_;have:=((ew _ _ _).1 hz).2.2.1;rw [List.any_eq_false]at this;exact this x hx (by simp [e])
theorem wD {S:List Sw} {P:List Pr} (h:ba S P=true) {p:Pr} (hp:p∈P):P.find? (fun q=>q.i==p.i)=some p:=by
 cases hf:P.find? (fun q=>q.i==p.i)with
 | none=>have:=List.find?_eq_none.1 hf p hp;simp at this
 | some q=>
  have h2:=List.find?_some hf;rw [dD h (List.mem_of_find?_eq_some hf) hp (by simpa using h2)]
def goA (g:Gl):Ar:=⟨g.u,g.f⟩
section
variable {S:List Sw} {P:List Pr} {A:List Ac}
theorem rq (hm:may S P A=true) {p:Pr} (hp:p∈P) (d sc k a b t o:Int):led S P A p.c p.i d sc k a b t o=if sc=p.m∧a=p.p then
   (if k=1 then nO P (er S p.s) p.i p.c p.m p.p b else if k=3∧gf A (er S p.s).i true a b o=true then qk S P (er S p.s) p.i d sc a b t o else [])else []:=by
 unfold led;rw [wD (bR hm).2.1 hp];simp
theorem BH {α:Type} {l:List α} (hn:l.Pairwise (fun x y=>x≠y)) (h:∀x∈l,∀y∈l,x=y):l.length≤1:=by
 match l,hn,h with
 | [],_,_=>simp
 | [x],_,_=>simp
 | x::y::r,hn,h=>exact absurd (h x (by simp) y (by simp)) ((List.pairwise_cons.1 hn).1 y (by simp))
theorem ry (hm:may S P A=true) {p:Pr} (hp:p∈P) (c m ip b:Int):(nO P (er S p.s) p.i c m ip b).length≤1:=by
 obtain⟨hS,hP,_⟩:=bR hm;obtain⟨hso,hsi⟩:=mt hP hp;have htn:=uR hS hso;rw [hsi]at htn;unfold nO;rw [List.length_map,List.length_append,List.length_map];have h1:(P.filter (fun q=>q.s==(er S p.s).i&&(!(q.i==p.i)&&q.p==b))).length≤1:=by
  refine BH (((lF hP).imp fun h e=>h (by rw [e])).filter _) fun x hx y hy=>?_;obtain⟨hx,bx⟩:=List.mem_filter.1 hx;obtain⟨hy,bz⟩:=List.mem_filter.1 hy;simp only [Bool.and_eq_true,beq_iff_eq]at bx bz;exact iZ hS hP hx hy (by rw [bx.1,bz.1]) (by rw [bx.2.2,bz.2.2])
 by_cases hb:(er S p.s).g≠0∧b=(er S p.s).g
 ·rw [if_pos hb];have h0:P.filter (fun q=>q.s==(er S p.s).i&&(!(q.i==p.i)&&q.p==b))= []:=by
   rw [List.filter_eq_nil_iff];intro q hq hq2;simp only [Bool.and_eq_true,beq_iff_eq]at hq2;refine mr hS hP hso hq (by rw [hq2.1,hsi];exact htn) ?_;rw [hq2.2.2,hb.2]
  rw [h0];simp
 ·rw [if_neg hb];simpa using h1
theorem ox {P:List Pr} (h:P.Pairwise fun x y=>x.i≠y.i) (f:Pr→Bool):((P.filter f).map (·.i)).Nodup:=by
 rw [List.nodup_iff_pairwise_ne,List.pairwise_map];exact h.filter _
theorem xU (hm:may S P A=true) {p:Pr} (hp:p∈P) (d sc k a b t o:Int):((led S P A p.c p.i d sc k a b t o).map (·.u)).Nodup:=by
 obtain⟨hS,hP,_⟩:=bR hm;obtain⟨hso,hsi⟩:=mt hP hp;have hap:=lF hP;rw [rq hm hp];split
 ·split
  ·have:=ry hm hp p.c p.m p.p b
   match nO P (er S p.s) p.i p.c p.m p.p b,this with
   | [],_=>exact List.nodup_nil
   | [x],_=>simp
  ·split
   ·unfold qk;rw [List.map_append,List.map_map,List.map_map];show((P.filter _).map (·.i)++(P.filter _).map (·.i)).Nodup;by_cases hd:d=60000+(er S p.s).i
    ·have h0:P.filter (brB (er S p.s) p.i d)= []:=by
      rw [List.filter_eq_nil_iff];intro q hq hb;unfold brB at hb;simp only [Bool.and_eq_true,Bool.or_eq_true,beq_iff_eq]at hb;have h1:=(dy hS hP).2 q hq;have h2:=(gc hS).2 _ hso;rcases hb.2.2 with h | h <;>omega
     rw [h0,List.map_nil,List.nil_append];exact ox hap _
    ·have h0:P.filter (rtB S (er S p.s) d b t)= []:=by
      rw [List.filter_eq_nil_iff];intro q hq hb;unfold rtB at hb;simp only [Bool.and_eq_true,decide_eq_true_eq]at hb;exact hd hb.2.1.2.1
     rw [h0,List.map_nil,List.append_nil];exact ox hap _
   ·exact List.nodup_nil
 ·exact List.nodup_nil
end
theorem sh {l l1 l2:List Ar} (hn:(l.map (·.n)).Nodup) (p1:l1.Perm l) (p2:l2.Perm l) (h1:iJ l1) (h2:iJ l2):l1=l2:=by
 have key:∀x∈l1,∀y∈l1,x.n=y.n→x=y:=by
  intro x hx y hy e;have hx:=p1.mem_iff.1 hx;have hy:=p1.mem_iff.1 hy;rw [List.nodup_iff_pairwise_ne,List.pairwise_map]at hn;rcases yV hx hy with e' |⟨L,M,R,e'⟩ |⟨L,M,R,e'⟩
  ·exact e'
  ·rw [e',List.append_assoc,List.cons_append]at hn;exact absurd e ((List.pairwise_cons.1 (List.pairwise_append.1 hn).2.1).1 y (by simp))
  ·rw [e',List.append_assoc,List.cons_append]at hn;exact absurd e.symm ((List.pairwise_cons.1 (List.pairwise_append.1 hn).2.1).1 x (by simp))
 refine List.Perm.eq_of_pairwise (le:=fun a b:Ar=>¬b.n<a.n) ?_ h1 h2 (p1.trans p2.symm);intro x y hx hy a b;exact key x hx y ((p1.trans p2.symm).mem_iff.2 hy) (by omega)
theorem py {x y:Ac}:aM x y=false↔x.p<y.p:=by
 simp only [aM,decide_eq_false_iff_not];omega
theorem acLe_is {x y:Ac}:aM x y=true↔y.p≤x.p:=by
 simp only [aM,decide_eq_true_eq]
def AscA (L:List Ac):Prop:=Asc aM L
theorem AscA.at {L:List Ac} (h:AscA L) {i j:Nat} (hij:i<j) (hj:j<L.length):(L.getD j ac0).p≤(L.getD i ac0).p:=by
 have:=List.pairwise_iff_getElem.1 h i j (by omega) hj hij;rw [List.getD_eq_getElem?_getD,List.getD_eq_getElem?_getD,List.getElem?_eq_getElem hj,List.getElem?_eq_getElem (show i<L.length by omega)];exact acLe_is.1 this
theorem AscA.le {L:List Ac} (h:AscA L) {i j:Nat} (hij:i≤j) (hj:j<L.length):(L.getD j ac0).p≤(L.getD i ac0).p:=by
 rcases Nat.lt_or_ge i j with h' | h'
 ·exact h.at h' hj
 ·obtain rfl:i=j:=(by omega);exact Int.le_refl _
theorem AscA.left {A B:List Ac} (h:AscA (A++B)):AscA A:=(List.pairwise_append.1 h).1
theorem AscA.right {A B:List Ac} (h:AscA (A++B)):AscA B:=(List.pairwise_append.1 h).2.1
theorem AscA.take {A:List Ac} (h:AscA A) (k:Nat):AscA (A.take k):=List.Pairwise.sublist (List.take_sublist k A) h
theorem AscA.drop {A:List Ac} (h:AscA A) (k:Nat):AscA (A.drop k):=List.Pairwise.sublist (List.drop_sublist k A) h
theorem mn {A:List Ac} {k:Nat} {x:Ac} (h:x∈A.take k):∃i,i<k∧i<A.length∧A.getD i ac0=x:=by
 obtain⟨i,hi,e⟩:=List.getElem_of_mem h;rw [List.length_take]at hi;refine⟨i,by omega,by omega,?_⟩;rw [List.getElem_take]at e;rw [List.getD_eq_getElem?_getD,List.getElem?_eq_getElem (by omega)];exact e
theorem l9 {A:List Ac} {k:Nat} {x:Ac} (h:x∈A.drop k):∃i,k≤i∧i<A.length∧A.getD i ac0=x:=by
 obtain⟨i,hi,e⟩:=List.getElem_of_mem h;rw [List.length_drop]at hi;refine⟨k+i,by omega,by omega,?_⟩;rw [List.getElem_drop]at e;rw [List.getD_eq_getElem?_getD,List.getElem?_eq_getElem (by omega)];exact e
theorem wk {x:Ac} {B:List Ac} (hB:AscA B) {k:Nat} (hk:k≤B.length) (h1:k=0∨x.p<(B.getD (k-1) ac0).p) (h2:k=B.length∨(B.getD k ac0).p≤x.p):mrg aM [x] B=B.take k++x::B.drop k:=by
 have:=AE aM x (B.take k) (B.drop k) (fun y hy=>by
  obtain⟨i,hi,hl,rfl⟩:=mn hy;rw [py];have:=hB.le (show i≤k-1 by omega) (by omega);omega) (fun y hy=>by
  obtain⟨i,hi,hl,rfl⟩:=l9 hy;rw [acLe_is];have:=hB.le hi hl;omega)
 rwa [List.take_append_drop]at this
theorem mU {y:Ac} {A:List Ac} (hA:AscA A) {k:Nat} (hk:k≤A.length) (h1:k=0∨y.p≤(A.getD (k-1) ac0).p) (h2:k=A.length∨(A.getD k ac0).p<y.p):mrg aM A [y]=A.take k++y::A.drop k:=by
 have:=yz aM y (A.take k) (A.drop k) (fun x hx=>by
  obtain⟨i,hi,hl,rfl⟩:=mn hx;rw [acLe_is];have:=hA.le (show i≤k-1 by omega) (by omega);omega) (fun x hx=>by
  obtain⟨i,hi,hl,rfl⟩:=l9 hx;rw [py];have:=hA.le hi hl;omega)
 rwa [List.take_append_drop]at this
theorem xI {A B:List Ac} (hA:AscA A) (hB:AscA B) {k m:Nat} (hk:k≤A.length) (hm:m≤B.length) (h1:k=0∨m=B.length∨(B.getD m ac0).p≤(A.getD (k-1) ac0).p) (h2:k=A.length∨m=0∨(A.getD k ac0).p<(B.getD (m-1) ac0).p):
  mrg aM A B=mrg aM (A.take k) (B.take m)++mrg aM (A.drop k) (B.drop m):=by
 have:=gp aM _ (A.take k) (A.drop k) (B.take m) (B.drop m) rfl (fun x hx y hy=>by
  obtain⟨i,hi,hl,rfl⟩:=mn hx;obtain⟨j,hj,hl',rfl⟩:=l9 hy;rw [acLe_is];have a1:=hA.le (show i≤k-1 by omega) (by omega);have a2:=hB.le hj hl';omega) (fun y hy x hx=>by
  obtain⟨i,hi,hl,rfl⟩:=l9 hx;obtain⟨j,hj,hl',rfl⟩:=mn hy;rw [py];have a1:=hA.le hi hl;have a2:=hB.le (show j≤m-1 by omega) (by omega);omega)
 rwa [List.take_append_drop,List.take_append_drop]at this
def BI (xs:List Value) (k:Nat) (x:Ac):List Value:=
 ((((((((xs.set k (.int .i64 x.s)).set (k+1) (.int .i64 x.p)).set (k+2) (.bool x.n)).set (k+3) (.int .i64 x.src)).set (k+4) (.int .i64 x.sb)).set (k+5) (.int .i64 x.dst)).set (k+6) (.int .i64 x.db)).set (k+7) (.int .i64 x.o)).set (k+8) (.bool x.d)
theorem fq {α:Type} (A B:List α) (j:Nat) (v:α):(A++B).set (A.length+j) v=A++B.set j v:=by
 rw [List.set_append_right _ _ (by omega)];congr 2;omega
theorem xw {L:List Ac} {i:Nat} (hi:i<L.length) (x:Ac):BI (L.flatMap acC) (i*9) x=(L.set i x).flatMap acC:=by
 have e:L=L.take i++L[i]::L.drop (i+1):=by
  rw [←List.drop_eq_getElem_cons hi,List.take_append_drop]
 have hl:((L.take i).flatMap acC).length=i*9:=by rw [cL cQ,List.length_take,Nat.min_eq_left (by omega)]
 have e2:(L.set i x).flatMap acC=(L.take i).flatMap acC++(acC x++(L.drop (i+1)).flatMap acC):=by
  rw [List.set_eq_take_append_cons_drop,if_pos hi,List.flatMap_append,List.flatMap_cons]
 have e3:L.flatMap acC=(L.take i).flatMap acC++(acC L[i]++(L.drop (i+1)).flatMap acC):=by
  conv=>lhs;rw [e]
  rw [List.flatMap_append,List.flatMap_cons]
 rw [e2,e3];unfold BI;generalize (L.take i).flatMap acC=T at*;rw [←hl];rw [show T.length=T.length+0 from rfl,fq,show T.length+0+1=T.length+1 from rfl,fq,show T.length+0+2=T.length+2 from rfl,fq,show T.length+0+3=T.length+3 from rfl,fq,show T.length+0+4=T.length+4 from rfl,fq,show T.length+0+5=T.length+5 from rfl,fq,show T.length+0+6=T.length+6 from rfl,fq,show T.length+0+7=T.length+7 from rfl,fq,show T.length+0+8=T.length+8 from rfl,fq];rfl
def zG (w:World) (g k:Nat) (x:Ac):World:=
 ((((((((w.setCell ⟨g,k,none⟩ (.int .i64 x.s)).setCell ⟨g,k+1,none⟩ (.int .i64 x.p)).setCell ⟨g,k+2,none⟩ (.bool x.n)).setCell ⟨g,k+3,none⟩ (.int .i64 x.src)).setCell ⟨g,k+4,none⟩ (.int .i64 x.sb)).setCell ⟨g,k+5,none⟩ (.int .i64 x.dst)).setCell ⟨g,k+6,none⟩ (.int .i64 x.db)).setCell ⟨g,k+7,none⟩ (.int .i64 x.o)).setCell ⟨g,k+8,none⟩ (.bool x.d)
theorem aD {a b c:World} {r:Option Nat} (h1:a.grownBy b r) (h2:b.grownBy c r):a.grownBy c r:=
 ⟨h2.os.trans h1.os,h2.tape.trans h1.tape,h2.output.trans h1.output,Nat.le_trans h1.size h2.size,fun k hk hne=>(h2.block k (Nat.lt_of_lt_of_le hk h1.size) hne).trans (h1.block k hk hne)⟩
theorem xS {w:World} {B g n c i:Nat} {L:List Ac} (h:w.ownsRow B 40 9 (.slice (some ⟨g,0,none⟩) n c) n (L.flatMap acC)) (hi:i<L.length) (x:Ac):
  (zG w g (i*9) x).ownsRow B 40 9 (.slice (some ⟨g,0,none⟩) n c) n ((L.set i x).flatMap acC)∧w.grownBy (zG w g (i*9) x) (some g):=by
 rw [←xw hi x];obtain⟨h0,q0⟩:=h.stored (i*9) (.int .i64 x.s);obtain⟨h1,q1⟩:=h0.stored (i*9+1) (.int .i64 x.p);obtain⟨h2,q2⟩:=h1.stored (i*9+2) (.bool x.n);obtain⟨h3,q3⟩:=h2.stored (i*9+3) (.int .i64 x.src);obtain⟨h4,q4⟩:=h3.stored (i*9+4) (.int .i64 x.sb);obtain⟨h5,q5⟩:=h4.stored (i*9+5) (.int .i64 x.dst);obtain⟨h6,q6⟩:=h5.stored (i*9+6) (.int .i64 x.db);obtain⟨h7,q7⟩:=h6.stored (i*9+7) (.int .i64 x.o);obtain⟨h8,q8⟩:=h7.stored (i*9+8) (.bool x.d);exact⟨h8,aD (aD (aD (aD (aD (aD (aD (aD q0 q1) q2) q3) q4) q5) q6) q7) q8⟩
theorem aP:(Tryz.prog.info? 40).map (·.size)=some 9:=by kernel_rfl
def AcR (w:World) (B g c N:Nat) (L:List Ac):Prop:=L.length=N∧w.ownsRow B 40 9 (.slice (some ⟨g,0,none⟩) N c) N (L.flatMap acC)
theorem AcR.below {w w':World} {B g c N:Nat} {L:List Ac} (h:AcR w B g c N L) (hb:Below w.heap.size w w'):AcR w' B g c N L:=⟨h.1,ar h.2 hb⟩
theorem AcR.lt {w:World} {B g c N:Nat} {L:List Ac} (h:AcR w B g c N L):g<w.heap.size:=cG h.2 rfl
theorem vp {L:List Ac} {i:Nat} (hi:i<L.length) {j:Nat} {v:Value} (hj:(acC (L.getD i ac0))[j]? =some v):(L.flatMap acC)[i*9+j]? =some v:=by
 have e:L=L.take i++L[i]::L.drop (i+1):=by
  rw [←List.drop_eq_getElem_cons hi,List.take_append_drop]
 have hl:((L.take i).flatMap acC).length=i*9:=by rw [cL cQ,List.length_take,Nat.min_eq_left (by omega)]
 have e3:L.flatMap acC=(L.take i).flatMap acC++(acC L[i]++(L.drop (i+1)).flatMap acC):=by
  conv=>lhs;rw [e]
  rw [List.flatMap_append,List.flatMap_cons]
 rw [List.getD_eq_getElem?_getD,List.getElem?_eq_getElem hi]at hj;have hj9:j<(acC L[i]).length:=by
  rcases Nat.lt_or_ge j (acC L[i]).length with h | h
  ·exact h
  ·rw [List.getElem?_eq_none (by simpa using h)]at hj;cases hj
 rw [e3,List.getElem?_append_right (by omega),List.getElem?_append_left (by omega),hl,Nat.add_sub_cancel_left];exact hj
theorem AcR.range {w:World} {B g c N:Nat} {L:List Ac} (h:AcR w B g c N L) {i:Nat} (hi:i<N):w.rangeAt g (i*9) (acC (L.getD i ac0)):=fun j v hj=>by
 have h1:=h.2.cells rfl (i*9+j) v (vp (by rw [h.1];exact hi) hj);rw [Addr.add_mid]at h1;simpa using h1
theorem AcR.there {w:World} {B g c N:Nat} {L:List Ac} (h:AcR w B g c N L) {i:Nat} (hi:i<N):w.there g (i*9) 9:=fun j hj=>by
 refine⟨(h.range hi).isSome j (by rw [cQ];exact hj),?_⟩;exact h.2.frozenAt _
theorem sH (w:World) (g k:Nat) (x:Ac):w.setCells g k (acC x)=zG w g k x:=by
 simp only [zG,acC,World.setCells,Nat.add_assoc,Nat.reduceAdd]
theorem AcR.put {w:World} {B g c N:Nat} {L:List Ac} (h:AcR w B g c N L) {i:Nat} (hi:i<N) (x:Ac):AcR (w.setCells g (i*9) (acC x)) B g c N (L.set i x)∧w.grownBy (w.setCells g (i*9) (acC x)) (some g):=by
 have:=xS h.2 (by rw [h.1];exact hi) x;rw [sH];exact⟨⟨by rw [List.length_set];exact h.1,this.1⟩,this.2⟩
theorem grown_refl' (w:World) (r:Option Nat):w.grownBy w r:=⟨rfl,rfl,rfl,Nat.le_refl _,fun _ _ _=>rfl⟩
theorem cN {w w1 w2:World} {r:Nat} (h:w.grownBy w1 (some r)) (hb:Below w1.heap.size w1 w2):w.grownBy w2 (some r):=dz h hb
def bA (X A:List Ac) (y:Ac) (R:List Ac) (m:Nat):List Ac:=X++(A.take m++y::A.drop m)++R
theorem dK {A B:List Ac} {i:Nat} (h:i<A.length):(A++B).getD i ac0=A.getD i ac0:=by
 rw [List.getD_eq_getElem?_getD,List.getD_eq_getElem?_getD,List.getElem?_append_left h]
theorem bo {A B:List Ac} (i:Nat):(A++B).getD (A.length+i) ac0=B.getD i ac0:=by
 rw [List.getD_eq_getElem?_getD,List.getD_eq_getElem?_getD,List.getElem?_append_right (by omega),Nat.add_sub_cancel_left]
theorem jO {X A:List Ac} {y:Ac} {R:List Ac} {m:Nat} (hm:m≤A.length):(bA X A y R m).getD (X.length+m) ac0=y:=by
 unfold bA;rw [List.append_assoc,bo,List.append_assoc];have h:(A.take m).length+0=m:=by simp;omega
 have:=bo (A:=A.take m) (B:=y::A.drop m++R) 0;rw [h]at this;rw [this];rfl
theorem jy {X A:List Ac} {y:Ac} {R:List Ac} {m:Nat} (hm:m<A.length):(bA X A y R (m+1)).getD (X.length+m) ac0=A.getD m ac0:=by
 unfold bA;rw [List.append_assoc,bo,List.append_assoc,dK (by simp;omega)];rw [List.getD_eq_getElem?_getD,List.getD_eq_getElem?_getD,List.getElem?_take_of_lt (by omega)]
theorem om {X A:List Ac} {y:Ac} {R:List Ac} {m:Nat} (hm:m<A.length):((bA X A y R (m+1)).set (X.length+m+1) (A.getD m ac0)).set (X.length+m) y=bA X A y R m:=by
 have e1:bA X A y R (m+1)=(X++A.take m)++A.getD m ac0:: []++y::(A.drop (m+1)++R):=by
  unfold bA;have:A.take (m+1)=A.take m++ [A.getD m ac0]:=by
   rw [List.take_add_one,List.getD_eq_getElem?_getD,List.getElem?_eq_getElem hm];rfl
  rw [this];simp
 have e2:bA X A y R m=(X++A.take m)++y:: []++A.getD m ac0::(A.drop (m+1)++R):=by
  unfold bA;have:A.drop m=A.getD m ac0::A.drop (m+1):=by
   rw [List.drop_eq_getElem_cons hm,List.getD_eq_getElem?_getD,List.getElem?_eq_getElem hm];rfl
  rw [this];simp
 have hl:(X++A.take m).length=X.length+m:=by simp;omega
 rw [e1,e2];have:=mF (X++A.take m) [] (A.drop (m+1)++R) (A.getD m ac0) y;rw [hl]at this;rw [List.set_comm _ _ (by omega)];simpa using this
theorem mE {X A:List Ac} {y:Ac} {R:List Ac} {m:Nat} (hm:m<A.length):((bA X A y R m).set (X.length+m) (A.getD m ac0)).set (X.length+m+1) y=bA X A y R (m+1):=by
 have e1:bA X A y R (m+1)=(X++A.take m)++A.getD m ac0:: []++y::(A.drop (m+1)++R):=by
  unfold bA;have:A.take (m+1)=A.take m++ [A.getD m ac0]:=by
   rw [List.take_add_one,List.getD_eq_getElem?_getD,List.getElem?_eq_getElem hm];rfl
  rw [this];simp
 have e2:bA X A y R m=(X++A.take m)++y:: []++A.getD m ac0::(A.drop (m+1)++R):=by
  unfold bA;have:A.drop m=A.getD m ac0::A.drop (m+1):=by
   rw [List.drop_eq_getElem_cons hm,List.getD_eq_getElem?_getD,List.getElem?_eq_getElem hm];rfl
  rw [this];simp
 have hl:(X++A.take m).length=X.length+m:=by simp;omega
 rw [e1,e2];have:=mF (X++A.take m) [] (A.drop (m+1)++R) y (A.getD m ac0);rw [hl]at this;simpa using this
theorem wv {X A:List Ac} {y:Ac} {R:List Ac} {m:Nat} (hm:m<A.length):(bA X A y R m).getD (X.length+m+1) ac0=A.getD m ac0:=by
 have:=jy (X:=X) (y:=y) (R:=R) hm;rw [←mE hm]at this;have e:(bA X A y R m).getD (X.length+m+1) ac0=A.getD m ac0:=by
  unfold bA;rw [List.append_assoc,show X.length+m+1=X.length+(m+1) by omega,bo,List.append_assoc];have hl:(A.take m).length+1=m+1:=by simp;omega
  have h2:=bo (A:=A.take m) (B:=y::A.drop m++R) 1;rw [hl]at h2;rw [h2];have:A.drop m=A.getD m ac0::A.drop (m+1):=by
   rw [List.drop_eq_getElem_cons hm,List.getD_eq_getElem?_getD,List.getElem?_eq_getElem hm];rfl
  rw [this];rfl
 exact e
theorem iR (x y:Ac) (w:World):Calls Tryz.prog 171 #[.agg (acC x).toArray,.agg (acC y).toArray] w fun e w'=>e= .returned (.int .i64 (aT y.p x.p))∧Below w.heap.size w w':=qW x y w
theorem kl (x y:Int):(aT x y<0)=(x<y):=by
 unfold aT;by_cases h:x<y
 ·rw [if_pos h];simp [h]
 ·rw [if_neg h];split <;>simp [h]
theorem j6 {P:Program} {c:Code} {Q:Exit→Act→World→Prop} {a:Act} {w:World} (A1:Act) (F:World→Prop) (h:c.wp P (fun e a' w'=>e= .normal∧a'=A1∧F w') a w) (hq:∀w',F w'→Q .normal A1 w'):c.wp P Q a w:=
 Code.wp_mono (fun e a' w' ⟨he,ha,hf⟩=>by subst he;subst ha;exact hq w' hf) h
theorem tz {X Y Z A:List Ac} {y:Ac} {k m:Nat} (hk:k<Y.length) (hA:A=aU aM (Y.take k)) (hy:y=Y.getD k ac0) (hm:m≤A.length) (h1:m=0∨y.p≤(A.getD (m-1) ac0).p) (h2:m=A.length∨(A.getD m ac0).p<y.p):
  bA X A y (Y.drop (k+1)++Z) m=X++aU aM (Y.take (k+1))++Y.drop (k+1)++Z:=by
 have e:Y.take (k+1)=Y.take k++ [y]:=by
  rw [List.take_add_one,hy,List.getD_eq_getElem?_getD,List.getElem?_eq_getElem hk];rfl
 rw [e,fI, ←hA,mU (by rw [hA];exact dS fZ gb _) hm h1 h2];unfold bA;simp
theorem tt {X Y Z:List Ac} {k:Nat} (hk:k<Y.length):X++aU aM (Y.take k)++Y.drop k++Z=bA X (aU aM (Y.take k)) (Y.getD k ac0) (Y.drop (k+1)++Z) k:=by
 have hl:(aU aM (Y.take k)).length=k:=by rw [aV];simp;omega
 have e:Y.drop k=Y.getD k ac0::Y.drop (k+1):=by
  rw [List.drop_eq_getElem_cons hk,List.getD_eq_getElem?_getD,List.getElem?_eq_getElem hk];rfl
 unfold bA;generalize aU aM (Y.take k)=A at hl⊢;rw [List.take_of_length_le (Nat.le_of_eq hl),List.drop_of_length_le (Nat.le_of_eq hl),e];simp
theorem le2 {a b:Nat} (h:a=b):a≤b∧b≤a:=⟨Nat.le_of_eq h,Nat.le_of_eq h.symm⟩
theorem tF (X Y Z:List Ac) (B g c N a b:Nat) (w:World) (hA:AcR w B g c N (X++Y++Z)) (ha:a=X.length) (hb:b=X.length+Y.length) (hN:N≤1000):
  Calls Tryz.prog 212 #[.slice (some ⟨g,0,none⟩) N c,.int .i64 (a:Int),.int .i64 (b:Int),.func (.func 171) #[] #[]] w fun e w'=>e= .returned (.tuple #[])∧AcR w' B g c N (X++aU aM Y++Z)∧w.grownBy w' (some g):=by
 obtain⟨T,hT⟩:∃T,T=X++aU aM Y++Z:=⟨_,rfl⟩;rw [←hT];have HT:=aa hT;clear hT;have HCM:=aa iR;have HA0:=aa hA;have hlen:X.length+Y.length+Z.length=N:=by have:=hA.1;simpa [Nat.add_assoc] using this
 clear hA;obtain⟨ha2,ha3⟩:=le2 ha;obtain⟨hb2,hb3⟩:=le2 hb;obtain⟨hl2,hl3⟩:=le2 hlen;clear ha hb hlen;obtain⟨a1,ha1⟩:∃a1,a1=a+1:=⟨_,rfl⟩;obtain⟨ha4,ha5⟩:=le2 ha1;clear ha1;have hw1:IntKind.i64.wrap ((a:Int)+1)=(a1:Int):=(bj _ (by omega) (by omega)).trans (by omega);go_enter Tryz.func212,Tryz.ntmps212;go_wp2_with fail
 go_loopw [8] (fun i wr=>∃k i0:Nat,1≤k∧(k≤Y.length∨k=1)∧i0=a+k∧i= .int .i64 (i0:Int)∧Hid (AcR wr B g c N (X++aU aM (Y.take k)++Y.drop k++Z))∧Hid (w.grownBy wr (some g))) (fun i _=>b-(intOf i).toNat)
 case atStart=>exact⟨1,a1,by omega,.inr rfl,by omega,rfl,by have e:aU aM (Y.take 1)=Y.take 1:=(by cases Y <;>simp [aU,mrg]);rw [e,List.append_assoc X,List.take_append_drop];exact HA0,aa (grown_refl' _ _)⟩
 case round=>
  clear HA0;obtain⟨k,i0,hk1,hk2,hi0,rfl,HAk,HG⟩:=hrel
  rename World=>W1
  obtain⟨hi2,hi3⟩:=le2 hi0;clear hi0;by_cases hlt:i0<b
  ·have hkY:k<Y.length:=(by omega);have qlt:(i0:Int)<(b:Int):=(by omega);obtain⟨A,hAe⟩:∃A,A=aU aM (Y.take k):=⟨_,rfl⟩;obtain⟨y,hye⟩:∃y,y=Y.getD k ac0:=⟨_,rfl⟩;obtain⟨R,hRe⟩:∃R,R=Y.drop (k+1)++Z:=⟨_,rfl⟩;have hAl:A.length=k:=by rw [hAe,aV];simp;omega
   have HNX:Hid (∀m,m≤A.length→(m=0∨y.p≤(A.getD (m-1) ac0).p)→(m=A.length∨(A.getD m ac0).p<y.p)→bA X A y R m=X++aU aM (Y.take (k+1))++Y.drop (k+1)++Z):=aa (fun m h0 h1 h2=>by rw [hRe];exact tz hkY hAe hye h0 h1 h2);have HA0:Hid (AcR W1 B g c N (bA X A y R k)):=by have:=HAk.out;rw [tt hkY, ←hAe, ←hye, ←hRe]at this;exact aa this
   have hAl2:=aa hAl;obtain⟨hA2,hA3⟩:=le2 hAl;clear HAk hAe hye hRe hAl;have hai:a≤i0:=(by omega);obtain⟨i1,hi1⟩:∃i1,i1=i0+1:=⟨_,rfl⟩;obtain⟨hi4,hi5⟩:=le2 hi1;clear hi1;have hw2:IntKind.i64.wrap ((i0:Int)+1)=(i1:Int):=(bj _ (by omega) (by omega)).trans (by omega);go_wp2_with fail
   go_loopw [9] (fun j wr=>∃m j0:Nat,m≤k∧j0=a+m∧j= .int .i64 (j0:Int)∧Hid (m=A.length∨(A.getD m ac0).p<y.p)∧Hid (AcR wr B g c N (bA X A y R m))∧Hid (w.grownBy wr (some g))) (fun j _=>(intOf j).toNat)
   case atStart=>exact⟨k,i0,Nat.le_refl _,by omega,rfl,aa (.inl hAl2.out.symm),HA0,HG⟩
   case round=>
    clear HA0 HG;obtain⟨m,j0,hmk,hj0,rfl,HM2,HA,HG⟩:=hrel;obtain⟨hj2,hj3⟩:=le2 hj0;clear hj0;by_cases hm0:m=0
    ·subst hm0;have hm0:True:=trivial;have hng:¬(a<j0):=(by omega);have hng2:¬((a:Int)<(j0:Int)):=(by omega);go_wp2_with fail
     have hDr:Below wr.heap.size wr wr.drew:=(Below.refl _ _).drew;replace HA:=aa (HA.out.below hDr);replace HG:=aa (cN HG.out hDr);clear hDr;refine wp_region_held_drew (S:=fun _=>True) (by kernel_rfl) trivial (fun hHeld=>?_);generalize wr.drew=V at*;refine sqA [(0,18),(1,19),(2,20),(3,21)] ?_;(iterate 4 (refine sqN rfl (by kernel_rfl) (fun _ _ _ h=>h) rfl ‹_› (by intro w h;go_simp <;>with_reducible rfl) ?_;simp only [nz]));refine sqZ ?_;refine wpAnyH_take (i:=4) (oi:=⟨some 22,_,_,_,_,_⟩) (v:=undef) rfl (by kernel_rfl) (by kernel_rfl) (by kernel_rfl) (fun _ _ _ h=>h) (Or.inr ⟨by rfl,rfl⟩) (by assumption) ?_;(try simp only [nz]);refine wpAnyH_take (i:=5) (oi:=⟨some 23,_,_,_,_,_⟩) (v:=undef) rfl (by kernel_rfl) (by kernel_rfl) (by kernel_rfl) (fun _ _ _ h=>h) (Or.inr ⟨by rfl,rfl⟩) (by assumption) ?_;(try simp only [nz]);refine wpAnyH_take (i:=6) (oi:=⟨some 24,_,_,_,_,_⟩) (v:=undef) rfl (by kernel_rfl) (by kernel_rfl) (by kernel_rfl) (fun _ _ _ h=>h) (Or.inr ⟨by rfl,rfl⟩) (by assumption) ?_;(try simp only [nz]);refine wpAnyH_take (i:=7) (oi:=⟨some 25,_,_,_,_,_⟩) (v:=undef) rfl (by kernel_rfl) (by kernel_rfl) (by kernel_rfl) (fun _ _ _ h=>h) (Or.inr ⟨by rfl,rfl⟩) (by assumption) ?_;(try simp only [nz]);refine wpAnyH_take (i:=8) (oi:=⟨some 26,_,_,_,_,_⟩) (v:=undef) rfl (by kernel_rfl) (by kernel_rfl) (by kernel_rfl) (fun _ _ _ h=>h) (Or.inr ⟨by rfl,rfl⟩) (by assumption) ?_;(try simp only [nz]);refine wpAnyH_take (i:=9) (oi:=⟨some 27,_,_,_,_,_⟩) (v:=undef) rfl (by kernel_rfl) (by kernel_rfl) (by kernel_rfl) (fun _ _ _ h=>h) (Or.inr ⟨by rfl,rfl⟩) (by assumption) ?_;(try simp only [nz]);refine wpAnyH_take (i:=10) (oi:=⟨some 28,_,_,_,_,_⟩) (v:=undef) rfl (by kernel_rfl) (by kernel_rfl) (by kernel_rfl) (fun _ _ _ h=>h) (Or.inr ⟨by rfl,rfl⟩) (by assumption) ?_;(try simp only [nz]);refine wpAnyH_take (i:=11) (oi:=⟨some 29,_,_,_,_,_⟩) (v:=undef) rfl (by kernel_rfl) (by kernel_rfl) (by kernel_rfl) (fun _ _ _ h=>h) (Or.inr ⟨by rfl,rfl⟩) (by assumption) ?_;(try simp only [nz]);refine wpAnyH_take (i:=12) (oi:=⟨some 30,_,_,_,_,_⟩) (v:=undef) rfl (by kernel_rfl) (by kernel_rfl) (by kernel_rfl) (fun _ _ _ h=>h) (Or.inr ⟨by rfl,rfl⟩) (by assumption) ?_;(try simp only [nz]);refine wpAnyH_take (i:=13) (oi:=⟨some 31,_,_,_,_,_⟩) (v:=undef) rfl (by kernel_rfl) (by kernel_rfl) (by kernel_rfl) (fun _ _ _ h=>h) (Or.inr ⟨by rfl,rfl⟩) (by assumption) ?_;(try simp only [nz]);refine rsq 14 32 (by kernel_rfl) rfl (fun K hK=>?_);rw [if_neg (by rw [Bool.not_eq_true];rfl)];refine hK.out _ _ trivial (fun hHeld=>?_);clear hK K;(try simp only [nz]);refine wpAnyH_take (i:=15) (oi:=⟨some 33,_,_,_,_,_⟩) (v:=undef) rfl (by kernel_rfl) (by kernel_rfl) (by kernel_rfl) (fun _ _ _ h=>h) (Or.inr ⟨by rfl,rfl⟩) (by assumption) ?_;(try simp only [nz])
     refine tq 16 34 rfl (by kernel_rfl) (fun _ _ _ h=>h) rfl ‹_› (by intro w h;go_simp <;>with_reducible rfl) ?_;simp only [nz];refine wpAnyH_done (by kernel_rfl) ?_ _;clear hHeld
     skip
     have HE:Hid (AcR V B g c N (X++aU aM (Y.take (k+1))++Y.drop (k+1)++Z)):=by rw [←HNX.out 0 (by rw [hAl2.out];exact hmk) (.inl rfl) HM2.out];exact HA
     clear HA HM2 HNX;go_wp2_with fail
     go_roundw
     case rel=>exact⟨k+1,i1,by omega,.inl (by omega),by omega,rfl,HE,HG⟩
     case measure=>simp [intOf];omega
    ·obtain⟨l,rfl⟩:∃l,m=l+1:=⟨m-1,by omega⟩;obtain⟨jl,hjl⟩:∃jl,jl=a+l:=⟨_,rfl⟩;obtain⟨hj4,hj5⟩:=le2 hjl;clear hjl;have hgt:(a:Int)<(j0:Int):=(by omega);have hw3:IntKind.i64.wrap ((j0:Int)-1)=(jl:Int):=(bj _ (by omega) (by omega)).trans (by omega);have t0:(0:Int)≤(j0:Int):=(by omega);have t1:(j0:Int)<(N:Int):=(by omega);have t2:(0:Int)≤(jl:Int):=(by omega);have t3:(jl:Int)<(N:Int):=(by omega);have hlA:l<A.length:=by rw [hAl2.out];omega
     obtain⟨x,hx⟩:∃x,x=A.getD l ac0:=⟨_,rfl⟩;have HR1:Hid (∀W,AcR W B g c N (bA X A y R (l+1))→W.rangeAt g (j0*9) (acC y)):=aa (fun W h=>by have:=h.range (i:=j0) (by omega);rwa [show j0=X.length+(l+1) by omega,jO (by omega), ←show j0=X.length+(l+1) by omega]at this);have HR2:Hid (∀W,AcR W B g c N (bA X A y R (l+1))→W.rangeAt g (jl*9) (acC x)):=aa (fun W h=>by have:=h.range (i:=jl) (by omega);rwa [show jl=X.length+l by omega,jy hlA, ←hx, ←show jl=X.length+l by omega]at this);have HSW:Hid (((bA X A y R (l+1)).set j0 x).set jl y=bA X A y R l):=aa (by rw [hx,show j0=X.length+l+1 by omega,show jl=X.length+l by omega];exact om hlA);have HLT:=aa (kl x.p y.p);have hx2:=aa hx;clear hx;go_wp2_with fail
     have HD:Hid (AcR wr.drew B g c N _):=aa (HA.out.below ((Below.refl _ _).drew));refine wp_region_held_drew (S:=fun w'=>w'.rangeAt g (j0*9) (acC y)∧w'.rangeAt g (jl*9) (acC x)) (by kernel_rfl) ⟨HR1.out _ HD.out,HR2.out _ HD.out⟩ (fun hHeld=>?_);refine sqA [(0,18),(1,19),(2,20),(3,21),(4,22),(5,23),(6,24),(7,25)] ?_;(iterate 8 (refine sqN rfl (by kernel_rfl) (fun _ _ _ h=>h) rfl ‹_› (by intro w h;go_simp <;>with_reducible rfl) ?_;simp only [nz]));refine sqZ ?_;refine wpAnyH_take (i:=8) (oi:=⟨some 26,_,_,_,_,_⟩) (v:=.agg (acC y).toArray) rfl (by kernel_rfl) (by kernel_rfl) (by kernel_rfl) (fun _ _ _ h=>h) (yieldsIf_load_mid (by rfl) 40 (.tmp 25) rfl g (j0*9) rfl (acC y) _ (fun w h=>h.1) Tryz.underlying40 rfl aP) (by assumption) ?_;(try simp only [nz]);refine sqA [(9,27),(10,28),(11,29),(12,30)] ?_;(iterate 4 (refine sqN rfl (by kernel_rfl) (fun _ _ _ h=>h) rfl ‹_› (by intro w h;go_simp <;>with_reducible rfl) ?_;simp only [nz]));refine sqZ ?_;refine wpAnyH_take (i:=13) (oi:=⟨some 31,_,_,_,_,_⟩) (v:=.agg (acC x).toArray) rfl (by kernel_rfl) (by kernel_rfl) (by kernel_rfl) (fun _ _ _ h=>h) (yieldsIf_load_mid (by rfl) 40 (.tmp 30) rfl g (jl*9) rfl (acC x) _ (fun w h=>h.2) Tryz.underlying40 rfl aP) (by assumption) ?_;(try simp only [nz]);refine rsq 14 32 (by kernel_rfl) rfl (fun K hK=>?_);go_simp;clear hHeld;refine(ag HCM y x _).mono ?_;rintro e V ⟨rfl,hb⟩;replace HA:=aa (HD.out.below hb);replace HG:=aa (cN HG.out (((Below.refl _ _).drew).trans hb));clear HD hb;refine hK.out _ _ ⟨HR1.out _ HA.out,HR2.out _ HA.out⟩ (fun hHeld=>?_);clear hK K;(try simp only [nz]);refine sqA [(15,33),(16,34)] ?_;(iterate 2 (refine sqN rfl (by kernel_rfl) (fun _ _ _ h=>h) rfl ‹_› (by intro w h;go_simp <;>with_reducible rfl) ?_;simp only [nz]));refine sqZ ?_;refine wpAnyH_done (by kernel_rfl) ?_ _;clear hHeld;by_cases hle:x.p<y.p
     ·have hlt2:aT x.p y.p<0:=by rw [HLT.out];exact hle
      go_wp2_with fail
      apply j6 _ (fun w'=>AcR w' B g c N (((bA X A y R (l+1)).set j0 x).set jl y)∧w.grownBy w' (some g))
      ·have hDr:Below V.heap.size V V.drew:=(Below.refl _ _).drew;replace HA:=aa (HA.out.below hDr);replace HG:=aa (cN HG.out hDr);clear hDr;refine wp_region_held_drew (S:=fun _=>True) (by kernel_rfl) trivial (fun hHeld=>?_);generalize V.drew=V2 at*;refine sqA [(0,37),(1,38),(2,39),(3,40),(4,41),(5,42),(6,43),(7,44),(8,45),(10,47),(11,48),(12,49)] ?_;(iterate 12 (refine sqN rfl (by kernel_rfl) (fun _ _ _ h=>absurd h.1 (by simp)) rfl ‹_› (by intro w h;go_simp <;>with_reducible rfl) ?_;simp only [nz]));refine sqZ ?_;refine wpAnyH_ready (rs:=[9,13]) (by kernel_rfl) (by simp) ?_;refine(AllReadyH.cons (o:=⟨some 46,_,_,_,_,_⟩) rfl (fun K hK=>?_) (AllReadyH.cons (o:=⟨some 50,_,_,_,_,_⟩) rfl (fun K hK=>?_) AllReadyH.nil))
       ·rw [if_pos (by rfl)];clear hHeld;refine wp_load_mid 40 (.tmp 45) rfl g (jl*9) rfl (acC x) _ (HR2.out _ HA.out) Tryz.underlying40 rfl aP ?_;refine hK.out _ _ trivial (fun hHeld=>?_);clear hK K;(try simp only [nz]);refine rsq 13 50 (by kernel_rfl) rfl (fun K hK=>?_);rw [if_pos (by rfl)];clear hHeld;refine wp_load_mid 40 (.tmp 49) rfl g (j0*9) rfl (acC y) _ (HR1.out _ HA.out) Tryz.underlying40 rfl aP ?_;refine hK.out _ _ trivial (fun hHeld=>?_);clear hK K;(try simp only [nz]);refine tq 14 51 rfl (by kernel_rfl) (fun _ _ _ h=>absurd h.1 (by simp)) rfl ‹_› (by intro w h;go_simp <;>with_reducible rfl) ?_;simp only [nz];refine rnq 15 (by kernel_rfl) rfl (fun K hK=>?_);rw [if_pos (by rfl)];clear hHeld;refine wp_store_mid 40 (.tmp 51) (.tmp 46) rfl g (j0*9) (acC x).toArray rfl rfl (AcR.there HA.out (i:=j0) (by omega)) aP (cC rfl) ?_;rw [show(acC x).toArray.toList=acC x from rfl];have HP0:=aa (AcR.put HA.out (i:=j0) (by omega) x).1;have hq0:=(AcR.put HA.out (i:=j0) (by omega) x).2;generalize World.setCells _ g (j0*9) (acC x)=V20 at*;refine hK.out _ _ trivial (fun hHeld=>?_);clear hK K;(try simp only [Act.put]);refine tq 16 52 rfl (by kernel_rfl) (fun _ _ _ h=>absurd h.1 (by simp)) rfl ‹_› (by intro w h;go_simp <;>with_reducible rfl) ?_;simp only [nz];refine rnq 17 (by kernel_rfl) rfl (fun K hK=>?_);rw [if_pos (by rfl)];clear hHeld;refine wp_store_mid 40 (.tmp 52) (.tmp 50) rfl g (jl*9) (acC y).toArray rfl rfl (AcR.there HP0.out (i:=jl) (by omega)) aP (cC rfl) ?_;rw [show(acC y).toArray.toList=acC y from rfl];have HP1:=aa (AcR.put HP0.out (i:=jl) (by omega) y).1;have hq1:=(AcR.put HP0.out (i:=jl) (by omega) y).2;generalize World.setCells _ g (jl*9) (acC y)=V21 at*;refine hK.out _ _ trivial (fun hHeld=>?_);clear hK K;(try simp only [Act.put]);refine wpAnyH_done (by kernel_rfl) ?_ _;clear hHeld;exact⟨rfl,rfl,HP1.out,aD HG.out (aD hq0 hq1)⟩
       ·rw [if_pos (by rfl)];clear hHeld;refine wp_load_mid 40 (.tmp 49) rfl g (j0*9) rfl (acC y) _ (HR1.out _ HA.out) Tryz.underlying40 rfl aP ?_;refine hK.out _ _ trivial (fun hHeld=>?_);clear hK K;(try simp only [nz]);refine rsq 9 46 (by kernel_rfl) rfl (fun K hK=>?_);rw [if_pos (by rfl)];clear hHeld;refine wp_load_mid 40 (.tmp 45) rfl g (jl*9) rfl (acC x) _ (HR2.out _ HA.out) Tryz.underlying40 rfl aP ?_;refine hK.out _ _ trivial (fun hHeld=>?_);clear hK K;(try simp only [nz]);refine tq 14 51 rfl (by kernel_rfl) (fun _ _ _ h=>absurd h.1 (by simp)) rfl ‹_› (by intro w h;go_simp <;>with_reducible rfl) ?_;simp only [nz];refine rnq 15 (by kernel_rfl) rfl (fun K hK=>?_);rw [if_pos (by rfl)];clear hHeld;refine wp_store_mid 40 (.tmp 51) (.tmp 46) rfl g (j0*9) (acC x).toArray rfl rfl (AcR.there HA.out (i:=j0) (by omega)) aP (cC rfl) ?_;rw [show(acC x).toArray.toList=acC x from rfl];have HP0:=aa (AcR.put HA.out (i:=j0) (by omega) x).1;have hq0:=(AcR.put HA.out (i:=j0) (by omega) x).2;generalize World.setCells _ g (j0*9) (acC x)=V20 at*;refine hK.out _ _ trivial (fun hHeld=>?_);clear hK K;(try simp only [Act.put]);refine tq 16 52 rfl (by kernel_rfl) (fun _ _ _ h=>absurd h.1 (by simp)) rfl ‹_› (by intro w h;go_simp <;>with_reducible rfl) ?_;simp only [nz];refine rnq 17 (by kernel_rfl) rfl (fun K hK=>?_);rw [if_pos (by rfl)];clear hHeld;refine wp_store_mid 40 (.tmp 52) (.tmp 50) rfl g (jl*9) (acC y).toArray rfl rfl (AcR.there HP0.out (i:=jl) (by omega)) aP (cC rfl) ?_;rw [show(acC y).toArray.toList=acC y from rfl];have HP1:=aa (AcR.put HP0.out (i:=jl) (by omega) y).1;have hq1:=(AcR.put HP0.out (i:=jl) (by omega) y).2;generalize World.setCells _ g (jl*9) (acC y)=V21 at*;refine hK.out _ _ trivial (fun hHeld=>?_);clear hK K;(try simp only [Act.put]);refine wpAnyH_done (by kernel_rfl) ?_ _;clear hHeld;exact⟨rfl,rfl,HP1.out,aD HG.out (aD hq0 hq1)⟩
      intro W3 hW3;obtain⟨hA3,hG3⟩:=hW3;rw [HSW.out]at hA3;have HA3:=aa hA3;have HG3:=aa hG3;have HM3:Hid (l=A.length∨(A.getD l ac0).p<y.p):=aa (.inr (by rw [←hx2.out];exact hle));clear hA3 hG3 HA HG HR1 HR2 HSW HM2;go_wp2_with fail
      go_roundw
      case rel=>exact⟨l,jl,by omega,by omega,rfl,HM3,HA3,HG3⟩
      case measure=>simp [intOf];omega
     ·have hlt2:¬aT x.p y.p<0:=by rw [HLT.out];exact hle
      have HE:Hid (AcR V B g c N (X++aU aM (Y.take (k+1))++Y.drop (k+1)++Z)):=by rw [←HNX.out (l+1) (by rw [hAl2.out];exact hmk) (.inr (by rw [show l+1-1=l by omega, ←hx2.out];omega)) HM2.out];exact HA
      clear HA HM2 HNX;go_wp2_with fail
      go_roundw
      case rel=>exact⟨k+1,i1,by omega,.inl (by omega),by omega,rfl,HE,HG⟩
      case measure=>simp [intOf];omega
  ·have hke:Y.length≤k:=(by omega);have nlt:¬((i0:Int)<(b:Int)):=(by omega);have HE:Hid (AcR W1 B g c N T):=by rw [HT.out];have:=HAk.out;rw [List.take_of_length_le hke,List.drop_of_length_le hke,List.append_nil]at this;exact aa this
   clear HAk;go_wp2_with fail
   go_end0;exact⟨rfl,HE.out,HG.out⟩
theorem Bw (P1 P2 P3:List Ac) (x y:Ac):(P1++x::P2++y::P3).getD P1.length ac0=x:=by
 rw [List.append_assoc,show P1.length=P1.length+0 from rfl,bo];rfl
theorem A7 (P1 P2 P3:List Ac) (x y:Ac):(P1++x::P2++y::P3).getD (P1.length+1+P2.length) ac0=y:=by
 have:=bo (A:=P1++x::P2) (B:=y::P3) 0;have hl:(P1++x::P2).length+0=P1.length+1+P2.length:=by simp;omega
 rw [hl]at this;exact this
def pG (P U Q V R:List Ac) (k:Nat):List Ac:=P++(V.take k++U.drop k)++Q++(U.take k++V.drop k)++R
theorem AD {P U Q V R:List Ac} {n k:Nat} (hU:U.length=n) (hV:V.length=n) (hk:k<n):pG P U Q V R k=(P++V.take k)++U.getD k ac0::(U.drop (k+1)++Q++U.take k)++V.getD k ac0::(V.drop (k+1)++R):=by
 have e1:U.drop k=U.getD k ac0::U.drop (k+1):=by
  rw [List.drop_eq_getElem_cons (by omega),List.getD_eq_getElem?_getD,List.getElem?_eq_getElem (by omega)];rfl
 have e2:V.drop k=V.getD k ac0::V.drop (k+1):=by
  rw [List.drop_eq_getElem_cons (by omega),List.getD_eq_getElem?_getD,List.getElem?_eq_getElem (by omega)];rfl
 unfold pG;rw [e1,e2];simp
theorem wu {P U Q V R:List Ac} {n k:Nat} (hU:U.length=n) (hV:V.length=n) (hk:k<n):pG P U Q V R (k+1)=(P++V.take k)++V.getD k ac0::(U.drop (k+1)++Q++U.take k)++U.getD k ac0::(V.drop (k+1)++R):=by
 have e1:U.take (k+1)=U.take k++ [U.getD k ac0]:=by
  rw [List.take_add_one,List.getD_eq_getElem?_getD,List.getElem?_eq_getElem (by omega)];rfl
 have e2:V.take (k+1)=V.take k++ [V.getD k ac0]:=by
  rw [List.take_add_one,List.getD_eq_getElem?_getD,List.getElem?_eq_getElem (by omega)];rfl
 unfold pG;rw [e1,e2];simp
theorem nF (P U Q V R:List Ac) (B g c N a b n:Nat) (w:World) (hA:AcR w B g c N (P++U++Q++V++R)) (hU:U.length=n) (hV:V.length=n) (ha:a=P.length) (hb:b=P.length+n+Q.length) (hN:N≤1000):
  Calls Tryz.prog 217 #[.slice (some ⟨g,0,none⟩) N c,.int .i64 (a:Int),.int .i64 (b:Int),.int .i64 (n:Int),.func (.func 171) #[] #[]] w fun e w'=>e= .returned (.tuple #[])∧AcR w' B g c N (P++V++Q++U++R)∧w.grownBy w' (some g):=by
 obtain⟨T,hT⟩:∃T,T=P++V++Q++U++R:=⟨_,rfl⟩;rw [←hT];have HT:=aa hT;clear hT;have HA0:Hid (AcR w B g c N (pG P U Q V R 0)):=by refine aa ?_;unfold pG;simpa using hA
 have hlen:P.length+n+Q.length+n+R.length=N:=by have:=hA.1;simp only [List.length_append,hU,hV]at this;omega
 obtain⟨ha2,ha3⟩:=le2 ha;obtain⟨hb2,hb3⟩:=le2 hb;obtain⟨hl2,hl3⟩:=le2 hlen;have HU:=aa hU;have HV:=aa hV;clear hA ha hb hlen hU hV;go_enter Tryz.func217,Tryz.ntmps217;go_wp2_with fail
 go_loopw [10] (fun i wr=>∃k:Nat,k≤n∧i= .int .i64 (k:Int)∧Hid (AcR wr B g c N (pG P U Q V R k))∧Hid (w.grownBy wr (some g))) (fun i _=>n-(intOf i).toNat)
 case atStart=>exact⟨0,by omega,rfl,HA0,aa (grown_refl' _ _)⟩
 case round=>
  clear HA0;obtain⟨k,hk,rfl,HA,HG⟩:=hrel;by_cases hlt:k<n
  ·have qlt:(k:Int)<(n:Int):=(by omega);obtain⟨ai,hai⟩:∃ai,ai=a+k:=⟨_,rfl⟩;obtain⟨bi,hbi⟩:∃bi,bi=b+k:=⟨_,rfl⟩;obtain⟨hai2,hai3⟩:=le2 hai;obtain⟨hbi2,hbi3⟩:=le2 hbi;have hw1:IntKind.i64.wrap ((a:Int)+(k:Int))=(ai:Int):=(bj _ (by omega) (by omega)).trans (by omega);have hw2:IntKind.i64.wrap ((b:Int)+(k:Int))=(bi:Int):=(bj _ (by omega) (by omega)).trans (by omega);clear hai hbi;have t0:(0:Int)≤(ai:Int):=(by omega);have t1:(ai:Int)<(N:Int):=(by omega);have t2:(0:Int)≤(bi:Int):=(by omega);have t3:(bi:Int)<(N:Int):=(by omega);have HI:=aa (AD (P:=P) (Q:=Q) (R:=R) HU.out HV.out hlt);have HX:=aa (wu (P:=P) (Q:=Q) (R:=R) HU.out HV.out hlt);obtain⟨P1,hP1⟩:∃P1,P1=P++V.take k:=⟨_,rfl⟩;obtain⟨P2,hP2⟩:∃P2,P2=U.drop (k+1)++Q++U.take k:=⟨_,rfl⟩;have hl1:P1.length=ai:=by rw [hP1];simp [HV.out];omega
   have hl4:P1.length+1+P2.length=bi:=by rw [hl1,hP2];simp [HU.out];omega
   rw [←hP1, ←hP2]at HI HX;clear hP1 hP2;generalize U.getD k ac0=x at*;generalize V.getD k ac0=y at*;generalize V.drop (k+1)++R=P3 at*;rw [HI.out]at HA;have HR1:Hid (∀W,AcR W B g c N (P1++x::P2++y::P3)→W.rangeAt g (ai*9) (acC x)):=aa (fun W h=>by have:=h.range (i:=ai) (by omega);rwa [←hl1,Bw,hl1]at this);have HR2:Hid (∀W,AcR W B g c N (P1++x::P2++y::P3)→W.rangeAt g (bi*9) (acC y)):=aa (fun W h=>by have:=h.range (i:=bi) (by omega);rwa [←hl4,A7,hl4]at this);have HSW:Hid (((P1++x::P2++y::P3).set ai y).set bi x=pG P U Q V R (k+1)):=aa (by rw [HX.out, ←hl1, ←hl4, ←mF P1 P2 P3 x y,hl1]);clear HI HX hl1 hl4;obtain⟨k1,hk1⟩:∃k1,k1=k+1:=⟨_,rfl⟩;have HK1:=aa hk1;have hw3:IntKind.i64.wrap ((k:Int)+1)=(k1:Int):=(bj _ (by omega) (by omega)).trans (by omega);obtain⟨hk2,hk3⟩:=le2 hk1;rw [←hk1]at HSW;clear hk1;obtain⟨LL,hLL⟩:∃LL,LL=P1++x::P2++y::P3:=⟨_,rfl⟩;rw [←hLL]at HA HR1 HR2 HSW;clear hLL;go_wp2_with fail
   apply j6 _ (fun w'=>AcR w' B g c N ((LL.set ai y).set bi x)∧w.grownBy w' (some g))
   ·have hDr:Below wr.heap.size wr wr.drew:=(Below.refl _ _).drew;replace HA:=aa (HA.out.below hDr);replace HG:=aa (cN HG.out hDr);clear hDr;refine wp_region_held_drew (S:=fun _=>True) (by kernel_rfl) trivial (fun hHeld=>?_);generalize wr.drew=V2 at*;refine sqA [(0,16),(1,17),(2,18),(3,19),(4,20),(5,21),(6,22),(7,23),(8,24),(9,25),(10,26),(11,27),(12,28),(14,30),(15,31),(16,32),(17,33),(18,34)] ?_;(iterate 18 (refine sqN rfl (by kernel_rfl) (fun _ _ _ h=>absurd h.1 (by simp)) rfl ‹_› (by intro w h;go_simp <;>with_reducible rfl) ?_;simp only [nz]));refine sqZ ?_;refine wpAnyH_ready (rs:=[13,19]) (by kernel_rfl) (by simp) ?_;refine(AllReadyH.cons (o:=⟨some 29,_,_,_,_,_⟩) rfl (fun K hK=>?_) (AllReadyH.cons (o:=⟨some 35,_,_,_,_,_⟩) rfl (fun K hK=>?_) AllReadyH.nil))
    ·rw [if_pos (by rfl)];clear hHeld;refine wp_load_mid 40 (.tmp 28) rfl g (bi*9) rfl (acC y) _ (HR2.out _ HA.out) Tryz.underlying40 rfl aP ?_;refine hK.out _ _ trivial (fun hHeld=>?_);clear hK K;(try simp only [nz]);refine rsq 19 35 (by kernel_rfl) rfl (fun K hK=>?_);rw [if_pos (by rfl)];clear hHeld;refine wp_load_mid 40 (.tmp 34) rfl g (ai*9) rfl (acC x) _ (HR1.out _ HA.out) Tryz.underlying40 rfl aP ?_;refine hK.out _ _ trivial (fun hHeld=>?_);clear hK K;(try simp only [nz]);refine tq 20 36 rfl (by kernel_rfl) (fun _ _ _ h=>absurd h.1 (by simp)) rfl ‹_› (by intro w h;go_simp <;>with_reducible rfl) ?_;simp only [nz];refine rnq 21 (by kernel_rfl) rfl (fun K hK=>?_);rw [if_pos (by rfl)];clear hHeld;refine wp_store_mid 40 (.tmp 36) (.tmp 29) rfl g (ai*9) (acC y).toArray rfl rfl (AcR.there HA.out (i:=ai) (by omega)) aP (cC rfl) ?_;rw [show(acC y).toArray.toList=acC y from rfl];have HP0:=aa (AcR.put HA.out (i:=ai) (by omega) y).1;have hq0:=(AcR.put HA.out (i:=ai) (by omega) y).2;generalize World.setCells _ g (ai*9) (acC y)=V20 at*;refine hK.out _ _ trivial (fun hHeld=>?_);clear hK K;(try simp only [Act.put]);refine tq 22 37 rfl (by kernel_rfl) (fun _ _ _ h=>absurd h.1 (by simp)) rfl ‹_› (by intro w h;go_simp <;>with_reducible rfl) ?_;simp only [nz];refine rnq 23 (by kernel_rfl) rfl (fun K hK=>?_);rw [if_pos (by rfl)];clear hHeld;refine wp_store_mid 40 (.tmp 37) (.tmp 35) rfl g (bi*9) (acC x).toArray rfl rfl (AcR.there HP0.out (i:=bi) (by omega)) aP (cC rfl) ?_;rw [show(acC x).toArray.toList=acC x from rfl];have HP1:=aa (AcR.put HP0.out (i:=bi) (by omega) x).1;have hq1:=(AcR.put HP0.out (i:=bi) (by omega) x).2;generalize World.setCells _ g (bi*9) (acC x)=V21 at*;refine hK.out _ _ trivial (fun hHeld=>?_);clear hK K;(try simp only [Act.put]);refine wpAnyH_done (by kernel_rfl) ?_ _;clear hHeld;exact⟨rfl,rfl,HP1.out,aD HG.out (aD hq0 hq1)⟩
    ·rw [if_pos (by rfl)];clear hHeld;refine wp_load_mid 40 (.tmp 34) rfl g (ai*9) rfl (acC x) _ (HR1.out _ HA.out) Tryz.underlying40 rfl aP ?_;refine hK.out _ _ trivial (fun hHeld=>?_);clear hK K;(try simp only [nz]);refine rsq 13 29 (by kernel_rfl) rfl (fun K hK=>?_);rw [if_pos (by rfl)];clear hHeld;refine wp_load_mid 40 (.tmp 28) rfl g (bi*9) rfl (acC y) _ (HR2.out _ HA.out) Tryz.underlying40 rfl aP ?_;refine hK.out _ _ trivial (fun hHeld=>?_);clear hK K;(try simp only [nz]);refine tq 20 36 rfl (by kernel_rfl) (fun _ _ _ h=>absurd h.1 (by simp)) rfl ‹_› (by intro w h;go_simp <;>with_reducible rfl) ?_;simp only [nz];refine rnq 21 (by kernel_rfl) rfl (fun K hK=>?_);rw [if_pos (by rfl)];clear hHeld;refine wp_store_mid 40 (.tmp 36) (.tmp 29) rfl g (ai*9) (acC y).toArray rfl rfl (AcR.there HA.out (i:=ai) (by omega)) aP (cC rfl) ?_;rw [show(acC y).toArray.toList=acC y from rfl];have HP0:=aa (AcR.put HA.out (i:=ai) (by omega) y).1;have hq0:=(AcR.put HA.out (i:=ai) (by omega) y).2;generalize World.setCells _ g (ai*9) (acC y)=V20 at*;refine hK.out _ _ trivial (fun hHeld=>?_);clear hK K;(try simp only [Act.put]);refine tq 22 37 rfl (by kernel_rfl) (fun _ _ _ h=>absurd h.1 (by simp)) rfl ‹_› (by intro w h;go_simp <;>with_reducible rfl) ?_;simp only [nz];refine rnq 23 (by kernel_rfl) rfl (fun K hK=>?_);rw [if_pos (by rfl)];clear hHeld;refine wp_store_mid 40 (.tmp 37) (.tmp 35) rfl g (bi*9) (acC x).toArray rfl rfl (AcR.there HP0.out (i:=bi) (by omega)) aP (cC rfl) ?_;rw [show(acC x).toArray.toList=acC x from rfl];have HP1:=aa (AcR.put HP0.out (i:=bi) (by omega) x).1;have hq1:=(AcR.put HP0.out (i:=bi) (by omega) x).2;generalize World.setCells _ g (bi*9) (acC x)=V21 at*;refine hK.out _ _ trivial (fun hHeld=>?_);clear hK K;(try simp only [Act.put]);refine wpAnyH_done (by kernel_rfl) ?_ _;clear hHeld;exact⟨rfl,rfl,HP1.out,aD HG.out (aD hq0 hq1)⟩
   intro W3 hW3;obtain⟨hA3,hG3⟩:=hW3;rw [HSW.out]at hA3;have HA3:=aa hA3;have HG3:=aa hG3;clear hA3 hG3 HA HG HR1 HR2 HSW;go_wp2_with fail
   go_roundw
   case rel=>exact⟨k1,by omega,rfl,HA3,HG3⟩
   case measure=>simp [intOf];omega
  ·have hke:k=n:=(by omega);have nlt:¬((k:Int)<(n:Int)):=(by omega);have HE:Hid (AcR wr B g c N T):=by rw [HT.out];have:=HA.out;unfold pG at this;rw [hke,List.take_of_length_le (Nat.le_of_eq HV.out),List.take_of_length_le (Nat.le_of_eq HU.out),List.drop_of_length_le (Nat.le_of_eq HV.out),List.drop_of_length_le (Nat.le_of_eq HU.out)]at this;simp only [List.append_nil]at this;exact aa this
   clear HA hke;go_wp2_with fail
   go_end0;exact⟨rfl,HE.out,HG.out⟩
theorem sL (P U V R:List Ac) (B g c N a m b:Nat) (w:World) (hA:AcR w B g c N (P++U++V++R)) (hU:0<U.length) (hV:0<V.length) (ha:a=P.length) (hm:m=P.length+U.length) (hb:b=P.length+U.length+V.length) (hN:N≤1000):
  Calls Tryz.prog 216 #[.slice (some ⟨g,0,none⟩) N c,.int .i64 (a:Int),.int .i64 (m:Int),.int .i64 (b:Int),.func (.func 171) #[] #[]] w fun e w'=>e= .returned (.tuple #[])∧AcR w' B g c N (P++V++U++R)∧w.grownBy w' (some g):=by
 have hlen:P.length+U.length+V.length+R.length=N:=by have:=hA.1;simp only [List.length_append]at this;omega
 obtain⟨T,hT⟩:∃T,T=P++V++U++R:=⟨_,rfl⟩;rw [←hT];have HT:=aa hT.symm;have HA0:=aa hA;obtain⟨i1,hi1⟩:∃i1,i1=U.length:=⟨_,rfl⟩;obtain⟨j1,hj1⟩:∃j1,j1=V.length:=⟨_,rfl⟩;have HI1:=aa hi1.symm;have HJ1:=aa hj1.symm;have HM1:Hid (P.length+i1=m):=aa (by omega);have hw1:IntKind.i64.wrap ((m:Int)-(a:Int))=(i1:Int):=(bj _ (by omega) (by omega)).trans (by omega);have hw2:IntKind.i64.wrap ((b:Int)-(m:Int))=(j1:Int):=(bj _ (by omega) (by omega)).trans (by omega);have h0i:0<i1∧0<j1∧i1≤m∧m+j1≤N:=by omega
 clear hA hT ha hm hb hlen hi1 hj1 hU hV;go_enter Tryz.func216,Tryz.ntmps216;go_wp2_with fail
 go_loopw [10,11] (fun i j wr=>∃(P' U' V' R':List Ac) (i0 j0:Nat),Hid (P'++V'++U'++R'=T)∧(Hid (U'.length=i0)∧Hid (V'.length=j0)∧Hid (P'.length+i0=m))∧(0<i0∧0<j0∧i0≤m∧m+j0≤N)∧i= .int .i64 (i0:Int)∧j= .int .i64 (j0:Int)∧Hid (AcR wr B g c N (P'++U'++V'++R'))∧Hid (w.grownBy wr (some g))) (fun i j _=>(intOf i).toNat+(intOf j).toNat)
 case atStart=>exact⟨P,U,V,R,i1,j1,HT,⟨HI1,HJ1,HM1⟩,h0i,rfl,rfl,HA0,aa (grown_refl' _ _)⟩
 case round=>
  clear HA0 HT HI1 HJ1 HM1 h0i;obtain⟨P2,U2,V2,R2,i0,j0,HT,⟨HI,HJ,HM⟩,⟨hi,hj,him,hjn⟩,rfl,rfl,HA,HG⟩:=hrel;obtain⟨mi,hmi⟩:∃mi,mi=m-i0:=⟨_,rfl⟩;have HMI:=aa hmi;have hw3:IntKind.i64.wrap ((m:Int)-(i0:Int))=(mi:Int):=(bj _ (by omega) (by omega)).trans (by omega);clear hmi;rcases Nat.lt_trichotomy i0 j0 with hlt | heq | hgt
  ·have q1:(i0 != j0)=true:=by simp;omega
   have q2:¬(j0<i0):=(by omega);have q3:¬i0=j0:=(by omega);obtain⟨ji,hji⟩:∃ji,ji=j0-i0:=⟨_,rfl⟩;obtain⟨mj,hmj⟩:∃mj,mj=m+j0:=⟨_,rfl⟩;obtain⟨mk,hmk⟩:∃mk,mk=mj-i0:=⟨_,rfl⟩;have hw4:IntKind.i64.wrap ((m:Int)+(j0:Int))=(mj:Int):=(bj _ (by omega) (by omega)).trans (by omega);have hw5:IntKind.i64.wrap ((mj:Int)-(i0:Int))=(mk:Int):=(bj _ (by omega) (by omega)).trans (by omega);have hw6:IntKind.i64.wrap ((j0:Int)-(i0:Int))=(ji:Int):=(bj _ (by omega) (by omega)).trans (by omega);have hjl:(V2.drop ji).length=i0:=by rw [List.length_drop,HJ.out];omega
   have hjt:(V2.take ji).length=ji:=by rw [List.length_take,HJ.out];omega
   have HSW:=aa (nF P2 U2 (V2.take ji) (V2.drop ji) R2 B g c N mi mk i0 wr (by have:=HA.out;rw [List.append_assoc (P2++U2),List.append_assoc (P2++U2),List.take_append_drop];simpa using this) HI.out hjl (by have:=HM.out;have:=HMI.out;omega) (by have:=HM.out;rw [hjt];omega) hN);have HT2:Hid (P2++V2.take ji++V2.drop ji++(U2++R2)=T):=by rw [←HT.out,List.append_assoc P2,List.take_append_drop];exact aa (by simp)
   have HJL:=aa hjl;have HJT:=aa hjt;have hjx:0<ji∧ji<j0:=(by omega);have hjy:m+ji≤N:=(by omega);have HMJ:Hid (P2.length+i0=m):=HM;clear hji hmj hmk hjl hjt HA;go_wp2_with fail
   refine(ag HSW).mono ?_;rintro e W3 ⟨rfl,hA3,hG3⟩;have HA3:Hid (AcR W3 B g c N (P2++V2.drop ji++V2.take ji++(U2++R2))):=aa (by simpa using hA3);have HG3:=aa (aD HG.out hG3);clear hA3 hG3 HSW HG HT HM;go_wp2_with fail
   go_roundw
   case rel=>exact⟨P2,V2.drop ji,V2.take ji,U2++R2,i0,ji,HT2,⟨HJL,HJT,HMJ⟩,⟨hi,hjx.1,him,hjy⟩,rfl,rfl,HA3,HG3⟩
   case measure=>simp [intOf];omega
  ·subst heq;have q1:(i0 != i0)=false:=(by simp);have HSW:=aa (nF P2 U2 [] V2 R2 B g c N mi m i0 wr (by simpa using HA.out) HI.out HJ.out (by have:=HM.out;have:=HMI.out;omega) (by have:=HM.out;simp;omega) hN);clear HA;go_wp2_with fail
   refine(ag HSW).mono ?_;rintro e W3 ⟨rfl,hA3,hG3⟩;have HA3:Hid (AcR W3 B g c N T):=by rw [←HT.out];exact aa (by simpa using hA3)
   have HG3:=aa (aD HG.out hG3);clear hA3 hG3 HSW HG HT;go_wp2_with fail
   go_end0;exact⟨rfl,HA3.out,HG3.out⟩
  ·have q1:(i0 != j0)=true:=by simp;omega
   have q3:¬i0=j0:=(by omega);obtain⟨ij,hij⟩:∃ij,ij=i0-j0:=⟨_,rfl⟩;have hw6:IntKind.i64.wrap ((i0:Int)-(j0:Int))=(ij:Int):=(bj _ (by omega) (by omega)).trans (by omega);have hjl:(U2.take j0).length=j0:=by rw [List.length_take,HI.out];omega
   have hjt:(U2.drop j0).length=ij:=by rw [List.length_drop,HI.out];omega
   have HSW:=aa (nF P2 (U2.take j0) (U2.drop j0) V2 R2 B g c N mi m j0 wr (by have:=HA.out;rw [List.append_assoc P2,List.take_append_drop];exact this) hjl HJ.out (by have:=HM.out;have:=HMI.out;omega) (by have:=HM.out;rw [hjt];omega) hN);have HT2:Hid (P2++V2++U2.take j0++U2.drop j0++R2=T):=by rw [←HT.out,List.append_assoc (P2++V2),List.take_append_drop];exact aa rfl
   have HJL:=aa hjl;have HJT:=aa hjt;have hjx:0<ij∧ij<i0:=(by omega);have hjy:ij≤m:=(by omega);have HMJ:Hid ((P2++V2).length+ij=m):=by have:=HM.out;rw [List.length_append,HJ.out];exact aa (by omega)
   clear hij hjl hjt HA;go_wp2_with fail
   refine(ag HSW).mono ?_;rintro e W3 ⟨rfl,hA3,hG3⟩;have HA3:Hid (AcR W3 B g c N ((P2++V2)++U2.drop j0++U2.take j0++R2)):=aa (by simpa using hA3);have HG3:=aa (aD HG.out hG3);clear hA3 hG3 HSW HG HT HM;go_wp2_with fail
   go_roundw
   case rel=>exact⟨P2++V2,U2.drop j0,U2.take j0,R2,ij,j0,HT2,⟨HJT,HJL,HMJ⟩,⟨hjx.1,hj,hjy,hjn⟩,rfl,rfl,HA3,HG3⟩
   case measure=>simp [intOf];omega
theorem yE {X A:List Ac} {y:Ac} {R:List Ac} {i:Nat} (hi:i<A.length):(bA X A y R 0).getD (X.length+1+i) ac0=A.getD i ac0:=by
 unfold bA;simp only [List.take_zero,List.drop_zero,List.nil_append];rw [List.append_assoc,Nat.add_assoc,bo,Nat.add_comm 1 i];show((y::A)++R).getD (i+1) ac0=_;rw [dK (by simp;omega)];rfl
theorem yZ {X A:List Ac} {y:Ac} {R:List Ac} {i:Nat} (hi:i<A.length):(bA X A y R A.length).getD (X.length+i) ac0=A.getD i ac0:=by
 unfold bA;rw [List.take_length,List.drop_length,List.append_assoc,bo,List.append_assoc,dK hi]
theorem BV {p q h:Nat} (hh:h=(p+q)/2):((p:Int)+(q:Int))/2=(h:Int):=by omega
theorem tQ (P Bq R:List Ac) (x:Ac) (B g c N a m b:Nat) (w:World) (hA:AcR w B g c N (P++ [x]++Bq++R)) (hS:AscA Bq) (ha:a=P.length) (hm:m=P.length+1) (hb:b=P.length+1+Bq.length) (hN:N≤1000):
  Calls Tryz.prog 213 #[.slice (some ⟨g,0,none⟩) N c,.int .i64 (a:Int),.int .i64 (m:Int),.int .i64 (b:Int),.func (.func 171) #[] #[]] w fun e w'=>e= .returned (.tuple #[])∧AcR w' B g c N (P++mrg aM [x] Bq++R)∧w.grownBy w' (some g):=by
 have hlen:P.length+1+Bq.length+R.length=N:=by have:=hA.1;simp only [List.length_append,List.length_cons,List.length_nil]at this;omega
 obtain⟨T,hT⟩:∃T,T=P++mrg aM [x] Bq++R:=⟨_,rfl⟩;rw [←hT];have HT:Hid (∀k,k≤Bq.length→(k=0∨x.p<(Bq.getD (k-1) ac0).p)→(k=Bq.length∨(Bq.getD k ac0).p≤x.p)→bA P Bq x R k=T):=aa (fun k h0 h1 h2=>by rw [hT,wk hS h0 h1 h2];rfl);have HA0:Hid (AcR w B g c N (bA P Bq x R 0)):=by refine aa ?_;unfold bA;simpa using hA
 have HCM:=aa iR;obtain⟨n,hn⟩:∃n,n=Bq.length:=⟨_,rfl⟩;have HN:=aa hn;obtain⟨ha2,ha3⟩:=le2 ha;obtain⟨hm2,hm3⟩:=le2 hm;obtain⟨hb2,hb3⟩:=le2 hb;obtain⟨hl2,hl3⟩:=le2 hlen;obtain⟨hn2,hn3⟩:=le2 hn;have hw1:IntKind.i64.wrap ((m:Int)-(a:Int))=1:=(bj _ (by omega) (by omega)).trans (by omega);clear hA hT ha hm hb hlen hn hS;go_enter Tryz.func213,Tryz.ntmps213;go_wp2_with fail
 go_loopw [10,11] (fun i j wr=>∃(k1 k2 i0 j0:Nat),(i0=m+k1∧j0=m+k2)∧(k1≤k2∧k2≤n)∧i= .int .i64 (i0:Int)∧j= .int .i64 (j0:Int)∧Hid (k1=0∨x.p<(Bq.getD (k1-1) ac0).p)∧Hid (k2=n∨(Bq.getD k2 ac0).p≤x.p)∧Hid (AcR wr B g c N (bA P Bq x R 0))∧Hid (w.grownBy wr (some g))) (fun i j _=>(intOf j).toNat-(intOf i).toNat)
 case atStart=>exact⟨0,n,m,b,⟨by omega,by omega⟩,⟨by omega,Nat.le_refl _⟩,rfl,rfl,aa (.inl rfl),aa (.inl rfl),HA0,aa (grown_refl' _ _)⟩
 case round=>
  clear HA0;obtain⟨k1,k2,i0,j0,⟨hi,hj⟩,⟨hk1,hk2⟩,rfl,rfl,HF1,HF2,HA,HG⟩:=hrel;obtain⟨hi2,hi3⟩:=le2 hi;obtain⟨hj2,hj3⟩:=le2 hj;clear hi hj;by_cases hlt:i0<j0
  ·obtain⟨h,hh⟩:∃h,h=(i0+j0)/2:=⟨_,rfl⟩;have e2:=BV hh;have hih:i0≤h:=(by omega);have hhj:h<j0:=(by omega);clear hh;obtain⟨kh,hkh⟩:∃kh,kh=h-m:=⟨_,rfl⟩;obtain⟨hkh2,hkh3⟩:=le2 hkh;obtain⟨h1,hh1⟩:∃h1,h1=h+1:=⟨_,rfl⟩;obtain⟨hh2,hh3⟩:=le2 hh1;have hw2:IntKind.i64.wrap ((h:Int)+1)=(h1:Int):=(bj _ (by omega) (by omega)).trans (by omega);clear hkh hh1;have t0:(0:Int)≤(h:Int):=(by omega);have t1:(h:Int)<(N:Int):=(by omega);have t2:(0:Int)≤(a:Int):=(by omega);have t3:(a:Int)<(N:Int):=(by omega);obtain⟨z,hz⟩:∃z,z=Bq.getD kh ac0:=⟨_,rfl⟩;have HR1:Hid (∀W,AcR W B g c N (bA P Bq x R 0)→W.rangeAt g (h*9) (acC z)):=aa (fun W hW=>by have:=hW.range (i:=h) (by omega);rwa [show h=P.length+1+kh by omega,yE (by omega), ←hz, ←show h=P.length+1+kh by omega]at this);have HR2:Hid (∀W,AcR W B g c N (bA P Bq x R 0)→W.rangeAt g (a*9) (acC x)):=aa (fun W hW=>by have:=hW.range (i:=a) (by omega);rwa [show a=P.length+0 by omega,jO (by omega), ←show a=P.length+0 by omega]at this);have HLT:=aa (kl x.p z.p);have HZ:=aa hz;clear hz;go_wp2_with fail
   clear e2;have HD:Hid (AcR wr.drew B g c N _):=aa (HA.out.below ((Below.refl _ _).drew));refine wp_region_held_drew (S:=fun w'=>w'.rangeAt g (h*9) (acC z)∧w'.rangeAt g (a*9) (acC x)) (by kernel_rfl) ⟨HR1.out _ HD.out,HR2.out _ HD.out⟩ (fun hHeld=>?_);refine sqA [(0,40),(1,41),(2,42),(3,43)] ?_;(iterate 4 (refine sqN rfl (by kernel_rfl) (fun _ _ _ h=>h) rfl ‹_› (by intro w h;go_simp <;>with_reducible rfl) ?_;simp only [nz]));refine sqZ ?_;refine wpAnyH_take (i:=4) (oi:=⟨some 44,_,_,_,_,_⟩) (v:=.agg (acC z).toArray) rfl (by kernel_rfl) (by kernel_rfl) (by kernel_rfl) (fun _ _ _ h=>h) (yieldsIf_load_mid (by rfl) 40 (.tmp 43) rfl g (h*9) rfl (acC z) _ (fun w h=>h.1) Tryz.underlying40 rfl aP) (by assumption) ?_;(try simp only [nz]);refine sqA [(5,45),(6,46),(7,47)] ?_;(iterate 3 (refine sqN rfl (by kernel_rfl) (fun _ _ _ h=>h) rfl ‹_› (by intro w h;go_simp <;>with_reducible rfl) ?_;simp only [nz]));refine sqZ ?_;refine wpAnyH_take (i:=8) (oi:=⟨some 48,_,_,_,_,_⟩) (v:=.agg (acC x).toArray) rfl (by kernel_rfl) (by kernel_rfl) (by kernel_rfl) (fun _ _ _ h=>h) (yieldsIf_load_mid (by rfl) 40 (.tmp 47) rfl g (a*9) rfl (acC x) _ (fun w h=>h.2) Tryz.underlying40 rfl aP) (by assumption) ?_;(try simp only [nz]);refine rsq 9 49 (by kernel_rfl) rfl (fun K hK=>?_);go_simp;clear hHeld;refine(ag HCM z x _).mono ?_;rintro e V ⟨rfl,hb⟩;replace HA:=aa (HD.out.below hb);replace HG:=aa (cN HG.out (((Below.refl _ _).drew).trans hb));clear HD hb;refine hK.out _ _ ⟨HR1.out _ HA.out,HR2.out _ HA.out⟩ (fun hHeld=>?_);clear hK K;(try simp only [nz]);refine tq 10 50 rfl (by kernel_rfl) (fun _ _ _ h=>h) rfl ‹_› (by intro w h;go_simp <;>with_reducible rfl) ?_;simp only [nz];refine wpAnyH_done (by kernel_rfl) ?_ _;clear hHeld;by_cases hle:x.p<z.p
   ·have hl2x:aT x.p z.p<0:=by rw [HLT.out];exact hle
    have HF3:Hid (kh+1=0∨x.p<(Bq.getD (kh+1-1) ac0).p):=aa (.inr (by rw [Nat.add_sub_cancel, ←HZ.out];exact hle));clear HR1 HR2 HF1;go_wp2_with fail
    go_roundw
    case rel=>exact⟨kh+1,k2,h1,j0,⟨by omega,by omega⟩,⟨by omega,hk2⟩,rfl,rfl,HF3,HF2,HA,HG⟩
    case measure=>simp [intOf];omega
   ·have hl2x:¬aT x.p z.p<0:=by rw [HLT.out];exact hle
    have HF3:Hid (kh=n∨(Bq.getD kh ac0).p≤x.p):=aa (.inr (by rw [←HZ.out];omega));clear HR1 HR2 HF2;go_wp2_with fail
    go_roundw
    case rel=>exact⟨k1,kh,i0,h,⟨by omega,by omega⟩,⟨by omega,by omega⟩,rfl,rfl,HF1,HF3,HA,HG⟩
    case measure=>simp [intOf];omega
  ·have hke:k1=k2:=(by omega);have HTT:=aa (HT.out k1 (by omega) HF1.out (by rw [hke, ←HN.out];exact HF2.out));clear hke HF1 HF2 HT;obtain⟨il,hil⟩:∃il,il=i0-1:=⟨_,rfl⟩;obtain⟨hil2,hil3⟩:=le2 hil;have hw3:IntKind.i64.wrap ((i0:Int)-1)=(il:Int):=(bj _ (by omega) (by omega)).trans (by omega);clear hil
   rename World=>W1
   go_wp2_with fail
   go_loopw [13] (fun v wr=>∃(t v0:Nat),v0=a+t∧t≤k1∧v= .int .i64 (v0:Int)∧Hid (AcR wr B g c N (bA P Bq x R t))∧Hid (w.grownBy wr (some g))) (fun v _=>i0-(intOf v).toNat)
   case atStart=>exact⟨0,a,by omega,by omega,rfl,HA,HG⟩
   case round=>
    clear HA HG;obtain⟨t,v0,hv,htk,rfl,HA,HG⟩:=hrel;obtain⟨hv2,hv3⟩:=le2 hv;clear hv;by_cases htl:t<k1
    ·have htn:t<Bq.length:=(by omega);have q1:(v0:Int)<(il:Int):=(by omega);obtain⟨v1,hv1⟩:∃v1,v1=v0+1:=⟨_,rfl⟩;obtain⟨hv4,hv5⟩:=le2 hv1;have hw4:IntKind.i64.wrap ((v0:Int)+1)=(v1:Int):=(bj _ (by omega) (by omega)).trans (by omega);clear hv1;have t0:(0:Int)≤(v0:Int):=(by omega);have t1:(v0:Int)<(N:Int):=(by omega);have t2:(0:Int)≤(v1:Int):=(by omega);have t3:(v1:Int)<(N:Int):=(by omega);obtain⟨z,hz⟩:∃z,z=Bq.getD t ac0:=⟨_,rfl⟩;have HR1:Hid (∀W,AcR W B g c N (bA P Bq x R t)→W.rangeAt g (v0*9) (acC x)):=aa (fun W hW=>by have:=hW.range (i:=v0) (by omega);rwa [show v0=P.length+t by omega,jO (by omega), ←show v0=P.length+t by omega]at this);have HR2:Hid (∀W,AcR W B g c N (bA P Bq x R t)→W.rangeAt g (v1*9) (acC z)):=aa (fun W hW=>by have:=hW.range (i:=v1) (by omega);rwa [show v1=P.length+t+1 by omega,wv htn, ←hz, ←show v1=P.length+t+1 by omega]at this);have HSW:Hid (((bA P Bq x R t).set v0 z).set v1 x=bA P Bq x R (t+1)):=aa (by rw [hz,show v1=P.length+t+1 by omega,show v0=P.length+t by omega];exact mE htn);clear hz;obtain⟨LL,hLL⟩:∃LL,LL=bA P Bq x R t:=⟨_,rfl⟩;rw [←hLL]at HA HR1 HR2 HSW;clear hLL;go_wp2_with fail
     apply j6 _ (fun w'=>AcR w' B g c N ((LL.set v0 z).set v1 x)∧w.grownBy w' (some g))
     ·have hDr:Below wr.heap.size wr wr.drew:=(Below.refl _ _).drew;replace HA:=aa (HA.out.below hDr);replace HG:=aa (cN HG.out hDr);clear hDr;refine wp_region_held_drew (S:=fun _=>True) (by kernel_rfl) trivial (fun hHeld=>?_);generalize wr.drew=V2 at*;refine sqA [(0,61),(1,62),(2,63),(3,64),(4,65),(5,66),(6,67),(7,68),(8,69),(10,71),(11,72),(12,73)] ?_;(iterate 12 (refine sqN rfl (by kernel_rfl) (fun _ _ _ h=>absurd h.1 (by simp)) rfl ‹_› (by intro w h;go_simp <;>with_reducible rfl) ?_;simp only [nz]));refine sqZ ?_;refine wpAnyH_ready (rs:=[9,13]) (by kernel_rfl) (by simp) ?_;refine(AllReadyH.cons (o:=⟨some 70,_,_,_,_,_⟩) rfl (fun K hK=>?_) (AllReadyH.cons (o:=⟨some 74,_,_,_,_,_⟩) rfl (fun K hK=>?_) AllReadyH.nil))
      ·rw [if_pos (by rfl)];clear hHeld;refine wp_load_mid 40 (.tmp 69) rfl g (v1*9) rfl (acC z) _ (HR2.out _ HA.out) Tryz.underlying40 rfl aP ?_;refine hK.out _ _ trivial (fun hHeld=>?_);clear hK K;(try simp only [nz]);refine rsq 13 74 (by kernel_rfl) rfl (fun K hK=>?_);rw [if_pos (by rfl)];clear hHeld;refine wp_load_mid 40 (.tmp 73) rfl g (v0*9) rfl (acC x) _ (HR1.out _ HA.out) Tryz.underlying40 rfl aP ?_;refine hK.out _ _ trivial (fun hHeld=>?_);clear hK K;(try simp only [nz]);refine tq 14 75 rfl (by kernel_rfl) (fun _ _ _ h=>absurd h.1 (by simp)) rfl ‹_› (by intro w h;go_simp <;>with_reducible rfl) ?_;simp only [nz];refine rnq 15 (by kernel_rfl) rfl (fun K hK=>?_);rw [if_pos (by rfl)];clear hHeld;refine wp_store_mid 40 (.tmp 75) (.tmp 70) rfl g (v0*9) (acC z).toArray rfl rfl (AcR.there HA.out (i:=v0) (by omega)) aP (cC rfl) ?_;rw [show(acC z).toArray.toList=acC z from rfl];have HP0:=aa (AcR.put HA.out (i:=v0) (by omega) z).1;have hq0:=(AcR.put HA.out (i:=v0) (by omega) z).2;generalize World.setCells _ g (v0*9) (acC z)=V20 at*;refine hK.out _ _ trivial (fun hHeld=>?_);clear hK K;(try simp only [Act.put]);refine tq 16 76 rfl (by kernel_rfl) (fun _ _ _ h=>absurd h.1 (by simp)) rfl ‹_› (by intro w h;go_simp <;>with_reducible rfl) ?_;simp only [nz];refine rnq 17 (by kernel_rfl) rfl (fun K hK=>?_);rw [if_pos (by rfl)];clear hHeld;refine wp_store_mid 40 (.tmp 76) (.tmp 74) rfl g (v1*9) (acC x).toArray rfl rfl (AcR.there HP0.out (i:=v1) (by omega)) aP (cC rfl) ?_;rw [show(acC x).toArray.toList=acC x from rfl];have HP1:=aa (AcR.put HP0.out (i:=v1) (by omega) x).1;have hq1:=(AcR.put HP0.out (i:=v1) (by omega) x).2;generalize World.setCells _ g (v1*9) (acC x)=V21 at*;refine hK.out _ _ trivial (fun hHeld=>?_);clear hK K;(try simp only [Act.put]);refine wpAnyH_done (by kernel_rfl) ?_ _;clear hHeld;exact⟨rfl,rfl,HP1.out,aD HG.out (aD hq0 hq1)⟩
      ·rw [if_pos (by rfl)];clear hHeld;refine wp_load_mid 40 (.tmp 73) rfl g (v0*9) rfl (acC x) _ (HR1.out _ HA.out) Tryz.underlying40 rfl aP ?_;refine hK.out _ _ trivial (fun hHeld=>?_);clear hK K;(try simp only [nz]);refine rsq 9 70 (by kernel_rfl) rfl (fun K hK=>?_);rw [if_pos (by rfl)];clear hHeld;refine wp_load_mid 40 (.tmp 69) rfl g (v1*9) rfl (acC z) _ (HR2.out _ HA.out) Tryz.underlying40 rfl aP ?_;refine hK.out _ _ trivial (fun hHeld=>?_);clear hK K;(try simp only [nz]);refine tq 14 75 rfl (by kernel_rfl) (fun _ _ _ h=>absurd h.1 (by simp)) rfl ‹_› (by intro w h;go_simp <;>with_reducible rfl) ?_;simp only [nz];refine rnq 15 (by kernel_rfl) rfl (fun K hK=>?_);rw [if_pos (by rfl)];clear hHeld;refine wp_store_mid 40 (.tmp 75) (.tmp 70) rfl g (v0*9) (acC z).toArray rfl rfl (AcR.there HA.out (i:=v0) (by omega)) aP (cC rfl) ?_;rw [show(acC z).toArray.toList=acC z from rfl];have HP0:=aa (AcR.put HA.out (i:=v0) (by omega) z).1;have hq0:=(AcR.put HA.out (i:=v0) (by omega) z).2;generalize World.setCells _ g (v0*9) (acC z)=V20 at*;refine hK.out _ _ trivial (fun hHeld=>?_);clear hK K;(try simp only [Act.put]);refine tq 16 76 rfl (by kernel_rfl) (fun _ _ _ h=>absurd h.1 (by simp)) rfl ‹_› (by intro w h;go_simp <;>with_reducible rfl) ?_;simp only [nz];refine rnq 17 (by kernel_rfl) rfl (fun K hK=>?_);rw [if_pos (by rfl)];clear hHeld;refine wp_store_mid 40 (.tmp 76) (.tmp 74) rfl g (v1*9) (acC x).toArray rfl rfl (AcR.there HP0.out (i:=v1) (by omega)) aP (cC rfl) ?_;rw [show(acC x).toArray.toList=acC x from rfl];have HP1:=aa (AcR.put HP0.out (i:=v1) (by omega) x).1;have hq1:=(AcR.put HP0.out (i:=v1) (by omega) x).2;generalize World.setCells _ g (v1*9) (acC x)=V21 at*;refine hK.out _ _ trivial (fun hHeld=>?_);clear hK K;(try simp only [Act.put]);refine wpAnyH_done (by kernel_rfl) ?_ _;clear hHeld;exact⟨rfl,rfl,HP1.out,aD HG.out (aD hq0 hq1)⟩
     intro W3 hW3;obtain⟨hA3,hG3⟩:=hW3;rw [HSW.out]at hA3;have HA3:=aa hA3;have HG3:=aa hG3;clear hA3 hG3 HA HG HR1 HR2 HSW;go_wp2_with fail
     go_roundw
     case rel=>exact⟨t+1,v1,by omega,by omega,rfl,HA3,HG3⟩
     case measure=>simp [intOf];omega
    ·have htk2:t=k1:=(by omega);have q1:¬((v0:Int)<(il:Int)):=(by omega);have HE:Hid (AcR wr B g c N T):=by rw [←HTT.out, ←htk2];exact HA
     clear HA HTT htk2;go_wp2_with fail
     (try simp only [Exit.inBlock,Exit.then]);refine bodyPost_ret (results_none rfl _ _ _) rfl ?_
     exact⟨rfl,HE.out,HG.out⟩
theorem rJ (P A R:List Ac) (y:Ac) (B g c N a m b:Nat) (w:World) (hA:AcR w B g c N (P++A++ [y]++R)) (hS:AscA A) (h2:2≤A.length) (ha:a=P.length) (hm:m=P.length+A.length) (hb:b=P.length+A.length+1) (hN:N≤1000):
  Calls Tryz.prog 213 #[.slice (some ⟨g,0,none⟩) N c,.int .i64 (a:Int),.int .i64 (m:Int),.int .i64 (b:Int),.func (.func 171) #[] #[]] w fun e w'=>e= .returned (.tuple #[])∧AcR w' B g c N (P++mrg aM A [y]++R)∧w.grownBy w' (some g):=by
 have hlen:P.length+A.length+1+R.length=N:=by have:=hA.1;simp only [List.length_append,List.length_cons,List.length_nil]at this;omega
 obtain⟨T,hT⟩:∃T,T=P++mrg aM A [y]++R:=⟨_,rfl⟩;rw [←hT];have HT:Hid (∀k,k≤A.length→(k=0∨y.p≤(A.getD (k-1) ac0).p)→(k=A.length∨(A.getD k ac0).p<y.p)→bA P A y R k=T):=aa (fun k h0 h1 h2=>by rw [hT,mU hS h0 h1 h2];rfl);have HA0:Hid (AcR w B g c N (bA P A y R A.length)):=by refine aa ?_;unfold bA;simpa using hA
 have HCM:=aa iR;obtain⟨n,hn⟩:∃n,n=A.length:=⟨_,rfl⟩;have HN:=aa hn;rw [←hn]at HA0;obtain⟨ha2,ha3⟩:=le2 ha;obtain⟨hm2,hm3⟩:=le2 hm;obtain⟨hb2,hb3⟩:=le2 hb;obtain⟨hl2,hl3⟩:=le2 hlen;obtain⟨hn2,hn3⟩:=le2 hn;obtain⟨ma,hma⟩:∃ma,ma=m-a:=⟨_,rfl⟩;obtain⟨hma2,hma3⟩:=le2 hma;have hw1:IntKind.i64.wrap ((m:Int)-(a:Int))=(ma:Int):=(bj _ (by omega) (by omega)).trans (by omega);have hw0:IntKind.i64.wrap ((b:Int)-(m:Int))=1:=(bj _ (by omega) (by omega)).trans (by omega);have hm1:((ma:Int)==1)=false:=by simp;omega
 have hm1b:¬ma=1:=by omega
 clear hA hT ha hm hb hlen hn hS hma h2;go_enter Tryz.func213,Tryz.ntmps213;go_wp2_with fail
 go_loopw [14,15] (fun i j wr=>∃(k1 k2 i0 j0:Nat),(i0=a+k1∧j0=a+k2)∧(k1≤k2∧k2≤n)∧i= .int .i64 (i0:Int)∧j= .int .i64 (j0:Int)∧Hid (k1=0∨y.p≤(A.getD (k1-1) ac0).p)∧Hid (k2=n∨(A.getD k2 ac0).p<y.p)∧Hid (AcR wr B g c N (bA P A y R n))∧Hid (w.grownBy wr (some g))) (fun i j _=>(intOf j).toNat-(intOf i).toNat)
 case atStart=>exact⟨0,n,a,m,⟨by omega,by omega⟩,⟨by omega,Nat.le_refl _⟩,rfl,rfl,aa (.inl rfl),aa (.inl rfl),HA0,aa (grown_refl' _ _)⟩
 case round=>
  clear HA0;obtain⟨k1,k2,i0,j0,⟨hi,hj⟩,⟨hk1,hk2⟩,rfl,rfl,HF1,HF2,HA,HG⟩:=hrel;obtain⟨hi2,hi3⟩:=le2 hi;obtain⟨hj2,hj3⟩:=le2 hj;clear hi hj;by_cases hlt:i0<j0
  ·obtain⟨h,hh⟩:∃h,h=(i0+j0)/2:=⟨_,rfl⟩;have e2:=BV hh;have hih:i0≤h:=(by omega);have hhj:h<j0:=(by omega);clear hh;obtain⟨kh,hkh⟩:∃kh,kh=h-a:=⟨_,rfl⟩;obtain⟨hkh2,hkh3⟩:=le2 hkh;obtain⟨h1,hh1⟩:∃h1,h1=h+1:=⟨_,rfl⟩;obtain⟨hh2,hh3⟩:=le2 hh1;have hw2:IntKind.i64.wrap ((h:Int)+1)=(h1:Int):=(bj _ (by omega) (by omega)).trans (by omega);clear hkh hh1;have t0:(0:Int)≤(h:Int):=(by omega);have t1:(h:Int)<(N:Int):=(by omega);have t2:(0:Int)≤(m:Int):=(by omega);have t3:(m:Int)<(N:Int):=(by omega);obtain⟨z,hz⟩:∃z,z=A.getD kh ac0:=⟨_,rfl⟩;have HR1:Hid (∀W,AcR W B g c N (bA P A y R n)→W.rangeAt g (m*9) (acC y)):=aa (fun W hW=>by have:=hW.range (i:=m) (by omega);rwa [show m=P.length+n by omega,jO (by omega), ←show m=P.length+n by omega]at this);have HR2:Hid (∀W,AcR W B g c N (bA P A y R n)→W.rangeAt g (h*9) (acC z)):=aa (fun W hW=>by have:=hW.range (i:=h) (by omega);rwa [HN.out,show h=P.length+kh by omega,yZ (by omega), ←hz, ←show h=P.length+kh by omega]at this);have HLT:=aa (kl z.p y.p);have HZ:=aa hz;clear hz;go_wp2_with fail
   clear e2;have HD:Hid (AcR wr.drew B g c N _):=aa (HA.out.below ((Below.refl _ _).drew));refine wp_region_held_drew (S:=fun w'=>w'.rangeAt g (m*9) (acC y)∧w'.rangeAt g (h*9) (acC z)) (by kernel_rfl) ⟨HR1.out _ HD.out,HR2.out _ HD.out⟩ (fun hHeld=>?_);refine sqA [(0,92),(1,93),(2,94),(3,95)] ?_;(iterate 4 (refine sqN rfl (by kernel_rfl) (fun _ _ _ h=>h) rfl ‹_› (by intro w h;go_simp <;>with_reducible rfl) ?_;simp only [nz]));refine sqZ ?_;refine wpAnyH_take (i:=4) (oi:=⟨some 96,_,_,_,_,_⟩) (v:=.agg (acC y).toArray) rfl (by kernel_rfl) (by kernel_rfl) (by kernel_rfl) (fun _ _ _ h=>h) (yieldsIf_load_mid (by rfl) 40 (.tmp 95) rfl g (m*9) rfl (acC y) _ (fun w h=>h.1) Tryz.underlying40 rfl aP) (by assumption) ?_;(try simp only [nz]);refine sqA [(5,97),(6,98),(7,99)] ?_;(iterate 3 (refine sqN rfl (by kernel_rfl) (fun _ _ _ h=>h) rfl ‹_› (by intro w h;go_simp <;>with_reducible rfl) ?_;simp only [nz]));refine sqZ ?_;refine wpAnyH_take (i:=8) (oi:=⟨some 100,_,_,_,_,_⟩) (v:=.agg (acC z).toArray) rfl (by kernel_rfl) (by kernel_rfl) (by kernel_rfl) (fun _ _ _ h=>h) (yieldsIf_load_mid (by rfl) 40 (.tmp 99) rfl g (h*9) rfl (acC z) _ (fun w h=>h.2) Tryz.underlying40 rfl aP) (by assumption) ?_;(try simp only [nz]);refine rsq 9 101 (by kernel_rfl) rfl (fun K hK=>?_);go_simp;clear hHeld;refine(ag HCM y z _).mono ?_;rintro e V ⟨rfl,hb⟩;replace HA:=aa (HD.out.below hb);replace HG:=aa (cN HG.out (((Below.refl _ _).drew).trans hb));clear HD hb;refine hK.out _ _ ⟨HR1.out _ HA.out,HR2.out _ HA.out⟩ (fun hHeld=>?_);clear hK K;(try simp only [nz]);refine sqA [(10,102),(11,103)] ?_;(iterate 2 (refine sqN rfl (by kernel_rfl) (fun _ _ _ h=>h) rfl ‹_› (by intro w h;go_simp <;>with_reducible rfl) ?_;simp only [nz]));refine sqZ ?_;refine wpAnyH_done (by kernel_rfl) ?_ _;clear hHeld;by_cases hle:z.p<y.p
   ·have hl2x:aT z.p y.p<0:=by rw [HLT.out];exact hle
    have hl3x:(!decide (aT z.p y.p<0))=false:=(by simp only [hl2x,decide_true,Bool.not_true]);rw [hl3x];have HF3:Hid (kh=n∨(A.getD kh ac0).p<y.p):=aa (.inr (by rw [←HZ.out];exact hle));clear HR1 HR2 HF2;go_wp2_with fail
    go_roundw
    case rel=>exact⟨k1,kh,i0,h,⟨by omega,by omega⟩,⟨by omega,by omega⟩,rfl,rfl,HF1,HF3,HA,HG⟩
    case measure=>simp [intOf];omega
   ·have hl2x:¬aT z.p y.p<0:=by rw [HLT.out];exact hle
    have hl3x:(!decide (aT z.p y.p<0))=true:=(by simp only [hl2x,decide_false,Bool.not_false]);rw [hl3x];have HF3:Hid (kh+1=0∨y.p≤(A.getD (kh+1-1) ac0).p):=aa (.inr (by rw [Nat.add_sub_cancel, ←HZ.out];omega));clear HR1 HR2 HF1;go_wp2_with fail
    go_roundw
    case rel=>exact⟨kh+1,k2,h1,j0,⟨by omega,by omega⟩,⟨by omega,hk2⟩,rfl,rfl,HF3,HF2,HA,HG⟩
    case measure=>simp [intOf];omega
  ·have hke:k1=k2:=(by omega);have HTT:=aa (HT.out k1 (by omega) HF1.out (by rw [hke, ←HN.out];exact HF2.out));clear hke HF1 HF2 HT
   rename World=>W1
   go_wp2_with fail
   go_loopw [17] (fun v wr=>∃(t v0:Nat),v0=a+t∧(k1≤t∧t≤n)∧v= .int .i64 (v0:Int)∧Hid (AcR wr B g c N (bA P A y R t))∧Hid (w.grownBy wr (some g))) (fun v _=>(intOf v).toNat)
   case atStart=>exact⟨n,m,by omega,⟨by omega,Nat.le_refl _⟩,rfl,HA,HG⟩
   case round=>
    clear HA HG;obtain⟨t,v0,hv,⟨htk,htn⟩,rfl,HA,HG⟩:=hrel;obtain⟨hv2,hv3⟩:=le2 hv;clear hv;by_cases htl:k1<t
    ·obtain⟨l,rfl⟩:∃l,t=l+1:=⟨t-1,by omega⟩;have hln:l<A.length:=(by omega);have q1:(i0:Int)<(v0:Int):=(by omega);obtain⟨v1,hv1⟩:∃v1,v1=v0-1:=⟨_,rfl⟩;obtain⟨hv4,hv5⟩:=le2 hv1;have hw4:IntKind.i64.wrap ((v0:Int)-1)=(v1:Int):=(bj _ (by omega) (by omega)).trans (by omega);clear hv1;have t0:(0:Int)≤(v0:Int):=(by omega);have t1:(v0:Int)<(N:Int):=(by omega);have t2:(0:Int)≤(v1:Int):=(by omega);have t3:(v1:Int)<(N:Int):=(by omega);obtain⟨z,hz⟩:∃z,z=A.getD l ac0:=⟨_,rfl⟩;have HR1:Hid (∀W,AcR W B g c N (bA P A y R (l+1))→W.rangeAt g (v0*9) (acC y)):=aa (fun W hW=>by have:=hW.range (i:=v0) (by omega);rwa [show v0=P.length+(l+1) by omega,jO (by omega), ←show v0=P.length+(l+1) by omega]at this);have HR2:Hid (∀W,AcR W B g c N (bA P A y R (l+1))→W.rangeAt g (v1*9) (acC z)):=aa (fun W hW=>by have:=hW.range (i:=v1) (by omega);rwa [show v1=P.length+l by omega,jy hln, ←hz, ←show v1=P.length+l by omega]at this);have HSW:Hid (((bA P A y R (l+1)).set v0 z).set v1 y=bA P A y R l):=aa (by rw [hz,show v0=P.length+l+1 by omega,show v1=P.length+l by omega];exact om hln);clear hz;obtain⟨LL,hLL⟩:∃LL,LL=bA P A y R (l+1):=⟨_,rfl⟩;rw [←hLL]at HA HR1 HR2 HSW;clear hLL;go_wp2_with fail
     apply j6 _ (fun w'=>AcR w' B g c N ((LL.set v0 z).set v1 y)∧w.grownBy w' (some g))
     ·have hDr:Below wr.heap.size wr wr.drew:=(Below.refl _ _).drew;replace HA:=aa (HA.out.below hDr);replace HG:=aa (cN HG.out hDr);clear hDr;refine wp_region_held_drew (S:=fun _=>True) (by kernel_rfl) trivial (fun hHeld=>?_);generalize wr.drew=V2 at*;refine sqA [(0,113),(1,114),(2,115),(3,116),(4,117),(5,118),(6,119),(7,120),(8,121),(10,123),(11,124),(12,125)] ?_;(iterate 12 (refine sqN rfl (by kernel_rfl) (fun _ _ _ h=>absurd h.1 (by simp)) rfl ‹_› (by intro w h;go_simp <;>with_reducible rfl) ?_;simp only [nz]));refine sqZ ?_;refine wpAnyH_ready (rs:=[9,13]) (by kernel_rfl) (by simp) ?_;refine(AllReadyH.cons (o:=⟨some 122,_,_,_,_,_⟩) rfl (fun K hK=>?_) (AllReadyH.cons (o:=⟨some 126,_,_,_,_,_⟩) rfl (fun K hK=>?_) AllReadyH.nil))
      ·rw [if_pos (by rfl)];clear hHeld;refine wp_load_mid 40 (.tmp 121) rfl g (v1*9) rfl (acC z) _ (HR2.out _ HA.out) Tryz.underlying40 rfl aP ?_;refine hK.out _ _ trivial (fun hHeld=>?_);clear hK K;(try simp only [nz]);refine rsq 13 126 (by kernel_rfl) rfl (fun K hK=>?_);rw [if_pos (by rfl)];clear hHeld;refine wp_load_mid 40 (.tmp 125) rfl g (v0*9) rfl (acC y) _ (HR1.out _ HA.out) Tryz.underlying40 rfl aP ?_;refine hK.out _ _ trivial (fun hHeld=>?_);clear hK K;(try simp only [nz]);refine tq 14 127 rfl (by kernel_rfl) (fun _ _ _ h=>absurd h.1 (by simp)) rfl ‹_› (by intro w h;go_simp <;>with_reducible rfl) ?_;simp only [nz];refine rnq 15 (by kernel_rfl) rfl (fun K hK=>?_);rw [if_pos (by rfl)];clear hHeld;refine wp_store_mid 40 (.tmp 127) (.tmp 122) rfl g (v0*9) (acC z).toArray rfl rfl (AcR.there HA.out (i:=v0) (by omega)) aP (cC rfl) ?_;rw [show(acC z).toArray.toList=acC z from rfl];have HP0:=aa (AcR.put HA.out (i:=v0) (by omega) z).1;have hq0:=(AcR.put HA.out (i:=v0) (by omega) z).2;generalize World.setCells _ g (v0*9) (acC z)=V20 at*;refine hK.out _ _ trivial (fun hHeld=>?_);clear hK K;(try simp only [Act.put]);refine tq 16 128 rfl (by kernel_rfl) (fun _ _ _ h=>absurd h.1 (by simp)) rfl ‹_› (by intro w h;go_simp <;>with_reducible rfl) ?_;simp only [nz];refine rnq 17 (by kernel_rfl) rfl (fun K hK=>?_);rw [if_pos (by rfl)];clear hHeld;refine wp_store_mid 40 (.tmp 128) (.tmp 126) rfl g (v1*9) (acC y).toArray rfl rfl (AcR.there HP0.out (i:=v1) (by omega)) aP (cC rfl) ?_;rw [show(acC y).toArray.toList=acC y from rfl];have HP1:=aa (AcR.put HP0.out (i:=v1) (by omega) y).1;have hq1:=(AcR.put HP0.out (i:=v1) (by omega) y).2;generalize World.setCells _ g (v1*9) (acC y)=V21 at*;refine hK.out _ _ trivial (fun hHeld=>?_);clear hK K;(try simp only [Act.put]);refine wpAnyH_done (by kernel_rfl) ?_ _;clear hHeld;exact⟨rfl,rfl,HP1.out,aD HG.out (aD hq0 hq1)⟩
      ·rw [if_pos (by rfl)];clear hHeld;refine wp_load_mid 40 (.tmp 125) rfl g (v0*9) rfl (acC y) _ (HR1.out _ HA.out) Tryz.underlying40 rfl aP ?_;refine hK.out _ _ trivial (fun hHeld=>?_);clear hK K;(try simp only [nz]);refine rsq 9 122 (by kernel_rfl) rfl (fun K hK=>?_);rw [if_pos (by rfl)];clear hHeld;refine wp_load_mid 40 (.tmp 121) rfl g (v1*9) rfl (acC z) _ (HR2.out _ HA.out) Tryz.underlying40 rfl aP ?_;refine hK.out _ _ trivial (fun hHeld=>?_);clear hK K;(try simp only [nz]);refine tq 14 127 rfl (by kernel_rfl) (fun _ _ _ h=>absurd h.1 (by simp)) rfl ‹_› (by intro w h;go_simp <;>with_reducible rfl) ?_;simp only [nz];refine rnq 15 (by kernel_rfl) rfl (fun K hK=>?_);rw [if_pos (by rfl)];clear hHeld;refine wp_store_mid 40 (.tmp 127) (.tmp 122) rfl g (v0*9) (acC z).toArray rfl rfl (AcR.there HA.out (i:=v0) (by omega)) aP (cC rfl) ?_;rw [show(acC z).toArray.toList=acC z from rfl];have HP0:=aa (AcR.put HA.out (i:=v0) (by omega) z).1;have hq0:=(AcR.put HA.out (i:=v0) (by omega) z).2;generalize World.setCells _ g (v0*9) (acC z)=V20 at*;refine hK.out _ _ trivial (fun hHeld=>?_);clear hK K;(try simp only [Act.put]);refine tq 16 128 rfl (by kernel_rfl) (fun _ _ _ h=>absurd h.1 (by simp)) rfl ‹_› (by intro w h;go_simp <;>with_reducible rfl) ?_;simp only [nz];refine rnq 17 (by kernel_rfl) rfl (fun K hK=>?_);rw [if_pos (by rfl)];clear hHeld;refine wp_store_mid 40 (.tmp 128) (.tmp 126) rfl g (v1*9) (acC y).toArray rfl rfl (AcR.there HP0.out (i:=v1) (by omega)) aP (cC rfl) ?_;rw [show(acC y).toArray.toList=acC y from rfl];have HP1:=aa (AcR.put HP0.out (i:=v1) (by omega) y).1;have hq1:=(AcR.put HP0.out (i:=v1) (by omega) y).2;generalize World.setCells _ g (v1*9) (acC y)=V21 at*;refine hK.out _ _ trivial (fun hHeld=>?_);clear hK K;(try simp only [Act.put]);refine wpAnyH_done (by kernel_rfl) ?_ _;clear hHeld;exact⟨rfl,rfl,HP1.out,aD HG.out (aD hq0 hq1)⟩
     intro W3 hW3;obtain⟨hA3,hG3⟩:=hW3;rw [HSW.out]at hA3;have HA3:=aa hA3;have HG3:=aa hG3;clear hA3 hG3 HA HG HR1 HR2 HSW;go_wp2_with fail
     go_roundw
     case rel=>exact⟨l,v1,by omega,⟨by omega,by omega⟩,rfl,HA3,HG3⟩
     case measure=>simp [intOf];omega
    ·have htk2:t=k1:=(by omega);have q1:¬((i0:Int)<(v0:Int)):=(by omega);have HE:Hid (AcR wr B g c N T):=by rw [←HTT.out, ←htk2];exact HA
     clear HA HTT htk2;go_wp2_with fail
     (try simp only [Exit.inBlock,Exit.then]);refine bodyPost_ret (results_none rfl _ _ _) rfl ?_
     exact⟨rfl,HE.out,HG.out⟩
theorem BA {P A Bq R:List Ac} {i:Nat} (hi:i<A.length):(P++A++Bq++R).getD (P.length+i) ac0=A.getD i ac0:=by
 rw [List.append_assoc,List.append_assoc,bo,dK hi]
theorem Br {P A Bq R:List Ac} {i:Nat} (hi:i<Bq.length):(P++A++Bq++R).getD (P.length+A.length+i) ac0=Bq.getD i ac0:=by
 rw [List.append_assoc,show P.length+A.length=(P++A).length by simp,bo,dK hi]
theorem AO (n:Nat) (h:n≤1000000):IntKind.u64.wrap (n:Int)=(n:Int):=by
 simp [IntKind.wrap,IntKind.bits,IntKind.signed];omega
def A0 (n:Nat):Prop:=∀(P A Bq R:List Ac) (B g c N a m b:Nat) (w:World),A.length+Bq.length≤n→0<A.length→0<Bq.length→AcR w B g c N (P++A++Bq++R)→AscA A→AscA Bq→a=P.length→m=P.length+A.length→b=P.length+A.length+Bq.length→N≤1000→
 Calls Tryz.prog 213 #[.slice (some ⟨g,0,none⟩) N c,.int .i64 (a:Int),.int .i64 (m:Int),.int .i64 (b:Int),.func (.func 171) #[] #[]] w fun e w'=>e= .returned (.tuple #[])∧AcR w' B g c N (P++mrg aM A Bq++R)∧w.grownBy w' (some g)
theorem AY {P A1 A2 B1 B2 R:List Ac} (h:A2= []∨B1= []):P++(A1++A2)++(B1++B2)++R=P++A1++B1++A2++B2++R:=by
 rcases h with rfl | rfl <;>simp
theorem uP {A1 B1:List Ac} (h:A1= []∨B1= []):mrg aM A1 B1=A1++B1:=by
 rcases h with rfl | rfl
 ·rw [eH];rfl
 ·rw [ed,List.append_nil]
theorem qp (n:Nat) (IH:A0 n) (P A Bq R:List Ac) (B g c N a m b:Nat) (w:World) (hn:A.length+Bq.length≤n+1) (h2:2≤A.length) (h3:2≤Bq.length) (hA:AcR w B g c N (P++A++Bq++R)) (hSA:AscA A) (hSB:AscA Bq) (ha:a=P.length) (hm:m=P.length+A.length) (hb:b=P.length+A.length+Bq.length) (hN:N≤1000):
  Calls Tryz.prog 213 #[.slice (some ⟨g,0,none⟩) N c,.int .i64 (a:Int),.int .i64 (m:Int),.int .i64 (b:Int),.func (.func 171) #[] #[]] w fun e w'=>e= .returned (.tuple #[])∧AcR w' B g c N (P++mrg aM A Bq++R)∧w.grownBy w' (some g):=by
 have hlen:P.length+A.length+Bq.length+R.length=N:=by have:=hA.1;simp only [List.length_append]at this;omega
 obtain⟨T,hT⟩:∃T,T=P++mrg aM A Bq++R:=⟨_,rfl⟩;rw [←hT];have HT:=aa hT;have HA0:=aa hA;have HCM:=aa iR;have HI:=aa IH;have HSA:=aa hSA;have HSB:=aa hSB;obtain⟨la,hla⟩:∃la,la=A.length:=⟨_,rfl⟩;obtain⟨lb,hlb⟩:∃lb,lb=Bq.length:=⟨_,rfl⟩;have HLA:=aa hla;have HLB:=aa hlb;obtain⟨ma,hma⟩:∃ma,ma=m-a:=⟨_,rfl⟩;obtain⟨mb,hmb⟩:∃mb,mb=b-m:=⟨_,rfl⟩;obtain⟨mid,hmid⟩:∃mid,mid=(a+b)/2:=⟨_,rfl⟩;obtain⟨nn,hnn⟩:∃nn,nn=mid+m:=⟨_,rfl⟩;obtain⟨p0,hp0⟩:∃p0,p0=nn-1:=⟨_,rfl⟩;obtain⟨ab,hab⟩:∃ab,ab=a+b:=⟨_,rfl⟩;have e3:(ab:Int)/2=(mid:Int):=by omega
 have q2:=AO ab (by omega);have q3:=bj (mid:Int) (by omega) (by omega);have q1:IntKind.i64.wrap ((a:Int)+(b:Int))=(ab:Int):=by go_light;exact(bj _ (by omega) (by omega)).trans (by omega)
 have hw1:IntKind.i64.wrap ((m:Int)-(a:Int))=(ma:Int):=by go_light;exact(bj _ (by omega) (by omega)).trans (by omega)
 have hw2:IntKind.i64.wrap ((b:Int)-(m:Int))=(mb:Int):=by go_light;exact(bj _ (by omega) (by omega)).trans (by omega)
 have hw3:IntKind.i64.wrap ((mid:Int)+(m:Int))=(nn:Int):=by go_light;exact(bj _ (by omega) (by omega)).trans (by omega)
 have hw4:IntKind.i64.wrap ((nn:Int)-1)=(p0:Int):=by go_light;exact(bj _ (by omega) (by omega)).trans (by omega)
 have hma1:¬ma=1:=by omega
 have hmb1:¬mb=1:=by omega
 have hmd1:a+b≤2*mid+1∧2*mid≤a+b:=by omega
 have hp1:p0+1=nn:=by omega
 have NF:=aa (And.intro hn (And.intro h2 (And.intro h3 (And.intro hN (And.intro ha (And.intro hm (And.intro hb (And.intro hlen (And.intro hla (And.intro hlb (And.intro hnn (And.intro hp1 (hmd1)))))))))))));clear hA hT hSA hSB IH hma hmb hmid hp0 hab;obtain⟨s0,r0,hsr,HF1,HF2,hcase⟩:∃s0 r0:Nat,(a≤s0∧s0≤r0∧r0≤m∧r0≤mid∧mid≤s0+lb)∧Hid (s0=a∨mid-s0=lb∨(Bq.getD (mid-s0) ac0).p≤(A.getD (s0-a-1) ac0).p)∧Hid (r0=m∨mid=r0∨(A.getD (r0-a) ac0).p<(Bq.getD (mid-r0-1) ac0).p)∧(mid<m∧IntKind.i64.wrap ((nn:Int)-(b:Int))=(s0:Int)∧mid=r0∨m≤mid∧a=s0∧m=r0):=by
  rcases Nat.lt_or_ge mid m with hmm | hmm
  ·exact⟨nn-b,mid,by omega,aa (.inr (.inl (by omega))),aa (.inr (.inl rfl)),.inl ⟨hmm,(bj _ (by omega) (by omega)).trans (by omega),rfl⟩⟩
  ·exact⟨a,m,by omega,aa (.inl rfl),aa (.inl rfl),.inr ⟨hmm,rfl,rfl⟩⟩
 have HSR:=aa hsr;have HCASE:=aa hcase;clear hsr hcase hn h2 h3 hN ha hm hb hlen hla hlb hnn hp1 hmd1;go_enter Tryz.func213,Tryz.ntmps213;go_upto_if 140 with fail;clear e3 q1 q2 q3;go_cut [20,21] (fun s r wx=>s= .int .i64 (s0:Int)∧r= .int .i64 (r0:Int)∧w=wx)
 case first=>
  rcases HCASE.out with⟨hmm,hw5,hrm⟩ |⟨hmm,hsa,hrm⟩
  ·have HRM:=aa hrm;clear hrm;have hmm2:(mid:Int)<(m:Int):=by go_light;omega
   go_wp2_with fail
   go_meet;exact⟨rfl,by rw [HRM.out],rfl⟩
  ·have HSA0:=aa hsa;have HRM:=aa hrm;clear hsa hrm;have hmm1:¬(mid<m):=by go_light;omega
   have hmm2:¬((mid:Int)<(m:Int)):=by go_light;omega
   go_wp2_with fail
   go_meet;exact⟨by rw [HSA0.out],by rw [HRM.out],rfl⟩
 case rest=>
  clear HCASE;obtain⟨rfl,rfl,rfl⟩:=hcut;go_wp2_with fail
  go_loopw [20,21] (fun i j wr=>∃(s r:Nat),Hid (a≤s∧s≤r∧r≤m∧r≤mid∧mid≤s+lb)∧i= .int .i64 (s:Int)∧j= .int .i64 (r:Int)∧Hid (s=a∨mid-s=lb∨(Bq.getD (mid-s) ac0).p≤(A.getD (s-a-1) ac0).p)∧Hid (r=m∨mid=r∨(A.getD (r-a) ac0).p<(Bq.getD (mid-r-1) ac0).p)∧Hid (AcR wr B g c N (P++A++Bq++R))∧Hid (w.grownBy wr (some g))) (fun i j _=>(intOf j).toNat-(intOf i).toNat)
  case atStart=>exact⟨_,_,HSR,rfl,rfl,HF1,HF2,HA0,aa (grown_refl' _ _)⟩
  case round=>
   clear HA0 HF1 HF2 HSR;obtain⟨s,r,HS,rfl,rfl,HF1,HF2,HA,HG⟩:=hrel;by_cases hlt:s<r
   ·as_aux_lemma=>
     have n1:=NF.out;have n2:=HS.out;obtain⟨ci,hci⟩:∃ci,ci=(s+r)/2:=⟨_,rfl⟩;obtain⟨sr,hsr⟩:∃sr,sr=s+r:=⟨_,rfl⟩;have e2:(sr:Int)/2=(ci:Int):=by go_light;omega
     have q5:=AO sr (by go_light;omega);have q6:=bj (ci:Int) (by go_light;omega) (by go_light;omega);have q4:IntKind.i64.wrap ((s:Int)+(r:Int))=(sr:Int):=by go_light;exact(bj _ (by omega) (by omega)).trans (by omega)
     have hsc:s≤ci:=by go_light;omega
     have hcr:ci<r:=by go_light;omega
     obtain⟨pc,hpc⟩:∃pc,pc=p0-ci:=⟨_,rfl⟩;obtain⟨kc,hkc⟩:∃kc,kc=ci-a:=⟨_,rfl⟩;obtain⟨kb,hkb⟩:∃kb,kb=mid-ci-1:=⟨_,rfl⟩;obtain⟨c1,hc1⟩:∃c1,c1=ci+1:=⟨_,rfl⟩;have hw6:IntKind.i64.wrap ((p0:Int)-(ci:Int))=(pc:Int):=by go_light;exact(bj _ (by omega) (by omega)).trans (by omega)
     have hw7:IntKind.i64.wrap ((ci:Int)+1)=(c1:Int):=by go_light;exact(bj _ (by omega) (by omega)).trans (by omega)
     have xp:pc+ci=p0:=by clear hkc hkb hc1;omega
     have xk:kc+a=ci:=by clear hpc hkb hc1;omega
     have xb:kb+ci+1=mid:=by clear hpc hkc hc1;omega
     have NX:=aa (And.intro hsc (And.intro hcr (And.intro xp (And.intro xk (And.intro xb (hc1))))));have HKC:=aa hkc;have HKB:=aa hkb;have HC1:=aa hc1;have HZ0:=aa (And.intro hpc (And.intro hkc hkb));clear hpc hkc hkb;have t0:(0:Int)≤(pc:Int):=by go_light;omega
     have t1:(pc:Int)<(N:Int):=by go_light;omega
     have t2:(0:Int)≤(ci:Int):=by go_light;omega
     have t3:(ci:Int)<(N:Int):=by go_light;omega
     clear hsc hcr xp xk xb hc1 hci n1 n2 hsr HZ0;obtain⟨x,hx⟩:∃x,x=A.getD kc ac0:=⟨_,rfl⟩;obtain⟨y,hy⟩:∃y,y=Bq.getD kb ac0:=⟨_,rfl⟩;have HR1:Hid (∀W,AcR W B g c N (P++A++Bq++R)→W.rangeAt g (pc*9) (acC y)):=aa (fun W hW=>by go_light;have n1:=NF.out;have n2:=HS.out;have n3:=NX.out;have:=hW.range (i:=pc) (by omega);rwa [show pc=P.length+A.length+kb by omega,Br (by omega), ←hy, ←show pc=P.length+A.length+kb by omega]at this);have HR2:Hid (∀W,AcR W B g c N (P++A++Bq++R)→W.rangeAt g (ci*9) (acC x)):=aa (fun W hW=>by go_light;have n1:=NF.out;have n2:=HS.out;have n3:=NX.out;have:=hW.range (i:=ci) (by omega);rwa [show ci=P.length+kc by omega,BA (by omega), ←hx, ←show ci=P.length+kc by omega]at this);have HLT:=aa (kl x.p y.p);have HX:=aa hx;have HY:=aa hy;clear hx hy;obtain⟨LL,hLL⟩:∃LL,LL=P++A++Bq++R:=⟨_,rfl⟩;have HLL:=aa hLL;rw [←hLL]at HA HR1 HR2;clear hLL;go_wp2_with fail
     clear e2 q4 q5 q6;have HD:Hid (AcR wr.drew B g c N _):=aa (HA.out.below ((Below.refl _ _).drew));refine wp_region_held_drew (S:=fun w'=>w'.rangeAt g (pc*9) (acC y)∧w'.rangeAt g (ci*9) (acC x)) (by kernel_rfl) ⟨HR1.out _ HD.out,HR2.out _ HD.out⟩ (fun hHeld=>?_);refine sqA [(0,158),(1,159),(2,160),(3,161),(4,162),(5,163)] ?_;(iterate 6 (refine sqN rfl (by kernel_rfl) (fun _ _ _ h=>h) rfl ‹_› (by intro w h;go_simp <;>with_reducible rfl) ?_;simp only [nz]));refine sqZ ?_;refine wpAnyH_take (i:=6) (oi:=⟨some 164,_,_,_,_,_⟩) (v:=.agg (acC y).toArray) rfl (by kernel_rfl) (by kernel_rfl) (by kernel_rfl) (fun _ _ _ h=>h) (yieldsIf_load_mid (by rfl) 40 (.tmp 163) rfl g (pc*9) rfl (acC y) _ (fun w h=>h.1) Tryz.underlying40 rfl aP) (by assumption) ?_;(try simp only [nz]);refine sqA [(7,165),(8,166),(9,167)] ?_;(iterate 3 (refine sqN rfl (by kernel_rfl) (fun _ _ _ h=>h) rfl ‹_› (by intro w h;go_simp <;>with_reducible rfl) ?_;simp only [nz]));refine sqZ ?_;refine wpAnyH_take (i:=10) (oi:=⟨some 168,_,_,_,_,_⟩) (v:=.agg (acC x).toArray) rfl (by kernel_rfl) (by kernel_rfl) (by kernel_rfl) (fun _ _ _ h=>h) (yieldsIf_load_mid (by rfl) 40 (.tmp 167) rfl g (ci*9) rfl (acC x) _ (fun w h=>h.2) Tryz.underlying40 rfl aP) (by assumption) ?_;(try simp only [nz]);refine rsq 11 169 (by kernel_rfl) rfl (fun K hK=>?_);go_simp;clear hHeld;refine(ag HCM y x _).mono ?_;rintro e V ⟨rfl,hb⟩;replace HA:=aa (HD.out.below hb);replace HG:=aa (cN HG.out (((Below.refl _ _).drew).trans hb));clear HD hb;refine hK.out _ _ ⟨HR1.out _ HA.out,HR2.out _ HA.out⟩ (fun hHeld=>?_);clear hK K;(try simp only [nz]);refine sqA [(12,170),(13,171)] ?_;(iterate 2 (refine sqN rfl (by kernel_rfl) (fun _ _ _ h=>h) rfl ‹_› (by intro w h;go_simp <;>with_reducible rfl) ?_;simp only [nz]));refine sqZ ?_;refine wpAnyH_done (by kernel_rfl) ?_ _;clear hHeld;rw [HLL.out]at HA;by_cases hle:x.p<y.p
     ·have hl2x:aT x.p y.p<0:=by rw [HLT.out];exact hle
      have hl3x:(!decide (aT x.p y.p<0))=false:=(by simp only [hl2x,decide_true,Bool.not_true]);rw [hl3x];have HF3:Hid (ci=m∨mid=ci∨(A.getD (ci-a) ac0).p<(Bq.getD (mid-ci-1) ac0).p):=aa (.inr (.inr (by rw [←HKC.out, ←HKB.out, ←HX.out, ←HY.out];exact hle)));clear HR1 HR2 HF2;go_wp2_with fail
      go_roundw
      case rel=>exact⟨s,ci,aa (by go_light;have n1:=NF.out;have n2:=HS.out;have n3:=NX.out;omega),rfl,rfl,HF1,HF3,HA,HG⟩
      case measure=>
       go_light;have n3:=NX.out;simp [intOf];omega
     ·have hl2x:¬aT x.p y.p<0:=by rw [HLT.out];exact hle
      have hl3x:(!decide (aT x.p y.p<0))=true:=(by simp only [hl2x,decide_false,Bool.not_false]);rw [hl3x];have HF3:Hid (c1=a∨mid-c1=lb∨(Bq.getD (mid-c1) ac0).p≤(A.getD (c1-a-1) ac0).p):=aa (.inr (.inr (by go_light;have n1:=NF.out;have n2:=HS.out;have n3:=NX.out;rw [show mid-c1=kb by omega,show c1-a-1=kc by omega, ←HX.out, ←HY.out];omega)));clear HR1 HR2 HF1;go_wp2_with fail
      go_roundw
      case rel=>exact⟨c1,r,aa (by go_light;have n1:=NF.out;have n2:=HS.out;have n3:=NX.out;omega),rfl,rfl,HF3,HF2,HA,HG⟩
      case measure=>
       go_light;have n3:=NX.out;simp [intOf];omega
   ·as_aux_lemma=>
     have n1:=NF.out;have n2:=HS.out;obtain⟨ka,hka⟩:∃ka,ka=s-a:=⟨_,rfl⟩;obtain⟨kb,hkb⟩:∃kb,kb=mid-s:=⟨_,rfl⟩;have hsr2:s=r:=by go_light;omega
     have HMP:Hid (mrg aM A Bq=mrg aM (A.take ka) (Bq.take kb)++mrg aM (A.drop ka) (Bq.drop kb)):=aa (by go_light;exact xI HSA.out HSB.out (by omega) (by omega) (by rcases HF1.out with h | h | h;exact .inl (by omega);exact .inr (.inl (by rw [hkb,h,HLB.out]));exact .inr (.inr (by rw [hka,hkb];exact h))) (by rcases HF2.out with h | h | h;exact .inl (by omega);exact .inr (.inl (by omega));exact .inr (.inr (by rw [hka,hkb,hsr2];exact h))));obtain⟨A1,hA1⟩:∃A1,A1=A.take ka:=⟨_,rfl⟩;obtain⟨A2,hA2⟩:∃A2,A2=A.drop ka:=⟨_,rfl⟩;obtain⟨B1,hB1⟩:∃B1,B1=Bq.take kb:=⟨_,rfl⟩;obtain⟨B2,hB2⟩:∃B2,B2=Bq.drop kb:=⟨_,rfl⟩;rw [←hA1, ←hA2, ←hB1, ←hB2]at HMP;have hlA1:A1.length=ka:=by go_light;rw [hA1,List.length_take];omega
     have hlA2:A2.length=la-ka:=(by rw [hA2,List.length_drop,HLA.out]);have hlB1:B1.length=kb:=by go_light;rw [hB1,List.length_take];omega
     have hlB2:B2.length=lb-kb:=(by rw [hB2,List.length_drop,HLB.out]);have HSA1:Hid (AscA A1):=by rw [hA1];exact aa (HSA.out.take _)
     have HSA2:Hid (AscA A2):=by rw [hA2];exact aa (HSA.out.drop _)
     have HSB1:Hid (AscA B1):=by rw [hB1];exact aa (HSB.out.take _)
     have HSB2:Hid (AscA B2):=by rw [hB2];exact aa (HSB.out.drop _)
     have HA3:Hid (AcR wr B g c N (P++(A1++A2)++(B1++B2)++R)):=by rw [hA1,hA2,hB1,hB2,List.take_append_drop,List.take_append_drop];exact HA
     have HT2:Hid (P++(mrg aM A1 B1++mrg aM A2 B2)++R=T):=by rw [HT.out,HMP.out];exact aa rfl
     obtain⟨en,hen⟩:∃en,en=nn-s:=⟨_,rfl⟩;have hw8:IntKind.i64.wrap ((nn:Int)-(s:Int))=(en:Int):=by go_light;exact(bj _ (by omega) (by omega)).trans (by omega)
     have xe:en+s=nn:=by clear hlA1 hlA2 hlB1 hlB2;omega
     have xa:ka+a=s:=by clear hen hlA1 hlA2 hlB1 hlB2;omega
     have xm:kb+s=mid:=by clear hen hlA1 hlA2 hlB1 hlB2;omega
     have yA:A2.length+ka=la:=by clear hen hkb xm;omega
     have yB:B2.length+kb=lb:=by clear hen hka xa;omega
     have NZ:=aa (And.intro xe (And.intro xa (And.intro xm (And.intro hlA1 (And.intro yA (And.intro hlB1 (yB)))))));have HLA1:=aa hlA1;have HLB1:=aa hlB1;have hq1:¬(s<r):=hlt;clear hA1 hA2 hB1 hB2 HA HF1 HF2 HMP HT hsr2 hen hka hkb hlA1 hlA2 hlB1 hlB2 xe xa xm yA yB hlt n1 n2 HSA HSB HLA HLB HCM;go_upto_region 39 with fail
     obtain⟨tb,htb⟩:∃tb:Bool,tb=decide (s<m∧m<en):=⟨_,rfl⟩;have HTD:=aa htb;clear htb;go_cut [185] (fun tv wx=>tv= .bool tb∧wr=wx)
     case first=>
      as_aux_lemma=>
      rcases(show(0<A2.length∧0<B1.length)∨(A2.length=0)∨(0<A2.length∧B1.length=0) by clear HA3 HG HT2;go_light;omega)with⟨u1,u2⟩ | u1 |⟨u1,u2⟩
      ·have HTB:Hid (tb=true):=aa (by go_light;have n1:=NF.out;have n2:=HS.out;have n3:=NZ.out;rw [HTD.out];simp;omega);have g1:(s<m):=by go_light;have n1:=NF.out;have n2:=HS.out;have n3:=NZ.out;omega
       have f1:((s:Int)<(m:Int)):=by go_light;have n1:=NF.out;have n2:=HS.out;have n3:=NZ.out;omega
       have g2:(m<en):=by go_light;have n1:=NF.out;have n2:=HS.out;have n3:=NZ.out;omega
       have f2:((m:Int)<(en:Int)):=by go_light;have n1:=NF.out;have n2:=HS.out;have n3:=NZ.out;omega
       clear u1 u2;go_wp2_with fail
       go_meet;exact⟨by rw [HTB.out] <;>first | rfl | simp [f1,f2] | simp [f1],rfl⟩
      ·have HTB:Hid (tb=false):=aa (by go_light;have n1:=NF.out;have n2:=HS.out;have n3:=NZ.out;rw [HTD.out];simp;omega);have g1:¬(s<m):=by go_light;have n1:=NF.out;have n2:=HS.out;have n3:=NZ.out;omega
       have f1:¬((s:Int)<(m:Int)):=by go_light;have n1:=NF.out;have n2:=HS.out;have n3:=NZ.out;omega
       clear u1;go_wp2_with fail
       go_meet;exact⟨by rw [HTB.out] <;>first | rfl | simp [f1],rfl⟩
      ·have HTB:Hid (tb=false):=aa (by go_light;have n1:=NF.out;have n2:=HS.out;have n3:=NZ.out;rw [HTD.out];simp;omega);have g1:(s<m):=by go_light;have n1:=NF.out;have n2:=HS.out;have n3:=NZ.out;omega
       have f1:((s:Int)<(m:Int)):=by go_light;have n1:=NF.out;have n2:=HS.out;have n3:=NZ.out;omega
       have g2:¬(m<en):=by go_light;have n1:=NF.out;have n2:=HS.out;have n3:=NZ.out;omega
       have f2:¬((m:Int)<(en:Int)):=by go_light;have n1:=NF.out;have n2:=HS.out;have n3:=NZ.out;omega
       clear u1 u2;go_wp2_with fail
       go_meet;exact⟨by rw [HTB.out] <;>first | rfl | simp [f1,f2] | simp [f1],rfl⟩
     case rest=>
      obtain⟨rfl,rfl⟩:=hcut;go_upto_if 185 with fail;go_cut [] (fun wx=>Hid (AcR wx B g c N (P++A1++B1++A2++B2++R))∧Hid (w.grownBy wx (some g)))
      case first=>
       as_aux_lemma=>
       rcases(show(0<A2.length∧0<B1.length)∨(A2.length=0)∨(0<A2.length∧B1.length=0) by clear HA3 HG HT2;go_light;omega)with⟨u1,u2⟩ | u1 |⟨u1,u2⟩
       ·have htb:tb=true:=by go_light;have n1:=NF.out;have n2:=HS.out;have n3:=NZ.out;rw [HTD.out];simp;omega
        clear HTD;subst htb;have HC:=aa (sL (P++A1) A2 B1 (B2++R) B g c N s m en wr (by have:=HA3.out;simpa using this) (by go_light;have n1:=NF.out;have n2:=HS.out;have n3:=NZ.out;omega) (by go_light;have n1:=NF.out;have n2:=HS.out;have n3:=NZ.out;omega) (by rw [List.length_append,HLA1.out];go_light;have n1:=NF.out;have n2:=HS.out;have n3:=NZ.out;omega) (by rw [List.length_append,HLA1.out];go_light;have n1:=NF.out;have n2:=HS.out;have n3:=NZ.out;omega) (by rw [List.length_append,HLA1.out];go_light;have n1:=NF.out;have n2:=HS.out;have n3:=NZ.out;omega) (by have:=NF.out;omega));clear u1 u2;go_wp2_with fail
        refine(ag HC).mono ?_;rintro e WQ ⟨rfl,hA4,hG4⟩;have HA4:Hid (AcR WQ B g c N (P++A1++B1++A2++B2++R)):=aa (by simpa using hA4);have HG4:=aa (aD HG.out hG4);clear hA4 hG4 HC;go_wp2_with fail
        go_meet;exact⟨HA4,HG4⟩
       ·have nl:A2= []:=List.eq_nil_of_length_eq_zero (by go_light;have n1:=NF.out;have n2:=HS.out;have n3:=NZ.out;omega);have htb:tb=false:=by go_light;have n1:=NF.out;have n2:=HS.out;have n3:=NZ.out;rw [HTD.out];simp;omega
        clear HTD;subst htb;have HA4:=aa (show AcR wr B g c N (P++A1++B1++A2++B2++R)from by rw [←AY (.inl nl)];exact HA3.out);clear nl u1;go_wp2_with fail
        go_meet;exact⟨HA4,HG⟩
       ·have nl:B1= []:=List.eq_nil_of_length_eq_zero (by go_light;have n1:=NF.out;have n2:=HS.out;have n3:=NZ.out;omega);have htb:tb=false:=by go_light;have n1:=NF.out;have n2:=HS.out;have n3:=NZ.out;rw [HTD.out];simp;omega
        clear HTD;subst htb;have HA4:=aa (show AcR wr B g c N (P++A1++B1++A2++B2++R)from by rw [←AY (.inr nl)];exact HA3.out);clear nl u1 u2;go_wp2_with fail
        go_meet;exact⟨HA4,HG⟩
      case rest=>
       clear HA3 HG HTD;obtain⟨HA3,HG⟩:=hcut;generalize wc=W3 at*;go_upto_region 41 with fail
       obtain⟨tb,htb⟩:∃tb:Bool,tb=decide (a<s∧s<mid):=⟨_,rfl⟩;have HTD:=aa htb;clear htb;go_cut [199] (fun tv wx=>tv= .bool tb∧W3=wx)
       case first=>
        as_aux_lemma=>
        rcases(show(0<A1.length∧0<B1.length)∨(A1.length=0)∨(0<A1.length∧B1.length=0) by clear HA3 HG HT2;go_light;omega)with⟨u1,u2⟩ | u1 |⟨u1,u2⟩
        ·have HTB:Hid (tb=true):=aa (by go_light;have n1:=NF.out;have n2:=HS.out;have n3:=NZ.out;rw [HTD.out];simp;omega);have g1:(a<s):=by go_light;have n1:=NF.out;have n2:=HS.out;have n3:=NZ.out;omega
         have f1:((a:Int)<(s:Int)):=by go_light;have n1:=NF.out;have n2:=HS.out;have n3:=NZ.out;omega
         have g2:(s<mid):=by go_light;have n1:=NF.out;have n2:=HS.out;have n3:=NZ.out;omega
         have f2:((s:Int)<(mid:Int)):=by go_light;have n1:=NF.out;have n2:=HS.out;have n3:=NZ.out;omega
         clear u1 u2;go_wp2_with fail
         go_meet;exact⟨by rw [HTB.out] <;>first | rfl | simp [f1,f2] | simp [f1],rfl⟩
        ·have HTB:Hid (tb=false):=aa (by go_light;have n1:=NF.out;have n2:=HS.out;have n3:=NZ.out;rw [HTD.out];simp;omega);have g1:¬(a<s):=by go_light;have n1:=NF.out;have n2:=HS.out;have n3:=NZ.out;omega
         have f1:¬((a:Int)<(s:Int)):=by go_light;have n1:=NF.out;have n2:=HS.out;have n3:=NZ.out;omega
         clear u1;go_wp2_with fail
         go_meet;exact⟨by rw [HTB.out] <;>first | rfl | simp [f1],rfl⟩
        ·have HTB:Hid (tb=false):=aa (by go_light;have n1:=NF.out;have n2:=HS.out;have n3:=NZ.out;rw [HTD.out];simp;omega);have g1:(a<s):=by go_light;have n1:=NF.out;have n2:=HS.out;have n3:=NZ.out;omega
         have f1:((a:Int)<(s:Int)):=by go_light;have n1:=NF.out;have n2:=HS.out;have n3:=NZ.out;omega
         have g2:¬(s<mid):=by go_light;have n1:=NF.out;have n2:=HS.out;have n3:=NZ.out;omega
         have f2:¬((s:Int)<(mid:Int)):=by go_light;have n1:=NF.out;have n2:=HS.out;have n3:=NZ.out;omega
         clear u1 u2;go_wp2_with fail
         go_meet;exact⟨by rw [HTB.out] <;>first | rfl | simp [f1,f2] | simp [f1],rfl⟩
       case rest=>
        obtain⟨rfl,rfl⟩:=hcut;go_upto_if 199 with fail;go_cut [] (fun wx=>Hid (AcR wx B g c N (P++mrg aM A1 B1++A2++B2++R))∧Hid (w.grownBy wx (some g)))
        case first=>
         as_aux_lemma=>
         rcases(show(0<A1.length∧0<B1.length)∨(A1.length=0)∨(0<A1.length∧B1.length=0) by clear HA3 HG HT2;go_light;omega)with⟨u1,u2⟩ | u1 |⟨u1,u2⟩
         ·have htb:tb=true:=by go_light;have n1:=NF.out;have n2:=HS.out;have n3:=NZ.out;rw [HTD.out];simp;omega
          clear HTD;subst htb;have HC:=aa (HI.out P A1 B1 (A2++B2++R) B g c N a s mid W3 (by go_light;have n1:=NF.out;have n2:=HS.out;have n3:=NZ.out;omega) (by go_light;have n1:=NF.out;have n2:=HS.out;have n3:=NZ.out;omega) (by go_light;have n1:=NF.out;have n2:=HS.out;have n3:=NZ.out;omega) (by have:=HA3.out;simpa using this) HSA1.out HSB1.out (by go_light;have n1:=NF.out;have n2:=HS.out;have n3:=NZ.out;omega) (by go_light;have n1:=NF.out;have n2:=HS.out;have n3:=NZ.out;omega) (by go_light;have n1:=NF.out;have n2:=HS.out;have n3:=NZ.out;omega) (by go_light;have n1:=NF.out;have n2:=HS.out;have n3:=NZ.out;omega));clear u1 u2;go_wp2_with fail
          refine(ag HC).mono ?_;rintro e WQ ⟨rfl,hA4,hG4⟩;have HA4:Hid (AcR WQ B g c N (P++mrg aM A1 B1++A2++B2++R)):=aa (by simpa using hA4);have HG4:=aa (aD HG.out hG4);clear hA4 hG4 HC;go_wp2_with fail
          go_meet;exact⟨HA4,HG4⟩
         ·have nl:A1= []:=List.eq_nil_of_length_eq_zero (by go_light;have n1:=NF.out;have n2:=HS.out;have n3:=NZ.out;omega);have htb:tb=false:=by go_light;have n1:=NF.out;have n2:=HS.out;have n3:=NZ.out;rw [HTD.out];simp;omega
          clear HTD;subst htb;have HA4:=aa (show AcR W3 B g c N (P++mrg aM A1 B1++A2++B2++R)from by rw [uP (.inl nl)];have:=HA3.out;simpa using this);clear nl u1;go_wp2_with fail
          go_meet;exact⟨HA4,HG⟩
         ·have nl:B1= []:=List.eq_nil_of_length_eq_zero (by go_light;have n1:=NF.out;have n2:=HS.out;have n3:=NZ.out;omega);have htb:tb=false:=by go_light;have n1:=NF.out;have n2:=HS.out;have n3:=NZ.out;rw [HTD.out];simp;omega
          clear HTD;subst htb;have HA4:=aa (show AcR W3 B g c N (P++mrg aM A1 B1++A2++B2++R)from by rw [uP (.inr nl)];have:=HA3.out;simpa using this);clear nl u1 u2;go_wp2_with fail
          go_meet;exact⟨HA4,HG⟩
        case rest=>
         clear HA3 HG HTD;obtain⟨HA3,HG⟩:=hcut;generalize wc=W4 at*;go_upto_region 43 with fail
         obtain⟨tb,htb⟩:∃tb:Bool,tb=decide (mid<en∧en<b):=⟨_,rfl⟩;have HTD:=aa htb;clear htb;go_cut [213] (fun tv wx=>tv= .bool tb∧W4=wx)
         case first=>
          as_aux_lemma=>
          rcases(show(0<A2.length∧0<B2.length)∨(A2.length=0)∨(0<A2.length∧B2.length=0) by clear HA3 HG HT2;go_light;omega)with⟨u1,u2⟩ | u1 |⟨u1,u2⟩
          ·have HTB:Hid (tb=true):=aa (by go_light;have n1:=NF.out;have n2:=HS.out;have n3:=NZ.out;rw [HTD.out];simp;omega);have g1:(mid<en):=by go_light;have n1:=NF.out;have n2:=HS.out;have n3:=NZ.out;omega
           have f1:((mid:Int)<(en:Int)):=by go_light;have n1:=NF.out;have n2:=HS.out;have n3:=NZ.out;omega
           have g2:(en<b):=by go_light;have n1:=NF.out;have n2:=HS.out;have n3:=NZ.out;omega
           have f2:((en:Int)<(b:Int)):=by go_light;have n1:=NF.out;have n2:=HS.out;have n3:=NZ.out;omega
           clear u1 u2;go_wp2_with fail
           go_meet;exact⟨by rw [HTB.out] <;>first | rfl | simp [f1,f2] | simp [f1],rfl⟩
          ·have HTB:Hid (tb=false):=aa (by go_light;have n1:=NF.out;have n2:=HS.out;have n3:=NZ.out;rw [HTD.out];simp;omega);have g1:¬(mid<en):=by go_light;have n1:=NF.out;have n2:=HS.out;have n3:=NZ.out;omega
           have f1:¬((mid:Int)<(en:Int)):=by go_light;have n1:=NF.out;have n2:=HS.out;have n3:=NZ.out;omega
           clear u1;go_wp2_with fail
           go_meet;exact⟨by rw [HTB.out] <;>first | rfl | simp [f1],rfl⟩
          ·have HTB:Hid (tb=false):=aa (by go_light;have n1:=NF.out;have n2:=HS.out;have n3:=NZ.out;rw [HTD.out];simp;omega);have g1:(mid<en):=by go_light;have n1:=NF.out;have n2:=HS.out;have n3:=NZ.out;omega
           have f1:((mid:Int)<(en:Int)):=by go_light;have n1:=NF.out;have n2:=HS.out;have n3:=NZ.out;omega
           have g2:¬(en<b):=by go_light;have n1:=NF.out;have n2:=HS.out;have n3:=NZ.out;omega
           have f2:¬((en:Int)<(b:Int)):=by go_light;have n1:=NF.out;have n2:=HS.out;have n3:=NZ.out;omega
           clear u1 u2;go_wp2_with fail
           go_meet;exact⟨by rw [HTB.out] <;>first | rfl | simp [f1,f2] | simp [f1],rfl⟩
         case rest=>
          obtain⟨rfl,rfl⟩:=hcut;rcases(show(0<A2.length∧0<B2.length)∨(A2.length=0)∨(0<A2.length∧B2.length=0) by clear HA3 HG HT2;go_light;omega)with⟨u1,u2⟩ | u1 |⟨u1,u2⟩
          ·have htb:tb=true:=by go_light;have n1:=NF.out;have n2:=HS.out;have n3:=NZ.out;rw [HTD.out];simp;omega
           clear HTD;subst htb;have hlM:(mrg aM A1 B1).length=ka+kb:=(by rw [l6,HLA1.out,HLB1.out]);have HC:=aa (HI.out (P++mrg aM A1 B1) A2 B2 R B g c N mid en b W4 (by go_light;have n1:=NF.out;have n2:=HS.out;have n3:=NZ.out;omega) (by go_light;have n1:=NF.out;have n2:=HS.out;have n3:=NZ.out;omega) (by go_light;have n1:=NF.out;have n2:=HS.out;have n3:=NZ.out;omega) (by have:=HA3.out;simpa using this) HSA2.out HSB2.out (by rw [List.length_append,hlM];go_light;have n1:=NF.out;have n2:=HS.out;have n3:=NZ.out;omega) (by rw [List.length_append,hlM];go_light;have n1:=NF.out;have n2:=HS.out;have n3:=NZ.out;omega) (by rw [List.length_append,hlM];go_light;have n1:=NF.out;have n2:=HS.out;have n3:=NZ.out;omega) (by go_light;have n1:=NF.out;have n2:=HS.out;have n3:=NZ.out;omega));clear hlM;clear u1 u2;go_wp2_with fail
           refine(ag HC).mono ?_;rintro e WQ ⟨rfl,hA4,hG4⟩;have HA4:Hid (AcR WQ B g c N (P++mrg aM A1 B1++mrg aM A2 B2++R)):=aa (by simpa using hA4);have HG4:=aa (aD HG.out hG4);clear hA4 hG4 HC;have HA5:AcR WQ B g c N T:=by rw [←HT2.out];have:=HA4.out;simpa using this
           go_wp2_with fail
           go_end0;exact⟨rfl,HA5,HG4.out⟩
          ·have nl:A2= []:=List.eq_nil_of_length_eq_zero (by go_light;have n1:=NF.out;have n2:=HS.out;have n3:=NZ.out;omega);have htb:tb=false:=by go_light;have n1:=NF.out;have n2:=HS.out;have n3:=NZ.out;rw [HTD.out];simp;omega
           clear HTD;subst htb;have HA4:=aa (show AcR W4 B g c N (P++mrg aM A1 B1++mrg aM A2 B2++R)from by rw [uP (A1:=A2) (.inl nl)];have:=HA3.out;simpa using this);clear nl u1;have HA5:AcR W4 B g c N T:=by rw [←HT2.out];have:=HA4.out;simpa using this
           go_wp2_with fail
           go_end0;exact⟨rfl,HA5,HG.out⟩
          ·have nl:B2= []:=List.eq_nil_of_length_eq_zero (by go_light;have n1:=NF.out;have n2:=HS.out;have n3:=NZ.out;omega);have htb:tb=false:=by go_light;have n1:=NF.out;have n2:=HS.out;have n3:=NZ.out;rw [HTD.out];simp;omega
           clear HTD;subst htb;have HA4:=aa (show AcR W4 B g c N (P++mrg aM A1 B1++mrg aM A2 B2++R)from by rw [uP (A1:=A2) (.inr nl)];have:=HA3.out;simpa using this);clear nl u1 u2;have HA5:AcR W4 B g c N T:=by rw [←HT2.out];have:=HA4.out;simpa using this
           go_wp2_with fail
           go_end0;exact⟨rfl,HA5,HG.out⟩
theorem uA:∀n,A0 n
 | 0=>fun P A Bq R B g c N a m b w h0 h1 h2 _ _ _ _ _ _ _=>by omega
 | n+1=>fun P A Bq R B g c N a m b w h0 h1 h2 hA hSA hSB ha hm hb hN=>by
  by_cases hx:A.length=1
  ·obtain⟨x,rfl⟩:=List.length_eq_one_iff.1 hx;exact tQ P Bq R x B g c N a m b w hA hSB ha hm hb hN
  ·by_cases hy:Bq.length=1
   ·obtain⟨y,rfl⟩:=List.length_eq_one_iff.1 hy;exact rJ P A R y B g c N a m b w hA hSA (by omega) ha hm hb hN
   ·exact qp n (uA n) P A Bq R B g c N a m b w h0 (by omega) (by omega) hA hSA hSB ha hm hb hN
theorem nw (o:Option Addr) (c:Nat) (fv:Value) (w:World):Calls Tryz.prog 212 #[.slice o 0 c,.int .i64 0,.int .i64 0,fv] w fun e w'=>e= .returned (.tuple #[])∧w'=w:=by
 go_enter Tryz.func212,Tryz.ntmps212;go_wp2_with fail
 refine wp_loop_rounds 1 ?_;rw [rounds_succ];go_wp2_with fail
 go_end0;exact⟨rfl,rfl⟩
theorem nd (o:Option Addr) (c:Nat) (fv:Value) (w:World):Calls Tryz.prog 198 #[.slice o 0 c,.int .i64 0,fv] w fun e w'=>e= .returned (.tuple #[])∧w'=w:=by
 go_enter Tryz.func198,Tryz.ntmps198;go_wp2_with fail
 refine wp_loop_rounds 1 ?_;rw [rounds_succ];go_wp2_with fail
 refine(nw _ _ _ _).mono ?_;rintro e w1 ⟨rfl,rfl⟩;go_wp2_with fail
 refine wp_loop_rounds 1 ?_;rw [rounds_succ];go_wp2_with fail
 go_end0;exact⟨rfl,rfl⟩
theorem vq:fQ []:=fun u B w ho hB=>by
 obtain⟨o,c,rfl⟩:=aw ho;have HO:=aa ho;clear ho;go_enter Tryz.func170,Tryz.ntmps170;go_wp2_with fail
 refine(nd _ _ _ _).mono ?_;rintro e w1 ⟨rfl,rfl⟩;go_wp2_with fail
 go_end0;have e:aQ []= []:=by simp [aQ,mrg,aU]
 exact⟨rfl,by rw [e];exact HO.out,⟨rfl,rfl,rfl,Nat.le_refl _,fun _ _ _=>rfl⟩⟩
theorem eK (X Y Z:List Ac) (B g c N:Nat) (ai bi:Int) (w:World) (hA:AcR w B g c N (X++Y++Z)) (ha:ai=(X.length:Int)) (hb:bi=((X.length+Y.length:Nat):Int)) (hN:N≤1000):
  Calls Tryz.prog 212 #[.slice (some ⟨g,0,none⟩) N c,.int .i64 ai,.int .i64 bi,.func (.func 171) #[] #[]] w fun e w'=>e= .returned (.tuple #[])∧AcR w' B g c N (X++aU aM Y++Z)∧w.grownBy w' (some g):=by
 subst ha hb;exact tF X Y Z B g c N _ _ w hA rfl rfl hN
theorem nA {L:List Ac} (h:L.length≤20):aQ L=aU aM L:=by
 unfold aQ;rw [List.take_of_length_le h,List.drop_of_length_le h];show mrg aM (aU aM L) []=_;rw [ed]
def gw (N:Nat):Prop:=∀(L:List Ac) (B g c:Nat) (w:World),AcR w B g c N L→Calls Tryz.prog 198 #[.slice (some ⟨g,0,none⟩) N c,.int .i64 (N:Int),.func (.func 171) #[] #[]] w fun e w'=>e= .returned (.tuple #[])∧AcR w' B g c N (aQ L)∧w.grownBy w' (some g)
theorem sM {N:Nat} (h:N<20):gw N:=fun L B g c w hA=>by
 have HSI:=aa (eK [] L [] B g c N 0 N w (by simpa using hA) (by simp) (by simp [hA.1]) (by omega));have HAS:=aa (nA (L:=L) (by rw [hA.1];omega));have q1:¬(20≤N):=by omega
 have q2:¬((20:Int)≤(N:Int)):=by omega
 have q3:¬(20<N):=by omega
 have q4:¬((20:Int)<(N:Int)):=by omega
 clear hA;go_enter Tryz.func198,Tryz.ntmps198;go_wp2_with fail
 refine wp_loop_rounds 1 ?_;rw [rounds_succ];go_wp2_with fail
 refine(ag HSI).mono ?_;rintro e w1 ⟨rfl,hA1,hG1⟩;have HE:Hid (AcR w1 B g c N (aQ L)):=by rw [HAS.out];exact aa (by simpa using hA1)
 have HG:=aa hG1;clear hA1 hG1 HSI HAS;go_wp2_with fail
 refine wp_loop_rounds 1 ?_;rw [rounds_succ];go_wp2_with fail
 go_end0;exact⟨rfl,HE.out,HG.out⟩
theorem xM {L:List Ac} (h:gw L.length):fQ L:=by
 by_cases h0:L.length=0
 ·rw [List.eq_nil_of_length_eq_zero h0];exact vq
 ·intro u B w ho hB;obtain⟨g,c,rfl,_,_⟩:=bH ho (by omega);have HST:=aa (h L B g c w ⟨rfl,ho⟩);obtain⟨N,hN⟩:∃N,N=L.length:=⟨_,rfl⟩;rw [←hN]at HST⊢h;clear ho hN h0 h;go_enter Tryz.func170,Tryz.ntmps170;go_wp2_with fail
  refine(ag HST).mono ?_;rintro e w1 ⟨rfl,hA1,hG1⟩;have HE:=aa hA1.2;have HG:=aa hG1;clear hA1 hG1 HST;go_wp2_with fail
  go_end0;exact⟨rfl,HE.out,HG.out⟩
theorem AW (A Bq:List Ac) (B g c N:Nat) (ai mi bi:Int) (w:World) (h1:0<A.length) (h2:0<Bq.length) (hA:AcR w B g c N (A++Bq)) (hSA:AscA A) (hSB:AscA Bq) (ha:ai=((0:Nat):Int)) (hm:mi=(A.length:Int)) (hb:bi=((A.length+Bq.length:Nat):Int)) (hN:N≤1000):
  Calls Tryz.prog 213 #[.slice (some ⟨g,0,none⟩) N c,.int .i64 ai,.int .i64 mi,.int .i64 bi,.func (.func 171) #[] #[]] w fun e w'=>e= .returned (.tuple #[])∧AcR w' B g c N (mrg aM A Bq)∧w.grownBy w' (some g):=by
 subst ha hm hb;have:=uA _ [] A Bq [] B g c N 0 A.length (A.length+Bq.length) w zr h1 h2 (by simpa using hA) hSA hSB rfl (by simp) (by simp) hN;simpa using this
theorem nS:gw 20:=fun L B g c w hA=>by
 have HSI:=aa (eK [] L [] B g c 20 0 20 w (by simpa using hA) (by simp) (by simp [hA.1]) (by omega));have HAS:=aa (nA (L:=L) (by rw [hA.1];omega));have HSJ:=aa (fun W (hW:AcR W B g c 20 (aU aM L))=>eK (aU aM L) [] [] B g c 20 20 20 W (by simpa using hW) (by rw [aV,hA.1];rfl) (by rw [aV,hA.1];rfl) (by omega));clear hA;go_enter Tryz.func198,Tryz.ntmps198;go_wp2_with fail
 refine wp_loop_rounds 2 ?_;rw [rounds_succ];go_wp2_with fail
 refine(ag HSI).mono ?_;rintro e w1 ⟨rfl,hA1,hG1⟩;have HA1:Hid (AcR w1 B g c 20 (aU aM L)):=aa (by simpa using hA1);have HG:=aa hG1;clear hA1 hG1 HSI;go_wp2_with fail
 rw [rounds_succ];go_wp2_with fail
 refine(ag HSJ _ HA1.out).mono ?_;rintro e w2 ⟨rfl,hA2,hG2⟩;have HE:Hid (AcR w2 B g c 20 (aQ L)):=by
  rw [HAS.out];have e:aU aM ([]:List Ac)= []:=rfl;rw [e]at hA2;exact aa (by simpa using hA2)
 have HG2:=aa (aD HG.out hG2);clear hA2 hG2 HSJ HAS HA1 HG;go_wp2_with fail
 refine wp_loop_rounds 1 ?_;rw [rounds_succ];go_wp2_with fail
 go_end0;exact⟨rfl,HE.out,HG2.out⟩
theorem uO {L:List Ac} {N:Nat} (h:L.length=N) (h2:20≤N):(L.take 20).length=20∧(L.drop 20).length=N-20∧L.take 20++L.drop 20=L:=⟨by rw [List.length_take];omega,by rw [List.length_drop];omega,List.take_append_drop _ _⟩
theorem ti {N:Nat} (h1:20<N) (h2:N<40):gw N:=fun L B g c w hA=>by
 obtain⟨hx,hy,hxy⟩:=uO hA.1 (by omega);have HT:Hid (aQ L=mrg aM (aU aM (L.take 20)) (aU aM (L.drop 20))):=rfl;obtain⟨T,hT⟩:∃T,T=aQ L:=⟨_,rfl⟩;rw [←hT];rw [←hT]at HT;rw [←hxy]at hA;generalize L.take 20=X at*;generalize L.drop 20=Y at*;have HS1:=aa (eK [] X Y B g c N 0 20 w (by simpa using hA) (by simp) (by simp [hx]) (by omega));have HS2:=aa (fun W (hW:AcR W B g c N (aU aM X++Y))=>eK (aU aM X) Y [] B g c N 20 N W (by simpa using hW) (by rw [aV,hx];rfl) (by rw [aV,hx,hy];omega) (by omega));have HS3:=aa (fun W (hW:AcR W B g c N (aU aM X++aU aM Y))=>AW (aU aM X) (aU aM Y) B g c N 0 20 N W (by rw [aV,hx];omega) (by rw [aV,hy];omega) hW (dS fZ gb _) (dS fZ gb _) rfl (by rw [aV,hx];rfl) (by rw [aV,aV,hx,hy];omega) (by omega));have q1:20≤N:=by omega
 have q2:(20:Int)≤(N:Int):=by omega
 have q3:¬(40≤N):=by omega
 have q4:¬((40:Int)≤(N:Int)):=by omega
 have q5:(20:Int)<(N:Int):=by omega
 have q6:¬(40<N):=by omega
 have q7:¬((40:Int)<(N:Int)):=by omega
 clear hA hT hx hy hxy;go_enter Tryz.func198,Tryz.ntmps198;go_wp2_with fail
 refine wp_loop_rounds 2 ?_;rw [rounds_succ];go_wp2_with fail
 refine(ag HS1).mono ?_;rintro e w1 ⟨rfl,hA1,hG1⟩;have HA1:Hid (AcR w1 B g c N (aU aM X++Y)):=aa (by simpa using hA1);have HG:=aa hG1;clear hA1 hG1 HS1;go_wp2_with fail
 rw [rounds_succ];go_wp2_with fail
 refine(ag HS2 _ HA1.out).mono ?_;rintro e w2 ⟨rfl,hA2,hG2⟩;have HA2:Hid (AcR w2 B g c N (aU aM X++aU aM Y)):=aa (by simpa using hA2);have HG2:=aa (aD HG.out hG2);clear hA2 hG2 HS2 HA1 HG;go_wp2_with fail
 refine wp_loop_rounds 2 ?_;rw [rounds_succ];go_wp2_with fail
 refine wp_loop_rounds 1 ?_;rw [rounds_succ];go_wp2_with fail
 refine(ag HS3 _ HA2.out).mono ?_;rintro e w3 ⟨rfl,hA3,hG3⟩;have HE:Hid (AcR w3 B g c N T):=by rw [HT.out];exact aa hA3
 have HG3:=aa (aD HG2.out hG3);clear hA3 hG3 HS3 HA2 HG2;go_wp2_with fail
 rw [rounds_succ];go_wp2_with fail
 go_end0;exact⟨rfl,HE.out,HG3.out⟩
theorem pX:gw 40:=fun L B g c w hA=>by
 obtain⟨hx,hy,hxy⟩:=uO hA.1 (by omega);have HT:Hid (aQ L=mrg aM (aU aM (L.take 20)) (aU aM (L.drop 20))):=rfl;obtain⟨T,hT⟩:∃T,T=aQ L:=⟨_,rfl⟩;rw [←hT];rw [←hT]at HT;rw [←hxy]at hA;generalize L.take 20=X at*;generalize L.drop 20=Y at*;have HS1:=aa (eK [] X Y B g c 40 0 20 w (by simpa using hA) (by simp) (by simp [hx]) (by omega));have HS2:=aa (fun W (hW:AcR W B g c 40 (aU aM X++Y))=>eK (aU aM X) Y [] B g c 40 20 40 W (by simpa using hW) (by rw [aV,hx];rfl) (by rw [aV,hx,hy];rfl) (by omega));have HS4:=aa (fun W (hW:AcR W B g c 40 (aU aM X++aU aM Y))=>eK (aU aM X++aU aM Y) [] [] B g c 40 40 40 W (by simpa using hW) (by rw [List.length_append,aV,aV,hx,hy];rfl) (by rw [List.length_append,aV,aV,hx,hy];rfl) (by omega));have HS3:=aa (fun W (hW:AcR W B g c 40 (aU aM X++aU aM Y))=>AW (aU aM X) (aU aM Y) B g c 40 0 20 40 W (by rw [aV,hx];omega) (by rw [aV,hy];omega) hW (dS fZ gb _) (dS fZ gb _) rfl (by rw [aV,hx];rfl) (by rw [aV,aV,hx,hy];rfl) (by omega));clear hA hT hx hy hxy;go_enter Tryz.func198,Tryz.ntmps198;go_wp2_with fail
 refine wp_loop_rounds 3 ?_;rw [rounds_succ];go_wp2_with fail
 refine(ag HS1).mono ?_;rintro e w1 ⟨rfl,hA1,hG1⟩;have HA1:Hid (AcR w1 B g c 40 (aU aM X++Y)):=aa (by simpa using hA1);have HG:=aa hG1;clear hA1 hG1 HS1;go_wp2_with fail
 rw [rounds_succ];go_wp2_with fail
 refine(ag HS2 _ HA1.out).mono ?_;rintro e w2 ⟨rfl,hA2,hG2⟩;have HA2:Hid (AcR w2 B g c 40 (aU aM X++aU aM Y)):=aa (by simpa using hA2);have HG2:=aa (aD HG.out hG2);clear hA2 hG2 HS2 HA1 HG;go_wp2_with fail
 rw [rounds_succ];go_wp2_with fail
 refine(ag HS4 _ HA2.out).mono ?_;rintro e w4 ⟨rfl,hA4,hG4⟩;have HA4:Hid (AcR w4 B g c 40 (aU aM X++aU aM Y)):=by
  have e:aU aM ([]:List Ac)= []:=rfl;rw [e]at hA4;exact aa (by simpa using hA4)
 have HG4:=aa (aD HG2.out hG4);clear hA4 hG4 HS4 HA2 HG2;go_wp2_with fail
 refine wp_loop_rounds 2 ?_;rw [rounds_succ];go_wp2_with fail
 refine wp_loop_rounds 2 ?_;rw [rounds_succ];go_wp2_with fail
 refine(ag HS3 _ HA4.out).mono ?_;rintro e w3 ⟨rfl,hA3,hG3⟩;have HE:Hid (AcR w3 B g c 40 T):=by rw [HT.out];exact aa hA3
 have HG3:=aa (aD HG4.out hG3);clear hA3 hG3 HS3 HA4 HG4;go_wp2_with fail
 rw [rounds_succ];go_wp2_with fail
 rw [rounds_succ];go_wp2_with fail
 go_end0;exact⟨rfl,HE.out,HG3.out⟩
theorem sP {N:Nat} (h:N≤40):gw N:=by
 rcases Nat.lt_or_ge N 20 with h1 | h1
 ·exact sM h1
 ·by_cases h2:N=20
  ·subst h2;exact nS
  ·by_cases h3:N=40
   ·subst h3;exact pX
   ·exact ti (by omega) (by omega)
theorem vS {L:List Ac} (h:L.length≤40):fQ L:=xM (sP h)
section
open Go.Shelf
def Tryz.sortAr_ren:Go.Shelf.Ren:=⟨fun | 6=>53 | 15=>104 | 14=>103 | 28=>156 | 29=>157 | 20=>148 | 21=>149 | 22=>150 | 23=>151 | 24=>152 | 25=>153 | 26=>154 | 27=>155 | 46=>184 | 47=>185 | 48=>186 | 49=>187 | 50=>188 | 57=>208 | n=>n,fun | 22=>45 | 24=>49 | 25=>118 | 3=>3 | 39=>138 | 0=>0 | 53=>203 | 55=>205 | 4=>4 | 46=>197 | 45=>196 | 50=>150 | 5=>5 | 9=>9 | 66=>228 | 70=>232 | 76=>247 | 77=>248 | n=>n,fun | n=>n⟩
theorem Tryz.sortAr:Go.Proofs.SlLaysF0.n6 Tryz.prog Tryz.sortAr_ren:={
 mixed:=by kernel_rfl
 f6:=⟨Tryz.f53.name,by decide,Tryz.func53.trans (congrArg some (by kernel_rfl))⟩
 f14:=⟨Tryz.f103.name,by decide,Tryz.func103.trans (congrArg some (by kernel_rfl))⟩
 f15:=Tryz.func104.trans (congrArg some (by kernel_rfl))
 f20:=⟨Tryz.f148.name,by decide,Tryz.func148.trans (congrArg some (by kernel_rfl))⟩
 f21:=⟨Tryz.f149.name,by decide,Tryz.func149.trans (congrArg some (by kernel_rfl))⟩
 f22:=⟨Tryz.f150.name,by decide,Tryz.func150.trans (congrArg some (by kernel_rfl))⟩
 f23:=⟨Tryz.f151.name,by decide,Tryz.func151.trans (congrArg some (by kernel_rfl))⟩
 f24:=⟨Tryz.f152.name,by decide,Tryz.func152.trans (congrArg some (by kernel_rfl))⟩
 f25:=⟨Tryz.f153.name,by decide,Tryz.func153.trans (congrArg some (by kernel_rfl))⟩
 f26:=⟨Tryz.f154.name,by decide,Tryz.func154.trans (congrArg some (by kernel_rfl))⟩
 f27:=⟨Tryz.f155.name,by decide,Tryz.func155.trans (congrArg some (by kernel_rfl))⟩
 f28:=Tryz.func156.trans (congrArg some (by kernel_rfl))
 f29:=Tryz.func157.trans (congrArg some (by kernel_rfl))
 f46:=⟨Tryz.f184.name,by decide,Tryz.func184.trans (congrArg some (by kernel_rfl))⟩
 f47:=Tryz.func185.trans (congrArg some (by kernel_rfl))
 f48:=Tryz.func186.trans (congrArg some (by kernel_rfl))
 f49:=⟨Tryz.f187.name,by decide,Tryz.func187.trans (congrArg some (by kernel_rfl))⟩
 f50:=⟨Tryz.f188.name,by decide,Tryz.func188.trans (congrArg some (by kernel_rfl))⟩
 f57:=⟨Tryz.f208.name,by decide,Tryz.func208.trans (congrArg some (by kernel_rfl))⟩
 t0:=Tryz.underlying0
 a0:=Tryz.isAgg0
 z0:=Tryz.sizeOf0
 v0:=Tryz.zeroValue0
 t3:=Tryz.underlying3
 a3:=Tryz.isAgg3
 z3:=Tryz.sizeOf3
 v3:=Tryz.zeroValue3
 t4:=Tryz.underlying4
 a4:=Tryz.isAgg4
 z4:=Tryz.sizeOf4
 v4:=Tryz.zeroValue4
 t5:=Tryz.underlying5
 a5:=Tryz.isAgg5
 z5:=Tryz.sizeOf5
 v5:=Tryz.zeroValue5
 t9:=Tryz.underlying9
 a9:=Tryz.isAgg9
 z9:=Tryz.sizeOf9
 v9:=Tryz.zeroValue9
 t22:=Tryz.underlying45
 a22:=Tryz.isAgg45
 z22:=Tryz.sizeOf45
 v22:=Tryz.zeroValue45
 t25:=Tryz.underlying118
 a25:=Tryz.isAgg118
 z25:=Tryz.sizeOf118
 v25:=Tryz.zeroValue118
 t39:=Tryz.underlying138
 a39:=Tryz.isAgg138
 z39:=Tryz.sizeOf138
 v39:=Tryz.zeroValue138
 t45:=Tryz.underlying196
 a45:=Tryz.isAgg196
 z45:=Tryz.sizeOf196
 v45:=Tryz.zeroValue196
 t46:=Tryz.underlying197
 a46:=Tryz.isAgg197
 z46:=Tryz.sizeOf197
 v46:=Tryz.zeroValue197
 t50:=Tryz.underlying150
 a50:=Tryz.isAgg150
 z50:=Tryz.sizeOf150
 v50:=Tryz.zeroValue150
 t53:=Tryz.underlying203
 a53:=Tryz.isAgg203
 z53:=Tryz.sizeOf203
 v53:=Tryz.zeroValue203
 t55:=Tryz.underlying205
 a55:=Tryz.isAgg205
 z55:=Tryz.sizeOf205
 v55:=Tryz.zeroValue205
 t66:=Tryz.underlying228
 a66:=Tryz.isAgg228
 z66:=Tryz.sizeOf228
 v66:=Tryz.zeroValue228
 t70:=Tryz.underlying232
 a70:=Tryz.isAgg232
 z70:=Tryz.sizeOf232
 v70:=Tryz.zeroValue232
 t76:=Tryz.underlying247
 a76:=Tryz.isAgg247
 z76:=Tryz.sizeOf247
 v76:=Tryz.zeroValue247
 t77:=Tryz.underlying248
 a77:=Tryz.isAgg248
 z77:=Tryz.sizeOf248
 v77:=Tryz.zeroValue248}
end
theorem lR (p:Option Addr) (n cap:Nat) (fv:Value) (w:World) (hn:n≤1):
  Calls Tryz.prog 148 #[.slice p n cap,.int .i64 0,.int .i64 n,fv] w fun e w'=>e= .returned (.tuple #[])∧w'=w:=by
 go_enter Tryz.func148,Tryz.ntmps148;go_wp2_with fail
 refine wp_loop_rounds 1 ?_;rw [rounds_succ];go_wp2_with fail
 go_end0;exact⟨rfl,rfl⟩
theorem oh (n:Nat) (w:World) (hn:n≤1):
  Calls Tryz.prog 104 #[.int .u64 n] w fun e w'=>(∃r:Int,e= .returned (.int .i64 r))∧w'=w:=by
 have hn':n=0∨n=1:=by omega
 have h64:Hid (∀W:World,Calls Tryz.prog 157 #[.int .u64 n] W fun e w'=>(∃r:Int,e= .returned (.int .i64 r))∧w'=W):=by
  intro W;rcases hn' with rfl | rfl
  ·go_enter Tryz.func157,Tryz.ntmps157;go_wp2;go_ret;exact⟨⟨_,rfl⟩,rfl⟩
  ·go_enter Tryz.func157,Tryz.ntmps157;go_wp2;go_ret;exact⟨⟨_,rfl⟩,rfl⟩
 rcases hn' with rfl | rfl
 all_goals
  go_enter Tryz.func104,Tryz.ntmps104;go_wp2_with fail
  refine(ag h64 _).mono ?_;rintro e w1 ⟨⟨r,rfl⟩,rfl⟩;go_wp2_with fail
  go_ret;exact⟨⟨_,rfl⟩,rfl⟩
theorem vF (p:Option Addr) (n cap:Nat) (lim:Int) (fv:Value) (w:World) (hn:n≤1):
  Calls Tryz.prog 103 #[.slice p n cap,.int .i64 0,.int .i64 n,.int .i64 lim,fv] w fun e w'=>e= .returned (.tuple #[])∧w'=w:=by
 go_enter Tryz.func103,Tryz.ntmps103;go_wp2_with fail
 refine wp_loop_rounds 1 ?_;rw [rounds_succ];go_wp2_with fail
 refine(lR _ _ _ _ _ hn).mono ?_;rintro e w1 ⟨rfl,rfl⟩;go_wp2_with fail
 (try simp only [Exit.inBlock,Exit.then]);refine bodyPost_ret (results_none rfl _ _ _) rfl ?_
 exact⟨rfl,rfl⟩
theorem mN (p:Option Addr) (n cap:Nat) (fv:Value) (w:World) (hn:n≤1):
  Calls Tryz.prog 53 #[.slice p n cap,fv] w fun e w'=>e= .returned (.tuple #[])∧w'=w:=by
 go_enter Tryz.func53,Tryz.ntmps53;go_wp2_with fail
 refine(oh n _ hn).mono ?_;rintro e w1 ⟨⟨r,rfl⟩,rfl⟩;go_wp2_with fail
 refine(vF _ _ _ _ _ _ hn).mono ?_;rintro e w1 ⟨rfl,rfl⟩;go_wp2_with fail
 go_end0;exact⟨rfl,rfl⟩
theorem pr {l:List Ar} (hl:l.length≤1):l7 l:=fun body u B w ho hB=>by
 obtain⟨o,c,rfl⟩:=aw ho;refine(mN o l.length c _ w hl).mono ?_;rintro e w1 ⟨rfl,rfl⟩;refine⟨rfl,l,List.Perm.refl _,?_,ho,⟨rfl,rfl,rfl,Nat.le_refl _,fun _ _ _=>rfl⟩⟩
 match l,hl with
 | [],_=>exact List.Pairwise.nil
 | [x],_=>exact List.pairwise_singleton _ _
section
open Go.Sort (grow PermIn SortedIn SWO flatK get_flatK size_flatK HoldsK Holds putRowK putRow putCells mapBlock onCells)
theorem vv (body:ByteArray) (x y:Ar) (w:World):Calls Tryz.prog 54 #[.agg (arC body x).toArray,.agg (arC body y).toArray] w fun e w'=>e= .returned (.int .i64 (aT x.n y.n))∧Grw w w':=by
 have H0:=aa (fun W=>cW x.n y.n W);generalize aT x.n y.n=R at H0⊢;unfold arC;go_enter Tryz.func54,Tryz.ntmps54;go_wp2_with fail
 refine(ag H0 _).mono ?_;rintro e w1 ⟨rfl,rfl⟩;go_wp2_with fail
 go_ret;exact⟨rfl,((Grw.refl w).alloc _).alloc _⟩
abbrev rX:Inhabited Ar:=⟨ar0⟩
def An (x y:Ar):Int:=aT x.n y.n
theorem Ai (x y:Ar):ltOf An x y=decide (x.n<y.n):=by
 unfold ltOf An aT;by_cases h:x.n<y.n
 ·simp [h]
 ·by_cases h2:y.n<x.n
  ·simp [h,h2]
  ·simp [h,h2]
theorem BZ:SWO (ltOf An) where
 irrefl x:=by rw [Ai];simp
 trans x y z h1 h2:=by
  rw [Ai]at*;simp only [decide_eq_true_eq]at*;omega
 ntrans x y z h1 h2:=by
  rw [Ai]at*;simp only [decide_eq_false_iff_not]at*;omega
section
variable {w:World} {blk:Nat} {body:ByteArray}
theorem vN (n:Nat) (d:Array Ar) (os:Array Obj):letI:=rX
  w.grownBy (sortWorldK (arC body) 9 w blk 0 n d os) (some blk):=by
 letI:=rX
 refine⟨rfl,rfl,rfl,?_,fun k hk hne=>?_⟩
 ·exact size_sortWorldK_c (arC body) 9 w blk 0 n d os
 ·unfold sortWorldK;rw [Go.Sort.heap_grow_old _ _ (by rw [Go.Sort.size_putRowK];exact hk)];unfold putRowK putRow mapBlock;simp only [Array.getElem?_modify];rw [if_neg (fun h=>hne (by rw [h]))];rfl
theorem xJ (l:List Ar):letI:=rX
  (flatK (arC body) 9 l.toArray).toList=AR body l:=by
 letI:=rX
 refine List.ext_getElem? fun j=>?_;have hl:(AR body l).length=l.length*9:=by
  unfold AR
  induction l with
  | nil=>rfl
  | cons x r ih=>rw [List.flatMap_cons,List.length_append,ih,List.length_cons];show 9+_=_;omega
 by_cases hj:j<l.length*9
 ·have hsz:j<(flatK (arC body) 9 l.toArray).size:=by rw [size_flatK];simpa using hj
  rw [Array.getElem?_toList,Array.getElem?_eq_getElem hsz, ←getElem!_pos _ j hsz,get_flatK _ _ _ _ (by simpa using hj)];have hi:j/9<l.length:=(by omega);have e:j=j/9*9+j%9:=(by omega);have hf:=mR (arC body) 9 (fun _=>rfl) ar0 l (j/9) (j%9) hi (by omega);rw [←e]at hf;unfold AR;rw [hf];have hd:l.toArray[j/9]! =l.getD (j/9) ar0:=by
   rw [getElem!_pos _ _ (by simpa using hi)];simp [List.getD,List.getElem?_eq_getElem hi]
  rw [hd];have hm:j%9<(arC body (l.getD (j/9) ar0)).length:=by show _<9;omega
  rw [List.getElem?_eq_getElem hm,getElem!_pos (arC body (l.getD (j/9) ar0)) (j%9) hm]
 ·rw [List.getElem?_eq_none (by rw [Array.length_toList,size_flatK];simp;omega),List.getElem?_eq_none (by omega)]
theorem oa (B cap:Nat) (lo:List Ar) (hown:w.ownsRow B 49 9 (.slice (some ⟨blk,0,none⟩) lo.length cap) lo.length (AR body lo)) (hl:lo.length≤2000000):
  Calls Tryz.prog 53 #[.slice (some ⟨blk,0,none⟩) lo.length cap,.func (.func 54) #[] #[]] w fun e w'=>e= .returned (.tuple #[])∧∃lo':List Ar,lo'.Perm lo∧iJ lo'∧w'.ownsRow B 49 9 (.slice (some ⟨blk,0,none⟩) lo.length cap) lo.length (AR body lo')∧w.grownBy w' (some blk):=by
 letI:=rX
 have eg:∀args w,(callFunc 54 args).run Tryz.prog w= .ok (.enter 54 args) w:=enters_of Tryz.func54 (by kernel_rfl) rfl;have hfl:=xJ (body:=body) lo;have hown':=hown;obtain⟨hlen,⟨h,_⟩ |⟨g',cap',cur,hv,hB,hheap,hnc,hcm,hcs,htk⟩⟩:=hown
 ·simp at h
 simp only [Value.slice.injEq,Option.some.injEq,Addr.mk.injEq]at hv;obtain⟨⟨rfl,_⟩,_,rfl⟩:=hv;have hblk:blk<w.heap.size:=by
  rcases Nat.lt_or_ge blk w.heap.size with h' | h'
  ·exact h'
  ·simp [Array.getElem?_eq_none h']at hheap
 obtain⟨d,hd⟩:∃d,d=lo.toArray:=⟨_,rfl⟩;have hds:d.size=lo.length:=by rw [hd];simp
 rw [←hd]at hfl;have hH:HoldsK (arC body) 9 w blk 0 d:=by
  intro j hj;rw [size_flatK,hds]at hj;have hc:=hown'.cellAt j hj;have hf:=hown'.frozenAt j;have e:(AR body lo)[j]? =some ((flatK (arC body) 9 d)[j]!):=by
   rw [←hfl,Array.getElem?_toList,Array.getElem?_eq_getElem (by rw [size_flatK,hds];exact hj),getElem!_pos _ j (by rw [size_flatK,hds];exact hj)]
  rw [Nat.zero_add];exact⟨hc.trans e,hf⟩
 have hone:∀x:Ar,∀v∈arC body x,v.oneCell'=true:=fun x v hv=>by
  unfold arC at hv;simp only [List.mem_cons,List.not_mem_nil,or_false]at hv;rcases hv with rfl | rfl | rfl | rfl | rfl | rfl | rfl | rfl | rfl <;>rfl
 have hcon:=AnyQ.slices_SortFunc Tryz.sortAr 9 Tryz.isAgg49 Tryz.sizeOf49 (arC body) (fun _=>rfl) hone An BZ 54 #[] blk 0 cap d w eg (fun m os dk _ x y=>vv body x y _) hH hblk (by omega);rw [hds]at hcon;refine Calls.mono hcon ?_;rintro e w' ⟨he,d',n,os,hp,hs,rfl⟩;have hds':d'.size=lo.length:=by rw [hp.1,hds]
 have hfl':(flatK (arC body) 9 d').toList=AR body d'.toList:=xJ (body:=body) d'.toList;refine⟨he,d'.toList,?_,?_,?_,?_⟩
 ·have h1:=hp.2.2;have e1:d'.extract 0 lo.length=d':=by rw [←hds'];simp
  have e2:d.extract 0 lo.length=d:=by rw [←hds];simp
  rw [e1,e2,hd]at h1;simpa using h1
 ·unfold iJ;rw [List.pairwise_iff_getElem];intro i j hi hj hij;have hi':i<d'.size:=(by simpa using hi);have hj':j<d'.size:=(by simpa using hj);have h1:=hs i j (Nat.zero_le _) hij (by omega);rw [Ai,getElem!_pos d' i hi',getElem!_pos d' j hj']at h1;simpa using h1
 ·have hcl:(AR body d'.toList).length=lo.length*9:=(by rw [←hfl',Array.length_toList,size_flatK,hds']);refine⟨hcl,.inr ⟨blk,cap,putCells id 0 (flatK (arC body) 9 d') cur,rfl,hB,?_,hnc,hcm,?_,?_⟩⟩
  ·unfold sortWorldK;rw [Go.Sort.heap_grow_old _ _ (by rw [Go.Sort.size_putRowK];exact hblk)];unfold putRowK putRow mapBlock;simp only [Array.getElem?_modify,if_true];show(w.heap[blk]?).map _=_;rw [hheap];rfl
  ·rw [←hcs];simp [putCells]
  ·rw [←hfl'];refine List.ext_getElem? fun j=>?_;by_cases hj:j<lo.length*9
   ·rw [List.getElem?_take,if_pos hj,Array.getElem?_toList,Array.getElem?_toList];unfold putCells;rw [Array.getElem?_mapIdx];have hjc:j<cur.size:=by rw [hcs];omega
    have hjf:j<(flatK (arC body) 9 d').size:=by rw [size_flatK,hds'];exact hj
    rw [Array.getElem?_eq_getElem hjc,Array.getElem?_eq_getElem hjf];simp only [Option.map_some,Nat.zero_le,true_and,Nat.zero_add,Nat.sub_zero,id];rw [if_pos hjf,getElem!_pos _ j hjf]
   ·rw [List.getElem?_eq_none (by simp;omega),List.getElem?_eq_none (by rw [Array.length_toList,size_flatK,hds'];omega)]
 ·exact vN n d' os
end
theorem rU {l:List Ar} (hl:l.length≤2000000):l7 l:=fun body u B w ho hB=>by
 by_cases h1:l.length≤1
 ·exact pr h1 body u B w ho hB
 obtain⟨oo,oc,rfl,_,hg⟩:=dG ho;obtain⟨g,rfl,_,_⟩:=hg (by omega);exact oa B oc l ho hl
end
section
variable {S:List Sw} {P:List Pr} {A:List Ac}
theorem zR (hm:may S P A=true) {p:Pr} (hp:p∈P) (d sc k a b t o:Int):(led S P A p.c p.i d sc k a b t o).length≤100:=by
 obtain⟨hS,hP,_⟩:=bR hm;have hl:=(dy hS hP).1;rw [rq hm hp];split
 ·split
  ·have:=ry hm hp p.c p.m p.p b;omega
  ·split
   ·unfold qk;rw [List.length_append,List.length_map,List.length_map];have h1:=List.length_filter_le (brB (er S p.s) p.i d) P;have h2:=List.length_filter_le (rtB S (er S p.s) d b t) P;omega
   ·simp
 ·simp
end
def xZ (w:World) (b0:Nat) (p:Pr→Bool):Prop:=∀(W:World) (x:Pr),Below w.heap.size w W→Calls Tryz.prog 106 #[.agg #[.int .i64 x.i,.int .i64 x.s,.int .i64 x.m,.int .i64 x.p,.int .i64 x.c],.pointer (some ⟨b0,0,none⟩)] W fun e w'=>e= .returned (.bool (p x))∧Below W.heap.size W w'
theorem vW (l:List Pr) (p:Pr→Bool) (v:Value) (b0:Nat) (w:World) (hF:eS w v l) (hT:xZ w b0 p) (hl:l.length*40≤140737488355328):
  Calls Tryz.prog 48 #[v,.func (.func 106) #[] #[.pointer (some ⟨b0,0,none⟩)]] w fun e w'=>e= .returned (.int .i64 (idx p l))∧Below w.heap.size w w':=by
 have HF:=aa hF;have HT:=aa hT;obtain⟨a,cap,rfl⟩:=hF.slice;clear hF hT;go_enter Tryz.func48,Tryz.ntmps48;go_wp2_with fail
 go_loopw [8] (fun i wr=>∃k:Nat,k≤l.length∧i= .int .i64 k∧Hid (∀j,j<k→p (l.getD j pr0)=false)∧Below w.heap.size w wr) (fun i _=>l.length-(intOf i).toNat)
 case atStart=>exact⟨0,by omega,rfl,aa (fun j h=>absurd h (by omega)),Below.refl _ _⟩
 case round=>
  obtain⟨k,hk,rfl,HALL,hbr⟩:=hrel;by_cases hlt:k<l.length
  ·obtain⟨b,off,cap',e1,hcap, -,g0,g1,g2,g3,g4⟩:=eO (RowAt.below HF.out hbr zr) hlt;simp only [Value.slice.injEq,true_and]at e1;obtain⟨rfl,rfl⟩:=e1;have HST:Hid (∀W:World,Below w.heap.size w W→Calls Tryz.prog 106 #[.agg #[.int .i64 (l.getD k pr0).i,.int .i64 (l.getD k pr0).s,.int .i64 (l.getD k pr0).m,.int .i64 (l.getD k pr0).p,.int .i64 (l.getD k pr0).c],.pointer (some ⟨b0,0,none⟩)] W fun e w'=>e= .returned (.bool (p (l.getD k pr0)))∧Below W.heap.size W w'):=fun W hW=>HT.out W _ hW;have HNX:Hid (p (l.getD k pr0)=false→∀j,j<k+1→p (l.getD j pr0)=false):=fun h j hj=>by
    by_cases e:j=k
    ·subst e;exact h
    ·exact HALL.out j (by omega)
   have HFD:Hid (p (l.getD k pr0)=true→idx p l=k):=fun h=>gW pr0 hlt HALL.out h;generalize p (l.getD k pr0)=R at*;generalize (l.getD k pr0).i=y0 at*;generalize (l.getD k pr0).s=y1 at*;generalize (l.getD k pr0).m=y2 at*;generalize (l.getD k pr0).p=y3 at*;generalize (l.getD k pr0).c=y4 at*;have q1:(0:Int)≤(k:Int):=(by omega);have q2:(k:Int)<(l.length:Int):=(by omega);clear HALL;go_wp2_with fail
   refine(ag HST _ ?_).mono ?_
   ·first | exact hbr | exact hbr.drew | exact⟨hbr.os,hbr.tape,hbr.output,hbr.size,hbr.block⟩
   rintro e w1 ⟨rfl,hb1⟩;have HB1:Hid (Below w.heap.size w w1):=hbr.trans (hb1.mono hbr.size);clear hb1 hbr HST g0 g1 g2 g3 g4;cases R
   ·have HN:=aa (HNX.out rfl);clear HNX HFD;go_wp2_with fail
    go_roundw
    case rel=>exact⟨k+1,by omega,by go_num,HN,HB1.out⟩
    case measure=>simp [intOf];omega
   ·have HN:=aa (HFD.out rfl);clear HNX HFD;go_wp2_with fail
    go_ret;exact⟨am HN.out.symm,HB1.out⟩
  ·have HN:Hid (idx p l= -1):=gP pr0 fun i hi=>HALL.out i (by omega);have HB1:=aa hbr;clear HALL hbr;go_wp2_with fail
   go_ret;exact⟨am HN.out.symm,HB1.out⟩
structure Ax where
 k:Int
 si:Int
 st:Int
 sg:Int
 pi:Int
 ps:Int
 pm:Int
 pp:Int
 pc:Int
 rs:Int
 rp:Int
 rn:Bool
 rf:Int
 rb:Int
 rt:Int
 re:Int
 ro:Int
 rd:Bool
 n:Int
 m:Int
 f0:Int
 f1:Int
 f2:Int
 f3:Int
 f4:Int
 f5:Int
 f6:Int
 body:ByteArray
def Ax.s (a:Ax):Sw:=⟨a.si,a.st,a.sg⟩
def Ax.p (a:Ax):Pr:=⟨a.pi,a.ps,a.pm,a.pp,a.pc⟩
def Ax.r (a:Ax):Ac:=⟨a.rs,a.rp,a.rn,a.rf,a.rb,a.rt,a.re,a.ro,a.rd⟩
abbrev dC (a:Ax):Value:=.agg #[.int .i64 a.k,.int .i64 a.si,.int .i64 a.st,.int .i64 a.sg,.int .i64 a.pi,.int .i64 a.ps,.int .i64 a.pm,.int .i64 a.pp,.int .i64 a.pc,.int .i64 a.rs,.int .i64 a.rp,.bool a.rn,.int .i64 a.rf,.int .i64 a.rb,.int .i64 a.rt,.int .i64 a.re,.int .i64 a.ro,.bool a.rd,.int .i64 a.n,.int .i64 a.m,.int .i64 a.f0,.int .i64 a.f1,.int .i64 a.f2,.int .i64 a.f3,.int .i64 a.f4,.int .i64 a.f5,.int .i64 a.f6,.string a.body]
theorem wO (x:Pr) (id:Int) (b:Nat) (w:World) (h:w.cell? ⟨b,0,none⟩=some (.int .i64 id)):
  Calls Tryz.prog 106 #[.agg #[.int .i64 x.i,.int .i64 x.s,.int .i64 x.m,.int .i64 x.p,.int .i64 x.c],.pointer (some ⟨b,0,none⟩)] w fun e w'=>e= .returned (.bool (x.i==id))∧Below w.heap.size w w':=by
 have hlt:=aq h;have hne:b≠w.heap.size:=by omega
 go_enter Tryz.func106,Tryz.ntmps106;go_wp2
 all_goals go_ret
 all_goals exact⟨aA (by rw [Bool.eq_iff_iff] <;>simp),(Below.refl _ _).alloc zr _⟩
theorem Be {w:World} {b:Nat} {id:Int} (h:w.cell? ⟨b,0,none⟩=some (.int .i64 id)):xZ w b (fun x=>x.i==id):=fun W x hW=>wO x id b W (zC h hW)
def pat (P:List Pr) (id:Int):Int:=idx (fun x=>x.i==id) P
theorem jv (sv pv av:Value) (S:List Sw) (P:List Pr) (A:List Ac) (id:Int) (w:World) (hC:CfAt w sv pv av S P A) (h2:P.length*40≤140737488355328):
  Calls Tryz.prog 57 #[.agg #[sv,pv,av],.int .i64 id] w fun e w'=>e= .returned (.int .i64 (pat P id))∧Below w.heap.size w w':=by
 have HI:Hid (∀(W:World) (b:Nat),Below w.heap.size w W→W.cell? ⟨b,0,none⟩=some (.int .i64 id)→Calls Tryz.prog 48 #[pv,.func (.func 106) #[] #[.pointer (some ⟨b,0,none⟩)]] W fun e w'=>e= .returned (.int .i64 (pat P id))∧Below W.heap.size W w'):=
  fun W b hW a=>vW P _ pv _ W (RowAt.below hC.2.1 hW zr) (Be a) h2
 obtain⟨s1,s2,rfl⟩:=hC.1.slice;obtain⟨p1,p2,rfl⟩:=hC.2.1.slice;obtain⟨a1,a2,rfl⟩:=hC.2.2.slice;clear hC;generalize pat P id=R at*;go_enter Tryz.func57,Tryz.ntmps57;go_wp2_with fail
 refine(ag HI _ _ (((Below.refl _ _).alloc zr _).alloc (by simp) _) (by first | exact ah _ _ (by simp) _ _ _ _ rfl | exact aG (ah w _ rfl _ _ _ _ rfl) _)).mono ?_;rintro e w1 ⟨rfl,hb1⟩;have hb:Below w.heap.size w w1:=(((Below.refl _ w).alloc zr _).alloc (by simp) _).trans (hb1.mono (by simp;omega));clear hb1 HI;go_wp2_with fail
 go_ret;exact⟨rfl,hb⟩
theorem fD (place many:Int) (w:World) (h0:0≤many) (h1:many≤1000000000000000):
  Calls Tryz.prog 56 #[.int .i64 place,.int .i64 many] w fun e w'=>e= .returned (.int .i64 (if inB place 0 (many-1)=true then 0 else 6))∧w'=w:=by
 have HW:=aa (fun W=>dd place 0 (many-1) W);have hw:IntKind.i64.wrap (many-1)=many-1:=by
  simp [IntKind.wrap,IntKind.bits,IntKind.signed];split <;>omega
 generalize inB place 0 (many-1)=R at*;go_enter Tryz.func56,Tryz.ntmps56;go_wp2_with fail
 refine(ag HW _).mono ?_;rintro e w' ⟨rfl,rfl⟩;cases R
 ·go_wp2_with fail
  go_ret;exact⟨rfl,rfl⟩
 ·go_wp2_with fail
  go_ret;exact⟨rfl,rfl⟩
theorem n9 (sv pv av:Value) (S:List Sw) (P:List Pr) (A:List Ac) (id m:Int) (w:World) (hC:CfAt w sv pv av S P A) (h2:P.length*40≤140737488355328):
  Calls Tryz.prog 58 #[.agg #[sv,pv,av],.int .i64 id,.int .i64 m] w fun e w'=>e= .returned (.int .i64 (if inB (pat P id) 0 (P.length-1)=true then(if inB m (-1) 5=true then 0 else 2)else 6))∧Below w.heap.size w w':=by
 have HI:Hid (∀(W:World),Below w.heap.size w W→Calls Tryz.prog 57 #[.agg #[sv,pv,av],.int .i64 id] W fun e w'=>e= .returned (.int .i64 (pat P id))∧Below W.heap.size W w'):=fun W hW=>jv sv pv av S P A id W (hC.below hW zr) h2;have HT:=aa (fun W=>fD (pat P id) (P.length:Int) W (by omega) (by omega));have HB:=aa (fun W=>jk m W);obtain⟨s1,s2,rfl⟩:=hC.1.slice;obtain⟨p1,p2,rfl⟩:=hC.2.1.slice;obtain⟨a1,a2,rfl⟩:=hC.2.2.slice;clear hC;obtain⟨E,hE⟩:∃E:Int,E=if inB (pat P id) 0 ((P.length:Int)-1)=true then 0 else 6:=⟨_,rfl⟩;rw [←hE]at HT;have HE:=aa hE;clear hE;generalize inB (pat P id) 0 ((P.length:Int)-1)=R at*;generalize pat P id=I at*;generalize inB m (-1) 5=Q at*;have hb0:Below w.heap.size w (w.alloc (.cells #[.slice s1 S.length s2,.slice p1 P.length p2,.slice a1 A.length a2] 30)):=(Below.refl _ _).alloc zr _;go_enter Tryz.func58,Tryz.ntmps58;go_wp2_with fail
 obtain⟨W0,hW0⟩:∃W0,W0=w.alloc (.cells #[.slice s1 S.length s2,.slice p1 P.length p2,.slice a1 A.length a2] 30):=⟨_,rfl⟩;have c0:W0.cell? ⟨w.heap.size,0,none⟩=some (.slice s1 S.length s2):=zN1 hW0 rfl;have c1:W0.cell? ⟨w.heap.size,1,none⟩=some (.slice p1 P.length p2):=zN1 hW0 rfl;have c2:W0.cell? ⟨w.heap.size,2,none⟩=some (.slice a1 A.length a2):=zN1 hW0 rfl;rw [←hW0]at hb0⊢;clear hW0;go_region_held3 (fun w'=>w'.cell? ⟨w.heap.size,0,none⟩=some (.slice s1 S.length s2)∧w'.cell? ⟨w.heap.size,1,none⟩=some (.slice p1 P.length p2)∧w'.cell? ⟨w.heap.size,2,none⟩=some (.slice a1 A.length a2)) (go_keep)
  (first |(go_at_call 57;refine(ag HI _ hb0.drew).mono ?_;rintro e w1 ⟨rfl,hc1⟩;have g1:Below W0.heap.size W0 w1:=((Below.refl _ W0).drew).trans hc1;have hb:Below w.heap.size w w1:=hb0.trans (g1.mono hb0.size);have z0:=zC c0 g1;have z1:=zC c1 g1;have z2:=zC c2 g1) |(go_at_call 56;refine(ag HT _).mono ?_;rintro e w2 ⟨rfl,rfl⟩))
 clear c0 c1 c2 z0 z1 z2 g1 hc1 hb0 HI HT;cases R
 ·obtain rfl:E=6:=HE.out;go_wp2_with fail
  go_ret;exact⟨rfl,hb⟩
 ·obtain rfl:E=0:=HE.out;go_wp2_with fail
  refine(ag HB _).mono ?_;rintro e w2 ⟨rfl,rfl⟩;cases Q
  ·go_wp2_with fail
   go_ret;exact⟨rfl,hb⟩
  ·go_wp2_with fail
   go_ret;exact⟨rfl,hb⟩
def bJ (S:List Sw) (P:List Pr) (A:List Ac) (a:Ax):Int:=
 if a.k=1 then bl S P a.s else if a.k=2 then bm S P a.p else if a.k=3 then bw S A a.r else if a.k=4 then(if inB (pat P a.n) 0 (P.length-1)=true then 0 else 6)else
 if a.k=6 then(if inB (pat P a.n) 0 (P.length-1)=true then(if inB a.m (-1) 5=true then 0 else 2)else 6)else if a.k=5 then(if inB a.n 0 (A.length-1)=true then 0 else 6)else 3
theorem pM (sv pv av:Value) (S:List Sw) (P:List Pr) (A:List Ac) (a:Ax) (w:World) (hC:CfAt w sv pv av S P A) (h1:S.length*24≤140737488355328) (h2:P.length*40≤140737488355328) (h3:A.length*72≤140737488355328):
  Calls Tryz.prog 34 #[.agg #[sv,pv,av],dC a] w fun e w'=>e= .returned (.int .i64 (bJ S P A a))∧Below w.heap.size w w':=by
 have H1:=aa (fun W (hW:Below w.heap.size w W)=>ig sv pv av S P A a.s W (hC.below hW zr) h1 h2);have H2:=aa (fun W (hW:Below w.heap.size w W)=>jh sv pv av S P A a.p W (hC.below hW zr) h1 h2);have H3:=aa (fun W (hW:Below w.heap.size w W)=>ku sv pv av S P A a.r W (hC.below hW zr) h1);have H4:=aa (fun W (hW:Below w.heap.size w W)=>jv sv pv av S P A a.n W (hC.below hW zr) h2);have H5:=aa (fun W=>fD (pat P a.n) (P.length:Int) W (by omega) (by omega));have H6:=aa (fun W (hW:Below w.heap.size w W)=>n9 sv pv av S P A a.n a.m W (hC.below hW zr) h2);have H7:=aa (fun W=>fD a.n (A.length:Int) W (by omega) (by omega));obtain⟨s1,s2,rfl⟩:=hC.1.slice;obtain⟨p1,p2,rfl⟩:=hC.2.1.slice;obtain⟨a1,a2,rfl⟩:=hC.2.2.slice;clear hC;obtain⟨k,si,st,sg,pi,ps,pm,pp,pc,rs,rp,rn,rf,rb,rt,re,ro,rd,n,m,f0,f1,f2,f3,f4,f5,f6,body⟩:=a;have hcase:k=1∨k=2∨k=3∨k=4∨k=5∨k=6∨(¬k=1∧¬k=2∧¬k=3∧¬k=4∧¬k=5∧¬k=6):=by omega
 have HR:Hid (bJ S P A ⟨k,si,st,sg,pi,ps,pm,pp,pc,rs,rp,rn,rf,rb,rt,re,ro,rd,n,m,f0,f1,f2,f3,f4,f5,f6,body⟩=if k=1 then bl S P ⟨si,st,sg⟩else if k=2 then bm S P ⟨pi,ps,pm,pp,pc⟩else if k=3 then bw S A ⟨rs,rp,rn,rf,rb,rt,re,ro,rd⟩else if k=4 then(if inB (pat P n) 0 (P.length-1)=true then 0 else 6)else
  if k=6 then(if inB (pat P n) 0 (P.length-1)=true then(if inB m (-1) 5=true then 0 else 2)else 6)else if k=5 then(if inB n 0 (A.length-1)=true then 0 else 6)else 3):=rfl
 generalize bJ S P A ⟨k,si,st,sg,pi,ps,pm,pp,pc,rs,rp,rn,rf,rb,rt,re,ro,rd,n,m,f0,f1,f2,f3,f4,f5,f6,body⟩=R at*;simp only [Ax.s,Ax.p,Ax.r]at H1 H2 H3 H4 H5 H6 H7⊢;generalize bl S P ⟨si,st,sg⟩=E1 at*;generalize bm S P ⟨pi,ps,pm,pp,pc⟩=E2 at*;generalize bw S A ⟨rs,rp,rn,rf,rb,rt,re,ro,rd⟩=E3 at*;generalize (if inB (pat P n) 0 ((P.length:Int)-1)=true then(if inB m (-1) 5=true then(0:Int)else 2)else 6)=E6 at*;generalize (if inB (pat P n) 0 ((P.length:Int)-1)=true then(0:Int)else 6)=E4 at*;generalize (if inB n 0 ((A.length:Int)-1)=true then(0:Int)else 6)=E5 at*;generalize pat P n=I at*;have hb0:Below w.heap.size w ((w.alloc (.cells #[.slice s1 S.length s2,.slice p1 P.length p2,.slice a1 A.length a2] 30)).alloc (.cells #[.int .i64 k,.int .i64 si,.int .i64 st,.int .i64 sg,.int .i64 pi,.int .i64 ps,.int .i64 pm,.int .i64 pp,.int .i64 pc,.int .i64 rs,.int .i64 rp,.bool rn,.int .i64 rf,.int .i64 rb,.int .i64 rt,.int .i64 re,.int .i64 ro,.bool rd,.int .i64 n,.int .i64 m,.int .i64 f0,.int .i64 f1,.int .i64 f2,.int .i64 f3,.int .i64 f4,.int .i64 f5,.int .i64 f6,.string body] 44)):=((Below.refl _ _).alloc zr _).alloc (by simp) _;go_enter Tryz.func34,Tryz.ntmps34;rcases hcase with rfl | rfl | rfl | rfl | rfl | rfl |⟨k1,k2,k3,k4,k5,k6⟩
 ·go_wp2_with fail
  refine(ag H1 _ hb0).mono ?_;rintro e w1 ⟨rfl,hb1⟩;have hb:=hb0.trans (hb1.mono hb0.size);clear hb0 hb1 H1 H2 H3 H4 H5 H6 H7;go_wp2_with fail
  go_ret;exact⟨am (by rw [HR.out];simp),hb⟩
 ·go_wp2_with fail
  refine(ag H2 _ hb0).mono ?_;rintro e w1 ⟨rfl,hb1⟩;have hb:=hb0.trans (hb1.mono hb0.size);clear hb0 hb1 H1 H2 H3 H4 H5 H6 H7;go_wp2_with fail
  go_ret;exact⟨am (by rw [HR.out];simp),hb⟩
 ·go_wp2_with fail
  refine(ag H3 _ hb0).mono ?_;rintro e w1 ⟨rfl,hb1⟩;have hb:=hb0.trans (hb1.mono hb0.size);clear hb0 hb1 H1 H2 H3 H4 H5 H6 H7;go_wp2_with fail
  go_ret;exact⟨am (by rw [HR.out];simp),hb⟩
 ·go_wp2_with fail
  obtain⟨W0,hW0⟩:∃W0,W0=(w.alloc (.cells #[.slice s1 S.length s2,.slice p1 P.length p2,.slice a1 A.length a2] 30)).alloc (.cells #[.int .i64 4,.int .i64 si,.int .i64 st,.int .i64 sg,.int .i64 pi,.int .i64 ps,.int .i64 pm,.int .i64 pp,.int .i64 pc,.int .i64 rs,.int .i64 rp,.bool rn,.int .i64 rf,.int .i64 rb,.int .i64 rt,.int .i64 re,.int .i64 ro,.bool rd,.int .i64 n,.int .i64 m,.int .i64 f0,.int .i64 f1,.int .i64 f2,.int .i64 f3,.int .i64 f4,.int .i64 f5,.int .i64 f6,.string body] 44):=⟨_,rfl⟩;have c0:W0.cell? ⟨w.heap.size,0,none⟩=some (.slice s1 S.length s2):=by rw [hW0];exact aG (ah w _ rfl _ _ _ _ rfl) _
  have c1:W0.cell? ⟨w.heap.size,1,none⟩=some (.slice p1 P.length p2):=by rw [hW0];exact aG (ah w _ rfl _ _ _ _ rfl) _
  have c2:W0.cell? ⟨w.heap.size,2,none⟩=some (.slice a1 A.length a2):=by rw [hW0];exact aG (ah w _ rfl _ _ _ _ rfl) _
  have c3:W0.cell? ⟨w.heap.size+1,18,none⟩=some (.int .i64 n):=by rw [hW0];exact ah _ _ (by simp) _ _ _ _ rfl
  rw [←hW0]at hb0⊢;clear hW0 H1 H2 H3 H6 H7;go_region_held3 (fun w'=>w'.cell? ⟨w.heap.size,0,none⟩=some (.slice s1 S.length s2)∧w'.cell? ⟨w.heap.size,1,none⟩=some (.slice p1 P.length p2)∧w'.cell? ⟨w.heap.size,2,none⟩=some (.slice a1 A.length a2)∧w'.cell? ⟨w.heap.size+1,18,none⟩=some (.int .i64 n)) (go_keep)
   (first |(go_at_call 57;refine(ag H4 _ hb0.drew).mono ?_;rintro e w1 ⟨rfl,hc1⟩;have g1:Below W0.heap.size W0 w1:=((Below.refl _ W0).drew).trans hc1;have hb:Below w.heap.size w w1:=hb0.trans (g1.mono hb0.size);have z0:=zC c0 g1;have z1:=zC c1 g1;have z2:=zC c2 g1;have z3:=zC c3 g1) |(go_at_call 56;refine(ag H5 _).mono ?_;rintro e w2 ⟨rfl,rfl⟩))
  clear c0 c1 c2 c3 z0 z1 z2 z3 g1 hc1 hb0 H4 H5;go_wp2_with fail
  go_ret;exact⟨am (by rw [HR.out];simp),hb⟩
 ·clear H1 H2 H3 H4 H5 H6;go_wp2_with fail
  refine(ag H7 _).mono ?_;rintro e w2 ⟨rfl,rfl⟩;go_wp2_with fail
  go_ret;exact⟨am (by rw [HR.out];simp),hb0⟩
 ·go_wp2_with fail
  refine(ag H6 _ hb0).mono ?_;rintro e w1 ⟨rfl,hb1⟩;have hb:=hb0.trans (hb1.mono hb0.size);clear hb0 hb1 H1 H2 H3 H4 H5 H6 H7;go_wp2_with fail
  go_ret;exact⟨am (by rw [HR.out];simp),hb⟩
 ·clear H1 H2 H3 H4 H5 H6 H7;go_wp2_with fail
  go_ret;exact⟨am (by rw [HR.out];simp_all),hb0⟩
theorem tg {w:World} {g j:Nat} {v:Value} {cur:Array Value} {e:TypeId} (h:w.heap[g]? =some (.cells cur e (0,0))):(w.setCell ⟨g,j,none⟩ v).heap[g]? =some (.cells (cur.setIfInBounds j v) e (0,0)):=by
 rw [Go.Sort.setCell_eq];unfold Go.Sort.mapBlock;simp only [Array.getElem?_modify,if_true];rw [h];rfl
theorem ld {w:World} {B e size n cap g:Nat} {xs:List Value} (h:w.ownsRow B e size (.slice (some ⟨g,0,none⟩) n cap) n xs) (j:Nat) (v:Value):(w.setCell ⟨g,j,none⟩ v).ownsRow B e size (.slice (some ⟨g,0,none⟩) n cap) n (xs.set j v):=by
 obtain⟨hlen,⟨h,_⟩ |⟨g',cap',cur,hv,hB,hheap,hnc,hcm,hcs,htk⟩⟩:=h
 ·simp at h
 simp only [Value.slice.injEq,Option.some.injEq,Addr.mk.injEq]at hv;obtain⟨⟨rfl,_⟩,_,rfl⟩:=hv;refine⟨by simpa using hlen,.inr ⟨g,cap,_,rfl,hB,tg hheap,hnc,hcm,by simpa using hcs,?_⟩⟩;rw [←htk,Array.toList_setIfInBounds];refine List.ext_getElem? fun i=>?_;simp only [List.getElem?_take,List.getElem?_set,List.length_take];by_cases hi:i<n*size
 ·simp only [hi,if_true];by_cases hji:j=i
  ·subst hji;simp only [if_true];have:(j<min (n*size) cur.toList.length)↔j<cur.toList.length:=(by omega);simp only [this]
  ·simp [hji]
 ·simp only [hi,if_false];by_cases hji:j=i
  ·subst hji;simp;omega
  ·simp [hji]
theorem wl {xs:List Value} {j:Nat} {v:Value} (h:xs.length≤j):xs.set j v=xs:=List.set_eq_of_length_le h
theorem jL {w:World} {B e size n m cap g:Nat} {xs:List Value} (h:w.ownsRow B e size (.slice (some ⟨g,0,none⟩) n cap) n xs) (hm:m≤n):w.ownsRow B e size (.slice (some ⟨g,0,none⟩) m cap) m (xs.take (m*size)):=by
 obtain⟨hlen,⟨h,_⟩ |⟨g',cap',cur,hv,hB,hheap,hnc,hcm,hcs,htk⟩⟩:=h
 ·simp at h
 simp only [Value.slice.injEq,Option.some.injEq,Addr.mk.injEq]at hv;obtain⟨⟨rfl,_⟩,_,rfl⟩:=hv;have hmn:m*size≤n*size:=Nat.mul_le_mul_right _ hm;refine⟨by rw [List.length_take,hlen];omega,.inr ⟨g,cap,cur,rfl,hB,hheap,by omega,hcm,hcs,?_⟩⟩;rw [←htk,List.take_take,Nat.min_eq_left hmn]
theorem fS {w w':World} {g j:Nat} {v:Value} (h:w.grownBy w' (some g)):w.grownBy (w'.setCell ⟨g,j,none⟩ v) (some g):=
 ⟨h.os,h.tape,h.output,by simpa using h.size,fun k hk hne=>(Below.heap_setCell w' _ _ k (fun e=>hne (by rw [e]))).trans (h.block k hk hne)⟩
theorem fu (w:World) (row:Option Nat):w.grownBy w row:=⟨rfl,rfl,rfl,Nat.le_refl _,fun _ _ _=>rfl⟩
theorem fF {B e size n cap g:Nat} {xs:List Value}:∀(vs:List Value) (o:Nat) (w:World),w.ownsRow B e size (.slice (some ⟨g,0,none⟩) n cap) n xs→n*size≤o→(w.setCells g o vs).ownsRow B e size (.slice (some ⟨g,0,none⟩) n cap) n xs
 | [],_,_,h,_=>h
 | v::r,o,w,h,ho=>by
  have h1:=ld h o v;rw [wl (by rw [h.1];exact ho)]at h1;exact fF r (o+1) _ h1 (by omega)
theorem cl {g:Nat} {w:World}:∀(vs:List Value) (o:Nat) (w':World),w.grownBy w' (some g)→w.grownBy (w'.setCells g o vs) (some g)
 | [],_,_,h=>h
 | v::r,o,w',h=>cl r (o+1) _ (fS h)
def ovr:List Value→Nat→List Value→List Value
 | xs,_,[]=>xs
 | xs,o,v::r=>ovr (xs.set o v) (o+1) r
theorem qf {B e size n cap g:Nat}:∀(vs:List Value) (xs:List Value) (o:Nat) (w:World),w.ownsRow B e size (.slice (some ⟨g,0,none⟩) n cap) n xs→(w.setCells g o vs).ownsRow B e size (.slice (some ⟨g,0,none⟩) n cap) n (ovr xs o vs)
 | [],_,_,_,h=>h
 | v::r,xs,o,w,h=>qf r (xs.set o v) (o+1) _ (ld h o v)
theorem zl:∀(vs:List Value) (xs:List Value) (o:Nat),o+vs.length≤xs.length→ovr xs o vs=xs.take o++vs++xs.drop (o+vs.length)
 | [],xs,o,_=>by simp [ovr]
 | v::r,xs,o,h=>by
  simp only [List.length_cons]at h;simp only [ovr];rw [zl r (xs.set o v) (o+1) (by simp;omega)];have h1:(xs.set o v).take (o+1)=xs.take o++ [v]:=by
   rw [List.take_succ_eq_append_getElem (by simp;omega),List.take_set_of_le zr];simp
  have h2:(xs.set o v).drop (o+1+r.length)=xs.drop (o+(v::r).length):=by
   rw [List.drop_set_of_lt (by omega)];simp only [List.length_cons];congr 1;omega
  rw [h1,h2];simp
theorem ov {α:Type} {C:α→List Value} {sz:Nat} (hC:∀x,(C x).length=sz):∀(l:List α) (k:Nat),(l.flatMap C).take (k*sz)=(l.take k).flatMap C
 | [],k=>by simp
 | x::r,0=>by simp
 | x::r,k+1=>by
  have ih:=ov hC r k;rw [List.flatMap_cons,List.take_succ_cons,List.flatMap_cons, ←ih,List.take_append,hC];have e:(k+1)*sz-sz=k*sz:=by rw [Nat.add_mul];omega
  rw [e,List.take_of_length_le (by rw [hC,Nat.add_mul];omega)]
theorem kQ {α:Type} {C:α→List Value} {sz:Nat} (hC:∀x,(C x).length=sz):∀(l:List α) (k:Nat),(l.flatMap C).drop (k*sz)=(l.drop k).flatMap C
 | [],k=>by simp
 | x::r,0=>by simp
 | x::r,k+1=>by
  have ih:=kQ hC r k;rw [List.flatMap_cons,List.drop_succ_cons, ←ih,List.drop_append,hC];have e:(k+1)*sz-sz=k*sz:=by rw [Nat.add_mul];omega
  rw [e,List.drop_of_length_le (by rw [hC,Nat.add_mul];omega)];simp
theorem qZ {α:Type} {C:α→List Value} {sz:Nat} (hC:∀x,(C x).length=sz) (l:List α) (k:Nat) (hk:k<l.length):(ovr (l.flatMap C) (k*sz) ((l.drop (k+1)).flatMap C)).take ((l.length-1)*sz)=(l.eraseIdx k).flatMap C:=by
 have hl:=cL hC l;have hd:=cL hC (l.drop (k+1));rw [List.length_drop]at hd;have hle:k*sz+(l.length-(k+1))*sz=(l.length-1)*sz:=by rw [←Nat.add_mul];congr 1;omega
 have hle2:(l.length-1)*sz≤l.length*sz:=Nat.mul_le_mul_right _ (by omega);rw [zl _ _ _ (by rw [hl,hd];omega),ov hC,List.take_append_of_le_length]
 ·rw [List.take_of_length_le]
  ·rw [List.eraseIdx_eq_take_drop_succ,List.flatMap_append]
  ·rw [List.length_append,cL hC,hd,List.length_take];have:min k l.length=k:=(by omega);rw [this];omega
 ·rw [List.length_append,cL hC,hd,List.length_take];have:min k l.length=k:=(by omega);rw [this];omega
theorem Aq (w:World) (b o c:Nat) (hc:∀j,j<5→(w.cell? ⟨b,o+j,none⟩).isSome=true) (hf:∀j,j<5→w.frozen? ⟨b,o+j,none⟩=false):
  ∃vs,∀ty,(Builtin.clear_ #[27] ty #[.slice (some ⟨b,o,none⟩) 1 c]).run Tryz.prog w= .ok (.tuple #[]) (w.setCells b o vs):=by
 have hv:∀w,(zeroValue 38).run Tryz.prog w= .ok (.agg #[.int .i64 0,.int .i64 0,.int .i64 0,.int .i64 0,.int .i64 0]) w:=fun w=>by kernel_rfl
 refine⟨(Builtin.zeroCells #[.int .i64 0,.int .i64 0,.int .i64 0,.int .i64 0,.int .i64 0] 1).toList,fun ty=>?_⟩;have hlen:(Builtin.zeroCells #[Value.int .i64 0,.int .i64 0,.int .i64 0,.int .i64 0,.int .i64 0] 1).toList.length=5:=by simp [Builtin.zeroCells]
 have hone:∀v∈(Builtin.zeroCells #[Value.int .i64 0,.int .i64 0,.int .i64 0,.int .i64 0,.int .i64 0] 1).toList,v.oneCell'=true:=dB (by kernel_rfl);have hst:=run_storeCells_cells (P:=Tryz.prog) b o (Builtin.zeroCells #[.int .i64 0,.int .i64 0,.int .i64 0,.int .i64 0,.int .i64 0] 1).toList 0 w (by rw [hlen];simpa using hc) (by rw [hlen];simpa using hf) hone;simp only [Nat.add_zero]at hst;simp [Builtin.clear_,run_underlying Tryz.underlying27,hv,hst,Value.cells]
theorem pC (l:List Pr) (B g cap k:Nat) (w:World) (hown:w.ownsRow B 38 5 (.slice (some ⟨g,0,none⟩) l.length cap) l.length (l.flatMap prC)) (hk:k<l.length) (hl:l.length≤1000):
  Calls Tryz.prog 59 #[.slice (some ⟨g,0,none⟩) l.length cap,.int .i64 k,.int .i64 (k+1)] w fun e w'=>e= .returned (.slice (some ⟨g,0,none⟩) (l.length-1) cap)∧
   w'.ownsRow B 38 5 (.slice (some ⟨g,0,none⟩) (l.length-1) cap) (l.length-1) ((l.eraseIdx k).flatMap prC)∧w.grownBy w' (some g):=by
 obtain⟨i0,hi,hz0,hz1,hz2⟩:=info_parts oZ;have HO:=aa hown;have hcap:l.length≤cap∧cap≤maxLen:=by
  obtain⟨_,⟨h,_⟩ |⟨g',cap',cur,hv,_,_,hnc,hm,_⟩⟩:=hown
  ·simp at h
  ·simp only [Value.slice.injEq]at hv;obtain⟨_,_,rfl⟩:=hv;exact⟨hnc,hm⟩
 obtain⟨hcap,hcm⟩:=hcap;unfold maxLen at hcm;have hcells:∀j,j<l.length*5→w.cell? ⟨g,j,none⟩=(l.flatMap prC)[j]?:=fun j hj=>hown.cellAt j hj;have hfz:∀j,w.frozen? ⟨g,j,none⟩=false:=fun j=>hown.frozenAt j;clear hown;obtain⟨news,hnews⟩:∃news,news=(l.drop (k+1)).flatMap prC:=⟨_,rfl⟩;have hlen:news.length=(l.length-(k+1))*5:=by rw [hnews,cL bI,List.length_drop]
 have hfl:=cL bI l;have hget:∀t u,news[t]? =some u→w.cell? ⟨g,(k+1)*5+t,none⟩=some u:=fun t u hu=>by
  have ht:t<news.length:=(List.getElem?_eq_some_iff.1 hu).1;rw [hcells _ (by rw [hlen]at ht;omega)];rw [hnews, ←kQ bI,List.getElem?_drop]at hu;exact hu
 have s1:Hid (news.length=(l.length-(k+1))*5):=hlen;have s2:Hid (∀u∈news,u.oneCell'=true):=by rw [hnews];exact uD _
 have s3:Hid (∀t,t<news.length→(w.drew.cell? ⟨g,0+k*5+t,none⟩).isSome=true∧w.drew.frozen? ⟨g,0+k*5+t,none⟩=false):=by
  intro t ht;refine⟨?_,hfz _⟩;show(w.cell? _).isSome=true;have hjl:0+k*5+t<l.length*5:=by rw [hlen]at ht;omega
  rw [hcells _ hjl,List.getElem?_eq_getElem (by rw [hfl];exact hjl)];rfl
 obtain⟨A,hA,hsrc⟩:∃A:Addr,(if cap=k+1 then some (⟨g,0,none⟩:Addr)else some ⟨g,(k+1)*5,none⟩)=some A∧Hid (∀t u,news[t]? =some u→w.drew.cell? (A.add t)=some u):=by
  by_cases h:cap=k+1
  ·refine⟨⟨g,0,none⟩,by simp [h],fun t u hu=>?_⟩;have h0:news.length=0:=(by rw [hlen,(show l.length-(k+1)=0 by omega),Nat.zero_mul]);rw [List.length_eq_zero_iff.1 h0]at hu;simp at hu
  ·refine⟨⟨g,(k+1)*5,none⟩,by simp [h],fun t u hu=>?_⟩;rw [gC];exact hget t u hu
 obtain⟨W1,hW1⟩:∃W1,W1=w.drew.setCells g (0+k*5) news:=⟨_,rfl⟩;have HW:Hid (W1=w.drew.setCells g (0+k*5) news):=hW1;have HO1:Hid (W1.ownsRow B 38 5 (.slice (some ⟨g,0,none⟩) l.length cap) l.length (ovr (l.flatMap prC) (k*5) news)):=by
  show World.ownsRow _ _ _ _ _ _ _;rw [hW1,Nat.zero_add];exact qf news _ _ _ HO.out.drew
 have HG1:Hid (w.grownBy W1 (some g)):=by
  show World.grownBy _ _ _;rw [hW1];exact cl news _ _ ⟨rfl,rfl,rfl,Nat.le_refl _,fun _ _ _=>rfl⟩
 obtain⟨vs,hclr⟩:=Aq W1 g ((l.length-1)*5) (cap-(l.length-1)) (fun j hj=>by
  have:=HO1.out.cellAt ((l.length-1)*5+j) (by omega);rw [this,List.getElem?_eq_getElem (by rw [HO1.out.1];omega)];rfl) (fun j hj=>HO1.out.frozenAt _)
 have HP1:Hid (W1.ownsRow B 38 5 (.slice (some ⟨g,0,none⟩) (l.length-1) cap) (l.length-1) ((l.eraseIdx k).flatMap prC)):=by
  show World.ownsRow _ _ _ _ _ _ _;rw [←qZ bI l k hk, ←hnews];exact jL HO1.out (by omega)
 have HP2:=aa (fF vs ((l.length-1)*5) W1 HP1.out zr);have HG2:=aa (cl vs ((l.length-1)*5) W1 HG1.out);clear hW1 hcells hfz hget hlen hfl hnews HO1 HP1 HG1 HO;have hic:k≤cap:=by omega
 have hjc:k+1≤cap:=by omega
 have hq1:(0:Int)≤(k:Int)+1:=by omega
 have hq2:(k:Int)+1≤(l.length:Int):=by omega
 have hq3:k+(l.length-(k+1))=l.length-1:=by omega
 have hq4:l.length-(l.length-1)=1:=by omega
 go_enter Tryz.func59,Tryz.ntmps59;go_wp2_with fail
 go_region_law (refine step_append_room rfl (.tmp 22) (.tmp 25) 27 rfl 38 i0 5 Tryz.underlying27 hi hz1 g 0 k cap (by simp [Act.eval,Act.put]) A (l.length-(k+1)) (cap-(k+1)) news (by simp [Act.eval,Act.put]) s1.out hsrc.out s2.out (by omega) s3.out ?_;rw [←HW.out]);have hr1:((l.length-1:Nat):Int)≤(l.length:Int):=by omega
 have hr2:(l.length:Int)≤(cap:Int):=by omega
 have hr3:¬cap=l.length-1:=by omega
 have hr4:(0:Int)≤((l.length-1:Nat):Int):=by omega
 generalize hq:l.length-1=q at*;clear s1 s2 s3 hsrc hA HW;go_wp2_with (simp only [hclr])
 go_ret;subst hq;exact⟨rfl,HP2.out,HG2.out⟩
theorem AI (w:World) (b o c:Nat) (hc:∀j,j<9→(w.cell? ⟨b,o+j,none⟩).isSome=true) (hf:∀j,j<9→w.frozen? ⟨b,o+j,none⟩=false):
  ∃vs,∀ty,(Builtin.clear_ #[28] ty #[.slice (some ⟨b,o,none⟩) 1 c]).run Tryz.prog w= .ok (.tuple #[]) (w.setCells b o vs):=by
 have hv:∀w,(zeroValue 40).run Tryz.prog w= .ok (.agg #[.int .i64 0,.int .i64 0,.bool false,.int .i64 0,.int .i64 0,.int .i64 0,.int .i64 0,.int .i64 0,.bool false]) w:=fun w=>by kernel_rfl
 refine⟨(Builtin.zeroCells #[.int .i64 0,.int .i64 0,.bool false,.int .i64 0,.int .i64 0,.int .i64 0,.int .i64 0,.int .i64 0,.bool false] 1).toList,fun ty=>?_⟩;have hlen:(Builtin.zeroCells #[Value.int .i64 0,.int .i64 0,.bool false,.int .i64 0,.int .i64 0,.int .i64 0,.int .i64 0,.int .i64 0,.bool false] 1).toList.length=9:=by simp [Builtin.zeroCells]
 have hone:∀v∈(Builtin.zeroCells #[Value.int .i64 0,.int .i64 0,.bool false,.int .i64 0,.int .i64 0,.int .i64 0,.int .i64 0,.int .i64 0,.bool false] 1).toList,v.oneCell'=true:=dB (by kernel_rfl);have hst:=run_storeCells_cells (P:=Tryz.prog) b o (Builtin.zeroCells #[.int .i64 0,.int .i64 0,.bool false,.int .i64 0,.int .i64 0,.int .i64 0,.int .i64 0,.int .i64 0,.bool false] 1).toList 0 w (by rw [hlen];simpa using hc) (by rw [hlen];simpa using hf) hone;simp only [Nat.add_zero]at hst;simp [Builtin.clear_,run_underlying Tryz.underlying28,hv,hst,Value.cells]
theorem pQ (l:List Ac) (B g cap k:Nat) (w:World) (hown:w.ownsRow B 40 9 (.slice (some ⟨g,0,none⟩) l.length cap) l.length (l.flatMap acC)) (hk:k<l.length) (hl:l.length≤1000):
  Calls Tryz.prog 60 #[.slice (some ⟨g,0,none⟩) l.length cap,.int .i64 k,.int .i64 (k+1)] w fun e w'=>e= .returned (.slice (some ⟨g,0,none⟩) (l.length-1) cap)∧
   w'.ownsRow B 40 9 (.slice (some ⟨g,0,none⟩) (l.length-1) cap) (l.length-1) ((l.eraseIdx k).flatMap acC)∧w.grownBy w' (some g):=by
 obtain⟨i0,hi,hz0,hz1,hz2⟩:=info_parts pV;have HO:=aa hown;have hcap:l.length≤cap∧cap≤maxLen:=by
  obtain⟨_,⟨h,_⟩ |⟨g',cap',cur,hv,_,_,hnc,hm,_⟩⟩:=hown
  ·simp at h
  ·simp only [Value.slice.injEq]at hv;obtain⟨_,_,rfl⟩:=hv;exact⟨hnc,hm⟩
 obtain⟨hcap,hcm⟩:=hcap;unfold maxLen at hcm;have hcells:∀j,j<l.length*9→w.cell? ⟨g,j,none⟩=(l.flatMap acC)[j]?:=fun j hj=>hown.cellAt j hj;have hfz:∀j,w.frozen? ⟨g,j,none⟩=false:=fun j=>hown.frozenAt j;clear hown;obtain⟨news,hnews⟩:∃news,news=(l.drop (k+1)).flatMap acC:=⟨_,rfl⟩;have hlen:news.length=(l.length-(k+1))*9:=by rw [hnews,cL cQ,List.length_drop]
 have hfl:=cL cQ l;have hget:∀t u,news[t]? =some u→w.cell? ⟨g,(k+1)*9+t,none⟩=some u:=fun t u hu=>by
  have ht:t<news.length:=(List.getElem?_eq_some_iff.1 hu).1;rw [hcells _ (by rw [hlen]at ht;omega)];rw [hnews, ←kQ cQ,List.getElem?_drop]at hu;exact hu
 have s1:Hid (news.length=(l.length-(k+1))*9):=hlen;have s2:Hid (∀u∈news,u.oneCell'=true):=by rw [hnews];exact uv _
 have s3:Hid (∀t,t<news.length→(w.drew.cell? ⟨g,0+k*9+t,none⟩).isSome=true∧w.drew.frozen? ⟨g,0+k*9+t,none⟩=false):=by
  intro t ht;refine⟨?_,hfz _⟩;show(w.cell? _).isSome=true;have hjl:0+k*9+t<l.length*9:=by rw [hlen]at ht;omega
  rw [hcells _ hjl,List.getElem?_eq_getElem (by rw [hfl];exact hjl)];rfl
 obtain⟨A,hA,hsrc⟩:∃A:Addr,(if cap=k+1 then some (⟨g,0,none⟩:Addr)else some ⟨g,(k+1)*9,none⟩)=some A∧Hid (∀t u,news[t]? =some u→w.drew.cell? (A.add t)=some u):=by
  by_cases h:cap=k+1
  ·refine⟨⟨g,0,none⟩,by simp [h],fun t u hu=>?_⟩;have h0:news.length=0:=(by rw [hlen,(show l.length-(k+1)=0 by omega),Nat.zero_mul]);rw [List.length_eq_zero_iff.1 h0]at hu;simp at hu
  ·refine⟨⟨g,(k+1)*9,none⟩,by simp [h],fun t u hu=>?_⟩;rw [gC];exact hget t u hu
 obtain⟨W1,hW1⟩:∃W1,W1=w.drew.setCells g (0+k*9) news:=⟨_,rfl⟩;have HW:Hid (W1=w.drew.setCells g (0+k*9) news):=hW1;have HO1:Hid (W1.ownsRow B 40 9 (.slice (some ⟨g,0,none⟩) l.length cap) l.length (ovr (l.flatMap acC) (k*9) news)):=by
  show World.ownsRow _ _ _ _ _ _ _;rw [hW1,Nat.zero_add];exact qf news _ _ _ HO.out.drew
 have HG1:Hid (w.grownBy W1 (some g)):=by
  show World.grownBy _ _ _;rw [hW1];exact cl news _ _ ⟨rfl,rfl,rfl,Nat.le_refl _,fun _ _ _=>rfl⟩
 obtain⟨vs,hclr⟩:=AI W1 g ((l.length-1)*9) (cap-(l.length-1)) (fun j hj=>by
  have:=HO1.out.cellAt ((l.length-1)*9+j) (by omega);rw [this,List.getElem?_eq_getElem (by rw [HO1.out.1];omega)];rfl) (fun j hj=>HO1.out.frozenAt _)
 have HP1:Hid (W1.ownsRow B 40 9 (.slice (some ⟨g,0,none⟩) (l.length-1) cap) (l.length-1) ((l.eraseIdx k).flatMap acC)):=by
  show World.ownsRow _ _ _ _ _ _ _;rw [←qZ cQ l k hk, ←hnews];exact jL HO1.out (by omega)
 have HP2:=aa (fF vs ((l.length-1)*9) W1 HP1.out zr);have HG2:=aa (cl vs ((l.length-1)*9) W1 HG1.out);clear hW1 hcells hfz hget hlen hfl hnews HO1 HP1 HG1 HO;have hic:k≤cap:=by omega
 have hjc:k+1≤cap:=by omega
 have hq1:(0:Int)≤(k:Int)+1:=by omega
 have hq2:(k:Int)+1≤(l.length:Int):=by omega
 have hq3:k+(l.length-(k+1))=l.length-1:=by omega
 have hq4:l.length-(l.length-1)=1:=by omega
 go_enter Tryz.func60,Tryz.ntmps60;go_wp2_with fail
 go_region_law (refine step_append_room rfl (.tmp 22) (.tmp 25) 28 rfl 40 i0 9 Tryz.underlying28 hi hz1 g 0 k cap (by simp [Act.eval,Act.put]) A (l.length-(k+1)) (cap-(k+1)) news (by simp [Act.eval,Act.put]) s1.out hsrc.out s2.out (by omega) s3.out ?_;rw [←HW.out]);have hr1:((l.length-1:Nat):Int)≤(l.length:Int):=by omega
 have hr2:(l.length:Int)≤(cap:Int):=by omega
 have hr3:¬cap=l.length-1:=by omega
 have hr4:(0:Int)≤((l.length-1:Nat):Int):=by omega
 generalize hq:l.length-1=q at*;clear s1 s2 s3 hsrc hA HW;go_wp2_with (simp only [hclr])
 go_ret;subst hq;exact⟨rfl,HP2.out,HG2.out⟩
theorem sw (v:Value) (l:List Sw) (w:World) (hM:es w v l) (hl:l.length*24≤140737488355328):
  Calls Tryz.prog 61 #[v] w fun e w'=>∃u,e= .returned u∧w'.ownsRow w.heap.size 36 3 u l.length (l.flatMap swC)∧Below w.heap.size w w':=by
 obtain⟨i0,hi,hz0,hz1,hz2⟩:=info_parts t7;have HM:=aa hM;obtain⟨a,cap,rfl,hn,hL⟩:=hM;cases a with
 | none=>
  obtain rfl:=hn rfl;have h0:l.length=0:=by
   rcases hL with h |⟨_,_,h,_⟩
   ·exact h
   ·simp at h
  obtain rfl:l= []:=List.eq_nil_of_length_eq_zero h0;clear hL hn HM h0 hl;go_enter Tryz.func61,Tryz.ntmps61;go_wp2;go_ret;exact⟨_,rfl,World.ownsRow_nil _ _ _ _,Below.refl _ _⟩
 | some ad=>
  have HN:=aa (RowAt.news eE HM.out);have H1:=aa (Ah l);clear hL hn;go_enter Tryz.func61,Tryz.ntmps61;go_wp2_with (at_builtin;refine wpList_append_own _ rfl _ _ 26 rfl w.heap.size 36 i0 _ 3 24 Tryz.underlying26 hi hz0 hz1 hz2 rfl (by decide) _ _ _ rfl (World.ownsRow_nil w w.heap.size 36 3) ad l.length cap (l.flatMap swC) rfl ?a0 HN.out H1.out ?a1 ?a2 ?a3 ?_)
  case a0=>rw [cL eE]
  case a1=>unfold maxLen;omega
  case a2=>omega
  case a3=>exact Nat.le_refl _
  intro v1 w1 ho1 hg1 _;have hb1:Below w.heap.size w w1:=(Below.refl _ w).grown hg1 (by simp) (ay (World.ownsRow_nil w w.heap.size 36 3));have HO:Hid (w1.ownsRow w.heap.size 36 3 v1 l.length (l.flatMap swC)):=aa ho1;clear ho1 hg1;go_wp2;go_ret;exact⟨v1,rfl,HO.out,hb1⟩
theorem qw (v:Value) (l:List Pr) (w:World) (hM:eS w v l) (hl:l.length*40≤140737488355328):
  Calls Tryz.prog 62 #[v] w fun e w'=>∃u,e= .returned u∧w'.ownsRow w.heap.size 38 5 u l.length (l.flatMap prC)∧Below w.heap.size w w':=by
 obtain⟨i0,hi,hz0,hz1,hz2⟩:=info_parts oZ;have HM:=aa hM;obtain⟨a,cap,rfl,hn,hL⟩:=hM;cases a with
 | none=>
  obtain rfl:=hn rfl;have h0:l.length=0:=by
   rcases hL with h |⟨_,_,h,_⟩
   ·exact h
   ·simp at h
  obtain rfl:l= []:=List.eq_nil_of_length_eq_zero h0;clear hL hn HM h0 hl;go_enter Tryz.func62,Tryz.ntmps62;go_wp2;go_ret;exact⟨_,rfl,World.ownsRow_nil _ _ _ _,Below.refl _ _⟩
 | some ad=>
  have HN:=aa (RowAt.news bI HM.out);have H1:=aa (uD l);clear hL hn;go_enter Tryz.func62,Tryz.ntmps62;go_wp2_with (at_builtin;refine wpList_append_own _ rfl _ _ 27 rfl w.heap.size 38 i0 _ 5 40 Tryz.underlying27 hi hz0 hz1 hz2 rfl (by decide) _ _ _ rfl (World.ownsRow_nil w w.heap.size 38 5) ad l.length cap (l.flatMap prC) rfl ?a0 HN.out H1.out ?a1 ?a2 ?a3 ?_)
  case a0=>rw [cL bI]
  case a1=>unfold maxLen;omega
  case a2=>omega
  case a3=>exact Nat.le_refl _
  intro v1 w1 ho1 hg1 _;have hb1:Below w.heap.size w w1:=(Below.refl _ w).grown hg1 (by simp) (ay (World.ownsRow_nil w w.heap.size 38 5));have HO:Hid (w1.ownsRow w.heap.size 38 5 v1 l.length (l.flatMap prC)):=aa ho1;clear ho1 hg1;go_wp2;go_ret;exact⟨v1,rfl,HO.out,hb1⟩
theorem qo (v:Value) (l:List Ac) (w:World) (hM:ur w v l) (hl:l.length*72≤140737488355328):
  Calls Tryz.prog 63 #[v] w fun e w'=>∃u,e= .returned u∧w'.ownsRow w.heap.size 40 9 u l.length (l.flatMap acC)∧Below w.heap.size w w':=by
 obtain⟨i0,hi,hz0,hz1,hz2⟩:=info_parts pV;have HM:=aa hM;obtain⟨a,cap,rfl,hn,hL⟩:=hM;cases a with
 | none=>
  obtain rfl:=hn rfl;have h0:l.length=0:=by
   rcases hL with h |⟨_,_,h,_⟩
   ·exact h
   ·simp at h
  obtain rfl:l= []:=List.eq_nil_of_length_eq_zero h0;clear hL hn HM h0 hl;go_enter Tryz.func63,Tryz.ntmps63;go_wp2;go_ret;exact⟨_,rfl,World.ownsRow_nil _ _ _ _,Below.refl _ _⟩
 | some ad=>
  have HN:=aa (RowAt.news cQ HM.out);have H1:=aa (uv l);clear hL hn;go_enter Tryz.func63,Tryz.ntmps63;go_wp2_with (at_builtin;refine wpList_append_own _ rfl _ _ 28 rfl w.heap.size 40 i0 _ 9 72 Tryz.underlying28 hi hz0 hz1 hz2 rfl (by decide) _ _ _ rfl (World.ownsRow_nil w w.heap.size 40 9) ad l.length cap (l.flatMap acC) rfl ?a0 HN.out H1.out ?a1 ?a2 ?a3 ?_)
  case a0=>rw [cL cQ]
  case a1=>unfold maxLen;omega
  case a2=>omega
  case a3=>exact Nat.le_refl _
  intro v1 w1 ho1 hg1 _;have hb1:Below w.heap.size w w1:=(Below.refl _ w).grown hg1 (by simp) (ay (World.ownsRow_nil w w.heap.size 40 9));have HO:Hid (w1.ownsRow w.heap.size 40 9 v1 l.length (l.flatMap acC)):=aa ho1;clear ho1 hg1;go_wp2;go_ret;exact⟨v1,rfl,HO.out,hb1⟩
structure Own3 (w:World) (B:Nat) (sv pv av:Value) (S:List Sw) (P:List Pr) (A:List Ac):Prop where
 s:w.ownsRow B 36 3 sv S.length (S.flatMap swC)
 p:w.ownsRow B 38 5 pv P.length (P.flatMap prC)
 a:w.ownsRow B 40 9 av A.length (A.flatMap acC)
 sp:sv.ownBlock=none∨sv.ownBlock≠pv.ownBlock
 sa:sv.ownBlock=none∨sv.ownBlock≠av.ownBlock
 pa:pv.ownBlock=none∨pv.ownBlock≠av.ownBlock
theorem Own3.cf {w:World} {B:Nat} {sv pv av:Value} {S:List Sw} {P:List Pr} {A:List Ac} (h:Own3 w B sv pv av S P A):CfAt w sv pv av S P A:=
 ⟨RowAt.of_own eE (by omega) h.s,RowAt.of_own bI (by omega) h.p,RowAt.of_own cQ (by omega) h.a⟩
theorem yy (sv pv av:Value) (S:List Sw) (P:List Pr) (A:List Ac) (w:World) (hC:CfAt w sv pv av S P A) (h1:S.length*24≤140737488355328) (h2:P.length*40≤140737488355328) (h3:A.length*72≤140737488355328):
  Calls Tryz.prog 36 #[.agg #[sv,pv,av]] w fun e w'=>∃su pu au,e= .returned (.agg #[su,pu,au])∧Own3 w' w.heap.size su pu au S P A∧Below w.heap.size w w':=by
 have HC:=aa hC;have HS:Hid (∀W:World,Below w.heap.size w W→Calls Tryz.prog 61 #[sv] W fun e w'=>∃u,e= .returned u∧w'.ownsRow W.heap.size 36 3 u S.length (S.flatMap swC)∧Below W.heap.size W w'):=fun W hW=>sw sv S W (RowAt.below HC.out.1 hW zr) h1;have HP:Hid (∀W:World,Below w.heap.size w W→Calls Tryz.prog 62 #[pv] W fun e w'=>∃u,e= .returned u∧w'.ownsRow W.heap.size 38 5 u P.length (P.flatMap prC)∧Below W.heap.size W w'):=fun W hW=>qw pv P W (RowAt.below HC.out.2.1 hW zr) h2;have HA:Hid (∀W:World,Below w.heap.size w W→Calls Tryz.prog 63 #[av] W fun e w'=>∃u,e= .returned u∧w'.ownsRow W.heap.size 40 9 u A.length (A.flatMap acC)∧Below W.heap.size W w'):=fun W hW=>qo av A W (RowAt.below HC.out.2.2 hW zr) h3;obtain⟨s1,s2,rfl⟩:=hC.1.slice;obtain⟨p1,p2,rfl⟩:=hC.2.1.slice;obtain⟨a1,a2,rfl⟩:=hC.2.2.slice;clear hC HC;go_enter Tryz.func36,Tryz.ntmps36;go_wp2_with fail
 obtain⟨W0,hW0⟩:∃W0,W0=(w.alloc (.cells #[.slice s1 S.length s2,.slice p1 P.length p2,.slice a1 A.length a2] 30)).alloc (.cells #[.slice none 0 0,.slice none 0 0,.slice none 0 0] 30):=⟨_,rfl⟩;have hb0:Below w.heap.size w W0:=by rw [hW0];exact((Below.refl _ _).alloc zr _).alloc (by simp) _
 have hz0:w.heap.size+2≤W0.heap.size:=by rw [hW0];simp
 have c0:W0.cell? ⟨w.heap.size,0,none⟩=some (.slice s1 S.length s2):=by rw [hW0];simp
 have c1:W0.cell? ⟨w.heap.size,1,none⟩=some (.slice p1 P.length p2):=by rw [hW0];simp
 have c2:W0.cell? ⟨w.heap.size,2,none⟩=some (.slice a1 A.length a2):=by rw [hW0];simp
 have r0:W0.cell? ⟨w.heap.size+1,0,none⟩=some (.slice none 0 0):=by rw [hW0];simp
 have r1:W0.cell? ⟨w.heap.size+1,1,none⟩=some (.slice none 0 0):=by rw [hW0];simp
 have r2:W0.cell? ⟨w.heap.size+1,2,none⟩=some (.slice none 0 0):=by rw [hW0];simp
 have f0:W0.frozen? ⟨w.heap.size+1,0,none⟩=false:=by rw [hW0];simp
 have f1:W0.frozen? ⟨w.heap.size+1,1,none⟩=false:=by rw [hW0];simp
 have f2:W0.frozen? ⟨w.heap.size+1,2,none⟩=false:=by rw [hW0];simp
 rw [←hW0];clear hW0 h1 h2 h3;have e0:Below (w.heap.size+2) W0 W0.drew:=(Below.refl _ _).drew;go_region_held3 (fun w'=>w'.cell? ⟨w.heap.size,0,none⟩=some (.slice s1 S.length s2)∧w'.cell? ⟨w.heap.size,1,none⟩=some (.slice p1 P.length p2)∧w'.cell? ⟨w.heap.size,2,none⟩=some (.slice a1 A.length a2)) (go_keep)
  (first |(go_at_call 61;refine(ag HS _ hb0.drew).mono ?_;rintro e w1 ⟨u1,rfl,ho1,hb1⟩;obtain⟨o1,m1,rfl⟩:=aw ho1;have HO1:=aa ho1;clear ho1;have g1:Below (w.heap.size+2) W0 w1:=e0.trans (hb1.mono hz0);have k1:Below w.heap.size w w1:=hb0.trans (g1.mono (by omega));have y0:=(g1.cell (p:=⟨w.heap.size,0,none⟩) (by simp)).trans c0;have y1:=(g1.cell (p:=⟨w.heap.size,1,none⟩) (by simp)).trans c1;have y2:=(g1.cell (p:=⟨w.heap.size,2,none⟩) (by simp)).trans c2)
               |(go_at_call 62;refine(ag HP _ k1).mono ?_;rintro e w2 ⟨u2,rfl,ho2,hb2⟩;obtain⟨o2,m2,rfl⟩:=aw ho2;have HO2:=aa ho2;clear ho2;have g2:Below (w.heap.size+2) W0 w2:=g1.trans (hb2.mono (Nat.le_trans hz0 g1.size));have k2:Below w.heap.size w w2:=hb0.trans (g2.mono (by omega));have x0:=(g2.cell (p:=⟨w.heap.size,0,none⟩) (by simp)).trans c0;have x1:=(g2.cell (p:=⟨w.heap.size,1,none⟩) (by simp)).trans c1;have x2:=(g2.cell (p:=⟨w.heap.size,2,none⟩) (by simp)).trans c2)
               |(go_at_call 63;refine(ag HA _ k2).mono ?_;rintro e w3 ⟨u3,rfl,ho3,hb3⟩;obtain⟨o3,m3,rfl⟩:=aw ho3;have HO3:=aa ho3;clear ho3;have g3:Below (w.heap.size+2) W0 w3:=g2.trans (hb3.mono (Nat.le_trans hz0 g2.size));have k3:Below w.heap.size w w3:=hb0.trans (g3.mono (by omega));have v0:=(g3.cell (p:=⟨w.heap.size,0,none⟩) (by simp)).trans c0;have v1:=(g3.cell (p:=⟨w.heap.size,1,none⟩) (by simp)).trans c1;have v2:=(g3.cell (p:=⟨w.heap.size,2,none⟩) (by simp)).trans c2;have t0:=(g3.cell (p:=⟨w.heap.size+1,0,none⟩) (by simp)).trans r0;have t1:=(g3.cell (p:=⟨w.heap.size+1,1,none⟩) (by simp)).trans r1;have t2:=(g3.cell (p:=⟨w.heap.size+1,2,none⟩) (by simp)).trans r2;have l0:=(g3.frozen (p:=⟨w.heap.size+1,0,none⟩) (by simp)).trans f0;have l1:=(g3.frozen (p:=⟨w.heap.size+1,1,none⟩) (by simp)).trans f1;have l2:=(g3.frozen (p:=⟨w.heap.size+1,2,none⟩) (by simp)).trans f2))
 have N1:w.heap.size+1<W0.drew.heap.size:=by have:=hz0;simp;omega
 have N2:w.heap.size+1<w1.heap.size:=Nat.lt_of_lt_of_le N1 hb1.size;have N3:w.heap.size+1<w2.heap.size:=Nat.lt_of_lt_of_le N2 hb2.size;have O1:=aa (ar (ar HO1.out hb2) hb3);have O2:=aa (ar HO2.out hb3);have A12:=aa (kK HO1.out HO2.out zr);have A13:=aa (kK (ar HO1.out hb2) HO3.out zr);have A23:=aa (kK HO2.out HO3.out zr);clear HO1 HO2 y0 y1 y2 x0 x1 x2 v0 v1 v2 g1 g2 g3 k1 k2 l0 l1 l2 hb2 hb3 hb1 c0 c1 c2 r0 r1 r2 f0 f1 f2 e0 HS HP HA;obtain⟨q0,q1,q2⟩:=yL t0 t1 t2 (.slice o1 S.length m1) (.slice o2 P.length m2) (.slice o3 A.length m3);have HB:Hid (Below w.heap.size w (((w3.setCell ⟨w.heap.size+1,0,none⟩ (.slice o1 S.length m1)).setCell ⟨w.heap.size+1,1,none⟩ (.slice o2 P.length m2)).setCell ⟨w.heap.size+1,2,none⟩ (.slice o3 A.length m3))):=((k3.setCell (Nat.le_succ _) _).setCell (Nat.le_succ _) _).setCell (Nat.le_succ _) _;have R1:=aa (aH (ownsRow_setCell_below (ownsRow_setCell_below (ownsRow_setCell_below O1.out (a:=⟨w.heap.size+1,0,none⟩) N1 (.slice o1 S.length m1)) (a:=⟨w.heap.size+1,1,none⟩) N1 (.slice o2 P.length m2)) (a:=⟨w.heap.size+1,2,none⟩) N1 (.slice o3 A.length m3)) (show w.heap.size≤W0.drew.heap.size by omega));have R2:=aa (aH (ownsRow_setCell_below (ownsRow_setCell_below (ownsRow_setCell_below O2.out (a:=⟨w.heap.size+1,0,none⟩) N2 (.slice o1 S.length m1)) (a:=⟨w.heap.size+1,1,none⟩) N2 (.slice o2 P.length m2)) (a:=⟨w.heap.size+1,2,none⟩) N2 (.slice o3 A.length m3)) (show w.heap.size≤w1.heap.size by omega));have R3:=aa (aH (ownsRow_setCell_below (ownsRow_setCell_below (ownsRow_setCell_below HO3.out (a:=⟨w.heap.size+1,0,none⟩) N3 (.slice o1 S.length m1)) (a:=⟨w.heap.size+1,1,none⟩) N3 (.slice o2 P.length m2)) (a:=⟨w.heap.size+1,2,none⟩) N3 (.slice o3 A.length m3)) (show w.heap.size≤w2.heap.size by omega));clear O1 O2 HO3 k3 t0 t1 t2 N1 N2 N3;generalize (((w3.setCell ⟨w.heap.size+1,0,none⟩ (.slice o1 S.length m1)).setCell ⟨w.heap.size+1,1,none⟩ (.slice o2 P.length m2)).setCell ⟨w.heap.size+1,2,none⟩ (.slice o3 A.length m3))=W at*;go_wp2_with fail
 refine bodyPost_ret (v:=.agg #[.slice o1 S.length m1,.slice o2 P.length m2,.slice o3 A.length m3]) ?_ rfl ⟨_,_,_,rfl,⟨R1.out,R2.out,R3.out,A12.out,A13.out,A23.out⟩,HB.out⟩;simp [results,Tryz.results36,go_sem,q0,q1,q2]
def nxS (S:List Sw) (a:Ax):List Sw:=if a.k=1 then S++ [a.s]else S
def nxP (P:List Pr) (a:Ax):List Pr:=if a.k=2 then P++ [a.p]else if a.k=4 then P.eraseIdx (pat P a.n).toNat else if a.k=6 then P.set (pat P a.n).toNat ⟨(P.getD (pat P a.n).toNat pr0).i,(P.getD (pat P a.n).toNat pr0).s,(P.getD (pat P a.n).toNat pr0).m,(P.getD (pat P a.n).toNat pr0).p,a.m⟩else P
def nxA (A:List Ac) (a:Ax):List Ac:=if a.k=3 then A++ [a.r]else if a.k=5 then A.eraseIdx a.n.toNat else A
theorem RowAt.set_far {α:Type} {C:α→List Value} {sz:Nat} {w:World} {v:Value} {l:List α} (h:RowAt C sz w v l) {b:Nat} (hne:v.ownBlock≠some b) (o:Nat) (x:Value):RowAt C sz (w.setCell ⟨b,o,none⟩ x) v l:=by
 obtain⟨a,cap,rfl,hn,h0 |⟨b',off,rfl,hc,hL⟩⟩:=h
 ·exact⟨a,cap,rfl,hn,.inl h0⟩
 ·refine⟨_,cap,rfl,hn,.inr ⟨b',off,rfl,hc,fun i y hy j u hu=>?_⟩⟩;rw [World.cell?_setCell_other _ _ _ _ (fun e=>hne (by simp only [Addr.mk.injEq]at e;simp [Value.ownBlock,e.1]))];exact hL i y hy j u hu
theorem CfAt.set_far {w:World} {sv pv av:Value} {S:List Sw} {P:List Pr} {A:List Ac} (h:CfAt w sv pv av S P A) {b:Nat} (h1:sv.ownBlock≠some b) (h2:pv.ownBlock≠some b) (h3:av.ownBlock≠some b) (o:Nat) (x:Value):CfAt (w.setCell ⟨b,o,none⟩ x) sv pv av S P A:=
 ⟨RowAt.set_far h.1 h1 o x,RowAt.set_far h.2.1 h2 o x,RowAt.set_far h.2.2 h3 o x⟩
theorem jQ {u v:Value} (h:u.ownBlock=none∨u.ownBlock≠v.ownBlock):v.ownBlock=none∨v.ownBlock≠u.ownBlock:=by
 rcases h with h | h
 ·rw [h];cases v.ownBlock
  ·exact .inl rfl
  ·exact .inr (by simp)
 ·exact .inr fun e=>h e.symm
theorem gN {w:World} {B e size n:Nat} {v:Value} {xs:List Value} (h:w.ownsRow B e size v n xs) {b:Nat} (hb:w.heap.size≤b):v.ownBlock≠some b:=fun e=>by
 have:=cG h e;omega
theorem zM {w w':World} {row:Option Nat} (hg:w.grownBy w' row) {b o:Nat} (hb:b<w.heap.size) (h:w.frozen? ⟨b,o,none⟩=false) (hne:some b≠row):w'.frozen? ⟨b,o,none⟩=false:=
 (World.frozen?_of_block (w:=w) (hg.block b hb hne)).trans h
theorem kN {α:Type} (C:α→List Value) (l:List α) (x:α):l.flatMap C++C x=(l++ [x]).flatMap C:=by simp
theorem rE:∀(l:List Pr) (k:Nat) (m:Int),k<l.length→(l.flatMap prC).set (k*5+4) (.int .i64 m)=(l.set k ⟨(l.getD k pr0).i,(l.getD k pr0).s,(l.getD k pr0).m,(l.getD k pr0).p,m⟩).flatMap prC
 | [],k,m,h=>by simp at h
 | y::r,0,m,_=>by simp [prC]
 | y::r,k+1,m,h=>by
  have ih:=rE r k m (by simpa using h);have e:(k+1)*5+4=(k*5+4)+5:=(by omega);simp only [List.flatMap_cons,List.set_cons_succ,List.getD_cons_succ]at ih⊢;rw [e, ←ih];simp [prC]
end Go.Proofs.YtjaclcbckngnlaaGreat
