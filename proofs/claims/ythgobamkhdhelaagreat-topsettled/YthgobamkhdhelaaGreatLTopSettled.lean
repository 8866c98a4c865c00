/- The law TopSettled returns true at every list of raw numbers and at every raw number, and both read behind the call as they read before; no condition. -/
import Derived.Deep.Light
import Derived.Test.YthgobamkhdhelaaGreatJS8
namespace Go.Proofs.YthgobamkhdhelaaGreat
open Go.RowKit
set_option linter.unusedVariables false
set_option maxRecDepth 100000
set_option maxHeartbeats 16000000
section
open Go.ChangeShapes Go.WideShapes Go.ChangeAt Go.RowKit
theorem row_own {w:World} {B:Nat} {u:Value} {l:List Ar} {body:ByteArray} (h:w.ownsRow B 58 9 u l.length (AR body l)):RowAt (arC body) 9 w u l∧∀k,u.ownBlock=some k→k<w.heap.size:=
 ⟨RowAt.of_own (C:=arC body) (sz:=9) (fun _=>rfl) (by decide) h,fun k hk=>cQ h hk⟩
theorem iteT {c:Prop} [Decidable c] {X Y:Prop} (h:c) (x:X):if c then X else Y:=by rw [if_pos h];exact x
theorem wp_sameS {P:Program} {c:Code} {Q:Exit→Act→World→Prop} {a:Act} {w:World} (F:Value→Option Addr→Nat→Option Addr→Nat→Option Addr→Nat→Nat→World→Prop) (A1:Option Addr→Nat→Nat→Nat→Option Addr→Nat→Value→Option Addr→Nat→Option Addr→Nat→Option Addr→Nat→Nat→Act)
  (h:c.wp P (fun e a' w'=>e= .normal∧∃(xa:Option Addr) (xc:Nat) (gs gl:Nat) (la:Option Addr) (lc:Nat) (u:Value) (s3:Option Addr) (s4:Nat) (p3:Option Addr) (p4:Nat) (a3:Option Addr) (a4:Nat) (gb:Nat),a'=A1 xa xc gs gl la lc u s3 s4 p3 p4 a3 a4 gb∧F u s3 s4 p3 p4 a3 a4 gb w') a w) (hq:∀(xa:Option Addr) (xc:Nat) (gs gl:Nat) (la:Option Addr) (lc:Nat) (u:Value) (s3:Option Addr) (s4:Nat) (p3:Option Addr) (p4:Nat) (a3:Option Addr) (a4:Nat) (gb:Nat) (w':World),F u s3 s4 p3 p4 a3 a4 gb w'→Q .normal (A1 xa xc gs gl la lc u s3 s4 p3 p4 a3 a4 gb) w'):c.wp P Q a w:=
 Code.wp_mono (fun e a' w' ⟨he,xa,xc,gs,gl,la,lc,u,s3,s4,p3,p4,a3,a4,gb,ha,hf⟩=>by subst he;subst ha;exact hq _ _ _ _ _ _ _ _ _ _ _ _ _ _ w' hf) h
theorem topSettled_any (lv:Value) (l:List Rw) (r:Rw) (w:World) (hL:RowAt rwC 4 w lv l):
  Calls Tryz.prog 3 #[lv,.agg #[.int .i64 r.k,.int .i64 r.a,.int .i64 r.b,.int .i64 r.c]] w fun e w'=>e= .returned (.bool true)∧Below w.heap.size w w':=by
 have HL:=aa (fun W (hW:Below w.heap.size w W)=>zZ 40 (by omega) l lv W (RowAt.below hL hW zr));have HFK:=aa (fun s1 p1 a1 s2 p2 a2 S P A W hC hl hP=>nE s1 p1 a1 s2 p2 a2 S P A r W hC hl hP);obtain⟨l0,lc0,rfl⟩:=hL.slice;clear hL;generalize r.k=r0 at*;generalize r.a=r1 at*;generalize r.b=r2 at*;generalize r.c=r3 at*;have kb:=Below.refl w.heap.size w;obtain⟨W0,hW0⟩:∃W0,W0=w.alloc (.cells #[.int .i64 r0,.int .i64 r1,.int .i64 r2,.int .i64 r3] 24):=⟨_,rfl⟩;have bW0:Below w.heap.size w W0:=by rw [hW0];exact(Below.refl _ _).alloc zr _
 have HB0:Hid (Box W0 w.heap.size [.int .i64 r0,.int .i64 r1,.int .i64 r2,.int .i64 r3]):=by rw [hW0];exact aa (Box.new w [.int .i64 r0,.int .i64 r1,.int .i64 r2,.int .i64 r3] 24)
 replace kb:=kb.trans (bW0.mono kb.size);have HW0:Hid (w.alloc (.cells #[.int .i64 r0,.int .i64 r1,.int .i64 r2,.int .i64 r3] 24)=W0):=hW0.symm;clear hW0 bW0;go_enter Tryz.func3,Tryz.ntmps3;go_wp2_with (rw [HW0.out])
 clear HW0;refine(ag HL _ kb).mono ?_;rintro e w1 ⟨uu,ls,rfl,⟨hls,hbo⟩,ho,hbw1⟩;have HO:=aa ho;have HBO:=aa hbo;obtain⟨ao,ac,rfl⟩:=ar ho;clear ho hbo HL;replace HB0:=aa (HB0.out.below hbw1);replace kb:=kb.trans (hbw1.mono kb.size);clear hbw1;obtain⟨N,hN⟩:∃N,N=ls.length:=⟨_,rfl⟩;have HRT:=aa (fun W la lc hR=>ut ls la lc W hR (by omega) HBO.out);rw [←hN]at HO⊢;have HNN:=aa hN;clear hN;have hrow:RowAt axC 28 w1 (.slice ao ls.length ac) ls:=RowAt.of_own (C:=axC) yX (by decide) (by have:=HO.out;rwa [HNN.out]at this);go_wp2_with fail
 rw [HNN.out];refine(HRT.out _ _ _ hrow).mono ?_;rintro e w2 ⟨u0,su,pu,au,rfl,rs0, -, -,hcf,hbw2⟩;have hst:=qm ls;have HM0:Hid (may (stR ls).S (stR ls).P (stR ls).A=true):=aa hst.1.1;have HC0:=aa hcf.here;clear hrow hcf hst HRT;replace HB0:=aa (HB0.out.below hbw2);replace HO:=zO HO hbw2;replace kb:=kb.trans (hbw2.mono kb.size);clear hbw2;obtain⟨S,hS⟩:∃S,S=(stR ls).S:=⟨_,rfl⟩;obtain⟨P,hP⟩:∃P,P=(stR ls).P:=⟨_,rfl⟩;obtain⟨A,hA⟩:∃A,A=(stR ls).A:=⟨_,rfl⟩;rw [←hS, ←hP, ←hA]at HM0 HC0;have HM:=HM0;have HC:=HC0;have HSS:=aa hS;have HPP:=aa hP;have HAA:=aa hA;clear hS hP hA HM0 HC0;obtain⟨s1,s2,rfl⟩:=HC.out.1.slice;obtain⟨p1,p2,rfl⟩:=HC.out.2.1.slice;obtain⟨a1,a2,rfl⟩:=HC.out.2.2.slice;rw [←HNN.out];obtain⟨W3,hW3⟩:∃W3,W3=w2.alloc (.cells #[.slice s1 S.length s2,.slice p1 P.length p2,.slice a1 A.length a2] 32):=⟨_,rfl⟩;have bW3:Below w2.heap.size w2 W3:=by rw [hW3];exact(Below.refl _ _).alloc zr _
 have HB1:Hid (Box W3 w2.heap.size [.slice s1 S.length s2,.slice p1 P.length p2,.slice a1 A.length a2]):=by rw [hW3];exact aa (Box.new w2 [.slice s1 S.length s2,.slice p1 P.length p2,.slice a1 A.length a2] 32)
 replace HB0:=aa (HB0.out.below bW3);replace HO:=zO HO bW3;replace HC:=aa (HC.out.below bW3 zr);replace kb:=kb.trans (bW3.mono kb.size);have HW3:Hid (w2.alloc (.cells #[.slice s1 S.length s2,.slice p1 P.length p2,.slice a1 A.length a2] 32)=W3):=hW3.symm;clear hW3 bW3;obtain⟨n1,n2,n3⟩:=eO HM.out;have HPI:Hid (∀p∈P,jt p):=by obtain⟨m1,m2,_⟩:=bj HM.out;exact aa (cU m1 m2).2
 go_wp2_with (first | rw [HW3.out] |(refine wpList_load_mid rfl 32 (.tmp 7) rfl w2.heap.size 0 rfl _ _ HB1.out.range Tryz.underlying32 rfl aJ ?_) |(refine wpList_load_mid rfl 24 (.tmp 3) rfl w.heap.size 0 rfl _ _ HB0.out.range Tryz.underlying24 rfl za ?_))
 clear HW3;refine(ag HFK s1 p1 a1 s2 p2 a2 S P A _ HC.out (by omega) HPI.out).mono ?_;rintro e w4 ⟨id,d,s,kd,a,b,t,o,body,rfl,⟨hfl,hid⟩,hbw4⟩;have HFL:=aa hfl;have HID:=aa hid;clear hfl hid HFK HPI;replace HB0:=aa (HB0.out.below hbw4);replace HB1:=aa (HB1.out.below hbw4);replace HO:=zO HO hbw4;replace HC:=aa (HC.out.below hbw4 zr);replace kb:=kb.trans (hbw4.mono kb.size);clear hbw4;clear HB0;obtain⟨W5,hW5⟩:∃W5,W5=w4.alloc (.cells #[.int .i64 d,.int .i64 s,.int .i64 kd,.int .i64 a,.int .i64 b,.int .i64 t,.int .i64 o,.string body] 37):=⟨_,rfl⟩;have bW5:Below w4.heap.size w4 W5:=by rw [hW5];exact(Below.refl _ _).alloc zr _
 have HB2:Hid (Box W5 w4.heap.size [.int .i64 d,.int .i64 s,.int .i64 kd,.int .i64 a,.int .i64 b,.int .i64 t,.int .i64 o,.string body]):=by rw [hW5];exact aa (Box.new w4 [.int .i64 d,.int .i64 s,.int .i64 kd,.int .i64 a,.int .i64 b,.int .i64 t,.int .i64 o,.string body] 37)
 replace HB1:=aa (HB1.out.below bW5);replace HO:=zO HO bW5;replace HC:=aa (HC.out.below bW5 zr);replace kb:=kb.trans (bW5.mono kb.size);have HW5:Hid (w4.alloc (.cells #[.int .i64 d,.int .i64 s,.int .i64 kd,.int .i64 a,.int .i64 b,.int .i64 t,.int .i64 o,.string body] 37)=W5):=hW5.symm;clear hW5 bW5;go_wp2_with (first | rw [HW5.out] |(refine wpList_load_mid rfl 32 (.tmp 7) rfl w2.heap.size 0 rfl _ _ HB1.out.range Tryz.underlying32 rfl aJ ?_) |(refine wpList_load_mid rfl 37 (.tmp 10) rfl w4.heap.size 0 rfl _ _ HB2.out.range Tryz.underlying37 rfl gW ?_))
 clear HW5;refine(Bj S P A s1 p1 a1 s2 p2 a2 id d s kd a b t o body _ HC.out HM.out HID.out HFL.out).mono ?_;rintro e w10 ⟨u1,rfl,l1,⟨hpm,hbp,ho⟩,hbw10⟩;have HU1:=aa (row_own ho).1;have HPM1:=aa hpm;have HBP1:=aa hbp;obtain⟨v1,v2,rfl⟩:=ar ho;clear hpm hbp ho;replace HB1:=aa (HB1.out.below hbw10);replace HB2:=aa (HB2.out.below hbw10);replace HO:=zO HO hbw10;replace HC:=aa (HC.out.below hbw10 zr);replace kb:=kb.trans (hbw10.mono kb.size);clear hbw10;obtain⟨E,hE⟩:∃E,E=jM S P A id d s kd a b t o body.size:=⟨_,rfl⟩;rw [←hE];have HE:=aa hE;clear hE;go_upto_region 5 with fail
 obtain⟨XS,hXS⟩:∃x,x=ls.flatMap axC:=⟨_,rfl⟩;rw [←hXS]at HO;have HST:Hid (stR ls=⟨S,P,A,(stR ls).K⟩):=by rw [HSS.out,HPP.out,HAA.out];exact aa rfl
 have hN:=HNN.out;have HLL:Hid (ls.length≤290):=aa (by omega);have HL1000:Hid (ls.length≤1000):=aa (by omega);have HWI:Hid ((stR ls).P= []∧id=1∨∃p∈(stR ls).P,id=p.i):=by rw [←HPP.out];exact HID
 obtain⟨XA,hXA⟩:∃x,x=allL.flatMap axC:=⟨_,rfl⟩;obtain⟨NL,hNL⟩:∃n,n=(ls++allL++ [(cZ id d s kd a b t o body)]).length:=⟨_,rfl⟩;obtain⟨XL,hXL⟩:∃x,x=(ls++allL++ [(cZ id d s kd a b t o body)]).flatMap axC:=⟨_,rfl⟩;have HALL:Hid (∀W,Calls Tryz.prog 10 #[] W fun e w'=>∃u,e= .returned u∧w'.ownsRow W.heap.size 51 28 u 6 XA∧Below W.heap.size W w'):=aa (fun W=>by rw [hXA];exact Bf W);have HCT:Hid (∀(B B2 gs gl:Nat) (W:World) (ao:Option Addr) (ac:Nat) (xa:Option Addr) (xc:Nat),W.ownsRow B 51 28 (.slice ao N ac) N XS→W.ownsRow B2 51 28 (.slice xa 6 xc) 6 XA→Box W gs [.int .i64 8,.int .i64 0,.int .i64 0,.int .i64 0,.int .i64 0,.int .i64 0,.int .i64 0,.int .i64 0,.int .i64 0,.int .i64 0,.int .i64 0,.bool false,.int .i64 0,.int .i64 0,.int .i64 0,.int .i64 0,.int .i64 0,.bool false,.int .i64 id,.int .i64 0,.int .i64 d,.int .i64 s,.int .i64 kd,.int .i64 a,.int .i64 b,.int .i64 t,.int .i64 o,.string body]→Box W gl [.slice ao N ac,.slice xa 6 xc,.slice (some ⟨gs,0,none⟩) 1 1]→Calls Tryz.prog 9 #[.slice (some ⟨gl,0,none⟩) 3 3] W fun e w'=>∃u,e= .returned u∧w'.ownsRow W.heap.size 51 28 u NL XL∧Below W.heap.size W w'):=aa (fun B B2 gs gl W ao ac xa xc h1 h2 h3 h4=>by rw [hNL,hXL];rw [hXA]at h2;rw [hN,hXS]at h1;rw [hN]at h4;exact At (ls) (cZ id d s kd a b t o body) W h1 h2 h3 h4 (by have:=HL1000.out;omega));have HRU:Hid (∀(B:Nat) (la:Option Addr) (lc:Nat) (W:World),W.ownsRow B 51 28 (.slice la NL lc) NL XL→Calls Tryz.prog 6 #[.slice la NL lc] W fun e w'=>∃u su pu au,e= .returned (.tuple #[u,.agg #[su,pu,au],.int .i64 0])∧∃rs,(rs.length=N+7∧tW S P A id d s kd a b t o body (rs.getD (N+6) rp0))∧RR w' W.heap.size u rs∧Kept (fun k=>k<W.heap.size) w' (fun W=>CfAt W su pu au S P A)∧Below W.heap.size W w'):=aa (fun B la lc W h=>by
  rw [hNL,hXL]at h;rw [hNL,hN];have h2:=yT (ls) h (by have:=HLL.out;omega) HBO.out HWI.out HFL.out;rw [HST.out]at h2;exact h2)
 clear hXA hNL hXL;clear hN hXS;apply wp_sameS (fun u s3 s4 p3 p4 a3 a4 gb w'=>(∃rs,(rs.length=N+7∧tW S P A id d s kd a b t o body (rs.getD (N+6) rp0))∧RR w' 0 u rs)∧CfAt w' (.slice s3 S.length s4) (.slice p3 P.length p4) (.slice a3 A.length a4) S P A∧Box w' gb [.slice s3 S.length s4,.slice p3 P.length p4,.slice a3 A.length a4]∧Below w10.heap.size w10 w')
 ·have kq:=Below.refl w10.heap.size w10;have lz1:=HB1.out.lt;have lz2:=HB2.out.lt;have hD:Below w10.heap.size w10 w10.drew:=(Below.refl _ _).drew;replace HB1:=aa (HB1.out.below hD);replace HB2:=aa (HB2.out.below hD);replace HO:=zO HO hD;replace kq:=kq.trans (hD.mono kq.size);clear hD;refine wp_region_held_drew (S:=(fun w'=>w'.rangeAt w2.heap.size 0 [.slice s1 S.length s2,.slice p1 P.length p2,.slice a1 A.length a2]∧w'.rangeAt w4.heap.size 0 [.int .i64 d,.int .i64 s,.int .i64 kd,.int .i64 a,.int .i64 b,.int .i64 t,.int .i64 o,.string body])) (by kernel_rfl) ⟨HB1.out.range,HB2.out.range⟩ (fun hHeld=>?_);generalize w10.drew=V at*;refine sqA [(0,39),(2,41)] ?_;(iterate 2 (refine sqN rfl (by kernel_rfl) (fun _ _ _ h=>absurd h.1 (by simp)) rfl ‹_› (by intro w h;go_simp <;>with_reducible rfl) ?_;simp only [nz]));refine sqZ ?_;refine wpAnyH_take (i:=3) (oi:=⟨some 42,_,_,_,_,_⟩) (v:=.agg #[.int .i64 d,.int .i64 s,.int .i64 kd,.int .i64 a,.int .i64 b,.int .i64 t,.int .i64 o,.string body]) rfl (by kernel_rfl) (by kernel_rfl) (by kernel_rfl) (fun _ _ _ h=>absurd h.1 (by simp)) (yieldsIf_load_mid (by rfl) 37 (.tmp 10) rfl w4.heap.size 0 rfl [.int .i64 d,.int .i64 s,.int .i64 kd,.int .i64 a,.int .i64 b,.int .i64 t,.int .i64 o,.string body] _ (fun w h=>h.2) Tryz.underlying37 rfl gW) (by assumption) ?_;(try simp only [nz]);refine tq 4 43 rfl (by kernel_rfl) (fun _ _ _ h=>absurd h.1 (by simp)) rfl ‹_› (by intro w h;go_simp <;>with_reducible rfl) ?_;(try simp only [nz])
  iterate 8
   all_goals
    first
     |(replace M1:=M1;replace M5:=M5;replace M6:=M6;replace M7:=M7;replace M8:=M8;replace M13:=M13;replace M14:=M14;refine wpAnyH_ready (rs:=[15]) (by kernel_rfl) (by simp) ?_;refine(AllReadyH.cons (o:=⟨none,_,_,_,_,_⟩) rfl (fun K hK15=>?_) AllReadyH.nil))
     |(replace M1:=M1;replace M5:=M5;replace M6:=M6;replace M7:=M7;replace M8:=M8;replace M13:=M13
       refine tq 14 13 rfl (by kernel_rfl) (fun _ _ _ h=>absurd h.1 (by simp)) rfl ‹_› (by intro w h;go_simp <;>with_reducible rfl) ?_;(try simp only [nz]);have M14:True:=trivial;have hTaken:True:=trivial)
     |(replace M1:=M1;replace M5:=M5;replace M6:=M6;replace M7:=M7;replace M8:=M8;refine wpAnyH_ready (rs:=[13]) (by kernel_rfl) (by simp) ?_;refine(AllReadyH.cons (o:=⟨some 14,_,_,_,_,_⟩) rfl (fun K hK13=>?_) AllReadyH.nil))
     |(replace M1:=M1;replace M5:=M5;replace M6:=M6;replace M7:=M7;replace M13:=M13;refine wpAnyH_ready (rs:=[8]) (by kernel_rfl) (by simp) ?_;refine(AllReadyH.cons (o:=⟨some 47,_,_,_,_,_⟩) rfl (fun K hK8=>?_) AllReadyH.nil))
     |(replace M1:=M1;replace M5:=M5;replace M6:=M6;replace M7:=M7;refine wpAnyH_ready (rs:=[8,13]) (by kernel_rfl) (by simp) ?_;refine(AllReadyH.cons (o:=⟨some 47,_,_,_,_,_⟩) rfl (fun K hK8=>?_) (AllReadyH.cons (o:=⟨some 14,_,_,_,_,_⟩) rfl (fun K hK13=>?_) AllReadyH.nil)))
     |(replace M1:=M1;replace M5:=M5;replace M6:=M6;replace M13:=M13;refine wpAnyH_ready (rs:=[7]) (by kernel_rfl) (by simp) ?_;refine(AllReadyH.cons (o:=⟨some 46,_,_,_,_,_⟩) rfl (fun K hK7=>?_) AllReadyH.nil))
     |(replace M1:=M1;replace M5:=M5;replace M6:=M6;refine wpAnyH_ready (rs:=[7,13]) (by kernel_rfl) (by simp) ?_;refine(AllReadyH.cons (o:=⟨some 46,_,_,_,_,_⟩) rfl (fun K hK7=>?_) (AllReadyH.cons (o:=⟨some 14,_,_,_,_,_⟩) rfl (fun K hK13=>?_) AllReadyH.nil)))
     |(replace M1:=M1;replace M5:=M5;replace M13:=M13;refine wpAnyH_ready (rs:=[6]) (by kernel_rfl) (by simp) ?_;refine(AllReadyH.cons (o:=⟨some 45,_,_,_,_,_⟩) rfl (fun K hK6=>?_) AllReadyH.nil))
     |(replace M1:=M1;replace M5:=M5;refine wpAnyH_ready (rs:=[6,13]) (by kernel_rfl) (by simp) ?_;refine(AllReadyH.cons (o:=⟨some 45,_,_,_,_,_⟩) rfl (fun K hK6=>?_) (AllReadyH.cons (o:=⟨some 14,_,_,_,_,_⟩) rfl (fun K hK13=>?_) AllReadyH.nil)))
     |(replace M1:=M1;replace M13:=M13;refine wpAnyH_ready (rs:=[5]) (by kernel_rfl) (by simp) ?_;refine(AllReadyH.cons (o:=⟨some 44,_,_,_,_,_⟩) rfl (fun K hK5=>?_) AllReadyH.nil))
     |(replace M5:=M5;replace M13:=M13;refine wpAnyH_ready (rs:=[1]) (by kernel_rfl) (by simp) ?_;refine(AllReadyH.cons (o:=⟨some 40,_,_,_,_,_⟩) rfl (fun K hK1=>?_) AllReadyH.nil))
     |(replace M1:=M1;refine wpAnyH_ready (rs:=[5,13]) (by kernel_rfl) (by simp) ?_;refine(AllReadyH.cons (o:=⟨some 44,_,_,_,_,_⟩) rfl (fun K hK5=>?_) (AllReadyH.cons (o:=⟨some 14,_,_,_,_,_⟩) rfl (fun K hK13=>?_) AllReadyH.nil)))
     |(replace M5:=M5;refine wpAnyH_ready (rs:=[1,13]) (by kernel_rfl) (by simp) ?_;refine(AllReadyH.cons (o:=⟨some 40,_,_,_,_,_⟩) rfl (fun K hK1=>?_) (AllReadyH.cons (o:=⟨some 14,_,_,_,_,_⟩) rfl (fun K hK13=>?_) AllReadyH.nil)))
     |(replace M13:=M13;refine wpAnyH_ready (rs:=[1,5]) (by kernel_rfl) (by simp) ?_;refine(AllReadyH.cons (o:=⟨some 40,_,_,_,_,_⟩) rfl (fun K hK1=>?_) (AllReadyH.cons (o:=⟨some 44,_,_,_,_,_⟩) rfl (fun K hK5=>?_) AllReadyH.nil)))
     |(refine wpAnyH_ready (rs:=[1,5,13]) (by kernel_rfl) (by simp) ?_;refine(AllReadyH.cons (o:=⟨some 40,_,_,_,_,_⟩) rfl (fun K hK1=>?_) (AllReadyH.cons (o:=⟨some 44,_,_,_,_,_⟩) rfl (fun K hK5=>?_) (AllReadyH.cons (o:=⟨some 14,_,_,_,_,_⟩) rfl (fun K hK13=>?_) AllReadyH.nil))))
   all_goals
    first
     |(have hK:=hK1
       clear hK1;go_simp;clear hHeld;refine(HALL.out _).mono ?_;rintro e V ⟨ub,rfl,ho,HBX⟩;obtain⟨xa,xc,rfl⟩:=ar ho;have HA:=aa ho;clear ho;have M1:True:=trivial)
     |(have hK:=hK5
       clear hK5;go_simp;clear hHeld;obtain⟨W,hW⟩:∃W,W=V.alloc (.cells #[.int .i64 8,.int .i64 0,.int .i64 0,.int .i64 0,.int .i64 0,.int .i64 0,.int .i64 0,.int .i64 0,.int .i64 0,.int .i64 0,.int .i64 0,.bool false,.int .i64 0,.int .i64 0,.int .i64 0,.int .i64 0,.int .i64 0,.bool false,.int .i64 id,.int .i64 0,.int .i64 d,.int .i64 s,.int .i64 kd,.int .i64 a,.int .i64 b,.int .i64 t,.int .i64 o,.string body] 51):=⟨_,rfl⟩;obtain⟨gs,hg⟩:∃g,g=V.heap.size:=⟨_,rfl⟩;rw [←hW, ←hg];have HBX:Below V.heap.size V W:=by rw [hW];exact(Below.refl _ _).alloc zr _
       have HX:Hid (Box W gs [.int .i64 8,.int .i64 0,.int .i64 0,.int .i64 0,.int .i64 0,.int .i64 0,.int .i64 0,.int .i64 0,.int .i64 0,.int .i64 0,.int .i64 0,.bool false,.int .i64 0,.int .i64 0,.int .i64 0,.int .i64 0,.int .i64 0,.bool false,.int .i64 id,.int .i64 0,.int .i64 d,.int .i64 s,.int .i64 kd,.int .i64 a,.int .i64 b,.int .i64 t,.int .i64 o,.string body]):=by rw [hW,hg];exact aa (Box.new V [.int .i64 8,.int .i64 0,.int .i64 0,.int .i64 0,.int .i64 0,.int .i64 0,.int .i64 0,.int .i64 0,.int .i64 0,.int .i64 0,.int .i64 0,.bool false,.int .i64 0,.int .i64 0,.int .i64 0,.int .i64 0,.int .i64 0,.bool false,.int .i64 id,.int .i64 0,.int .i64 d,.int .i64 s,.int .i64 kd,.int .i64 a,.int .i64 b,.int .i64 t,.int .i64 o,.string body] 51)
       have lgs:=kq.size;rw [←hg]at lgs;clear hW hg
       rename World=>V
       have M5:True:=trivial)
     |(have hK:=hK6
       clear hK6;go_simp;clear hHeld;obtain⟨W,hW⟩:∃W,W=V.alloc (.cells #[.slice ao N ac,.slice xa 6 xc,.slice (some ⟨gs,0,none⟩) 1 1] 25):=⟨_,rfl⟩;obtain⟨gl,hg⟩:∃g,g=V.heap.size:=⟨_,rfl⟩;rw [←hW, ←hg];have HBX:Below V.heap.size V W:=by rw [hW];exact(Below.refl _ _).alloc zr _
       have HY:Hid (Box W gl [.slice ao N ac,.slice xa 6 xc,.slice (some ⟨gs,0,none⟩) 1 1]):=by rw [hW,hg];exact aa (Box.new V [.slice ao N ac,.slice xa 6 xc,.slice (some ⟨gs,0,none⟩) 1 1] 25)
       have lgl:=kq.size;rw [←hg]at lgl;clear hW hg
       rename World=>V
       have M6:True:=trivial)
     |(have hK:=hK7
       clear hK7;go_simp;clear hHeld;refine(HCT.out _ _ _ _ _ _ _ _ _ HO.out HA.out HX.out HY.out).mono ?_;rintro e V ⟨uc,rfl,ho,HBX⟩;obtain⟨la,lc,rfl⟩:=ar ho;have HL:=aa ho;clear ho HA;have M7:True:=trivial)
     |(have hK:=hK8
       clear hK8;go_simp;clear hHeld;refine(HRU.out _ _ _ _ HL.out).mono ?_;rintro e W ⟨u,su,pu,au,rfl,rs,hlk,hrr,hcf,HBX⟩;have HLK:=aa hlk;obtain⟨s3,s4,rfl⟩:=hcf.here.1.slice;obtain⟨p3,p4,rfl⟩:=hcf.here.2.1.slice;obtain⟨a3,a4,rfl⟩:=hcf.here.2.2.slice;(try (have hz:=HZ.out.lt;have HRK:Hid (Kept (fun k=>k=gb) W (fun W=>RR W 0 u rs)):=aa (fun w' hk=>(kf (X:=fun k=>k=gb) hrr (fun k hk=>.inl (by omega)) w' hk).less (Nat.zero_le _));have HCK:Hid (Kept (fun k=>k=gb) W (fun W=>CfAt W (.slice s3 S.length s4) (.slice p3 P.length p4) (.slice a3 A.length a4) S P A)):=aa (hcf.but (fun k hk=>.inl (by omega)));clear hz));have HRR:=aa (hrr.less (Nat.zero_le _));have HCG:=aa (hcf.but (X':=fun k=>W.heap.size≤k) (fun k h=>.inr h));clear hrr hcf hlk HL
       rename World=>V
       have M8:True:=trivial;have T8:True:=trivial)
     |(have hK:=hK13
       clear hK13;go_simp;clear hHeld;obtain⟨W,hW⟩:∃W,W=V.alloc (.cells #[.slice none 0 0,.slice none 0 0,.slice none 0 0] 32):=⟨_,rfl⟩;obtain⟨gb,hg⟩:∃g,g=V.heap.size:=⟨_,rfl⟩;rw [←hW, ←hg];have HBX:Below V.heap.size V W:=by rw [hW];exact(Below.refl _ _).alloc zr _
       have HZ:Hid (Box W gb [.slice none 0 0,.slice none 0 0,.slice none 0 0]):=by rw [hW,hg];exact aa (Box.new V [.slice none 0 0,.slice none 0 0,.slice none 0 0] 32)
       have lgb:=kq.size;rw [←hg]at lgb;(try (have HRK:Hid (Kept (fun k=>k=gb) V (fun W=>RR W 0 u rs)):=aa (kf (X:=fun k=>k=gb) HRR.out (fun k hk=>.inr (by omega)));have HCK:Hid (Kept (fun k=>k=gb) V (fun W=>CfAt W (.slice s3 S.length s4) (.slice p3 P.length p4) (.slice a3 A.length a4) S P A)):=aa (HCG.out.but (fun k hk=>.inr (by omega)))));clear hW hg
       rename World=>V
       have M13:True:=trivial)
     |(have hK:=hK15
       clear hK15;refine iteT (by rfl) ?_;clear hHeld;refine wp_store_mid 32 (.tmp 14) (.tmp 49) rfl gb 0 _ rfl rfl (HZ.out.fit 3 rfl) aJ (cO rfl) ?_;replace HB1:=aa (HB1.out.set_far (b':=gb) (by omega) 0 [.slice s3 S.length s4,.slice p3 P.length p4,.slice a3 A.length a4]);replace HB2:=aa (HB2.out.set_far (b':=gb) (by omega) 0 [.slice s3 S.length s4,.slice p3 P.length p4,.slice a3 A.length a4]);have M15:True:=trivial;have HGX:True:=trivial;have T15:True:=trivial)
     |(replace hTaken:=hTaken)
   all_goals
    first
     |(replace HB1:=aa (HB1.out.below HBX)
       replace HB2:=aa (HB2.out.below HBX);replace HO:=zO HO HBX;replace kq:=kq.trans (HBX.mono kq.size);(try replace HA:=zO HA HBX);(try replace HL:=zO HL HBX);(try replace HX:=aa (HX.out.below HBX));(try replace HY:=aa (HY.out.below HBX));(try replace HZ:=aa (HZ.out.below HBX));(try replace HRR:=aa (HRR.out.below HBX));(try replace HRK:=aa (HRK.out.below HBX));(try replace HCG:=aa (HCG.out.below HBX));(try replace HCK:=aa (HCK.out.below HBX));clear HBX)
     |(clear HGX)
     |(replace hTaken:=hTaken)
   all_goals
    first
     |(refine hK.out _ _ ⟨HB1.out.range,HB2.out.range⟩ (fun hHeld=>?_)
       clear hK K;(try simp only [Act.put]))
     |(clear hTaken)
   all_goals
    first
     |(clear T8
       refine sqA [(9,38),(10,48),(11,49)] ?_;(iterate 3 (refine sqN rfl (by kernel_rfl) (fun _ _ _ h=>absurd h.1 (by simp)) rfl ‹_› (by intro w h;go_simp <;>with_reducible rfl) ?_;simp only [nz]));refine sqZ ?_;refine tq 12 50 rfl (by kernel_rfl) (fun _ _ _ h=>absurd h.1 (by simp)) rfl ‹_› (by intro w h;go_simp <;>with_reducible rfl) ?_;(try simp only [nz]))
     |(clear T15
       refine tq 16 15 rfl (by kernel_rfl) (fun _ _ _ h=>absurd h.1 (by simp)) rfl ‹_› (by intro w h;go_simp <;>with_reducible rfl) ?_;(try simp only [nz]))
     | skip
  all_goals
   refine wpAnyH_done (by kernel_rfl) ?_ _;clear hHeld;exact⟨rfl,xa,xc,gs,gl,la,lc,u,s3,s4,p3,p4,a3,a4,gb,rfl,⟨rs,HLK.out,(HRK.out.set (b:=gb) rfl 0 [.slice s3 S.length s4,.slice p3 P.length p4,.slice a3 A.length a4]).here⟩,(HCK.out.set (b:=gb) rfl 0 [.slice s3 S.length s4,.slice p3 P.length p4,.slice a3 A.length a4]).here,HZ.out.set [.slice s3 S.length s4,.slice p3 P.length p4,.slice a3 A.length a4] rfl,ap _ lgb _ _ kq⟩
 ·rintro xa xc gs gl la lc u s3 s4 p3 p4 a3 a4 gb w11 ⟨⟨rs,⟨hrl,hlk⟩,hrr⟩,hcd,hbx,hb11⟩;obtain⟨⟨hc,hbo⟩,hp3,hb3⟩:=hlk;have HD:=aa hcd;have HB3:=aa hbx;clear hcd hbx;replace HB1:=aa (HB1.out.below hb11);replace HB2:=aa (HB2.out.below hb11);replace HO:=zO HO hb11;replace HC:=aa (HC.out.below hb11 zr);replace HU1:=aa (RowAt.below HU1.out hb11 zr);replace kb:=kb.trans (hb11.mono kb.size);clear hb11;have b0:=HB1.out.cell 0 _ rfl;have b1:=HB1.out.cell 1 _ rfl;have b2:=HB1.out.cell 2 _ rfl;have b3:=HB3.out.cell 0 _ rfl;have b4:=HB3.out.cell 1 _ rfl;have b5:=HB3.out.cell 2 _ rfl;go_wp2_with fail
  clear b0 b1 b2 b3 b4 b5;refine(nZ s1 p1 a1 s3 p3 a3 s2 p2 a2 s4 p4 a4 S P A _ HC.out HD.out (by omega) (by omega) (by omega)).mono ?_;rintro e w12 ⟨rfl,hb12⟩;replace hrr:=hrr.below hb12;replace HB1:=aa (HB1.out.below hb12);replace HB2:=aa (HB2.out.below hb12);replace HB3:=aa (HB3.out.below hb12);replace HO:=zO HO hb12;replace HC:=aa (HC.out.below hb12 zr);replace HU1:=aa (RowAt.below HU1.out hb12 zr);replace HD:=aa (HD.out.below hb12 zr);replace kb:=kb.trans (hb12.mono kb.size);clear hb12;obtain⟨m,hm⟩:∃m,m=N+6:=⟨_,rfl⟩;have hm3:m≤500:=by rw [hm,HNN.out];omega
  rw [←hm]at hc hbo hp3 hb3;have hrm:rs.length=m+1:=(by omega);clear hrl;obtain⟨g,cap,v,rfl,hcap,⟨c0,c1⟩,ho⟩:=Cn hrr (i:=m) (by omega);change _=some (Value.int .i64 (rs.getD m rp0).c)at c0;change World.ownsRow _ _ _ _ _ (rs.getD m rp0).l.length (AR (rs.getD m rp0).body (rs.getD m rp0).l)at ho;rw [hc, ←HE.out]at c0;rw [hbo]at ho;obtain⟨e9,hl9⟩:=xT (S':=S) (P':=P) HM.out HID.out HFL.out HPM1.out HBP1.out hp3 hb3;rw [e9]at ho;have HU3:=aa (row_own ho).1;obtain⟨v5,v6,rfl⟩:=ar ho;rw [hrm]at hcap⊢;have RP:Hid (w12.rangeAt g (m*2) [.int .i64 E,.slice v5 l1.length v6]):=aa (fun j y hj=>by
   match j,hj with
   | 0,hj=>rw [Nat.add_zero];exact c0.trans hj
   | 1,hj=>exact c1.trans hj)
  clear hc hbo hp3 hb3 hrr ho e9 c0 c1 hrm hm;have q0:(0:Int)≤(m:Int):=(by omega);have q1:(m:Int)<((m+1:Nat):Int):=(by omega);obtain⟨W13,hW13⟩:∃W13,W13=w12.alloc (.cells #[.int .i64 E,.slice v5 l1.length v6] 55):=⟨_,rfl⟩;have bW13:Below w12.heap.size w12 W13:=by rw [hW13];exact(Below.refl _ _).alloc zr _
  have HBR:Hid (Box W13 w12.heap.size [.int .i64 E,.slice v5 l1.length v6]):=by rw [hW13];exact aa (Box.new w12 [.int .i64 E,.slice v5 l1.length v6] 55)
  replace HB1:=aa (HB1.out.below bW13);replace HB2:=aa (HB2.out.below bW13);replace HB3:=aa (HB3.out.below bW13);replace HO:=zO HO bW13;replace HC:=aa (HC.out.below bW13 zr);replace HU1:=aa (RowAt.below HU1.out bW13 zr);replace HD:=aa (HD.out.below bW13 zr);replace HU3:=aa (RowAt.below HU3.out bW13 zr);replace kb:=kb.trans (bW13.mono kb.size);have HW13:Hid (w12.alloc (.cells #[.int .i64 E,.slice v5 l1.length v6] 55)=W13):=hW13.symm;clear hW13 bW13;have hEE:(E==E)=true:=(by simp);have x0:=HBR.out.cell 0 _ rfl;have x1:=HBR.out.cell 1 _ rfl;go_wp2_with (first | rw [HW13.out] |(refine wpList_load_mid rfl 55 (.tmp 67) rfl g (m*2) rfl _ _ RP.out Tryz.underlying55 rfl pV ?_))
  clear HW13 RP;refine(ry _ _ _ body _ HU3.out HU1.out (by omega)).mono ?_;rintro e w14 ⟨rfl,hb14⟩;go_wp2_with fail
  go_ret;exact⟨rfl,kb.trans (hb14.mono kb.size)⟩
end
section
open Go.ChangeShapes Go.WideShapes Go.ChangeAt Go.RowKit
set_option maxRecDepth 100000 in
theorem topSettled_lifted (os:Os) (started:os.Started) (H:Type) (enc:TypeId×Value→H):
  ReturnsInHanded {} Tryz.checked os 3 .any (Rows.topSettledSpec.pre6 enc Tryz.prog Tryz.f3 Rows.topSettledRow.domain false) (Rows.topSettledSpec.post enc Tryz.prog Tryz.f3 false true false false):=by
 refine returnsInHanded_of_change (C:=Tryz.checked) own started (by kernel_rfl) Tryz.func3
  (ChangeSpec.witness6 (enc:=enc) (C:=Tryz.checked) false ⟨#[], #[.slice none 0 0,.agg #[.int .i64 0,.int .i64 0,.int .i64 0,.int .i64 0]],[]⟩ 8 (by kernel_rfl) (by kernel_rfl) (by kernel_rfl) (by kernel_rfl)) ?_
 intro W base args ds gs before hval0 hW hcnd _;have hval:∀(j:Nat) t v,Tryz.f3.params[j]? =some t→args[j]? =some v→Value.okWide Tryz.prog W .any base t v:=hval0;have hW':=hW;obtain⟨p,q,hA0,hV,rfl,hfz,hnd⟩:=hW;have hA:DataW.TrodAll enc Tryz.prog W 0 (fun _=>true) true Tryz.f3.params.toList args.toList ds p:=hA0;rw [Tryz.params3]at hA hval;obtain⟨v0,vs0,d0,ds0,p0,q0,hargs,rfl,rfl,h0,r0⟩:=trodAll_cons hA;obtain⟨v1,vs1,d1,ds1,p1,q1,rfl,rfl,rfl,h1,r1⟩:=trodAll_cons r0;obtain⟨rfl,rfl,rfl⟩:=trodAll_nil r1;obtain rfl:args= #[v0,v1]:=by cases args;simp_all
 obtain⟨rfl,rfl⟩:=trodVars_none hV;have k0:=h0;have lt0:∀x∈p0,x.block<W.heap.size:=by obtain⟨m,hm⟩:=k0;exact DataW.trod_lt m _ _ _ hm
 obtain⟨l0,hl0⟩:=vO (hval 0 22 v0 rfl rfl) h0;have k1:=h1;have lt1:∀x∈p1,x.block<W.heap.size:=by obtain⟨m,hm⟩:=k1;exact DataW.trod_lt m _ _ _ hm
 obtain⟨rk1,ra1,rb1,rc1,rfl,hk1,ha1,hb1,hc1⟩:=xK (hval 1 24 v1 rfl rfl) h1;clear hA0 hval0;refine(topSettled_any v0 l0 ⟨rk1,ra1,rb1,rc1,hk1,ha1,hb1,hc1⟩ W hl0).mono fun e W' ⟨he,bel⟩=>?_;subst he;exact⟨_,rfl,_,_,_,[],_,[],hW',trodAll_mk1 (shut_bool Tryz.underlying4 _),(trodAll_cons_mk (Below.trod uW (by kernel_rfl) (of_decide_eq_true (by kernel_rfl)) k0 bel lt0) (trodAll_cons_mk (Below.trod uW (by kernel_rfl) (of_decide_eq_true (by kernel_rfl)) k1 bel lt1) trodAll_mk0)),rfl,bel.frame _,fun h=>by cases h⟩
theorem topSettled_holds:Rows.TopSettledSaid:=
 OpenClaim.holds_of_wide 3 Tryz.f3 rfl rfl rfl rfl rfl rfl rfl ⟨rfl,rfl,rfl,rfl,rfl⟩ rfl rfl rfl rfl rfl (by kernel_rfl) Tryz.func3 (by kernel_rfl)
  (of_decide_eq_true (by kernel_rfl)) (by unfold Func.isWrapper;first |(rw [if_pos (by decide+kernel)];kernel_rfl) |(rw [if_neg (by decide+kernel)];exact⟨rfl,rfl⟩))
  (fun os started H enc _=>topSettled_lifted os started H enc)
end
end Go.Proofs.YthgobamkhdhelaaGreat
