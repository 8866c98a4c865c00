/- Texts joined: Rcm, Rin, Ra, Ddv, Ea0, Dsm, Ocf. -/
import Derived.Deep.RegionLaw
import Derived.Deep.AppendLies
import Derived.Laws.StructEq
import Derived.Deep.QuietTactic
import Derived.BigQuiet
import Derived.Deep.Slices
import Derived.SizedLaws
import Derived.Test.YtjiajblbpokfgaaGreatJD7
namespace Go.Proofs.YtjiajblbpokfgaaGreat
open Go.RowKit
set_option linter.unusedVariables false
set_option maxRecDepth 100000
set_option maxHeartbeats 16000000
theorem pU (v:Value):Hid (v.ownBlock=none∨v.ownBlock≠(Value.slice none 0 0).ownBlock):=by
 cases h:v.ownBlock with
 | none=>exact aa (.inl rfl)
 | some g=>exact aa (.inr (by simp [Value.ownBlock]))
theorem kG {w:World} {B e size n H g cap m:Nat} {u v:Value} {xs:List Value} (h:w.ownsRow B e size u n xs) (hs:u.ownBlock=none∨u.ownBlock≠v.ownBlock) (ha:v.ownBlock=some g∨g=H) (hH:w.heap.size≤H):u.ownBlock=none∨u.ownBlock≠(Value.slice (some ⟨g,0,none⟩) m cap).ownBlock:=by
 rcases hs with hs | hs
 ·exact .inl hs
 ·refine .inr fun e=>?_;have e':u.ownBlock=some g:=(by simpa [Value.ownBlock] using e);rcases ha with ha | ha
  ·exact hs (e'.trans ha.symm)
  ·have:=dD h e';omega
theorem oa {S:List Sw} {P:List Pr} {x:Pr} (h:aN S P x=0):P.length<40:=by
 unfold aN at h;split at h
 ·omega
 ·split at h
  ·omega
  ·split at h
   ·omega
   ·split at h
    ·omega
    ·split at h
     ·omega
     ·omega
theorem nI {S:List Sw} {A:List Ac} {x:Ac} (h:aU S A x=0):A.length<40:=by
 unfold aU at h;split at h
 ·omega
 ·split at h
  ·omega
  ·split at h
   ·omega
   ·split at h
    ·omega
    ·omega
theorem qk (sv pv av:Value) (S:List Sw) (P:List Pr) (A:List Ac) (w:World) (hC:CfAt w sv pv av S P A) (h1:S.length*24≤140737488355328) (h2:P.length*40≤140737488355328) (h3:A.length*72≤140737488355328):
  Calls Tryz.prog 13 #[.agg #[sv,pv,av]] w fun e w'=>e= .returned (.bool (may S P A))∧Below w.heap.size w w':=by
 obtain⟨iS,hiS,zS0,zS1,zS2⟩:=info_parts wO;obtain⟨iP,hiP,zP0,zP1,zP2⟩:=info_parts xK;obtain⟨iA,hiA,zA0,zA1,zA2⟩:=info_parts yw;have HC:=aa hC;have HN0:Hid (∀k,k<S.length→(aK (S.take k) [] (S.getD k sw0)==0)=false→may S P A=false):=fun k hk h=>by unfold may aW;rw [gp hk h];rfl
 have HN1:Hid (∀k,k<P.length→(aN S (P.take k) (P.getD k pr0)==0)=false→may S P A=false):=fun k hk h=>by unfold may aL;rw [gp hk h];simp
 have HN2:Hid (∀k,k<A.length→(aU S (A.take k) (A.getD k ac0)==0)=false→may S P A=false):=fun k hk h=>by unfold may bE;rw [gp hk h];simp
 have HYY:Hid (aW S=true→aL S P=true→bE S A=true→may S P A=true):=fun a b c=>by unfold may;rw [a,b,c];rfl
 generalize may S P A=R at*;obtain⟨s1,s2,rfl⟩:=hC.1.slice;obtain⟨p1,p2,rfl⟩:=hC.2.1.slice;obtain⟨a1,a2,rfl⟩:=hC.2.2.slice;clear hC;go_enter Tryz.func13,Tryz.ntmps13;go_wp2_with fail
 obtain⟨W0,hW0⟩:∃W0,W0=(w.alloc (.cells #[.slice s1 S.length s2,.slice p1 P.length p2,.slice a1 A.length a2] 26)).alloc (.cells #[.slice none 0 0,.slice none 0 0,.slice none 0 0] 26):=⟨_,rfl⟩;have hb0:Below w.heap.size w W0:=by rw [hW0];exact((Below.refl _ _).alloc zr _).alloc (by simp) _
 have c0:W0.cell? ⟨w.heap.size,0,none⟩=some (.slice s1 S.length s2):=by rw [hW0];exact au (aj w _ rfl _ _ _ _ rfl) _
 have c1:W0.cell? ⟨w.heap.size,1,none⟩=some (.slice p1 P.length p2):=by rw [hW0];exact au (aj w _ rfl _ _ _ _ rfl) _
 have c2:W0.cell? ⟨w.heap.size,2,none⟩=some (.slice a1 A.length a2):=by rw [hW0];exact au (aj w _ rfl _ _ _ _ rfl) _
 have p_0:W0.cell? ⟨w.heap.size+1,0,none⟩=some (.slice none 0 0):=by rw [hW0];exact aj _ _ (by simp) _ _ _ _ rfl
 have p_1:W0.cell? ⟨w.heap.size+1,1,none⟩=some (.slice none 0 0):=by rw [hW0];exact aj _ _ (by simp) _ _ _ _ rfl
 have p_2:W0.cell? ⟨w.heap.size+1,2,none⟩=some (.slice none 0 0):=by rw [hW0];exact aj _ _ (by simp) _ _ _ _ rfl
 have z_0:W0.frozen? ⟨w.heap.size+1,0,none⟩=false:=by rw [hW0];simp
 have z_1:W0.frozen? ⟨w.heap.size+1,1,none⟩=false:=by rw [hW0];simp
 have z_2:W0.frozen? ⟨w.heap.size+1,2,none⟩=false:=by rw [hW0];simp
 have hz0:W0.heap.size=w.heap.size+2:=by rw [hW0];simp
 rw [←hW0];clear hW0;obtain⟨xb,hxb⟩:∃xb,xb=w.heap.size+1:=⟨_,rfl⟩;rw [←hxb]at p_0 p_1 p_2 z_0 z_1 z_2⊢;have hx1:w.heap.size<xb:=by omega
 have hx2:xb+1=W0.heap.size:=by omega
 clear hxb hz0;go_loopw [4] (fun i wr=>∃(k:Nat) (v:Value),k≤S.length∧k≤12∧i= .int .i64 k∧wr.cell? ⟨xb,0,none⟩=some (v)∧wr.cell? ⟨xb,1,none⟩=some (.slice none 0 0)∧wr.cell? ⟨xb,2,none⟩=some (.slice none 0 0)∧wr.frozen? ⟨xb,0,none⟩=false∧wr.frozen? ⟨xb,1,none⟩=false∧wr.frozen? ⟨xb,2,none⟩=false∧Hid (wr.ownsRow (xb+1) 60 3 v k ((S.take k).flatMap swC))∧Hid (∀j,j<k→(aK (S.take j) [] (S.getD j sw0)==0)=true)∧Below xb W0 wr) (fun i _=>S.length-(intOf i).toNat)
 case atStart=>exact⟨0,_,by omega,by omega,rfl,p_0,p_1,p_2,z_0,z_1,z_2,aa ⟨by simp,.inl ⟨rfl,rfl⟩⟩,aa (fun j h=>absurd h (by omega)),Below.refl _ _⟩
 case round=>
  clear p_0 p_1 p_2 z_0 z_1 z_2;obtain⟨k,v,hk,hkl,rfl,p_0,p_1,p_2,z_0,z_1,z_2,HO,HALL,hbr⟩:=hrel;have hbw:Below w.heap.size w wr:=hb0.trans (hbr.mono (by omega));have d0:wr.cell? ⟨w.heap.size,0,none⟩=some (.slice s1 S.length s2):=(hbr.cell (p:=⟨w.heap.size,0,none⟩) hx1).trans c0;have d1:wr.cell? ⟨w.heap.size,1,none⟩=some (.slice p1 P.length p2):=(hbr.cell (p:=⟨w.heap.size,1,none⟩) hx1).trans c1;have d2:wr.cell? ⟨w.heap.size,2,none⟩=some (.slice a1 A.length a2):=(hbr.cell (p:=⟨w.heap.size,2,none⟩) hx1).trans c2;have hxw:xb<wr.heap.size:=by have:=hbr.size;omega
  by_cases hlt:k<S.length
  ·obtain⟨b,off,cap',e_1,hcap,hb,e0,e1,e2⟩:=ig HC.out.1 hlt;have HLT:=aa hlt;have hlk:Hid ((S.take k).length=k):=by show _=_;rw [List.length_take];omega
   obtain⟨vo,vc,hve⟩:=az HO.out;subst hve;have HK:Hid (∀W:World,Below wr.heap.size wr W→Calls Tryz.prog 32 #[.agg #[.slice vo k vc,.slice none 0 0,.slice none 0 0],.agg #[.int .i64 (S.getD k sw0).i,.int .i64 (S.getD k sw0).t,.int .i64 (S.getD k sw0).g]] W fun e w'=>e= .returned (.int .i64 (aK (S.take k) [] (S.getD k sw0)))∧Below W.heap.size W w'):=fun W hW=>(ll _ _ _ (S.take k) [] [] (S.getD k sw0) W ⟨RowAt.of_own jX (by omega) (by rw [hlk.out];exact ar HO.out hW),RowAt.nil _ _ _,RowAt.nil _ _ _⟩ (iK k 24 h1) (by simp)).mono fun e w' h=>by rw [vX]at h;exact h
   have HNk:=aa (HN0.out k hlt);have HNX:Hid ((aK (S.take k) [] (S.getD k sw0)==0)=true→∀j,j<k+1→(aK (S.take j) [] (S.getD j sw0)==0)=true):=fun h j hj=>by
    by_cases e:j=k
    ·subst e;exact h
    ·exact HALL.out j (by omega)
   have HLIM:Hid (aK (S.take k) [] (S.getD k sw0)=0→k<12):=fun h=>by have:=(gQ h).2.2;rw [hlk.out]at this;exact this
   have HFL:Hid ((S.take k).flatMap swC++ [.int .i64 (S.getD k sw0).i,.int .i64 (S.getD k sw0).t,.int .i64 (S.getD k sw0).g]=(S.take (k+1)).flatMap swC):=ku sw0 hlt;simp only [Value.slice.injEq,true_and]at e_1;obtain⟨rfl,rfl⟩:=e_1;have g0:=zC e0 hbw;have g1:=zC e1 hbw;have g2:=zC e2 hbw;clear HALL e0 e1 e2;generalize aK (S.take k) [] (S.getD k sw0)=G at HK HNk HNX HLIM;generalize (S.getD k sw0).i=x0 at*;generalize (S.getD k sw0).t=x1 at*;generalize (S.getD k sw0).g=x2 at*;have q3:(0:Int)≤(k:Int):=(by omega);have q4:(k:Int)<(S.length:Int):=(by omega);go_wp2_with fail
   go_region_held3 (fun w'=>w'.cell? ⟨xb,0,none⟩=some (.slice vo k vc)∧w'.cell? ⟨xb,1,none⟩=some (.slice none 0 0)∧w'.cell? ⟨xb,2,none⟩=some (.slice none 0 0)∧w'.cell? ⟨w.heap.size,0,none⟩=some (.slice (some ⟨b,off,none⟩) S.length s2)∧w'.cell? ⟨b,off+k*3,none⟩=some (.int .i64 x0)∧w'.cell? ⟨b,off+k*3+1,none⟩=some (.int .i64 x1)∧w'.cell? ⟨b,off+k*3+2,none⟩=some (.int .i64 x2)) (go_keep)
    (first |(go_at_call 32;refine(ag HK _ ((Below.refl _ wr).drew)).mono ?_;rintro e w2 ⟨rfl,hc2⟩;have G2:Below wr.heap.size wr w2:=((Below.refl _ wr).drew).trans hc2;have t0:=zC p_0 G2;have t1:=zC p_1 G2;have t2:=zC p_2 G2;have t3:=zC d0 G2;have t4:=zC g0 G2;have t5:=zC g1 G2;have t6:=zC g2 G2))
   have OW:=aa (ar HO.out G2);have y0:=(G2.frozen (p:=⟨xb,0,none⟩) hxw).trans z_0;have y1:=(G2.frozen (p:=⟨xb,1,none⟩) hxw).trans z_1;have y2:=(G2.frozen (p:=⟨xb,2,none⟩) hxw).trans z_2;have hb2:Below xb W0 w2:=hbr.trans (G2.mono (Nat.le_of_lt hxw));have hx3:xb<w2.heap.size:=Nat.lt_of_lt_of_le hxw G2.size;have hbx:b<w2.heap.size:=am t4;clear HK hc2 G2 hbr hbw HO p_0 p_1 p_2 z_0 z_1 z_2 d0 d1 d2 hxw g0 g1 g2;by_cases hG:G=0
   ·subst hG;have HN:=aa (HNX.out rfl);have hlim:=HLIM.out rfl;clear HNX HNk HLIM;have own1:=aa ((OW.out.alloc (.cells #[.int .i64 x0,.int .i64 x1,.int .i64 x2] 60)).drew);have NEWS1:Hid (∀j u,[(.int .i64 x0:Value),(.int .i64 x1:Value),(.int .i64 x2:Value)][j]? =some u→(w2.alloc (.cells #[.int .i64 x0,.int .i64 x1,.int .i64 x2] 60)).drew.cell? ((⟨w2.heap.size,0,none⟩:Addr).add j)=some u):=by
     intro j u hj;rw [jy,Nat.zero_add];exact aj w2 _ rfl #[.int .i64 x0,.int .i64 x1,.int .i64 x2] _ j u (by simpa using hj)
    have base1:xb+1≤(w2.alloc (.cells #[.int .i64 x0,.int .i64 x1,.int .i64 x2] 60)).drew.heap.size:=by simp;omega
    have bel1:Below (xb+1) w2 (w2.alloc (.cells #[.int .i64 x0,.int .i64 x1,.int .i64 x2] 60)).drew:=((Below.refl _ w2).alloc (by omega) _).drew;have hy1:k+1≤maxLen:=by unfold maxLen;omega
    have hy2:(k+1)*24≤140737488355328:=(by omega);have hne1:xb≠w.heap.size:=(by omega);have hne2:xb≠b:=(by omega);have hnw:w.heap.size<w2.heap.size:=(by omega);have p2a:(w2.alloc (.cells #[.int .i64 x0,.int .i64 x1,.int .i64 x2] 60)).drew.cell? ⟨xb,0,none⟩=some (.slice vo k vc):=(bel1.cell (p:=⟨xb,0,none⟩) (show xb<xb+1 by omega)).trans t0;go_wp2_with fail
    go_region_law
     (first |(refine step_append_lies _ rfl (.tmp 24) (.tmp 30) 22 rfl (xb+1) 60 iS _ 3 24 Tryz.underlying22 hiS zS0 zS1 zS2 rfl (by decide) _ _ _ rfl (ag own1) ⟨w2.heap.size,0,none⟩ 1 1 [.int .i64 x0,.int .i64 x1,.int .i64 x2] rfl rfl (ag NEWS1) (du rfl) (by decide) hy1 hy2 base1 _ rfl ?_;intro g cap w4 ho4 hg4 hat _;have hb4:=bel1.grown hg4 base1 (aS (ag own1));have r0:=(hb4.cell (p:=⟨xb,0,none⟩) (show xb<xb+1 by omega)).trans t0;have r1:=(hb4.cell (p:=⟨xb,1,none⟩) (show xb<xb+1 by omega)).trans t1;have r2:=(hb4.cell (p:=⟨xb,2,none⟩) (show xb<xb+1 by omega)).trans t2;have f0:=(hb4.frozen (p:=⟨xb,0,none⟩) (show xb<xb+1 by omega)).trans y0;have f1:=(hb4.frozen (p:=⟨xb,1,none⟩) (show xb<xb+1 by omega)).trans y1;have f2:=(hb4.frozen (p:=⟨xb,2,none⟩) (show xb<xb+1 by omega)).trans y2))
    all_goals
     have HO4:=aa (ownsRow_setCell_below ho4 (a:=⟨xb,0,none⟩) (show xb<xb+1 by omega) (.slice (some ⟨g,0,none⟩) (k+1) cap));have hb5:Below xb W0 (w4.setCell ⟨xb,0,none⟩ (.slice (some ⟨g,0,none⟩) (k+1) cap)):=(hb2.trans (hb4.mono (Nat.le_succ _))).setCell zr _;have u0:=World.cell?_setCell_same w4 _ (.slice (some ⟨g,0,none⟩) (k+1) cap) r0;have l0:(w4.setCell ⟨xb,0,none⟩ (.slice (some ⟨g,0,none⟩) (k+1) cap)).frozen? ⟨xb,0,none⟩=false:=by rw [World.frozen?_setCell];exact f0
     have u1:=(World.cell?_setCell_other w4 ⟨xb,0,none⟩ ⟨xb,1,none⟩ (.slice (some ⟨g,0,none⟩) (k+1) cap) (by simp)).trans r1;have l1:(w4.setCell ⟨xb,0,none⟩ (.slice (some ⟨g,0,none⟩) (k+1) cap)).frozen? ⟨xb,1,none⟩=false:=by rw [World.frozen?_setCell];exact f1
     have u2:=(World.cell?_setCell_other w4 ⟨xb,0,none⟩ ⟨xb,2,none⟩ (.slice (some ⟨g,0,none⟩) (k+1) cap) (by simp)).trans r2;have l2:(w4.setCell ⟨xb,0,none⟩ (.slice (some ⟨g,0,none⟩) (k+1) cap)).frozen? ⟨xb,2,none⟩=false:=by rw [World.frozen?_setCell];exact f2
     have HE:Hid ((w4.setCell ⟨xb,0,none⟩ (.slice (some ⟨g,0,none⟩) (k+1) cap)).ownsRow (xb+1) 60 3 (.slice (some ⟨g,0,none⟩) (k+1) cap) (k+1) ((S.take (k+1)).flatMap swC)):=by
      show World.ownsRow _ _ _ _ _ _ _;rw [←HFL.out];exact HO4.out
     clear HO4 HFL ho4 hg4 hat r0 r1 r2 f0 f1 f2 own1 NEWS1 base1 bel1 hy1 hy2 OW hb2 hb4 p2a hne1 hne2 hnw hbx t0 t1 t2 t3 t4 t5 t6 y0 y1 y2;generalize (w4.setCell ⟨xb,0,none⟩ (.slice (some ⟨g,0,none⟩) (k+1) cap))=w5 at*;go_wp2_with fail
     go_roundw
     case rel=>exact⟨k+1,_,by omega,by omega,by go_num,u0,u1,u2,l0,l1,l2,HE,HN,hb5⟩
     case measure=>simp [intOf];omega
   ·obtain rfl:=HNk.out (by simpa using hG);clear HNX HNk HLIM HFL OW;go_wp2_with fail
    go_ret;exact⟨rfl,hb0.trans (hb2.mono (by omega))⟩
  ·have hkl2:k=S.length:=(by omega);subst hkl2;have HO0:Hid (wr.ownsRow (xb+1) 60 3 v S.length (S.flatMap swC)):=by
    have:=HO.out;rw [List.take_length]at this;exact aa this
   have HM0:Hid (aW S=true):=fe HALL.out;clear HO HALL;obtain⟨v0,hvn⟩:∃z,z=v:=⟨_,rfl⟩;subst hvn;go_wp2_with fail
   clear d0 d1 d2
   rename World=>W1
   go_loopw [5] (fun i wr=>∃(k:Nat) (v:Value),k≤P.length∧k≤40∧i= .int .i64 k∧wr.cell? ⟨xb,0,none⟩=some (v0)∧wr.cell? ⟨xb,1,none⟩=some (v)∧wr.cell? ⟨xb,2,none⟩=some (.slice none 0 0)∧wr.frozen? ⟨xb,0,none⟩=false∧wr.frozen? ⟨xb,1,none⟩=false∧wr.frozen? ⟨xb,2,none⟩=false∧Hid (wr.ownsRow (xb+1) 51 5 v k ((P.take k).flatMap prC))∧Hid (wr.ownsRow (xb+1) 60 3 v0 S.length (S.flatMap swC))∧Hid (v0.ownBlock=none∨v0.ownBlock≠v.ownBlock)∧Hid (∀j,j<k→(aN S (P.take j) (P.getD j pr0)==0)=true)∧Below xb W0 wr) (fun i _=>P.length-(intOf i).toNat)
   case atStart=>exact⟨0,_,by omega,by omega,rfl,p_0,p_1,p_2,z_0,z_1,z_2,aa ⟨by simp,.inl ⟨rfl,rfl⟩⟩,HO0,(pU _),aa (fun j h=>absurd h (by omega)),hbr⟩
   case round=>
    clear p_0 p_1 p_2 z_0 z_1 z_2 hbr HO0;obtain⟨k,v,hk,hkl,rfl,p_0,p_1,p_2,z_0,z_1,z_2,HO,HO0,HS0,HALL,hbr⟩:=hrel;have hbw:Below w.heap.size w wr:=hb0.trans (hbr.mono (by omega));have d0:wr.cell? ⟨w.heap.size,0,none⟩=some (.slice s1 S.length s2):=(hbr.cell (p:=⟨w.heap.size,0,none⟩) hx1).trans c0;have d1:wr.cell? ⟨w.heap.size,1,none⟩=some (.slice p1 P.length p2):=(hbr.cell (p:=⟨w.heap.size,1,none⟩) hx1).trans c1;have d2:wr.cell? ⟨w.heap.size,2,none⟩=some (.slice a1 A.length a2):=(hbr.cell (p:=⟨w.heap.size,2,none⟩) hx1).trans c2;have hxw:xb<wr.heap.size:=by have:=hbr.size;omega
    by_cases hlt:k<P.length
    ·obtain⟨b,off,cap',e_1,hcap,hb,e0,e1,e2,e3,e4⟩:=eO HC.out.2.1 hlt;have HLT:=aa hlt;have hlk:Hid ((P.take k).length=k):=by show _=_;rw [List.length_take];omega
     obtain⟨vo,vc,hve⟩:=az HO.out;subst hve;obtain⟨vo0,vc0,hve⟩:=az HO0.out;subst hve;have HK:Hid (∀W:World,Below wr.heap.size wr W→Calls Tryz.prog 33 #[.agg #[.slice vo0 S.length vc0,.slice vo k vc,.slice none 0 0],.agg #[.int .i64 (P.getD k pr0).i,.int .i64 (P.getD k pr0).s,.int .i64 (P.getD k pr0).m,.int .i64 (P.getD k pr0).p,.int .i64 (P.getD k pr0).c]] W fun e w'=>e= .returned (.int .i64 (aN S (P.take k) (P.getD k pr0)))∧Below W.heap.size W w'):=fun W hW=>(nU _ _ _ S (P.take k) [] (P.getD k pr0) W ⟨RowAt.of_own jX (by omega) (ar HO0.out hW),RowAt.of_own et (by omega) (by rw [hlk.out];exact ar HO.out hW),RowAt.nil _ _ _⟩ h1 (iK k 40 h2)).mono fun e w' h=>by rw [AQ HM0.out]at h;exact h
     have HNk:=aa (HN1.out k hlt);have HNX:Hid ((aN S (P.take k) (P.getD k pr0)==0)=true→∀j,j<k+1→(aN S (P.take j) (P.getD j pr0)==0)=true):=fun h j hj=>by
      by_cases e:j=k
      ·subst e;exact h
      ·exact HALL.out j (by omega)
     have HLIM:Hid (aN S (P.take k) (P.getD k pr0)=0→k<40):=fun h=>by have:=oa h;rw [hlk.out]at this;exact this
     have HFL:Hid ((P.take k).flatMap prC++ [.int .i64 (P.getD k pr0).i,.int .i64 (P.getD k pr0).s,.int .i64 (P.getD k pr0).m,.int .i64 (P.getD k pr0).p,.int .i64 (P.getD k pr0).c]=(P.take (k+1)).flatMap prC):=ku pr0 hlt;simp only [Value.slice.injEq,true_and]at e_1;obtain⟨rfl,rfl⟩:=e_1;have g0:=zC e0 hbw;have g1:=zC e1 hbw;have g2:=zC e2 hbw;have g3:=zC e3 hbw;have g4:=zC e4 hbw;clear HALL e0 e1 e2 e3 e4;generalize aN S (P.take k) (P.getD k pr0)=G at HK HNk HNX HLIM;generalize (P.getD k pr0).i=x0 at*;generalize (P.getD k pr0).s=x1 at*;generalize (P.getD k pr0).m=x2 at*;generalize (P.getD k pr0).p=x3 at*;generalize (P.getD k pr0).c=x4 at*;have q3:(0:Int)≤(k:Int):=(by omega);have q4:(k:Int)<(P.length:Int):=(by omega);go_wp2_with fail
     go_region_held3 (fun w'=>w'.cell? ⟨xb,0,none⟩=some (.slice vo0 S.length vc0)∧w'.cell? ⟨xb,1,none⟩=some (.slice vo k vc)∧w'.cell? ⟨xb,2,none⟩=some (.slice none 0 0)∧w'.cell? ⟨w.heap.size,1,none⟩=some (.slice (some ⟨b,off,none⟩) P.length p2)∧w'.cell? ⟨b,off+k*5,none⟩=some (.int .i64 x0)∧w'.cell? ⟨b,off+k*5+1,none⟩=some (.int .i64 x1)∧w'.cell? ⟨b,off+k*5+2,none⟩=some (.int .i64 x2)∧w'.cell? ⟨b,off+k*5+3,none⟩=some (.int .i64 x3)∧w'.cell? ⟨b,off+k*5+4,none⟩=some (.int .i64 x4)) (go_keep)
      (first |(go_at_call 33;refine(ag HK _ ((Below.refl _ wr).drew)).mono ?_;rintro e w2 ⟨rfl,hc2⟩;have G2:Below wr.heap.size wr w2:=((Below.refl _ wr).drew).trans hc2;have t0:=zC p_0 G2;have t1:=zC p_1 G2;have t2:=zC p_2 G2;have t3:=zC d1 G2;have t4:=zC g0 G2;have t5:=zC g1 G2;have t6:=zC g2 G2;have t7:=zC g3 G2;have t8:=zC g4 G2))
     have OW:=aa (ar HO.out G2);have OW0:=aa (ar HO0.out G2);have y0:=(G2.frozen (p:=⟨xb,0,none⟩) hxw).trans z_0;have y1:=(G2.frozen (p:=⟨xb,1,none⟩) hxw).trans z_1;have y2:=(G2.frozen (p:=⟨xb,2,none⟩) hxw).trans z_2;have hb2:Below xb W0 w2:=hbr.trans (G2.mono (Nat.le_of_lt hxw));have hx3:xb<w2.heap.size:=Nat.lt_of_lt_of_le hxw G2.size;have hbx:b<w2.heap.size:=am t4;clear HK hc2 G2 hbr hbw HO p_0 p_1 p_2 z_0 z_1 z_2 d0 d1 d2 hxw HO0 g0 g1 g2 g3 g4;by_cases hG:G=0
     ·subst hG;have HN:=aa (HNX.out rfl);have hlim:=HLIM.out rfl;clear HNX HNk HLIM;have own1:=aa ((OW.out.alloc (.cells #[.int .i64 x0,.int .i64 x1,.int .i64 x2,.int .i64 x3,.int .i64 x4] 51)).drew);have NEWS1:Hid (∀j u,[(.int .i64 x0:Value),(.int .i64 x1:Value),(.int .i64 x2:Value),(.int .i64 x3:Value),(.int .i64 x4:Value)][j]? =some u→(w2.alloc (.cells #[.int .i64 x0,.int .i64 x1,.int .i64 x2,.int .i64 x3,.int .i64 x4] 51)).drew.cell? ((⟨w2.heap.size,0,none⟩:Addr).add j)=some u):=by
       intro j u hj;rw [jy,Nat.zero_add];exact aj w2 _ rfl #[.int .i64 x0,.int .i64 x1,.int .i64 x2,.int .i64 x3,.int .i64 x4] _ j u (by simpa using hj)
      have base1:xb+1≤(w2.alloc (.cells #[.int .i64 x0,.int .i64 x1,.int .i64 x2,.int .i64 x3,.int .i64 x4] 51)).drew.heap.size:=by simp;omega
      have bel1:Below (xb+1) w2 (w2.alloc (.cells #[.int .i64 x0,.int .i64 x1,.int .i64 x2,.int .i64 x3,.int .i64 x4] 51)).drew:=((Below.refl _ w2).alloc (by omega) _).drew;have hy1:k+1≤maxLen:=by unfold maxLen;omega
      have hy2:(k+1)*40≤140737488355328:=(by omega);have hne1:xb≠w.heap.size:=(by omega);have hne2:xb≠b:=(by omega);have hnw:w.heap.size<w2.heap.size:=(by omega);have p2a:(w2.alloc (.cells #[.int .i64 x0,.int .i64 x1,.int .i64 x2,.int .i64 x3,.int .i64 x4] 51)).drew.cell? ⟨xb,1,none⟩=some (.slice vo k vc):=(bel1.cell (p:=⟨xb,1,none⟩) (show xb<xb+1 by omega)).trans t1;go_wp2_with fail
      go_region_law
       (first |(refine step_append_lies _ rfl (.tmp 49) (.tmp 55) 23 rfl (xb+1) 51 iP _ 5 40 Tryz.underlying23 hiP zP0 zP1 zP2 rfl (by decide) _ _ _ rfl (ag own1) ⟨w2.heap.size,0,none⟩ 1 1 [.int .i64 x0,.int .i64 x1,.int .i64 x2,.int .i64 x3,.int .i64 x4] rfl rfl (ag NEWS1) (du rfl) (by decide) hy1 hy2 base1 _ rfl ?_;intro g cap w4 ho4 hg4 hat _;have hb4:=bel1.grown hg4 base1 (aS (ag own1));have r0:=(hb4.cell (p:=⟨xb,0,none⟩) (show xb<xb+1 by omega)).trans t0;have r1:=(hb4.cell (p:=⟨xb,1,none⟩) (show xb<xb+1 by omega)).trans t1;have r2:=(hb4.cell (p:=⟨xb,2,none⟩) (show xb<xb+1 by omega)).trans t2;have f0:=(hb4.frozen (p:=⟨xb,0,none⟩) (show xb<xb+1 by omega)).trans y0;have f1:=(hb4.frozen (p:=⟨xb,1,none⟩) (show xb<xb+1 by omega)).trans y1;have f2:=(hb4.frozen (p:=⟨xb,2,none⟩) (show xb<xb+1 by omega)).trans y2))
      all_goals
       have HO4:=aa (ownsRow_setCell_below ho4 (a:=⟨xb,1,none⟩) (show xb<xb+1 by omega) (.slice (some ⟨g,0,none⟩) (k+1) cap));have hb5:Below xb W0 (w4.setCell ⟨xb,1,none⟩ (.slice (some ⟨g,0,none⟩) (k+1) cap)):=(hb2.trans (hb4.mono (Nat.le_succ _))).setCell zr _;have u0:=(World.cell?_setCell_other w4 ⟨xb,1,none⟩ ⟨xb,0,none⟩ (.slice (some ⟨g,0,none⟩) (k+1) cap) (by simp)).trans r0;have l0:(w4.setCell ⟨xb,1,none⟩ (.slice (some ⟨g,0,none⟩) (k+1) cap)).frozen? ⟨xb,0,none⟩=false:=by rw [World.frozen?_setCell];exact f0
       have u1:=World.cell?_setCell_same w4 _ (.slice (some ⟨g,0,none⟩) (k+1) cap) r1;have l1:(w4.setCell ⟨xb,1,none⟩ (.slice (some ⟨g,0,none⟩) (k+1) cap)).frozen? ⟨xb,1,none⟩=false:=by rw [World.frozen?_setCell];exact f1
       have u2:=(World.cell?_setCell_other w4 ⟨xb,1,none⟩ ⟨xb,2,none⟩ (.slice (some ⟨g,0,none⟩) (k+1) cap) (by simp)).trans r2;have l2:(w4.setCell ⟨xb,1,none⟩ (.slice (some ⟨g,0,none⟩) (k+1) cap)).frozen? ⟨xb,2,none⟩=false:=by rw [World.frozen?_setCell];exact f2
       have HE:Hid ((w4.setCell ⟨xb,1,none⟩ (.slice (some ⟨g,0,none⟩) (k+1) cap)).ownsRow (xb+1) 51 5 (.slice (some ⟨g,0,none⟩) (k+1) cap) (k+1) ((P.take (k+1)).flatMap prC)):=by
        show World.ownsRow _ _ _ _ _ _ _;rw [←HFL.out];exact HO4.out
       have SP0:=kG (m:=k+1) (cap:=cap) OW0.out HS0.out (show(Value.slice vo k vc).ownBlock=some g∨g=(w2.alloc (.cells #[.int .i64 x0,.int .i64 x1,.int .i64 x2,.int .i64 x3,.int .i64 x4] 51)).drew.heap.size from hat) (by simp);have HE0:=aa (ownsRow_setCell_below ((((OW0.out.alloc _).drew).kept hg4 HS0.out)) (a:=⟨xb,1,none⟩) (show xb<xb+1 by omega) (.slice (some ⟨g,0,none⟩) (k+1) cap));clear HO4 HFL ho4 hg4 hat r0 r1 r2 f0 f1 f2 own1 NEWS1 base1 bel1 hy1 hy2 OW hb2 hb4 p2a hne1 hne2 hnw hbx t0 t1 t2 t3 t4 t5 t6 t7 t8 y0 y1 y2 OW0 HS0;generalize (w4.setCell ⟨xb,1,none⟩ (.slice (some ⟨g,0,none⟩) (k+1) cap))=w5 at*;go_wp2_with fail
       go_roundw
       case rel=>exact⟨k+1,_,by omega,by omega,by go_num,u0,u1,u2,l0,l1,l2,HE,HE0,aa SP0,HN,hb5⟩
       case measure=>simp [intOf];omega
     ·obtain rfl:=HNk.out (by simpa using hG);clear HNX HNk HLIM HFL OW OW0 HS0;go_wp2_with fail
      go_ret;exact⟨rfl,hb0.trans (hb2.mono (by omega))⟩
    ·have hkl2:k=P.length:=(by omega);subst hkl2;have HO1:Hid (wr.ownsRow (xb+1) 51 5 v P.length (P.flatMap prC)):=by
      have:=HO.out;rw [List.take_length]at this;exact aa this
     have HM1:Hid (aL S P=true):=fe HALL.out;clear HO HALL;obtain⟨v1,hvn⟩:∃z,z=v:=⟨_,rfl⟩;subst hvn;go_wp2_with fail
     clear d0 d1 d2
     rename World=>W2
     clear HS0;go_loopw [6] (fun i wr=>∃(k:Nat) (v:Value),k≤A.length∧k≤40∧i= .int .i64 k∧wr.cell? ⟨xb,0,none⟩=some (v0)∧wr.cell? ⟨xb,1,none⟩=some (v1)∧wr.cell? ⟨xb,2,none⟩=some (v)∧wr.frozen? ⟨xb,0,none⟩=false∧wr.frozen? ⟨xb,1,none⟩=false∧wr.frozen? ⟨xb,2,none⟩=false∧Hid (wr.ownsRow (xb+1) 62 9 v k ((A.take k).flatMap acC))∧Hid (wr.ownsRow (xb+1) 60 3 v0 S.length (S.flatMap swC))∧Hid (v0.ownBlock=none∨v0.ownBlock≠v.ownBlock)∧Hid (wr.ownsRow (xb+1) 51 5 v1 P.length (P.flatMap prC))∧Hid (v1.ownBlock=none∨v1.ownBlock≠v.ownBlock)∧Hid (∀j,j<k→(aU S (A.take j) (A.getD j ac0)==0)=true)∧Below xb W0 wr) (fun i _=>A.length-(intOf i).toNat)
     case atStart=>exact⟨0,_,by omega,by omega,rfl,p_0,p_1,p_2,z_0,z_1,z_2,aa ⟨by simp,.inl ⟨rfl,rfl⟩⟩,HO0,(pU _),HO1,(pU _),aa (fun j h=>absurd h (by omega)),hbr⟩
     case round=>
      clear p_0 p_1 p_2 z_0 z_1 z_2 hbr HO0 HO1;obtain⟨k,v,hk,hkl,rfl,p_0,p_1,p_2,z_0,z_1,z_2,HO,HO0,HS0,HO1,HS1,HALL,hbr⟩:=hrel;have hbw:Below w.heap.size w wr:=hb0.trans (hbr.mono (by omega));have d0:wr.cell? ⟨w.heap.size,0,none⟩=some (.slice s1 S.length s2):=(hbr.cell (p:=⟨w.heap.size,0,none⟩) hx1).trans c0;have d1:wr.cell? ⟨w.heap.size,1,none⟩=some (.slice p1 P.length p2):=(hbr.cell (p:=⟨w.heap.size,1,none⟩) hx1).trans c1;have d2:wr.cell? ⟨w.heap.size,2,none⟩=some (.slice a1 A.length a2):=(hbr.cell (p:=⟨w.heap.size,2,none⟩) hx1).trans c2;have hxw:xb<wr.heap.size:=by have:=hbr.size;omega
      by_cases hlt:k<A.length
      ·obtain⟨b,off,cap',e_1,hcap,hb,e0,e1,e2,e3,e4,e5,e6,e7,e8⟩:=tW HC.out.2.2 hlt;have HLT:=aa hlt;have hlk:Hid ((A.take k).length=k):=by show _=_;rw [List.length_take];omega
       obtain⟨vo,vc,hve⟩:=az HO.out;subst hve;obtain⟨vo0,vc0,hve⟩:=az HO0.out;subst hve;obtain⟨vo1,vc1,hve⟩:=az HO1.out;subst hve;have HK:Hid (∀W:World,Below wr.heap.size wr W→Calls Tryz.prog 34 #[.agg #[.slice vo0 S.length vc0,.slice vo1 P.length vc1,.slice vo k vc],.agg #[.int .i64 (A.getD k ac0).s,.int .i64 (A.getD k ac0).p,.bool (A.getD k ac0).n,.int .i64 (A.getD k ac0).src,.int .i64 (A.getD k ac0).sb,.int .i64 (A.getD k ac0).dst,.int .i64 (A.getD k ac0).db,.int .i64 (A.getD k ac0).o,.bool (A.getD k ac0).d]] W fun e w'=>e= .returned (.int .i64 (aU S (A.take k) (A.getD k ac0)))∧Below W.heap.size W w'):=fun W hW=>oT _ _ _ S P (A.take k) (A.getD k ac0) W ⟨RowAt.of_own jX (by omega) (ar HO0.out hW),RowAt.of_own et (by omega) (ar HO1.out hW),RowAt.of_own iJ (by omega) (by rw [hlk.out];exact ar HO.out hW)⟩ h1;have HNk:=aa (HN2.out k hlt);have HNX:Hid ((aU S (A.take k) (A.getD k ac0)==0)=true→∀j,j<k+1→(aU S (A.take j) (A.getD j ac0)==0)=true):=fun h j hj=>by
        by_cases e:j=k
        ·subst e;exact h
        ·exact HALL.out j (by omega)
       have HLIM:Hid (aU S (A.take k) (A.getD k ac0)=0→k<40):=fun h=>by have:=nI h;rw [hlk.out]at this;exact this
       have HFL:Hid ((A.take k).flatMap acC++ [.int .i64 (A.getD k ac0).s,.int .i64 (A.getD k ac0).p,.bool (A.getD k ac0).n,.int .i64 (A.getD k ac0).src,.int .i64 (A.getD k ac0).sb,.int .i64 (A.getD k ac0).dst,.int .i64 (A.getD k ac0).db,.int .i64 (A.getD k ac0).o,.bool (A.getD k ac0).d]=(A.take (k+1)).flatMap acC):=ku ac0 hlt;simp only [Value.slice.injEq,true_and]at e_1;obtain⟨rfl,rfl⟩:=e_1;have g0:=zC e0 hbw;have g1:=zC e1 hbw;have g2:=zC e2 hbw;have g3:=zC e3 hbw;have g4:=zC e4 hbw;have g5:=zC e5 hbw;have g6:=zC e6 hbw;have g7:=zC e7 hbw;have g8:=zC e8 hbw;clear HALL e0 e1 e2 e3 e4 e5 e6 e7 e8;generalize aU S (A.take k) (A.getD k ac0)=G at HK HNk HNX HLIM;generalize (A.getD k ac0).s=x0 at*;generalize (A.getD k ac0).p=x1 at*;generalize (A.getD k ac0).n=x2 at*;generalize (A.getD k ac0).src=x3 at*;generalize (A.getD k ac0).sb=x4 at*;generalize (A.getD k ac0).dst=x5 at*;generalize (A.getD k ac0).db=x6 at*;generalize (A.getD k ac0).o=x7 at*;generalize (A.getD k ac0).d=x8 at*;have q3:(0:Int)≤(k:Int):=(by omega);have q4:(k:Int)<(A.length:Int):=(by omega);go_wp2_with fail
       go_region_held3 (fun w'=>w'.cell? ⟨xb,0,none⟩=some (.slice vo0 S.length vc0)∧w'.cell? ⟨xb,1,none⟩=some (.slice vo1 P.length vc1)∧w'.cell? ⟨xb,2,none⟩=some (.slice vo k vc)∧w'.cell? ⟨w.heap.size,2,none⟩=some (.slice (some ⟨b,off,none⟩) A.length a2)∧w'.cell? ⟨b,off+k*9,none⟩=some (.int .i64 x0)∧w'.cell? ⟨b,off+k*9+1,none⟩=some (.int .i64 x1)∧w'.cell? ⟨b,off+k*9+2,none⟩=some (.bool x2)∧w'.cell? ⟨b,off+k*9+3,none⟩=some (.int .i64 x3)∧w'.cell? ⟨b,off+k*9+4,none⟩=some (.int .i64 x4)∧w'.cell? ⟨b,off+k*9+5,none⟩=some (.int .i64 x5)∧w'.cell? ⟨b,off+k*9+6,none⟩=some (.int .i64 x6)∧w'.cell? ⟨b,off+k*9+7,none⟩=some (.int .i64 x7)∧w'.cell? ⟨b,off+k*9+8,none⟩=some (.bool x8)) (go_keep)
        (first |(go_at_call 34;refine(ag HK _ ((Below.refl _ wr).drew)).mono ?_;rintro e w2 ⟨rfl,hc2⟩;have G2:Below wr.heap.size wr w2:=((Below.refl _ wr).drew).trans hc2;have t0:=zC p_0 G2;have t1:=zC p_1 G2;have t2:=zC p_2 G2;have t3:=zC d2 G2;have t4:=zC g0 G2;have t5:=zC g1 G2;have t6:=zC g2 G2;have t7:=zC g3 G2;have t8:=zC g4 G2;have t9:=zC g5 G2;have t10:=zC g6 G2;have t11:=zC g7 G2;have t12:=zC g8 G2))
       have OW:=aa (ar HO.out G2);have OW0:=aa (ar HO0.out G2);have OW1:=aa (ar HO1.out G2);have y0:=(G2.frozen (p:=⟨xb,0,none⟩) hxw).trans z_0;have y1:=(G2.frozen (p:=⟨xb,1,none⟩) hxw).trans z_1;have y2:=(G2.frozen (p:=⟨xb,2,none⟩) hxw).trans z_2;have hb2:Below xb W0 w2:=hbr.trans (G2.mono (Nat.le_of_lt hxw));have hx3:xb<w2.heap.size:=Nat.lt_of_lt_of_le hxw G2.size;have hbx:b<w2.heap.size:=am t4;clear HK hc2 G2 hbr hbw HO p_0 p_1 p_2 z_0 z_1 z_2 d0 d1 d2 hxw HO0 HO1 g0 g1 g2 g3 g4 g5 g6 g7 g8;by_cases hG:G=0
       ·subst hG;have HN:=aa (HNX.out rfl);have hlim:=HLIM.out rfl;clear HNX HNk HLIM;have own1:=aa ((OW.out.alloc (.cells #[.int .i64 x0,.int .i64 x1,.bool x2,.int .i64 x3,.int .i64 x4,.int .i64 x5,.int .i64 x6,.int .i64 x7,.bool x8] 62)).drew);have NEWS1:Hid (∀j u,[(.int .i64 x0:Value),(.int .i64 x1:Value),(.bool x2:Value),(.int .i64 x3:Value),(.int .i64 x4:Value),(.int .i64 x5:Value),(.int .i64 x6:Value),(.int .i64 x7:Value),(.bool x8:Value)][j]? =some u→(w2.alloc (.cells #[.int .i64 x0,.int .i64 x1,.bool x2,.int .i64 x3,.int .i64 x4,.int .i64 x5,.int .i64 x6,.int .i64 x7,.bool x8] 62)).drew.cell? ((⟨w2.heap.size,0,none⟩:Addr).add j)=some u):=by
         intro j u hj;rw [jy,Nat.zero_add];exact aj w2 _ rfl #[.int .i64 x0,.int .i64 x1,.bool x2,.int .i64 x3,.int .i64 x4,.int .i64 x5,.int .i64 x6,.int .i64 x7,.bool x8] _ j u (by simpa using hj)
        have base1:xb+1≤(w2.alloc (.cells #[.int .i64 x0,.int .i64 x1,.bool x2,.int .i64 x3,.int .i64 x4,.int .i64 x5,.int .i64 x6,.int .i64 x7,.bool x8] 62)).drew.heap.size:=by simp;omega
        have bel1:Below (xb+1) w2 (w2.alloc (.cells #[.int .i64 x0,.int .i64 x1,.bool x2,.int .i64 x3,.int .i64 x4,.int .i64 x5,.int .i64 x6,.int .i64 x7,.bool x8] 62)).drew:=((Below.refl _ w2).alloc (by omega) _).drew;have hy1:k+1≤maxLen:=by unfold maxLen;omega
        have hy2:(k+1)*72≤140737488355328:=(by omega);have hne1:xb≠w.heap.size:=(by omega);have hne2:xb≠b:=(by omega);have hnw:w.heap.size<w2.heap.size:=(by omega);have p2a:(w2.alloc (.cells #[.int .i64 x0,.int .i64 x1,.bool x2,.int .i64 x3,.int .i64 x4,.int .i64 x5,.int .i64 x6,.int .i64 x7,.bool x8] 62)).drew.cell? ⟨xb,2,none⟩=some (.slice vo k vc):=(bel1.cell (p:=⟨xb,2,none⟩) (show xb<xb+1 by omega)).trans t2;go_wp2_with fail
        go_region_law
         (first |(refine step_append_lies _ rfl (.tmp 74) (.tmp 80) 24 rfl (xb+1) 62 iA _ 9 72 Tryz.underlying24 hiA zA0 zA1 zA2 rfl (by decide) _ _ _ rfl (ag own1) ⟨w2.heap.size,0,none⟩ 1 1 [.int .i64 x0,.int .i64 x1,.bool x2,.int .i64 x3,.int .i64 x4,.int .i64 x5,.int .i64 x6,.int .i64 x7,.bool x8] rfl rfl (ag NEWS1) (du rfl) (by decide) hy1 hy2 base1 _ rfl ?_;intro g cap w4 ho4 hg4 hat _;have hb4:=bel1.grown hg4 base1 (aS (ag own1));have r0:=(hb4.cell (p:=⟨xb,0,none⟩) (show xb<xb+1 by omega)).trans t0;have r1:=(hb4.cell (p:=⟨xb,1,none⟩) (show xb<xb+1 by omega)).trans t1;have r2:=(hb4.cell (p:=⟨xb,2,none⟩) (show xb<xb+1 by omega)).trans t2;have f0:=(hb4.frozen (p:=⟨xb,0,none⟩) (show xb<xb+1 by omega)).trans y0;have f1:=(hb4.frozen (p:=⟨xb,1,none⟩) (show xb<xb+1 by omega)).trans y1;have f2:=(hb4.frozen (p:=⟨xb,2,none⟩) (show xb<xb+1 by omega)).trans y2))
        all_goals
         have HO4:=aa (ownsRow_setCell_below ho4 (a:=⟨xb,2,none⟩) (show xb<xb+1 by omega) (.slice (some ⟨g,0,none⟩) (k+1) cap));have hb5:Below xb W0 (w4.setCell ⟨xb,2,none⟩ (.slice (some ⟨g,0,none⟩) (k+1) cap)):=(hb2.trans (hb4.mono (Nat.le_succ _))).setCell zr _;have u0:=(World.cell?_setCell_other w4 ⟨xb,2,none⟩ ⟨xb,0,none⟩ (.slice (some ⟨g,0,none⟩) (k+1) cap) (by simp)).trans r0;have l0:(w4.setCell ⟨xb,2,none⟩ (.slice (some ⟨g,0,none⟩) (k+1) cap)).frozen? ⟨xb,0,none⟩=false:=by rw [World.frozen?_setCell];exact f0
         have u1:=(World.cell?_setCell_other w4 ⟨xb,2,none⟩ ⟨xb,1,none⟩ (.slice (some ⟨g,0,none⟩) (k+1) cap) (by simp)).trans r1;have l1:(w4.setCell ⟨xb,2,none⟩ (.slice (some ⟨g,0,none⟩) (k+1) cap)).frozen? ⟨xb,1,none⟩=false:=by rw [World.frozen?_setCell];exact f1
         have u2:=World.cell?_setCell_same w4 _ (.slice (some ⟨g,0,none⟩) (k+1) cap) r2;have l2:(w4.setCell ⟨xb,2,none⟩ (.slice (some ⟨g,0,none⟩) (k+1) cap)).frozen? ⟨xb,2,none⟩=false:=by rw [World.frozen?_setCell];exact f2
         have HE:Hid ((w4.setCell ⟨xb,2,none⟩ (.slice (some ⟨g,0,none⟩) (k+1) cap)).ownsRow (xb+1) 62 9 (.slice (some ⟨g,0,none⟩) (k+1) cap) (k+1) ((A.take (k+1)).flatMap acC)):=by
          show World.ownsRow _ _ _ _ _ _ _;rw [←HFL.out];exact HO4.out
         have SP0:=kG (m:=k+1) (cap:=cap) OW0.out HS0.out (show(Value.slice vo k vc).ownBlock=some g∨g=(w2.alloc (.cells #[.int .i64 x0,.int .i64 x1,.bool x2,.int .i64 x3,.int .i64 x4,.int .i64 x5,.int .i64 x6,.int .i64 x7,.bool x8] 62)).drew.heap.size from hat) (by simp);have HE0:=aa (ownsRow_setCell_below ((((OW0.out.alloc _).drew).kept hg4 HS0.out)) (a:=⟨xb,2,none⟩) (show xb<xb+1 by omega) (.slice (some ⟨g,0,none⟩) (k+1) cap));have SP1:=kG (m:=k+1) (cap:=cap) OW1.out HS1.out (show(Value.slice vo k vc).ownBlock=some g∨g=(w2.alloc (.cells #[.int .i64 x0,.int .i64 x1,.bool x2,.int .i64 x3,.int .i64 x4,.int .i64 x5,.int .i64 x6,.int .i64 x7,.bool x8] 62)).drew.heap.size from hat) (by simp);have HE1:=aa (ownsRow_setCell_below ((((OW1.out.alloc _).drew).kept hg4 HS1.out)) (a:=⟨xb,2,none⟩) (show xb<xb+1 by omega) (.slice (some ⟨g,0,none⟩) (k+1) cap));clear HO4 HFL ho4 hg4 hat r0 r1 r2 f0 f1 f2 own1 NEWS1 base1 bel1 hy1 hy2 OW hb2 hb4 p2a hne1 hne2 hnw hbx t0 t1 t2 t3 t4 t5 t6 t7 t8 t9 t10 t11 t12 y0 y1 y2 OW0 HS0 OW1 HS1;generalize (w4.setCell ⟨xb,2,none⟩ (.slice (some ⟨g,0,none⟩) (k+1) cap))=w5 at*;go_wp2_with fail
         go_roundw
         case rel=>exact⟨k+1,_,by omega,by omega,by go_num,u0,u1,u2,l0,l1,l2,HE,HE0,aa SP0,HE1,aa SP1,HN,hb5⟩
         case measure=>simp [intOf];omega
       ·obtain rfl:=HNk.out (by simpa using hG);clear HNX HNk HLIM HFL OW OW0 HS0 OW1 HS1;go_wp2_with fail
        go_ret;exact⟨rfl,hb0.trans (hb2.mono (by omega))⟩
      ·have hkl2:k=A.length:=(by omega);subst hkl2;have HO2:Hid (wr.ownsRow (xb+1) 62 9 v A.length (A.flatMap acC)):=by
        have:=HO.out;rw [List.take_length]at this;exact aa this
       have HM2:Hid (bE S A=true):=fe HALL.out;obtain rfl:=HYY.out HM0.out HM1.out HM2.out;clear HO HALL;go_wp2_with fail
       go_ret;exact⟨rfl,hbw⟩
theorem tC (n lo hi:Int) (w:World):
  Calls Tryz.prog 18 #[.int .i64 n,.int .i64 lo,.int .i64 hi] w fun e w'=>e= .returned (.bool (decide (lo≤n∧n≤hi)))∧w'=w:=by
 go_enter Tryz.func18,Tryz.ntmps18;go_wp2
 all_goals go_ret
 all_goals refine⟨aq ?_,rfl⟩
 all_goals (rw [Bool.eq_iff_iff];simp_all;try omega)
theorem cr (n:Int) (w:World):
  Calls Tryz.prog 18 #[.int .i64 n,.int .i64 0,.int .i64 65535] w fun e w'=>e= .returned (.bool (ap n))∧w'=w:=tC n 0 65535 w
theorem mI (n:Int) (w:World):
  Calls Tryz.prog 18 #[.int .i64 n,.int .i64 1,.int .i64 3] w fun e w'=>e= .returned (.bool (gY n))∧w'=w:=tC n 1 3 w
theorem ti (n:Int) (w:World):
  Calls Tryz.prog 18 #[.int .i64 n,.int .i64 0,.int .i64 255] w fun e w'=>e= .returned (.bool (jc n))∧w'=w:=tC n 0 255 w
theorem ne (dst src kind ips ipd ttl port:Int) (body:ByteArray) (w:World) (hb:body.size≤maxLen):
  Calls Tryz.prog 15 #[fr dst src kind ips ipd ttl port body] w fun e w'=>e= .returned (.int .i64 (aQ dst src kind ips ipd ttl port body.size))∧Below w.heap.size w w':=by
 unfold maxLen at hb;by_cases hk:gY kind=true
 ·go_enter Tryz.func15,Tryz.ntmps15;go_wp2_with fail
  refine(mI _ _).mono ?_;rintro e w' ⟨rfl,rfl⟩;go_wp2_with fail
  go_loop [4] (fun i=>∃k:Nat,k≤5∧i= .int .i64 k∧(1≤k→ap dst=true)∧(2≤k→ap src=true)∧(3≤k→ap ips=true)∧(4≤k→ap ipd=true)∧(5≤k→ap port=true)) (fun i=>5-(intOf i).toNat)
  case atStart=>exact⟨0,by omega,rfl,fun h=>absurd h (by omega),fun h=>absurd h (by omega),fun h=>absurd h (by omega),fun h=>absurd h (by omega),fun h=>absurd h (by omega)⟩
  case round=>
   obtain⟨k,hk5,rfl,h0,h1,h2,h3,h4⟩:=hrel;have hcase:k=0∨k=1∨k=2∨k=3∨k=4∨k=5:=(by omega);rcases hcase with rfl | rfl | rfl | rfl | rfl | rfl
   ·by_cases hx:ap dst=true
    ·go_wp2_with (go_at_call 18;refine(cr _ _).mono ?_;rintro e w' ⟨rfl,rfl⟩)
     go_round
     case rel=>exact⟨1,by omega,rfl,fun _=>hx,fun h=>absurd h (by omega),fun h=>absurd h (by omega),fun h=>absurd h (by omega),fun h=>absurd h (by omega)⟩
     case measure=>simp [intOf]
    ·have hx':ap dst=false:=(by simpa using hx);clear hx;go_wp2_with (go_at_call 18;refine(cr _ _).mono ?_;rintro e w' ⟨rfl,rfl⟩)
     go_ret;exact⟨ah (by unfold aQ cB;simp [hk,hx']),((Below.refl _ _).alloc zr _).alloc (by simp) _⟩
   ·by_cases hx:ap src=true
    ·go_wp2_with (go_at_call 18;refine(cr _ _).mono ?_;rintro e w' ⟨rfl,rfl⟩)
     go_round
     case rel=>exact⟨2,by omega,rfl,fun _=>h0 (by omega),fun _=>hx,fun h=>absurd h (by omega),fun h=>absurd h (by omega),fun h=>absurd h (by omega)⟩
     case measure=>simp [intOf]
    ·have hx':ap src=false:=(by simpa using hx);clear hx;go_wp2_with (go_at_call 18;refine(cr _ _).mono ?_;rintro e w' ⟨rfl,rfl⟩)
     go_ret;exact⟨ah (by unfold aQ cB;simp [hk,hx']),((Below.refl _ _).alloc zr _).alloc (by simp) _⟩
   ·by_cases hx:ap ips=true
    ·go_wp2_with (go_at_call 18;refine(cr _ _).mono ?_;rintro e w' ⟨rfl,rfl⟩)
     go_round
     case rel=>exact⟨3,by omega,rfl,fun _=>h0 (by omega),fun _=>h1 (by omega),fun _=>hx,fun h=>absurd h (by omega),fun h=>absurd h (by omega)⟩
     case measure=>simp [intOf]
    ·have hx':ap ips=false:=(by simpa using hx);clear hx;go_wp2_with (go_at_call 18;refine(cr _ _).mono ?_;rintro e w' ⟨rfl,rfl⟩)
     go_ret;exact⟨ah (by unfold aQ cB;simp [hk,hx']),((Below.refl _ _).alloc zr _).alloc (by simp) _⟩
   ·by_cases hx:ap ipd=true
    ·go_wp2_with (go_at_call 18;refine(cr _ _).mono ?_;rintro e w' ⟨rfl,rfl⟩)
     go_round
     case rel=>exact⟨4,by omega,rfl,fun _=>h0 (by omega),fun _=>h1 (by omega),fun _=>h2 (by omega),fun _=>hx,fun h=>absurd h (by omega)⟩
     case measure=>simp [intOf]
    ·have hx':ap ipd=false:=(by simpa using hx);clear hx;go_wp2_with (go_at_call 18;refine(cr _ _).mono ?_;rintro e w' ⟨rfl,rfl⟩)
     go_ret;exact⟨ah (by unfold aQ cB;simp [hk,hx']),((Below.refl _ _).alloc zr _).alloc (by simp) _⟩
   ·by_cases hx:ap port=true
    ·go_wp2_with (go_at_call 18;refine(cr _ _).mono ?_;rintro e w' ⟨rfl,rfl⟩)
     go_round
     case rel=>exact⟨5,by omega,rfl,fun _=>h0 (by omega),fun _=>h1 (by omega),fun _=>h2 (by omega),fun _=>h3 (by omega),fun _=>hx⟩
     case measure=>simp [intOf]
    ·have hx':ap port=false:=(by simpa using hx);clear hx;go_wp2_with (go_at_call 18;refine(cr _ _).mono ?_;rintro e w' ⟨rfl,rfl⟩)
     go_ret;exact⟨ah (by unfold aQ cB;simp [hk,hx']),((Below.refl _ _).alloc zr _).alloc (by simp) _⟩
   ·have g0:=h0 (by omega);have g1:=h1 (by omega);have g2:=h2 (by omega);have g3:=h3 (by omega);have g4:=h4 (by omega);clear h0 h1 h2 h3 h4;have HB:Hid (cB dst src ips ipd ttl port=jc ttl):=by show _=_;unfold cB;simp [g0,g1,g2,g3,g4]
    have hp0:0≤port:=by unfold ap at g4;simp at g4;omega
    have ht0:jc ttl=true→0≤ttl:=by unfold jc;simp;omega
    clear g0 g1 g2 g3 g4;go_wp2_with (go_at_call 18;refine(ti _ _).mono ?_;rintro e w' ⟨rfl,rfl⟩)
    all_goals go_ret
    all_goals refine⟨ah ?_,((Below.refl _ _).alloc zr _).alloc (by simp) _⟩
    all_goals (go_light;unfold aQ;rw [HB.out];clear HB;unfold jO;generalize body.size=n at*;simp_all;try (repeat' split) <;>omega)
 ·have hk':gY kind=false:=(by simpa using hk);clear hk;go_enter Tryz.func15,Tryz.ntmps15;go_wp2_with fail
  refine(mI _ _).mono ?_;rintro e w' ⟨rfl,rfl⟩;go_wp2_with fail
  go_ret;exact⟨ah (by unfold aQ;rw [hk'];rfl),(Below.refl _ _).alloc zr _⟩
theorem AK {w:World} {b:Nat} {x y z:Value} {S:List Sw} {P:List Pr} {A:List Ac} {s1 p1 a1:Option Addr} {s2 p2 a2:Nat} (hB:Box w b [.slice s1 S.length s2,.slice p1 P.length p2,.slice a1 A.length a2,.slice s1 S.length s2,.slice p1 P.length p2,.slice a1 A.length a2,.slice s1 S.length s2,.slice p1 P.length p2,.slice a1 A.length a2,.slice s1 S.length s2,.slice p1 P.length p2,.slice a1 A.length a2,.slice s1 S.length s2,.slice p1 P.length p2,.slice a1 A.length a2,.slice s1 S.length s2,.slice p1 P.length p2,.slice a1 A.length a2]) (hC:CfAt w (.slice s1 S.length s2) (.slice p1 P.length p2) (.slice a1 A.length a2) S P A):KC w (.slice (some ⟨b,0,none⟩) 6 6) (fun _=>⟨S,P,A⟩):=
 ⟨b,0,6,rfl,Nat.le_refl _,fun i hi=>⟨s1,s2,p1,p2,a1,a2,fun j v hj=>by
  have h3:j=0∨j=1∨j=2:=by
   have:=(List.getElem?_eq_some_iff.1 hj).1;simp at this;omega
  have h:=hB.cell (i*3+j);rw [show 0+i*3+j=i*3+j by omega];rcases(by omega:i=0∨i=1∨i=2∨i=3∨i=4∨i=5)with rfl | rfl | rfl | rfl | rfl | rfl <;>rcases h3 with rfl | rfl | rfl <;>exact h v hj,hC⟩⟩
theorem nL (sv pv av:Value) (S:List Sw) (P:List Pr) (A:List Ac) (id d s kd a b t o:Int) (body:ByteArray) (w:World) (hC:CfAt w sv pv av S P A) (h1:S.length*24≤140737488355328) (h2:P.length*40≤140737488355328) (h3:A.length*72≤140737488355328) (hbm:body.size≤maxLen):
  Calls Tryz.prog 6 #[.agg #[sv,pv,av],.int .i64 id,fr d s kd a b t o body] w fun e w'=>∃u,e= .returned (.tuple #[u,.int .i64 (if may S P A=true then pG P id d s kd a b t o body.size else 8)])∧w'.ownsRow w.heap.size 58 9 u (if may S P A=true then qK (fun _=>⟨S,P,A⟩) P id d s kd a b t o body.size else []).length (AR body (if may S P A=true then qK (fun _=>⟨S,P,A⟩) P id d s kd a b t o body.size else []))∧Below w.heap.size w w':=by
 obtain⟨s1,s2,rfl⟩:=hC.1.slice;obtain⟨p1,p2,rfl⟩:=hC.2.1.slice;obtain⟨a1,a2,rfl⟩:=hC.2.2.slice;have HC:=aa hC;clear hC;have HMY:=aa (fun W hC=>qk (.slice s1 S.length s2) (.slice p1 P.length p2) (.slice a1 A.length a2) S P A W hC h1 h2 h3);have HFF:=aa (fun W=>ne d s kd a b t o body W hbm);obtain⟨E,hE⟩:∃E:Int,E=if may S P A=true then pG P id d s kd a b t o body.size else 8:=⟨_,rfl⟩;obtain⟨DL,hDL⟩:∃DL:List Ar,DL=if may S P A=true then qK (fun _=>⟨S,P,A⟩) P id d s kd a b t o body.size else []:=⟨_,rfl⟩;rw [←hE, ←hDL];have HE:=aa hE;have HDL:=aa hDL;clear hE hDL h1 h2 h3;have kb:=Below.refl w.heap.size w;obtain⟨W0,hW0⟩:∃W0,W0=w.alloc (.cells #[.slice s1 S.length s2,.slice p1 P.length p2,.slice a1 A.length a2] 26):=⟨_,rfl⟩;have bW0:Below w.heap.size w W0:=by rw [hW0];exact(Below.refl _ _).alloc zr _
 have HB1:Hid (Box W0 w.heap.size [.slice s1 S.length s2,.slice p1 P.length p2,.slice a1 A.length a2]):=by rw [hW0];exact aa (Box.new w [.slice s1 S.length s2,.slice p1 P.length p2,.slice a1 A.length a2] 26)
 replace HC:=aa (HC.out.below bW0 zr);replace kb:=kb.trans (bW0.mono kb.size);have HW0:Hid (w.alloc (.cells #[.slice s1 S.length s2,.slice p1 P.length p2,.slice a1 A.length a2] 26)=W0):=hW0.symm;clear hW0 bW0;obtain⟨W1,hW1⟩:∃W1,W1=W0.alloc (.cells #[.int .i64 d,.int .i64 s,.int .i64 kd,.int .i64 a,.int .i64 b,.int .i64 t,.int .i64 o,.string body] 28):=⟨_,rfl⟩;have bW1:Below W0.heap.size W0 W1:=by rw [hW1];exact(Below.refl _ _).alloc zr _
 have HB2:Hid (Box W1 W0.heap.size [.int .i64 d,.int .i64 s,.int .i64 kd,.int .i64 a,.int .i64 b,.int .i64 t,.int .i64 o,.string body]):=by rw [hW1];exact aa (Box.new W0 [.int .i64 d,.int .i64 s,.int .i64 kd,.int .i64 a,.int .i64 b,.int .i64 t,.int .i64 o,.string body] 28)
 replace HB1:=aa (HB1.out.below bW1);replace HC:=aa (HC.out.below bW1 zr);replace kb:=kb.trans (bW1.mono kb.size);have HW1:Hid (W0.alloc (.cells #[.int .i64 d,.int .i64 s,.int .i64 kd,.int .i64 a,.int .i64 b,.int .i64 t,.int .i64 o,.string body] 28)=W1):=hW1.symm;clear hW1 bW1;go_enter Tryz.func6,Tryz.ntmps6;go_wp2_with (first | rw [HW1.out] | rw [HW0.out] |(refine wpList_load_mid rfl 26 (.tmp 3) rfl w.heap.size 0 rfl _ _ HB1.out.range Tryz.underlying26 rfl dx ?_))
 clear HW1 HW0;refine(HMY.out _ HC.out).mono ?_;rintro e W2 ⟨rfl,hbW2⟩;clear HMY;replace HB1:=aa (HB1.out.below hbW2);replace HB2:=aa (HB2.out.below hbW2);replace HC:=aa (HC.out.below hbW2 zr);replace kb:=kb.trans (hbW2.mono kb.size);clear hbW2;by_cases hm:may S P A=true
 ·rw [if_pos hm]at HE HDL;have hpm:=hm;obtain⟨n1,n2,n3⟩:=iN hm;have HPO:=aa (fun W hC=>iW (.slice s1 S.length s2) (.slice p1 P.length p2) (.slice a1 A.length a2) S P A id W hC (by omega));have hpp:=fun(h:P.any (fun q=>q.i==id)=true)=>(bI (aR hm).1 (aR hm).2.1).2 _ (jf h).1;have hpi:=fun(h:P.any (fun q=>q.i==id)=true)=>(jf h).2;have HMM:=aa hm;rw [hm];clear hm hpm;go_wp2_with (first |(refine wpList_load_mid rfl 26 (.tmp 3) rfl w.heap.size 0 rfl _ _ HB1.out.range Tryz.underlying26 rfl dx ?_))
  refine(HPO.out _ HC.out).mono ?_;rintro e W3 ⟨rfl,hbW3⟩;clear HPO;replace HB1:=aa (HB1.out.below hbW3);replace HB2:=aa (HB2.out.below hbW3);replace HC:=aa (HC.out.below hbW3 zr);replace kb:=kb.trans (hbW3.mono kb.size);clear hbW3;have HEE:Hid (pG P id d s kd a b t o body.size=if P.any (fun q=>q.i==id)=true∧¬(pof P id).c<0 then aQ d s kd a b t o body.size else 6):=rfl;have HDD:Hid (qK (fun _=>⟨S,P,A⟩) P id d s kd a b t o body.size=if pG P id d s kd a b t o body.size=0 then eE (fun _=>⟨S,P,A⟩) (pof P id).c.toNat 1000 (dj S P A (pof P id).c id d s kd a b t o)else []):=rfl;rw [HDD.out]at HDL;rw [HEE.out]at HE HDL;clear HDD HEE;obtain⟨TT,hTT⟩:∃TT,TT=P.any (fun q=>q.i==id):=⟨_,rfl⟩;rw [←hTT]at hpp hpi HE HDL⊢;clear hTT;generalize pof P id=x at*;obtain⟨x0,x1,x2,x3,x4⟩:=x;simp only at hpp hpi HE HDL;obtain⟨W4,hW4⟩:∃W4,W4=W3.alloc (.cells #[.int .i64 x0,.int .i64 x1,.int .i64 x2,.int .i64 x3,.int .i64 x4] 51):=⟨_,rfl⟩;have bW4:Below W3.heap.size W3 W4:=by rw [hW4];exact(Below.refl _ _).alloc zr _
  have HB3:Hid (Box W4 W3.heap.size [.int .i64 x0,.int .i64 x1,.int .i64 x2,.int .i64 x3,.int .i64 x4]):=by rw [hW4];exact aa (Box.new W3 [.int .i64 x0,.int .i64 x1,.int .i64 x2,.int .i64 x3,.int .i64 x4] 51)
  replace HB1:=aa (HB1.out.below bW4);replace HB2:=aa (HB2.out.below bW4);replace HC:=aa (HC.out.below bW4 zr);replace kb:=kb.trans (bW4.mono kb.size);have HW4:Hid (W3.alloc (.cells #[.int .i64 x0,.int .i64 x1,.int .i64 x2,.int .i64 x3,.int .i64 x4] 51)=W4):=hW4.symm;clear hW4 bW4;have c4:=HB3.out.cell 4 _ rfl;have hc:TT=false∨TT=true∧(x4<0∨¬x4<0):=by cases TT <;>simp <;>omega
  rcases hc with rfl |⟨rfl,h4 | h4⟩
  ·rw [if_neg (show¬(false=true∧¬x4<0)from fun h=>absurd h.1 (by simp))]at HE HDL;rw [if_neg (show¬((6:Int)=0) by decide)]at HDL;obtain rfl:=HE.out;clear HFF hpp hpi;go_wp2_with (rw [HW4.out])
   go_ret2;exact⟨_,rfl,by rw [HDL.out];exact World.ownsRow_nil _ _ _ _,kb⟩
  ·rw [if_neg (show¬(true=true∧¬x4<0)from fun h=>h.2 h4)]at HE HDL;rw [if_neg (show¬((6:Int)=0) by decide)]at HDL;obtain rfl:=HE.out;clear HFF hpp hpi;go_wp2_with (rw [HW4.out])
   go_ret2;exact⟨_,rfl,by rw [HDL.out];exact World.ownsRow_nil _ _ _ _,kb⟩
  ·rw [if_pos (show true=true∧¬x4<0 from⟨rfl,h4⟩)]at HE HDL;have hpb:=hpp rfl;have hpe:=hpi rfl;have HIB:Hid (0≤id∧id≤65535):=aa (by omega);clear hpp hpi hpe;go_wp2_with (first | rw [HW4.out] |(refine wpList_load_mid rfl 28 (.tmp 5) rfl W0.heap.size 0 rfl _ _ HB2.out.range Tryz.underlying28 rfl dR ?_))
   clear HW4;refine(HFF.out _).mono ?_;rintro e W5 ⟨rfl,hbW5⟩;clear HFF;replace HB1:=aa (HB1.out.below hbW5);replace HB2:=aa (HB2.out.below hbW5);replace HB3:=aa (HB3.out.below hbW5);replace HC:=aa (HC.out.below hbW5 zr);replace kb:=kb.trans (hbW5.mono kb.size);clear hbW5;by_cases hf:aQ d s kd a b t o body.size=0
   ·rw [if_pos hf]at HDL;have hE0:E=0:=HE.out.trans hf;rw [hf];clear HE;subst hE0;obtain⟨c9,rfl⟩:=Int.eq_ofNat_of_zero_le (show 0≤x4 by omega);rw [Int.toNat_natCast]at HDL;have HB35:=HB3;have HB1L:=HB1;obtain⟨W6,hW6⟩:∃W6,W6=W5.alloc (.cells #[.slice s1 S.length s2,.slice p1 P.length p2,.slice a1 A.length a2,.slice s1 S.length s2,.slice p1 P.length p2,.slice a1 A.length a2,.slice s1 S.length s2,.slice p1 P.length p2,.slice a1 A.length a2,.slice s1 S.length s2,.slice p1 P.length p2,.slice a1 A.length a2,.slice s1 S.length s2,.slice p1 P.length p2,.slice a1 A.length a2,.slice s1 S.length s2,.slice p1 P.length p2,.slice a1 A.length a2] 26):=⟨_,rfl⟩;have bW6:Below W5.heap.size W5 W6:=by rw [hW6];exact(Below.refl _ _).alloc zr _
    have HBK:Hid (Box W6 W5.heap.size [.slice s1 S.length s2,.slice p1 P.length p2,.slice a1 A.length a2,.slice s1 S.length s2,.slice p1 P.length p2,.slice a1 A.length a2,.slice s1 S.length s2,.slice p1 P.length p2,.slice a1 A.length a2,.slice s1 S.length s2,.slice p1 P.length p2,.slice a1 A.length a2,.slice s1 S.length s2,.slice p1 P.length p2,.slice a1 A.length a2,.slice s1 S.length s2,.slice p1 P.length p2,.slice a1 A.length a2]):=by rw [hW6];exact aa (Box.new W5 [.slice s1 S.length s2,.slice p1 P.length p2,.slice a1 A.length a2,.slice s1 S.length s2,.slice p1 P.length p2,.slice a1 A.length a2,.slice s1 S.length s2,.slice p1 P.length p2,.slice a1 A.length a2,.slice s1 S.length s2,.slice p1 P.length p2,.slice a1 A.length a2,.slice s1 S.length s2,.slice p1 P.length p2,.slice a1 A.length a2,.slice s1 S.length s2,.slice p1 P.length p2,.slice a1 A.length a2] 26)
    replace HB1:=aa (HB1.out.below bW6);replace HB2:=aa (HB2.out.below bW6);replace HB3:=aa (HB3.out.below bW6);replace HC:=aa (HC.out.below bW6 zr);replace kb:=kb.trans (bW6.mono kb.size);have HW6:Hid (W5.alloc (.cells #[.slice s1 S.length s2,.slice p1 P.length p2,.slice a1 A.length a2,.slice s1 S.length s2,.slice p1 P.length p2,.slice a1 A.length a2,.slice s1 S.length s2,.slice p1 P.length p2,.slice a1 A.length a2,.slice s1 S.length s2,.slice p1 P.length p2,.slice a1 A.length a2,.slice s1 S.length s2,.slice p1 P.length p2,.slice a1 A.length a2,.slice s1 S.length s2,.slice p1 P.length p2,.slice a1 A.length a2] 26)=W6):=hW6.symm;clear hW6 bW6;have HKC:Hid (KC W6 (.slice (some ⟨W5.heap.size,0,none⟩) 6 6) (fun _=>⟨S,P,A⟩)):=aa (AK (x:=undef) (y:=undef) (z:=undef) HBK.out HC.out);have c4b:=HB3.out.cell 4 _ rfl;have hSN:=aa (tg _ (fun _=>⟨S,P,A⟩) c9 id d s kd a b t o body W6 HKC.out (by omega) (fun _ _=>HMM.out) HIB.out hf);have HBL:=HB1;have HB2c:=HB2;go_wp2_with (first | rw [HW6.out] |(refine wpList_load_mid rfl 26 (.tmp 3) rfl w.heap.size 0 rfl _ _ HB1L.out.range Tryz.underlying26 rfl dx ?_) |(refine wpList_load_mid rfl 28 (.tmp 5) rfl W0.heap.size 0 rfl _ _ HB2.out.range Tryz.underlying28 rfl dR ?_))
    refine hSN.out.mono ?_;rintro e w7 ⟨u,rfl,ho,hb⟩;have HO:=aa (aA ho kb.size);have kb7:=kb.trans (hb.mono kb.size);clear ho hb hSN;go_wp2_with fail
    go_ret2;exact⟨_,rfl,by rw [HDL.out];exact HO.out,kb7⟩
   ·rw [if_neg hf]at HDL;rw [←HE.out]at hf⊢;have hfb:(E != 0)=true:=(by simpa using hf);clear HE;go_wp2_with fail
    go_ret2;exact⟨_,rfl,by rw [HDL.out];exact World.ownsRow_nil _ _ _ _,kb⟩
 ·rw [if_neg hm]at HE HDL;obtain rfl:=HE.out;rw [show may S P A=false from by simpa using hm];go_wp2_with fail
  go_ret2;exact⟨_,rfl,by rw [HDL.out];exact World.ownsRow_nil _ _ _ _,kb⟩
theorem BH (f0 f1 f2 f3 f4 f5 f6:Int) (body:ByteArray) (w:World):(Op.equalIn 9999 28 (.agg #[.int .i64 f0,.int .i64 f1,.int .i64 f2,.int .i64 f3,.int .i64 f4,.int .i64 f5,.int .i64 f6,.string body]) (.agg #[.int .i64 f0,.int .i64 f1,.int .i64 f2,.int .i64 f3,.int .i64 f4,.int .i64 f5,.int .i64 f6,.string body])).run Tryz.prog w= .ok true w:=by
 have hS:Tryz.prog.underlying 28=some (.struct (Tryz.prog.fieldsOf 28)):=by kernel_rfl
 have hp:Tryz.prog.stoodInHeld 28=false:=by kernel_rfl
 rw [show(9999:Nat)=9998+1 from rfl,run_equalIn_agg w 9998 28 _ _ hS hp];simp only [Program.fieldsOf,Tryz.underlying28];go_simp
theorem BE (x0 f0 f1 f2 f3 f4 f5 f6:Int) (body:ByteArray) (w:World):(Op.equalIn 10000 58 (.agg #[.int .i64 x0,.int .i64 f0,.int .i64 f1,.int .i64 f2,.int .i64 f3,.int .i64 f4,.int .i64 f5,.int .i64 f6,.string body]) (.agg #[.int .i64 x0,.int .i64 f0,.int .i64 f1,.int .i64 f2,.int .i64 f3,.int .i64 f4,.int .i64 f5,.int .i64 f6,.string body])).run Tryz.prog w= .ok true w:=by
 have hS:Tryz.prog.underlying 58=some (.struct (Tryz.prog.fieldsOf 58)):=by kernel_rfl
 have hp:Tryz.prog.stoodInHeld 58=false:=by kernel_rfl
 have ha:=BH f0 f1 f2 f3 f4 f5 f6 body;rw [show(10000:Nat)=9999+1 from rfl,run_equalIn_agg w 9999 58 _ _ hS hp];simp only [Program.fieldsOf,Tryz.underlying58];go_simp
theorem xv:Tryz.prog.eqGuardType Tryz.prog.depth 58=false:=by kernel_rfl
theorem pB (u v:Value) (l:List Ar) (body:ByteArray) (w:World) (hu:RowAt (arC body) 9 w u l) (hv:RowAt (arC body) 9 w v l) (hl:l.length≤2000000):
  Calls Tryz.prog 7 #[u,v] w fun e w'=>e= .returned (.bool true)∧Below w.heap.size w w':=by
 have HU:=aa hu;have HV:=aa hv;have hnn:((l.length:Int) != (l.length:Int))=false:=by simp
 obtain⟨ua,uc,rfl⟩:=hu.slice;obtain⟨va,vc,rfl⟩:=hv.slice;clear hu hv;go_enter Tryz.func7,Tryz.ntmps7;go_wp2_with fail
 go_loopw [5] (fun i wr=>∃k:Nat,k≤l.length∧i= .int .i64 k∧Below w.heap.size w wr) (fun i _=>l.length-(intOf i).toNat)
 case atStart=>exact⟨0,by omega,rfl,Below.refl _ _⟩
 case round=>
  obtain⟨k,hk,rfl,k0⟩:=hrel;by_cases hlt:k<l.length
  ·obtain⟨b,off,c1,e1,hcap,hR⟩:=dF ar0 (RowAt.below HU.out k0 zr) hlt;obtain⟨b2,off2,c2,e2,hcap2,hR2⟩:=dF ar0 (RowAt.below HV.out k0 zr) hlt;simp only [Value.slice.injEq,true_and]at e1 e2;obtain⟨rfl,rfl⟩:=e1;obtain⟨rfl,rfl⟩:=e2;clear HU HV;generalize l.getD k ar0=x at*;have g0:wr.cell? ⟨b,off+k*9,none⟩=some (.int .i64 x.n):=hR 0 _ rfl;have h0:wr.cell? ⟨b2,off2+k*9,none⟩=some (.int .i64 x.n):=hR2 0 _ rfl;have g1:wr.cell? ⟨b,off+k*9+1,none⟩=some (.int .i64 (x.f.getD 0 0)):=hR 1 _ rfl;have h1:wr.cell? ⟨b2,off2+k*9+1,none⟩=some (.int .i64 (x.f.getD 0 0)):=hR2 1 _ rfl;have g2:wr.cell? ⟨b,off+k*9+2,none⟩=some (.int .i64 (x.f.getD 1 0)):=hR 2 _ rfl;have h2:wr.cell? ⟨b2,off2+k*9+2,none⟩=some (.int .i64 (x.f.getD 1 0)):=hR2 2 _ rfl;have g3:wr.cell? ⟨b,off+k*9+3,none⟩=some (.int .i64 (x.f.getD 2 0)):=hR 3 _ rfl;have h3:wr.cell? ⟨b2,off2+k*9+3,none⟩=some (.int .i64 (x.f.getD 2 0)):=hR2 3 _ rfl;have g4:wr.cell? ⟨b,off+k*9+4,none⟩=some (.int .i64 (x.f.getD 3 0)):=hR 4 _ rfl;have h4:wr.cell? ⟨b2,off2+k*9+4,none⟩=some (.int .i64 (x.f.getD 3 0)):=hR2 4 _ rfl;have g5:wr.cell? ⟨b,off+k*9+5,none⟩=some (.int .i64 (x.f.getD 4 0)):=hR 5 _ rfl;have h5:wr.cell? ⟨b2,off2+k*9+5,none⟩=some (.int .i64 (x.f.getD 4 0)):=hR2 5 _ rfl;have g6:wr.cell? ⟨b,off+k*9+6,none⟩=some (.int .i64 (x.f.getD 5 0)):=hR 6 _ rfl;have h6:wr.cell? ⟨b2,off2+k*9+6,none⟩=some (.int .i64 (x.f.getD 5 0)):=hR2 6 _ rfl;have g7:wr.cell? ⟨b,off+k*9+7,none⟩=some (.int .i64 (x.f.getD 6 0)):=hR 7 _ rfl;have h7:wr.cell? ⟨b2,off2+k*9+7,none⟩=some (.int .i64 (x.f.getD 6 0)):=hR2 7 _ rfl;have g8:wr.cell? ⟨b,off+k*9+8,none⟩=some (.string body):=hR 8 _ rfl;have h8:wr.cell? ⟨b2,off2+k*9+8,none⟩=some (.string body):=hR2 8 _ rfl;clear hR hR2;generalize x.f.getD 0 0=f0 at*;generalize x.f.getD 1 0=f1 at*;generalize x.f.getD 2 0=f2 at*;generalize x.f.getD 3 0=f3 at*;generalize x.f.getD 4 0=f4 at*;generalize x.f.getD 5 0=f5 at*;generalize x.f.getD 6 0=f6 at*;generalize x.n=x0 at*;have heq:=BE x0 f0 f1 f2 f3 f4 f5 f6 body;have hgd:=xv;have q3:(0:Int)≤(k:Int):=(by omega);have q4:(k:Int)<(l.length:Int):=(by omega);go_wp2_with fail
   go_quiet (fail);go_wp2;go_roundw
   case rel=>exact⟨k+1,by omega,by go_num,⟨k0.os,k0.tape,k0.output,k0.size,k0.block⟩⟩
   case measure=>simp [intOf];omega
  ·clear HU HV;go_wp2_with fail
   go_ret;exact⟨rfl,k0⟩
section
open Go.ChangeShapes Go.WideShapes Go.ChangeAt Go.RowKit
theorem xY {w:World} {base n:Nat} {a:Addr} {cs:List Value} (hn:0<n) (h:w.cells? base (a.add 0) n=some cs):a.spot=none:=by
 obtain⟨_,hlen,hc⟩:=World.cells?_some h;have h0:=hc 0 hn;have e:(a.add 0).add 0=a:=by simp [Addr.add]
 rw [e]at h0;have hs:∃c,cs[0]? =some c:=⟨cs[0],by simp [List.getElem?_eq_getElem (show 0<cs.length by omega)]⟩;obtain⟨c,hs⟩:=hs;rw [hs]at h0;exact World.cell?_spot h0
section
variable {H:Type} {enc:TypeId×Value→H} {w:World} {base:Nat} {spare:Nat→Bool} {held:Bool}
theorem kE {α:Type} [Inhabited α] {C:α→List Value} {sz:Nat} {t e:TypeId} {fuel:Nat} {cs:List Value} {y:DataW H×List MemPlace} (ht:Tryz.prog.underlying t=some (.slice e)) (hc:Tryz.prog.cellsOf e=sz) (hs:0<sz)
  (hel:∀n cs' z,DataW.trod enc Tryz.prog w base spare held n e cs'=some z→∃x:α,cs'=C x) (h:DataW.trod enc Tryz.prog w base spare held fuel t cs=some y):
  ∃v l,cs= [v]∧RowAt C sz w v l∧(l.length=0∨∃elems sp,y.1= .slice elems sp∧elems.length=l.length):=by
 rcases Deep.open_slice ht h with⟨rfl,_⟩ |⟨a,len,cap,m,n,D,Pl,rfl,_,hl,_,hm,hd,hx⟩
 ·exact⟨_,[],rfl,RowAt.nil _ _ _,.inl rfl⟩
 ·have hlm:len≤m:=by rw [hm];split <;>omega
  rw [hc]at hx;by_cases hz:len=0
  ·subst hz;exact⟨_,[],rfl,⟨some a,cap,rfl,fun h=>by simp at h,.inl rfl⟩,.inl rfl⟩
  ·obtain⟨b,off,spot⟩:=a;obtain⟨cs0,hcs0,_⟩:=hx 0 (by omega);rw [Nat.zero_mul]at hcs0;have hsp:spot=none:=xY (a:=⟨b,off,spot⟩) hs hcs0;subst hsp;obtain⟨F,hF⟩:=Deep.choose_lt (α:=α) (n:=len) (p:=fun i x=>∀j u,(C x)[j]? =some u→w.cell? ⟨b,off+i*sz+j,none⟩=some u) (fun i hi=>by
    obtain⟨cs',hcs',htr⟩:=hx i (by omega);obtain⟨x,rfl⟩:=hel _ _ _ htr;refine⟨x,fun j u hu=>?_⟩;obtain⟨_,hlen,hcell⟩:=World.cells?_some hcs';have hj:j<sz:=by
     rcases Nat.lt_or_ge j (C x).length with h | h
     ·omega
     ·simp [List.getElem?_eq_none h]at hu
    have:=hcell j hj;rw [jy,jy]at this;rw [this];exact hu)
   have hll:((List.range len).map F).length=len:=(by simp);refine⟨_,(List.range len).map F,rfl,⟨some ⟨b,off,none⟩,cap,by rw [hll],fun h=>by simp at h,.inr ⟨b,off,rfl,by rw [hll];exact hl,fun i x hx=>?_⟩⟩,.inr ⟨_,_,by rw [hd],by simp⟩⟩;have hi:i<len:=by
    rcases Nat.lt_or_ge i len with h | h
    ·exact h
    ·simp [List.getElem?_eq_none (show((List.range len).map F).length≤i by omega)]at hx
   have:x=F i:=by
    rw [List.getElem?_map,List.getElem?_range hi]at hx;simpa using hx.symm
   subst this;exact hF i hi
instance:Inhabited Sw:=⟨sw0⟩
instance:Inhabited Pr:=⟨pr0⟩
instance:Inhabited Ac:=⟨ac0⟩
theorem oP {n i:Nat} {c:Value} {xs:List (DataW H×List MemPlace)} (hi:i<xs.length)
  (h:DataW.trod enc Tryz.prog w base spare held n 4 [c]=xs[i]?):∃k,c= .bool k:=by
 rw [List.getElem?_eq_getElem hi]at h;obtain⟨k,hc,_⟩:=DataW.trod_bool Tryz.underlying4 h;exact⟨k,by simpa using hc⟩
theorem yF {α:Type} {cs:List α} (h:cs.length=3):∃c0 c1 c2,cs= [c0,c1,c2]:=by
 match cs,h with
 | [c0,c1,c2],_=>exact⟨c0,c1,c2,rfl⟩
theorem Br {α:Type} {cs:List α} (h:cs.length=5):∃c0 c1 c2 c3 c4,cs= [c0,c1,c2,c3,c4]:=by
 match cs,h with
 | [c0,c1,c2,c3,c4],_=>exact⟨c0,c1,c2,c3,c4,rfl⟩
theorem Bt {α:Type} {cs:List α} (h:cs.length=9):∃c0 c1 c2 c3 c4 c5 c6 c7 c8,cs= [c0,c1,c2,c3,c4,c5,c6,c7,c8]:=by
 match cs,h with
 | [c0,c1,c2,c3,c4,c5,c6,c7,c8],_=>exact⟨c0,c1,c2,c3,c4,c5,c6,c7,c8,rfl⟩
theorem yU {n:Nat} {cs:List Value} {z:DataW H×List MemPlace} (h:DataW.trod enc Tryz.prog w base spare held n 60 cs=some z):∃x:Sw,cs=swC x:=by
 obtain⟨xs,n',_,_,hcl,hlen,hf⟩:=DataW.trod_struct Tryz.underlying60 h;rw [show Tryz.prog.cellsOf 60=3 by kernel_rfl]at hcl;have h3:xs.length=3:=by simpa using hlen
 obtain⟨c0,c1,c2,rfl⟩:=yF hcl;obtain⟨n0,rfl,_⟩:=bg (i:=0) (by omega) (hf 0 _ rfl);obtain⟨n1,rfl,_⟩:=bg (i:=1) (by omega) (hf 1 _ rfl);obtain⟨n2,rfl,_⟩:=bg (i:=2) (by omega) (hf 2 _ rfl);exact⟨⟨n0,n1,n2⟩,rfl⟩
theorem Ag {n:Nat} {cs:List Value} {z:DataW H×List MemPlace} (h:DataW.trod enc Tryz.prog w base spare held n 51 cs=some z):∃x:Pr,cs=prC x:=by
 obtain⟨xs,n',_,_,hcl,hlen,hf⟩:=DataW.trod_struct Tryz.underlying51 h;rw [show Tryz.prog.cellsOf 51=5 by kernel_rfl]at hcl;have h3:xs.length=5:=by simpa using hlen
 obtain⟨c0,c1,c2,c3,c4,rfl⟩:=Br hcl;obtain⟨n0,rfl,_⟩:=bg (i:=0) (by omega) (hf 0 _ rfl);obtain⟨n1,rfl,_⟩:=bg (i:=1) (by omega) (hf 1 _ rfl);obtain⟨n2,rfl,_⟩:=bg (i:=2) (by omega) (hf 2 _ rfl);obtain⟨n3,rfl,_⟩:=bg (i:=3) (by omega) (hf 3 _ rfl);obtain⟨n4,rfl,_⟩:=bg (i:=4) (by omega) (hf 4 _ rfl);exact⟨⟨n0,n1,n2,n3,n4⟩,rfl⟩
theorem zy {n:Nat} {cs:List Value} {z:DataW H×List MemPlace} (h:DataW.trod enc Tryz.prog w base spare held n 62 cs=some z):∃x:Ac,cs=acC x:=by
 obtain⟨xs,n',_,_,hcl,hlen,hf⟩:=DataW.trod_struct Tryz.underlying62 h;rw [show Tryz.prog.cellsOf 62=9 by kernel_rfl]at hcl;have h3:xs.length=9:=by simpa using hlen
 obtain⟨c0,c1,c2,c3,c4,c5,c6,c7,c8,rfl⟩:=Bt hcl;obtain⟨n0,rfl,_⟩:=bg (i:=0) (by omega) (hf 0 _ rfl);obtain⟨n1,rfl,_⟩:=bg (i:=1) (by omega) (hf 1 _ rfl);obtain⟨n2,rfl⟩:=oP (i:=2) (by omega) (hf 2 _ rfl);obtain⟨n3,rfl,_⟩:=bg (i:=3) (by omega) (hf 3 _ rfl);obtain⟨n4,rfl,_⟩:=bg (i:=4) (by omega) (hf 4 _ rfl);obtain⟨n5,rfl,_⟩:=bg (i:=5) (by omega) (hf 5 _ rfl);obtain⟨n6,rfl,_⟩:=bg (i:=6) (by omega) (hf 6 _ rfl);obtain⟨n7,rfl,_⟩:=bg (i:=7) (by omega) (hf 7 _ rfl);obtain⟨n8,rfl⟩:=oP (i:=8) (by omega) (hf 8 _ rfl);exact⟨⟨n0,n1,n2,n3,n4,n5,n6,n7,n8⟩,rfl⟩
end
theorem zI:Tryz.prog.bytesOf 60=24:=by kernel_rfl
theorem yT:Tryz.prog.bytesOf 51=40:=by kernel_rfl
theorem zG:Tryz.prog.bytesOf 62=72:=by kernel_rfl
theorem vK {H:Type} {enc:TypeId×Value→H} {w:World} {base b0:Nat} {spare:Nat→Bool} {held:Bool} {r:Reach} {v:Value} {d:DataW H} {p:List MemPlace}
  (hv:Value.okWide Tryz.prog w r b0 26 v) (h:DataW.Trod enc Tryz.prog w base spare held 26 v d p):
  ∃sv pv av S P A,v= .agg #[sv,pv,av]∧CfAt w sv pv av S P A∧((d.weights Tryz.prog 26).all (· ≤reachBytes)=true→S.length*24≤140737488355328∧P.length*40≤140737488355328∧A.length*72≤140737488355328):=by
 obtain⟨cs,rfl,hsz⟩:=okWide_struct Tryz.underlying26 hv;rw [show Tryz.prog.cellsOf 26=3 by kernel_rfl]at hsz;obtain⟨l⟩:=cs;obtain⟨c0,c1,c2,rfl⟩:=yF (show l.length=3 from hsz);obtain⟨fuel,hf⟩:=h;obtain⟨xs,n,_,hd,_,hlen,hf⟩:=DataW.trod_struct Tryz.underlying26 hf;have h3:xs.length=3:=by simpa using hlen
 obtain⟨x0,x1,x2,rfl⟩:=yF h3;obtain⟨v0,S,e0,hS,bS⟩:=kE (C:=swC) (sz:=3) Tryz.underlying22 (by kernel_rfl) (by omega) (fun n cs' z hz=>yU hz) (cs:=[c0]) (hf 0 _ rfl);obtain⟨v1,P,e1,hP,bP⟩:=kE (C:=prC) (sz:=5) Tryz.underlying23 (by kernel_rfl) (by omega) (fun n cs' z hz=>Ag hz) (cs:=[c1]) (hf 1 _ rfl);obtain⟨v2,A,e2,hA,bA⟩:=kE (C:=acC) (sz:=9) Tryz.underlying24 (by kernel_rfl) (by omega) (fun n cs' z hz=>zy hz) (cs:=[c2]) (hf 2 _ rfl);simp at e0 e1 e2;subst e0 e1 e2;refine⟨c0,c1,c2,S,P,A,rfl,⟨hS,hP,hA⟩,fun hw=>?_⟩;simp only [Prod.mk.injEq]at hd;obtain⟨rfl,_⟩:=hd;simp only [DataW.weights,Tryz.underlying26]at hw;refine⟨?_,?_,?_⟩
 ·rcases bS with h |⟨elems,sp,he,hl⟩
  ·omega
  ·have:=sized_slice hw (j:=0) (t:=22) (e:=60) (elems:=elems) (spare:=sp) rfl (by simp [he]) Tryz.underlying22;rw [zI]at this;simp only [reachBytes]at this;omega
 ·rcases bP with h |⟨elems,sp,he,hl⟩
  ·omega
  ·have:=sized_slice hw (j:=1) (t:=23) (e:=51) (elems:=elems) (spare:=sp) rfl (by simp [he]) Tryz.underlying23;rw [yT]at this;simp only [reachBytes]at this;omega
 ·rcases bA with h |⟨elems,sp,he,hl⟩
  ·omega
  ·have:=sized_slice hw (j:=2) (t:=24) (e:=62) (elems:=elems) (spare:=sp) rfl (by simp [he]) Tryz.underlying24;rw [zG]at this;simp only [reachBytes]at this;omega
theorem qH {H:Type} {P:Program} {ts:List TypeId} {ds:List (DataW H)} {j:Nat} {t:TypeId} {d:DataW H} (h:(DataW.weightsEach P ts ds).all (· ≤reachBytes)=true) (ht:ts[j]? =some t) (hd:ds[j]? =some d):(d.weights P t).all (· ≤reachBytes)=true:=
 List.all_eq_true.2 fun n hn=>List.all_eq_true.1 h n (DataW.weights_mem_each ht hd n hn)
end
end Go.Proofs.YtjiajblbpokfgaaGreat
