/- Texts joined: Zi, Qs0, Zx0, Xm, Kd, Kx, Kr. -/
import Derived.Test.YtncdininppehkaaGreatJA7
namespace Go.Proofs.YtncdininppehkaaGreat
open Go.RowKit
set_option linter.unusedVariables false
set_option maxRecDepth 100000
set_option maxHeartbeats 16000000
theorem ri (x y:Ac) (w:World):Calls Tryz.prog 121 #[.agg (acC x).toArray,.agg (acC y).toArray] w fun e w'=>e= .returned (.int .i64 (aL y.p x.p))∧Below w.heap.size w w':=oq x y w
theorem tl (x y:Int):(aL x y<0)=(x<y):=by
 unfold aL
 by_cases h:x<y
 ·rw [if_pos h];simp [h]
 ·rw [if_neg h];split <;>simp [h]
theorem t7 {P:Program} {c:Code} {Q:Exit→Act→World→Prop} {a:Act} {w:World} (A1:Act) (F:World→Prop) (h:c.wp P (fun e a' w'=>e= .normal∧a'=A1∧F w') a w) (hq:∀w',F w'→Q .normal A1 w'):c.wp P Q a w:=
 Code.wp_mono (fun e a' w' ⟨he,ha,hf⟩=>by subst he;subst ha;exact hq w' hf) h
theorem pF {X Y Z A:List Ac} {y:Ac} {k m:Nat} (hk:k<Y.length) (hA:A=bM bh (Y.take k)) (hy:y=Y.getD k ac0) (hm:m≤A.length) (h1:m=0∨y.p≤(A.getD (m-1) ac0).p) (h2:m=A.length∨(A.getD m ac0).p<y.p):
  cL X A y (Y.drop (k+1)++Z) m=X++bM bh (Y.take (k+1))++Y.drop (k+1)++Z:=by
 have e:Y.take (k+1)=Y.take k++ [y]:=by
  rw [List.take_add_one,hy,List.getD_eq_getElem?_getD,List.getElem?_eq_getElem hk];rfl
 rw [e,eu, ←hA,pM (by rw [hA];exact gI iz iL _) hm h1 h2]
 unfold cL
 simp
theorem pZ {X Y Z:List Ac} {k:Nat} (hk:k<Y.length):X++bM bh (Y.take k)++Y.drop k++Z=cL X (bM bh (Y.take k)) (Y.getD k ac0) (Y.drop (k+1)++Z) k:=by
 have hl:(bM bh (Y.take k)).length=k:=by rw [cV];simp;omega
 have e:Y.drop k=Y.getD k ac0::Y.drop (k+1):=by
  rw [List.drop_eq_getElem_cons hk,List.getD_eq_getElem?_getD,List.getElem?_eq_getElem hk];rfl
 unfold cL;generalize bM bh (Y.take k)=A at hl⊢;rw [List.take_of_length_le (Nat.le_of_eq hl),List.drop_of_length_le (Nat.le_of_eq hl),e]
 simp
theorem le2 {a b:Nat} (h:a=b):a≤b∧b≤a:=⟨Nat.le_of_eq h,Nat.le_of_eq h.symm⟩
theorem pm (X Y Z:List Ac) (B g c N a b:Nat) (w:World) (hA:AcR w B g c N (X++Y++Z)) (ha:a=X.length) (hb:b=X.length+Y.length) (hN:N≤1000):
  Calls Tryz.prog 191 #[.slice (some ⟨g,0,none⟩) N c,.int .i64 (a:Int),.int .i64 (b:Int),.func (.func 121) #[] #[]] w fun e w'=>e= .returned (.tuple #[])∧AcR w' B g c N (X++bM bh Y++Z)∧w.grownBy w' (some g):=by
 obtain⟨T,hT⟩:∃T,T=X++bM bh Y++Z:=⟨_,rfl⟩;rw [←hT];have HT:=aa hT;clear hT;have HCM:=aa ri;have HA0:=aa hA;have hlen:X.length+Y.length+Z.length=N:=by have:=hA.1;simpa [Nat.add_assoc] using this
 clear hA;obtain⟨ha2,ha3⟩:=le2 ha;obtain⟨hb2,hb3⟩:=le2 hb;obtain⟨hl2,hl3⟩:=le2 hlen;clear ha hb hlen;obtain⟨a1,ha1⟩:∃a1,a1=a+1:=⟨_,rfl⟩;obtain⟨ha4,ha5⟩:=le2 ha1;clear ha1;have hw1:IntKind.i64.wrap ((a:Int)+1)=(a1:Int):=(dp _ (by omega) (by omega)).trans (by omega)
 go_enter Tryz.func191,Tryz.ntmps191
 go_wp2_with fail
 go_loopw [8] (fun i wr=>∃k i0:Nat,1≤k∧(k≤Y.length∨k=1)∧i0=a+k∧i= .int .i64 (i0:Int)∧Hid (AcR wr B g c N (X++bM bh (Y.take k)++Y.drop k++Z))∧Hid (w.grownBy wr (some g))) (fun i _=>b-(intOf i).toNat)
 case atStart=>exact⟨1,a1,by omega,.inr rfl,by omega,rfl,by have e:bM bh (Y.take 1)=Y.take 1:=(by cases Y <;>simp [bM,mrg]);rw [e,List.append_assoc X,List.take_append_drop];exact HA0,aa (grown_refl' _ _)⟩
 case round=>
  clear HA0;obtain⟨k,i0,hk1,hk2,hi0,rfl,HAk,HG⟩:=hrel
  rename World=>W1
  obtain⟨hi2,hi3⟩:=le2 hi0;clear hi0
  by_cases hlt:i0<b
  ·have hkY:k<Y.length:=by omega
   have qlt:(i0:Int)<(b:Int):=by omega
   obtain⟨A,hAe⟩:∃A,A=bM bh (Y.take k):=⟨_,rfl⟩;obtain⟨y,hye⟩:∃y,y=Y.getD k ac0:=⟨_,rfl⟩;obtain⟨R,hRe⟩:∃R,R=Y.drop (k+1)++Z:=⟨_,rfl⟩;have hAl:A.length=k:=by rw [hAe,cV];simp;omega
   have HNX:Hid (∀m,m≤A.length→(m=0∨y.p≤(A.getD (m-1) ac0).p)→(m=A.length∨(A.getD m ac0).p<y.p)→cL X A y R m=X++bM bh (Y.take (k+1))++Y.drop (k+1)++Z):=aa (fun m h0 h1 h2=>by rw [hRe];exact pF hkY hAe hye h0 h1 h2)
   have HA0:Hid (AcR W1 B g c N (cL X A y R k)):=by have:=HAk.out;rw [pZ hkY, ←hAe, ←hye, ←hRe]at this;exact aa this
   have hAl2:=aa hAl;obtain⟨hA2,hA3⟩:=le2 hAl;clear HAk hAe hye hRe hAl;have hai:a≤i0:=by omega
   obtain⟨i1,hi1⟩:∃i1,i1=i0+1:=⟨_,rfl⟩;obtain⟨hi4,hi5⟩:=le2 hi1;clear hi1;have hw2:IntKind.i64.wrap ((i0:Int)+1)=(i1:Int):=(dp _ (by omega) (by omega)).trans (by omega)
   go_wp2_with fail
   go_loopw [9] (fun j wr=>∃m j0:Nat,m≤k∧j0=a+m∧j= .int .i64 (j0:Int)∧Hid (m=A.length∨(A.getD m ac0).p<y.p)∧Hid (AcR wr B g c N (cL X A y R m))∧Hid (w.grownBy wr (some g))) (fun j _=>(intOf j).toNat)
   case atStart=>exact⟨k,i0,Nat.le_refl _,by omega,rfl,aa (.inl hAl2.out.symm),HA0,HG⟩
   case round=>
    clear HA0 HG;obtain⟨m,j0,hmk,hj0,rfl,HM2,HA,HG⟩:=hrel;obtain⟨hj2,hj3⟩:=le2 hj0;clear hj0
    by_cases hm0:m=0
    ·subst hm0
     have hm0:True:=trivial;have hng:¬(a<j0):=by omega
     have hng2:¬((a:Int)<(j0:Int)):=by omega
     go_wp2_with fail
     have hDr:Below wr.heap.size wr wr.drew:=(Below.refl _ _).drew;replace HA:=aa (HA.out.below hDr);replace HG:=aa (gg HG.out hDr);clear hDr
     refine wp_region_held_drew (S:=fun _=>True) (by kernel_rfl) trivial (fun hHeld=>?_)
     generalize wr.drew=V at*
     refine tk (i:=0) (d:=18) rfl (by kernel_rfl) (fun _ _ _ h=>h) rfl ‹_› (by intro w h;(try dsimp only at h);go_simp <;>with_reducible rfl) ?_
     simp only [nz]
     refine tk (i:=1) (d:=19) rfl (by kernel_rfl) (fun _ _ _ h=>h) rfl ‹_› (by intro w h;(try dsimp only at h);go_simp <;>with_reducible rfl) ?_
     simp only [nz]
     refine tk (i:=2) (d:=20) rfl (by kernel_rfl) (fun _ _ _ h=>h) rfl ‹_› (by intro w h;(try dsimp only at h);go_simp <;>with_reducible rfl) ?_
     simp only [nz]
     refine tk (i:=3) (d:=21) rfl (by kernel_rfl) (fun _ _ _ h=>h) rfl ‹_› (by intro w h;(try dsimp only at h);go_simp <;>with_reducible rfl) ?_
     simp only [nz]
     refine wpAnyH_take (i:=4) (oi:=⟨some 22,_,_,_,_,_⟩) (v:=undef) rfl (by kernel_rfl) (by kernel_rfl) (by kernel_rfl) (fun _ _ _ h=>h) (Or.inr ⟨by rfl,rfl⟩) (by assumption) ?_
     (try simp only [nz])
     refine wpAnyH_take (i:=5) (oi:=⟨some 23,_,_,_,_,_⟩) (v:=undef) rfl (by kernel_rfl) (by kernel_rfl) (by kernel_rfl) (fun _ _ _ h=>h) (Or.inr ⟨by rfl,rfl⟩) (by assumption) ?_
     (try simp only [nz])
     refine wpAnyH_take (i:=6) (oi:=⟨some 24,_,_,_,_,_⟩) (v:=undef) rfl (by kernel_rfl) (by kernel_rfl) (by kernel_rfl) (fun _ _ _ h=>h) (Or.inr ⟨by rfl,rfl⟩) (by assumption) ?_
     (try simp only [nz])
     refine wpAnyH_take (i:=7) (oi:=⟨some 25,_,_,_,_,_⟩) (v:=undef) rfl (by kernel_rfl) (by kernel_rfl) (by kernel_rfl) (fun _ _ _ h=>h) (Or.inr ⟨by rfl,rfl⟩) (by assumption) ?_
     (try simp only [nz])
     refine wpAnyH_take (i:=8) (oi:=⟨some 26,_,_,_,_,_⟩) (v:=undef) rfl (by kernel_rfl) (by kernel_rfl) (by kernel_rfl) (fun _ _ _ h=>h) (Or.inr ⟨by rfl,rfl⟩) (by assumption) ?_
     (try simp only [nz])
     refine wpAnyH_take (i:=9) (oi:=⟨some 27,_,_,_,_,_⟩) (v:=undef) rfl (by kernel_rfl) (by kernel_rfl) (by kernel_rfl) (fun _ _ _ h=>h) (Or.inr ⟨by rfl,rfl⟩) (by assumption) ?_
     (try simp only [nz])
     refine wpAnyH_take (i:=10) (oi:=⟨some 28,_,_,_,_,_⟩) (v:=undef) rfl (by kernel_rfl) (by kernel_rfl) (by kernel_rfl) (fun _ _ _ h=>h) (Or.inr ⟨by rfl,rfl⟩) (by assumption) ?_
     (try simp only [nz])
     refine wpAnyH_take (i:=11) (oi:=⟨some 29,_,_,_,_,_⟩) (v:=undef) rfl (by kernel_rfl) (by kernel_rfl) (by kernel_rfl) (fun _ _ _ h=>h) (Or.inr ⟨by rfl,rfl⟩) (by assumption) ?_
     (try simp only [nz])
     refine wpAnyH_take (i:=12) (oi:=⟨some 30,_,_,_,_,_⟩) (v:=undef) rfl (by kernel_rfl) (by kernel_rfl) (by kernel_rfl) (fun _ _ _ h=>h) (Or.inr ⟨by rfl,rfl⟩) (by assumption) ?_
     (try simp only [nz])
     refine wpAnyH_take (i:=13) (oi:=⟨some 31,_,_,_,_,_⟩) (v:=undef) rfl (by kernel_rfl) (by kernel_rfl) (by kernel_rfl) (fun _ _ _ h=>h) (Or.inr ⟨by rfl,rfl⟩) (by assumption) ?_
     (try simp only [nz])
     refine rd (i:=14) (o:=⟨some 32,_,_,_,_,_⟩) (by kernel_rfl) rfl (fun K hK=>?_)
     rw [if_neg (by rw [Bool.not_eq_true];rfl)]
     refine hK.out _ _ trivial (fun hHeld=>?_)
     clear hK K
     (try simp only [nz])
     refine wpAnyH_take (i:=15) (oi:=⟨some 33,_,_,_,_,_⟩) (v:=undef) rfl (by kernel_rfl) (by kernel_rfl) (by kernel_rfl) (fun _ _ _ h=>h) (Or.inr ⟨by rfl,rfl⟩) (by assumption) ?_
     (try simp only [nz])
     refine tk (i:=16) (d:=34) rfl (by kernel_rfl) (fun _ _ _ h=>h) rfl ‹_› (by intro w h;(try dsimp only at h);go_simp <;>with_reducible rfl) ?_
     simp only [nz]
     refine wpAnyH_done (by kernel_rfl) ?_ _
     clear hHeld
     skip
     have HE:Hid (AcR V B g c N (X++bM bh (Y.take (k+1))++Y.drop (k+1)++Z)):=by rw [←HNX.out 0 (by rw [hAl2.out];exact hmk) (.inl rfl) HM2.out];exact HA
     clear HA HM2 HNX
     go_wp2_with fail
     go_roundw
     case rel=>exact⟨k+1,i1,by omega,.inl (by omega),by omega,rfl,HE,HG⟩
     case measure=>simp [intOf];omega
    ·obtain⟨l,rfl⟩:∃l,m=l+1:=⟨m-1,by omega⟩
     obtain⟨jl,hjl⟩:∃jl,jl=a+l:=⟨_,rfl⟩;obtain⟨hj4,hj5⟩:=le2 hjl;clear hjl;have hgt:(a:Int)<(j0:Int):=by omega
     have hw3:IntKind.i64.wrap ((j0:Int)-1)=(jl:Int):=(dp _ (by omega) (by omega)).trans (by omega)
     have t0:(0:Int)≤(j0:Int):=by omega
     have t1:(j0:Int)<(N:Int):=by omega
     have t2:(0:Int)≤(jl:Int):=by omega
     have t3:(jl:Int)<(N:Int):=by omega
     have hlA:l<A.length:=by rw [hAl2.out];omega
     obtain⟨x,hx⟩:∃x,x=A.getD l ac0:=⟨_,rfl⟩;have HR1:Hid (∀W,AcR W B g c N (cL X A y R (l+1))→W.rangeAt g (j0*9) (acC y)):=aa (fun W h=>by have:=h.range (i:=j0) (by omega);rwa [show j0=X.length+(l+1) by omega,uC (by omega), ←show j0=X.length+(l+1) by omega]at this)
     have HR2:Hid (∀W,AcR W B g c N (cL X A y R (l+1))→W.rangeAt g (jl*9) (acC x)):=aa (fun W h=>by have:=h.range (i:=jl) (by omega);rwa [show jl=X.length+l by omega,lr hlA, ←hx, ←show jl=X.length+l by omega]at this)
     have HSW:Hid (((cL X A y R (l+1)).set j0 x).set jl y=cL X A y R l):=aa (by rw [hx,show j0=X.length+l+1 by omega,show jl=X.length+l by omega];exact rH hlA)
     have HLT:=aa (tl x.p y.p);have hx2:=aa hx;clear hx
     go_wp2_with fail
     have HD:Hid (AcR wr.drew B g c N _):=aa (HA.out.below ((Below.refl _ _).drew))
     refine wp_region_held_drew (S:=fun w'=>w'.rangeAt g (j0*9) (acC y)∧w'.rangeAt g (jl*9) (acC x)) (by kernel_rfl) ⟨HR1.out _ HD.out,HR2.out _ HD.out⟩ (fun hHeld=>?_)
     refine tk (i:=0) (d:=18) rfl (by kernel_rfl) (fun _ _ _ h=>h) rfl ‹_› (by intro w h;(try dsimp only at h);go_simp <;>with_reducible rfl) ?_
     simp only [nz]
     refine tk (i:=1) (d:=19) rfl (by kernel_rfl) (fun _ _ _ h=>h) rfl ‹_› (by intro w h;(try dsimp only at h);go_simp <;>with_reducible rfl) ?_
     simp only [nz]
     refine tk (i:=2) (d:=20) rfl (by kernel_rfl) (fun _ _ _ h=>h) rfl ‹_› (by intro w h;(try dsimp only at h);go_simp <;>with_reducible rfl) ?_
     simp only [nz]
     refine tk (i:=3) (d:=21) rfl (by kernel_rfl) (fun _ _ _ h=>h) rfl ‹_› (by intro w h;(try dsimp only at h);go_simp <;>with_reducible rfl) ?_
     simp only [nz]
     refine tk (i:=4) (d:=22) rfl (by kernel_rfl) (fun _ _ _ h=>h) rfl ‹_› (by intro w h;(try dsimp only at h);go_simp <;>with_reducible rfl) ?_
     simp only [nz]
     refine tk (i:=5) (d:=23) rfl (by kernel_rfl) (fun _ _ _ h=>h) rfl ‹_› (by intro w h;(try dsimp only at h);go_simp <;>with_reducible rfl) ?_
     simp only [nz]
     refine tk (i:=6) (d:=24) rfl (by kernel_rfl) (fun _ _ _ h=>h) rfl ‹_› (by intro w h;(try dsimp only at h);go_simp <;>with_reducible rfl) ?_
     simp only [nz]
     refine tk (i:=7) (d:=25) rfl (by kernel_rfl) (fun _ _ _ h=>h) rfl ‹_› (by intro w h;(try dsimp only at h);go_simp <;>with_reducible rfl) ?_
     simp only [nz]
     refine wpAnyH_take (i:=8) (oi:=⟨some 26,_,_,_,_,_⟩) (v:=.agg (acC y).toArray) rfl (by kernel_rfl) (by kernel_rfl) (by kernel_rfl) (fun _ _ _ h=>h) (yieldsIf_load_mid (by rfl) 65 (.tmp 25) rfl g (j0*9) rfl (acC y) _ (fun w h=>h.1) Tryz.underlying65 rfl dD) (by assumption) ?_
     (try simp only [nz])
     refine tk (i:=9) (d:=27) rfl (by kernel_rfl) (fun _ _ _ h=>h) rfl ‹_› (by intro w h;(try dsimp only at h);go_simp <;>with_reducible rfl) ?_
     simp only [nz]
     refine tk (i:=10) (d:=28) rfl (by kernel_rfl) (fun _ _ _ h=>h) rfl ‹_› (by intro w h;(try dsimp only at h);go_simp <;>with_reducible rfl) ?_
     simp only [nz]
     refine tk (i:=11) (d:=29) rfl (by kernel_rfl) (fun _ _ _ h=>h) rfl ‹_› (by intro w h;(try dsimp only at h);go_simp <;>with_reducible rfl) ?_
     simp only [nz]
     refine tk (i:=12) (d:=30) rfl (by kernel_rfl) (fun _ _ _ h=>h) rfl ‹_› (by intro w h;(try dsimp only at h);go_simp <;>with_reducible rfl) ?_
     simp only [nz]
     refine wpAnyH_take (i:=13) (oi:=⟨some 31,_,_,_,_,_⟩) (v:=.agg (acC x).toArray) rfl (by kernel_rfl) (by kernel_rfl) (by kernel_rfl) (fun _ _ _ h=>h) (yieldsIf_load_mid (by rfl) 65 (.tmp 30) rfl g (jl*9) rfl (acC x) _ (fun w h=>h.2) Tryz.underlying65 rfl dD) (by assumption) ?_
     (try simp only [nz])
     refine rd (i:=14) (o:=⟨some 32,_,_,_,_,_⟩) (by kernel_rfl) rfl (fun K hK=>?_)
     go_simp
     clear hHeld
     refine(ag HCM y x _).mono ?_
     rintro e V ⟨rfl,hb⟩;replace HA:=aa (HD.out.below hb);replace HG:=aa (gg HG.out (((Below.refl _ _).drew).trans hb));clear HD hb
     refine hK.out _ _ ⟨HR1.out _ HA.out,HR2.out _ HA.out⟩ (fun hHeld=>?_)
     clear hK K
     (try simp only [nz])
     refine tk (i:=15) (d:=33) rfl (by kernel_rfl) (fun _ _ _ h=>h) rfl ‹_› (by intro w h;(try dsimp only at h);go_simp <;>with_reducible rfl) ?_
     simp only [nz]
     refine tk (i:=16) (d:=34) rfl (by kernel_rfl) (fun _ _ _ h=>h) rfl ‹_› (by intro w h;(try dsimp only at h);go_simp <;>with_reducible rfl) ?_
     simp only [nz]
     refine wpAnyH_done (by kernel_rfl) ?_ _
     clear hHeld
     by_cases hle:x.p<y.p
     ·have hlt2:aL x.p y.p<0:=by rw [HLT.out];exact hle
      go_wp2_with fail
      apply t7 _ (fun w'=>AcR w' B g c N (((cL X A y R (l+1)).set j0 x).set jl y)∧w.grownBy w' (some g))
      ·have hDr:Below V.heap.size V V.drew:=(Below.refl _ _).drew
       replace HA:=aa (HA.out.below hDr);replace HG:=aa (gg HG.out hDr);clear hDr
       refine wp_region_held_drew (S:=fun _=>True) (by kernel_rfl) trivial (fun hHeld=>?_)
       generalize V.drew=V2 at*
       refine tk (i:=0) (d:=37) rfl (by kernel_rfl) (fun _ _ _ h=>absurd h.1 (by simp)) rfl ‹_› (by intro w h;(try dsimp only at h);go_simp <;>with_reducible rfl) ?_
       simp only [nz]
       refine tk (i:=1) (d:=38) rfl (by kernel_rfl) (fun _ _ _ h=>absurd h.1 (by simp)) rfl ‹_› (by intro w h;(try dsimp only at h);go_simp <;>with_reducible rfl) ?_
       simp only [nz]
       refine tk (i:=2) (d:=39) rfl (by kernel_rfl) (fun _ _ _ h=>absurd h.1 (by simp)) rfl ‹_› (by intro w h;(try dsimp only at h);go_simp <;>with_reducible rfl) ?_
       simp only [nz]
       refine tk (i:=3) (d:=40) rfl (by kernel_rfl) (fun _ _ _ h=>absurd h.1 (by simp)) rfl ‹_› (by intro w h;(try dsimp only at h);go_simp <;>with_reducible rfl) ?_
       simp only [nz]
       refine tk (i:=4) (d:=41) rfl (by kernel_rfl) (fun _ _ _ h=>absurd h.1 (by simp)) rfl ‹_› (by intro w h;(try dsimp only at h);go_simp <;>with_reducible rfl) ?_
       simp only [nz]
       refine tk (i:=5) (d:=42) rfl (by kernel_rfl) (fun _ _ _ h=>absurd h.1 (by simp)) rfl ‹_› (by intro w h;(try dsimp only at h);go_simp <;>with_reducible rfl) ?_
       simp only [nz]
       refine tk (i:=6) (d:=43) rfl (by kernel_rfl) (fun _ _ _ h=>absurd h.1 (by simp)) rfl ‹_› (by intro w h;(try dsimp only at h);go_simp <;>with_reducible rfl) ?_
       simp only [nz]
       refine tk (i:=7) (d:=44) rfl (by kernel_rfl) (fun _ _ _ h=>absurd h.1 (by simp)) rfl ‹_› (by intro w h;(try dsimp only at h);go_simp <;>with_reducible rfl) ?_
       simp only [nz]
       refine tk (i:=8) (d:=45) rfl (by kernel_rfl) (fun _ _ _ h=>absurd h.1 (by simp)) rfl ‹_› (by intro w h;(try dsimp only at h);go_simp <;>with_reducible rfl) ?_
       simp only [nz]
       refine tk (i:=10) (d:=47) rfl (by kernel_rfl) (fun _ _ _ h=>absurd h.1 (by simp)) rfl ‹_› (by intro w h;(try dsimp only at h);go_simp <;>with_reducible rfl) ?_
       simp only [nz]
       refine tk (i:=11) (d:=48) rfl (by kernel_rfl) (fun _ _ _ h=>absurd h.1 (by simp)) rfl ‹_› (by intro w h;(try dsimp only at h);go_simp <;>with_reducible rfl) ?_
       simp only [nz]
       refine tk (i:=12) (d:=49) rfl (by kernel_rfl) (fun _ _ _ h=>absurd h.1 (by simp)) rfl ‹_› (by intro w h;(try dsimp only at h);go_simp <;>with_reducible rfl) ?_
       simp only [nz]
       refine wpAnyH_ready (rs:=[9,13]) (by kernel_rfl) (by simp) ?_
       refine(AllReadyH.cons (o:=⟨some 46,_,_,_,_,_⟩) rfl (fun K hK=>?_) (AllReadyH.cons (o:=⟨some 50,_,_,_,_,_⟩) rfl (fun K hK=>?_) AllReadyH.nil))
       ·rw [if_pos (by rfl)]
        clear hHeld
        refine wp_load_mid 65 (.tmp 45) rfl g (jl*9) rfl (acC x) _ (HR2.out _ HA.out) Tryz.underlying65 rfl dD ?_
        refine hK.out _ _ trivial (fun hHeld=>?_)
        clear hK K
        (try simp only [nz])
        refine rd (i:=13) (o:=⟨some 50,_,_,_,_,_⟩) (by kernel_rfl) rfl (fun K hK=>?_)
        rw [if_pos (by rfl)]
        clear hHeld
        refine wp_load_mid 65 (.tmp 49) rfl g (j0*9) rfl (acC y) _ (HR1.out _ HA.out) Tryz.underlying65 rfl dD ?_
        refine hK.out _ _ trivial (fun hHeld=>?_)
        clear hK K
        (try simp only [nz])
        refine tk (i:=14) (d:=51) rfl (by kernel_rfl) (fun _ _ _ h=>absurd h.1 (by simp)) rfl ‹_› (by intro w h;(try dsimp only at h);go_simp <;>with_reducible rfl) ?_
        simp only [nz]
        refine rd (i:=15) (o:=⟨none,_,_,_,_,_⟩) (by kernel_rfl) rfl (fun K hK=>?_)
        rw [if_pos (by rfl)]
        clear hHeld
        refine wp_store_mid 65 (.tmp 51) (.tmp 46) rfl g (j0*9) (acC x).toArray rfl rfl (AcR.there HA.out (i:=j0) (by omega)) dD (oV rfl) ?_
        rw [show(acC x).toArray.toList=acC x from rfl]
        have HP0:=aa (AcR.put HA.out (i:=j0) (by omega) x).1
        have hq0:=(AcR.put HA.out (i:=j0) (by omega) x).2
        generalize World.setCells _ g (j0*9) (acC x)=V20 at*
        refine hK.out _ _ trivial (fun hHeld=>?_)
        clear hK K
        (try simp only [Act.put])
        refine tk (i:=16) (d:=52) rfl (by kernel_rfl) (fun _ _ _ h=>absurd h.1 (by simp)) rfl ‹_› (by intro w h;(try dsimp only at h);go_simp <;>with_reducible rfl) ?_
        simp only [nz]
        refine rd (i:=17) (o:=⟨none,_,_,_,_,_⟩) (by kernel_rfl) rfl (fun K hK=>?_)
        rw [if_pos (by rfl)]
        clear hHeld
        refine wp_store_mid 65 (.tmp 52) (.tmp 50) rfl g (jl*9) (acC y).toArray rfl rfl (AcR.there HP0.out (i:=jl) (by omega)) dD (oV rfl) ?_
        rw [show(acC y).toArray.toList=acC y from rfl]
        have HP1:=aa (AcR.put HP0.out (i:=jl) (by omega) y).1
        have hq1:=(AcR.put HP0.out (i:=jl) (by omega) y).2
        generalize World.setCells _ g (jl*9) (acC y)=V21 at*
        refine hK.out _ _ trivial (fun hHeld=>?_)
        clear hK K
        (try simp only [Act.put])
        refine wpAnyH_done (by kernel_rfl) ?_ _
        clear hHeld
        exact⟨rfl,rfl,HP1.out,bv HG.out (bv hq0 hq1)⟩
       ·rw [if_pos (by rfl)]
        clear hHeld
        refine wp_load_mid 65 (.tmp 49) rfl g (j0*9) rfl (acC y) _ (HR1.out _ HA.out) Tryz.underlying65 rfl dD ?_
        refine hK.out _ _ trivial (fun hHeld=>?_)
        clear hK K
        (try simp only [nz])
        refine rd (i:=9) (o:=⟨some 46,_,_,_,_,_⟩) (by kernel_rfl) rfl (fun K hK=>?_)
        rw [if_pos (by rfl)]
        clear hHeld
        refine wp_load_mid 65 (.tmp 45) rfl g (jl*9) rfl (acC x) _ (HR2.out _ HA.out) Tryz.underlying65 rfl dD ?_
        refine hK.out _ _ trivial (fun hHeld=>?_)
        clear hK K
        (try simp only [nz])
        refine tk (i:=14) (d:=51) rfl (by kernel_rfl) (fun _ _ _ h=>absurd h.1 (by simp)) rfl ‹_› (by intro w h;(try dsimp only at h);go_simp <;>with_reducible rfl) ?_
        simp only [nz]
        refine rd (i:=15) (o:=⟨none,_,_,_,_,_⟩) (by kernel_rfl) rfl (fun K hK=>?_)
        rw [if_pos (by rfl)]
        clear hHeld
        refine wp_store_mid 65 (.tmp 51) (.tmp 46) rfl g (j0*9) (acC x).toArray rfl rfl (AcR.there HA.out (i:=j0) (by omega)) dD (oV rfl) ?_
        rw [show(acC x).toArray.toList=acC x from rfl]
        have HP0:=aa (AcR.put HA.out (i:=j0) (by omega) x).1
        have hq0:=(AcR.put HA.out (i:=j0) (by omega) x).2
        generalize World.setCells _ g (j0*9) (acC x)=V20 at*
        refine hK.out _ _ trivial (fun hHeld=>?_)
        clear hK K
        (try simp only [Act.put])
        refine tk (i:=16) (d:=52) rfl (by kernel_rfl) (fun _ _ _ h=>absurd h.1 (by simp)) rfl ‹_› (by intro w h;(try dsimp only at h);go_simp <;>with_reducible rfl) ?_
        simp only [nz]
        refine rd (i:=17) (o:=⟨none,_,_,_,_,_⟩) (by kernel_rfl) rfl (fun K hK=>?_)
        rw [if_pos (by rfl)]
        clear hHeld
        refine wp_store_mid 65 (.tmp 52) (.tmp 50) rfl g (jl*9) (acC y).toArray rfl rfl (AcR.there HP0.out (i:=jl) (by omega)) dD (oV rfl) ?_
        rw [show(acC y).toArray.toList=acC y from rfl]
        have HP1:=aa (AcR.put HP0.out (i:=jl) (by omega) y).1
        have hq1:=(AcR.put HP0.out (i:=jl) (by omega) y).2
        generalize World.setCells _ g (jl*9) (acC y)=V21 at*
        refine hK.out _ _ trivial (fun hHeld=>?_)
        clear hK K
        (try simp only [Act.put])
        refine wpAnyH_done (by kernel_rfl) ?_ _
        clear hHeld
        exact⟨rfl,rfl,HP1.out,bv HG.out (bv hq0 hq1)⟩
      intro W3 hW3;obtain⟨hA3,hG3⟩:=hW3;rw [HSW.out]at hA3;have HA3:=aa hA3;have HG3:=aa hG3;have HM3:Hid (l=A.length∨(A.getD l ac0).p<y.p):=aa (.inr (by rw [←hx2.out];exact hle))
      clear hA3 hG3 HA HG HR1 HR2 HSW HM2
      go_wp2_with fail
      go_roundw
      case rel=>exact⟨l,jl,by omega,by omega,rfl,HM3,HA3,HG3⟩
      case measure=>simp [intOf];omega
     ·have hlt2:¬aL x.p y.p<0:=by rw [HLT.out];exact hle
      have HE:Hid (AcR V B g c N (X++bM bh (Y.take (k+1))++Y.drop (k+1)++Z)):=by rw [←HNX.out (l+1) (by rw [hAl2.out];exact hmk) (.inr (by rw [show l+1-1=l by omega, ←hx2.out];omega)) HM2.out];exact HA
      clear HA HM2 HNX
      go_wp2_with fail
      go_roundw
      case rel=>exact⟨k+1,i1,by omega,.inl (by omega),by omega,rfl,HE,HG⟩
      case measure=>simp [intOf];omega
  ·have hke:Y.length≤k:=by omega
   have nlt:¬((i0:Int)<(b:Int)):=by omega
   have HE:Hid (AcR W1 B g c N T):=by rw [HT.out];have:=HAk.out;rw [List.take_of_length_le hke,List.drop_of_length_le hke,List.append_nil]at this;exact aa this
   clear HAk
   go_wp2_with fail
   go_end0
   exact⟨rfl,HE.out,HG.out⟩
theorem kZ (o:Option Addr) (c:Nat) (fv:Value) (w:World):Calls Tryz.prog 191 #[.slice o 0 c,.int .i64 0,.int .i64 0,fv] w fun e w'=>e= .returned (.tuple #[])∧w'=w:=by
 go_enter Tryz.func191,Tryz.ntmps191
 go_wp2_with fail
 refine wp_loop_rounds 1 ?_
 rw [rounds_succ]
 go_wp2_with fail
 go_end0
 exact⟨rfl,rfl⟩
theorem kR (o:Option Addr) (c:Nat) (fv:Value) (w:World):Calls Tryz.prog 157 #[.slice o 0 c,.int .i64 0,fv] w fun e w'=>e= .returned (.tuple #[])∧w'=w:=by
 go_enter Tryz.func157,Tryz.ntmps157
 go_wp2_with fail
 refine wp_loop_rounds 1 ?_
 rw [rounds_succ]
 go_wp2_with fail
 refine(kZ _ _ _ _).mono ?_
 rintro e w1 ⟨rfl,rfl⟩
 go_wp2_with fail
 refine wp_loop_rounds 1 ?_
 rw [rounds_succ]
 go_wp2_with fail
 go_end0
 exact⟨rfl,rfl⟩
theorem mh:dY []:=fun u B w ho hB=>by
 obtain⟨o,c,rfl⟩:=aD ho;have HO:=aa ho;clear ho
 go_enter Tryz.func120,Tryz.ntmps120
 go_wp2_with fail
 refine(kR _ _ _ _).mono ?_
 rintro e w1 ⟨rfl,rfl⟩
 go_wp2_with fail
 go_end0
 have e:aI []= []:=by simp [aI,mrg,bM]
 exact⟨rfl,by rw [e];exact HO.out,⟨rfl,rfl,rfl,Nat.le_refl _,fun _ _ _=>rfl⟩⟩
theorem tj (X Y Z:List Ac) (B g c N:Nat) (ai bi:Int) (w:World) (hA:AcR w B g c N (X++Y++Z)) (ha:ai=(X.length:Int)) (hb:bi=((X.length+Y.length:Nat):Int)) (hN:N≤1000):
  Calls Tryz.prog 191 #[.slice (some ⟨g,0,none⟩) N c,.int .i64 ai,.int .i64 bi,.func (.func 121) #[] #[]] w fun e w'=>e= .returned (.tuple #[])∧AcR w' B g c N (X++bM bh Y++Z)∧w.grownBy w' (some g):=by
 subst ha hb
 exact pm X Y Z B g c N _ _ w hA rfl rfl hN
theorem qn {L:List Ac} (h:L.length≤20):aI L=bM bh L:=by
 unfold aI;rw [List.take_of_length_le h,List.drop_of_length_le h]
 show mrg bh (bM bh L) []=_
 rw [dF]
def ol (N:Nat):Prop:=∀(L:List Ac) (B g c:Nat) (w:World),AcR w B g c N L→Calls Tryz.prog 157 #[.slice (some ⟨g,0,none⟩) N c,.int .i64 (N:Int),.func (.func 121) #[] #[]] w fun e w'=>e= .returned (.tuple #[])∧AcR w' B g c N (aI L)∧w.grownBy w' (some g)
theorem pe {N:Nat} (h:N<20):ol N:=fun L B g c w hA=>by
 have HSI:=aa (tj [] L [] B g c N 0 N w (by simpa using hA) (by simp) (by simp [hA.1]) (by omega))
 have HAS:=aa (qn (L:=L) (by rw [hA.1];omega))
 have q1:¬(20≤N):=by omega
 have q2:¬((20:Int)≤(N:Int)):=by omega
 have q3:¬(20<N):=by omega
 have q4:¬((20:Int)<(N:Int)):=by omega
 clear hA
 go_enter Tryz.func157,Tryz.ntmps157
 go_wp2_with fail
 refine wp_loop_rounds 1 ?_
 rw [rounds_succ]
 go_wp2_with fail
 refine(ag HSI).mono ?_
 rintro e w1 ⟨rfl,hA1,hG1⟩;have HE:Hid (AcR w1 B g c N (aI L)):=by rw [HAS.out];exact aa (by simpa using hA1)
 have HG:=aa hG1;clear hA1 hG1 HSI HAS
 go_wp2_with fail
 refine wp_loop_rounds 1 ?_
 rw [rounds_succ]
 go_wp2_with fail
 go_end0
 exact⟨rfl,HE.out,HG.out⟩
theorem tH {L:List Ac} (h:ol L.length):dY L:=by
 by_cases h0:L.length=0
 ·rw [List.eq_nil_of_length_eq_zero h0];exact mh
 ·intro u B w ho hB
  obtain⟨g,c,rfl,_,_⟩:=aK ho (by omega)
  have HST:=aa (h L B g c w ⟨rfl,ho⟩);obtain⟨N,hN⟩:∃N,N=L.length:=⟨_,rfl⟩;rw [←hN]at HST⊢h;clear ho hN h0 h
  go_enter Tryz.func120,Tryz.ntmps120
  go_wp2_with fail
  refine(ag HST).mono ?_
  rintro e w1 ⟨rfl,hA1,hG1⟩;have HE:=aa hA1.2;have HG:=aa hG1;clear hA1 hG1 HST
  go_wp2_with fail
  go_end0
  exact⟨rfl,HE.out,HG.out⟩
theorem ry {L:List Ac} (h:L.length<20):dY L:=tH (pe h)
theorem jX (p:Option Addr) (n cap:Nat) (fv:Value) (w:World) (hn:n≤1):
  Calls Tryz.prog 179 #[.slice p n cap,.int .i64 0,.int .i64 n,fv] w fun e w'=>e= .returned (.tuple #[])∧w'=w:=by
 go_enter Tryz.func179,Tryz.ntmps179
 go_wp2_with fail
 refine wp_loop_rounds 1 ?_
 rw [rounds_succ]
 go_wp2_with fail
 go_end0
 exact⟨rfl,rfl⟩
theorem lM (n:Nat) (w:World) (hn:n≤1):
  Calls Tryz.prog 136 #[.int .u64 n] w fun e w'=>(∃r:Int,e= .returned (.int .i64 r))∧w'=w:=by
 have hn':n=0∨n=1:=by omega
 have h64:Hid (∀W:World,Calls Tryz.prog 172 #[.int .u64 n] W fun e w'=>(∃r:Int,e= .returned (.int .i64 r))∧w'=W):=by
  intro W
  rcases hn' with rfl | rfl
  ·go_enter Tryz.func172,Tryz.ntmps172
   go_wp2
   go_ret
   exact⟨⟨_,rfl⟩,rfl⟩
  ·go_enter Tryz.func172,Tryz.ntmps172
   go_wp2
   go_ret
   exact⟨⟨_,rfl⟩,rfl⟩
 rcases hn' with rfl | rfl
 all_goals
  go_enter Tryz.func136,Tryz.ntmps136
  go_wp2_with fail
  refine(ag h64 _).mono ?_
  rintro e w1 ⟨⟨r,rfl⟩,rfl⟩
  go_wp2_with fail
  go_ret
  exact⟨⟨_,rfl⟩,rfl⟩
theorem ra (p:Option Addr) (n cap:Nat) (lim:Int) (fv:Value) (w:World) (hn:n≤1):
  Calls Tryz.prog 142 #[.slice p n cap,.int .i64 0,.int .i64 n,.int .i64 lim,fv] w fun e w'=>e= .returned (.tuple #[])∧w'=w:=by
 go_enter Tryz.func142,Tryz.ntmps142
 go_wp2_with fail
 refine wp_loop_rounds 1 ?_
 rw [rounds_succ]
 go_wp2_with fail
 refine(jX _ _ _ _ _ hn).mono ?_
 rintro e w1 ⟨rfl,rfl⟩
 go_wp2_with fail
 (try simp only [Exit.inBlock,Exit.then]);refine bodyPost_ret (results_none rfl _ _ _) rfl ?_
 exact⟨rfl,rfl⟩
theorem kS (p:Option Addr) (n cap:Nat) (fv:Value) (w:World) (hn:n≤1):
  Calls Tryz.prog 98 #[.slice p n cap,fv] w fun e w'=>e= .returned (.tuple #[])∧w'=w:=by
 go_enter Tryz.func98,Tryz.ntmps98
 go_wp2_with fail
 refine(lM n _ hn).mono ?_
 rintro e w1 ⟨⟨r,rfl⟩,rfl⟩
 go_wp2_with fail
 refine(ra _ _ _ _ _ _ hn).mono ?_
 rintro e w1 ⟨rfl,rfl⟩
 go_wp2_with fail
 go_end0
 exact⟨rfl,rfl⟩
theorem iV {l:List Ar} (hl:l.length≤1):mW l:=fun body u B w ho hB=>by
 obtain⟨o,c,rfl⟩:=aD ho
 refine(kS o l.length c _ w hl).mono ?_
 rintro e w1 ⟨rfl,rfl⟩
 refine⟨rfl,l,List.Perm.refl _,?_,ho,⟨rfl,rfl,rfl,Nat.le_refl _,fun _ _ _=>rfl⟩⟩
 match l,hl with
 | [],_=>exact List.Pairwise.nil
 | [x],_=>exact List.pairwise_singleton _ _
theorem xl {w w':World} {B e sz n g:Nat} {u:Value} {xs:List Value} (h:w.ownsRow B e sz u n xs) (hg:w.grownBy w' (some g)) (hlt:g<B):w'.ownsRow B e sz u n xs:=by
 refine h.kept hg ?_
 cases hu:u.ownBlock with
 | none=>exact .inl rfl
 | some k=>exact .inr (fun e=>by have:=aF h k hu;cases e;omega)
theorem xF (g h:Nat) (S:List Sw) (a b d s k x y t o:Int) (body:ByteArray) (l:List Ar) (w:World) (hSl:S.length=2) (hS:dm w (.slice (some ⟨g,0,none⟩) 2 2) S) (hP:dH w (.slice (some ⟨h,0,none⟩) 3 3) (twP a b)) (ha:0≤a∧a≤5)
  (hm:may S (twP a b) []=true) (hf:aM d s k x y t o body.size=0) (hL:cz (twP a b) [] (led S (twP a b) [] a 1 d s k x y t o)=l) (hl:l.length≤1):
  Calls Tryz.prog 18 #[.agg #[.slice (some ⟨g,0,none⟩) 2 2,.slice (some ⟨h,0,none⟩) 3 3,.slice none 0 0],.int .i64 1,fr d s k x y t o body] w fun e w'=>∃u,e= .returned (.tuple #[u,.int .i64 0])∧w'.ownsRow w.heap.size 56 9 u l.length (l.flatMap (arC body))∧Below w.heap.size w w':=by
 have hd:=tX hm ha hf;rw [hL]at hd;have hA:j5 (KD S (twP a b) [] 6) (twP a b) 1 d s k x y t o body.size=l:=by
  have:=hd.2;unfold rJ at this
  rwa [if_pos hm]at this
 have hb:body.size≤maxLen:=by have:=(fw hf).2.2.1;unfold maxLen;omega
 have HD:=jN S (twP a b) [] (some ⟨g,0,none⟩) (some ⟨h,0,none⟩) none 2 3 0 1 d s k x y t o body w ⟨by rw [hSl];exact hS,hP,⟨none,0,rfl,fun _=>rfl,.inl rfl⟩⟩ (by omega) (by show 3≤1000;decide) (by decide) (fun _ _ _=>mh) hb (fun _ _=>by rw [hA];exact iV hl)
 rw [hSl]at HD
 refine HD.mono ?_
 rintro e w1 ⟨u,rfl,l',⟨hp,_,ho⟩,hb1⟩;rw [hd.2]at hp;have hll:l'=l:=by
  match l,hl,hp with
  | [],_,hp=>exact List.perm_nil.1 hp
  | [z],_,hp=>exact List.perm_singleton.1 hp
 subst hll
 exact⟨u,by rw [hd.1],ho,hb1⟩
theorem qs (A:List Ac) (s:Int) (b:Bool):(aJ A s b).length≤A.length:=by
 unfold aJ;exact List.length_filter_le _ _
theorem iO {w w':World} {b:Nat} {cs:List Value} {row:Option Nat} (h:Box w b cs) (hg:w.grownBy w' row) (hne:row≠some b):Box w' b cs:=by
 have hblk:w'.heap[b]?=w.heap[b]?:=hg.block b h.1.1 (fun e=>hne e.symm)
 refine⟨⟨Nat.lt_of_lt_of_le h.1.1 hg.size,fun j v hj=>?_⟩,fun j hj=>?_⟩
 ·rw [cS hblk];exact h.1.2 j v hj
 ·have:=h.2 j hj
  unfold World.frozen? at this⊢;simp only [hblk];exact this
theorem kx (g h r c:Nat) (A:List Ac) (a b:Int) (l:List Ar) (w:World) (hS:dm w (.slice (some ⟨g,0,none⟩) 2 2) (twS 1 60)) (hP:dH w (.slice (some ⟨h,0,none⟩) 3 3) (twP a b)) (hA:qO w (.slice (some ⟨r,0,none⟩) A.length c) A) (hAl:A.length≤2) (ha:0≤a∧a≤5)
  (hm:may (twS 1 60) (twP a b) A=true) (hL:cz (twP a b) A (led (twS 1 60) (twP a b) A a 1 12 11 3 51 52 0 80)=l) (hl:l.length≤1):
  Calls Tryz.prog 18 #[.agg #[.slice (some ⟨g,0,none⟩) 2 2,.slice (some ⟨h,0,none⟩) 3 3,.slice (some ⟨r,0,none⟩) A.length c],.int .i64 1,fr 12 11 3 51 52 0 80 ⟨#[]⟩] w fun e w'=>∃u,e= .returned (.tuple #[u,.int .i64 0])∧w'.ownsRow w.heap.size 56 9 u l.length (l.flatMap (arC ⟨#[]⟩))∧Below w.heap.size w w':=by
 have hf:aM 12 11 3 51 52 0 80 (⟨#[]⟩:ByteArray).size=0:=kU (n:=0) (by omega) (by omega) (by omega) (fun e=>absurd rfl e)
 have hd:=tX hm ha hf;rw [hL]at hd;have hA2:j5 (KD (twS 1 60) (twP a b) A 6) (twP a b) 1 12 11 3 51 52 0 80 (⟨#[]⟩:ByteArray).size=l:=by
  have:=hd.2;unfold rJ at this
  rwa [if_pos hm]at this
 have HD:=jN (twS 1 60) (twP a b) A (some ⟨g,0,none⟩) (some ⟨h,0,none⟩) (some ⟨r,0,none⟩) 2 3 c 1 12 11 3 51 52 0 80 ⟨#[]⟩ w ⟨hS,hP,hA⟩ (by decide) (by show 3≤1000;decide) (by omega) (fun _ s b=>ry (by have:=qs A s b;omega)) (by decide) (fun _ _=>by rw [hA2];exact iV hl)
 refine HD.mono ?_
 rintro e w1 ⟨u,rfl,l',⟨hp,_,ho⟩,hb1⟩;rw [hd.2]at hp;have hll:l'=l:=by
  match l,hl,hp with
  | [],_,hp=>exact List.perm_nil.1 hp
  | [z],_,hp=>exact List.perm_singleton.1 hp
 subst hll
 exact⟨u,by rw [hd.1],ho,hb1⟩
section
open Go.ChangeShapes Go.WideShapes Go.ChangeAt Go.RowKit
theorem tu:Tryz.prog.cellsOf 24=4:=by kernel_rfl
theorem array4' {α:Type} {cs:Array α} (h:cs.size=4):∃c0 c1 c2 c3,cs= #[c0,c1,c2,c3]:=by
 obtain⟨l⟩:=cs
 match l,h with
 | [c0,c1,c2,c3],_=>exact⟨c0,c1,c2,c3,rfl⟩
theorem eV {n:Int} (h:(Lit.int .i64 n).wf=true): -9223372036854775808≤n∧n≤9223372036854775807:=by
 simpa [Lit.wf,IntKind.min,IntKind.max,IntKind.signed,IntKind.bits] using h
theorem wM {H:Type} {enc:TypeId×Value→H} {w:World} {base b0:Nat} {spare:Nat→Bool} {held:Bool} {r:Reach} {v:Value} {d:DataW H} {p:List MemPlace}
  (hv:Value.okWide Tryz.prog w r b0 24 v) (h:DataW.Trod enc Tryz.prog w base spare held 24 v d p):
  ∃k a b c:Int,v= .agg #[.int .i64 k,.int .i64 a,.int .i64 b,.int .i64 c]∧(-9223372036854775808≤k∧k≤9223372036854775807)∧(-9223372036854775808≤a∧a≤9223372036854775807)∧(-9223372036854775808≤b∧b≤9223372036854775807)∧
   (-9223372036854775808≤c∧c≤9223372036854775807):=by
 obtain⟨cs,rfl,hsz⟩:=okWide_struct Tryz.underlying24 hv;obtain⟨c0,c1,c2,c3,rfl⟩:=array4' (hsz.trans tu);obtain⟨fuel,hf⟩:=h;obtain⟨xs,n,_,_,_,hlen,hf⟩:=DataW.trod_struct Tryz.underlying24 hf;have h8:xs.length=4:=by simpa using hlen
 have g0:=hf 0 _ rfl;have g1:=hf 1 _ rfl;have g2:=hf 2 _ rfl;have g3:=hf 3 _ rfl;simp only [Value.cells]at g0 g1 g2 g3;obtain⟨k0,rfl,w0⟩:=cH (i:=0) (by omega) g0
 obtain⟨k1,rfl,w1⟩:=cH (i:=1) (by omega) g1
 obtain⟨k2,rfl,w2⟩:=cH (i:=2) (by omega) g2
 obtain⟨k3,rfl,w3⟩:=cH (i:=3) (by omega) g3
 exact⟨k0,k1,k2,k3,rfl,eV w0,eV w1,eV w2,eV w3⟩
end
end Go.Proofs.YtncdininppehkaaGreat
