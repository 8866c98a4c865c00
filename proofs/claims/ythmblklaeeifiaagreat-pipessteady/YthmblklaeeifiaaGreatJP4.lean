/- Texts joined: Zi, Zw, Zy, Zz, Qs0, Zx0, Zx, Pm, Pk, Fp, Pp, Pf0, Sm0, Lay, Od, Oe, Sf, Po, Sg. -/
import Derived.Deep.DeepCutAuto
import Derived.Deep.Light
import GoSem.Claim
import Derived.Laws.BytesArg
import Derived.Deep.MidRow
import Derived.Laws.StructEq
import Derived.Deep.QuietTactic
import Derived.BigQuiet
import Derived.Deep.RegionHeld3
import Derived.Test.YthmblklaeeifiaaGreatRows
import Derived.Shelf.SlSortCmp.NoneTotal
import Derived.Deep.RegionLaw
import Derived.Deep.AppendLies
import Derived.Laws.EntriesVeiled
import Derived.Test.YthmblklaeeifiaaGreatJP3
namespace Go.Proofs.YthmblklaeeifiaaGreat
open Go.RowKit
set_option linter.unusedVariables false
set_option maxRecDepth 100000
set_option maxHeartbeats 16000000
theorem fz (x y:Ac) (w:World):Calls Tryz.prog 103 #[.agg (acC x).toArray,.agg (acC y).toArray] w fun e w'=>e= .returned (.int .i64 (aL y.p x.p))∧Below w.heap.size w w':=lw x y w
theorem gk (x y:Int):(aL x y<0)=(x<y):=by
 unfold aL;by_cases h:x<y
 ·rw [if_pos h];simp [h]
 ·rw [if_neg h];split <;>simp [h]
theorem gi {P:Program} {c:Code} {Q:Exit→Act→World→Prop} {a:Act} {w:World} (A1:Act) (F:World→Prop) (h:c.wp P (fun e a' w'=>e= .normal∧a'=A1∧F w') a w) (hq:∀w',F w'→Q .normal A1 w'):c.wp P Q a w:=
 Code.wp_mono (fun e a' w' ⟨he,ha,hf⟩=>by subst he;subst ha;exact hq w' hf) h
theorem nm {X Y Z A:List Ac} {y:Ac} {k m:Nat} (hk:k<Y.length) (hA:A=aM aI (Y.take k)) (hy:y=Y.getD k ac0) (hm:m≤A.length) (h1:m=0∨y.p≤(A.getD (m-1) ac0).p) (h2:m=A.length∨(A.getD m ac0).p<y.p):
  bh X A y (Y.drop (k+1)++Z) m=X++aM aI (Y.take (k+1))++Y.drop (k+1)++Z:=by
 have e:Y.take (k+1)=Y.take k++ [y]:=by
  rw [List.take_add_one,hy,List.getD_eq_getElem?_getD,List.getElem?_eq_getElem hk];rfl
 rw [e,eK, ←hA,iX (by rw [hA];exact eA fZ gI _) hm h1 h2];unfold bh;simp
theorem mO {X Y Z:List Ac} {k:Nat} (hk:k<Y.length):X++aM aI (Y.take k)++Y.drop k++Z=bh X (aM aI (Y.take k)) (Y.getD k ac0) (Y.drop (k+1)++Z) k:=by
 have hl:(aM aI (Y.take k)).length=k:=by rw [aN];simp;omega
 have e:Y.drop k=Y.getD k ac0::Y.drop (k+1):=by
  rw [List.drop_eq_getElem_cons hk,List.getD_eq_getElem?_getD,List.getElem?_eq_getElem hk];rfl
 unfold bh;generalize aM aI (Y.take k)=A at hl⊢;rw [List.take_of_length_le (Nat.le_of_eq hl),List.drop_of_length_le (Nat.le_of_eq hl),e];simp
theorem le2 {a b:Nat} (h:a=b):a≤b∧b≤a:=⟨Nat.le_of_eq h,Nat.le_of_eq h.symm⟩
theorem mH (X Y Z:List Ac) (B g c N a b:Nat) (w:World) (hA:AcR w B g c N (X++Y++Z)) (ha:a=X.length) (hb:b=X.length+Y.length) (hN:N≤1000):
  Calls Tryz.prog 153 #[.slice (some ⟨g,0,none⟩) N c,.int .i64 (a:Int),.int .i64 (b:Int),.func (.func 103) #[] #[]] w fun e w'=>e= .returned (.tuple #[])∧AcR w' B g c N (X++aM aI Y++Z)∧w.grownBy w' (some g):=by
 obtain⟨T,hT⟩:∃T,T=X++aM aI Y++Z:=⟨_,rfl⟩;rw [←hT];have HT:=aa hT;clear hT;have HCM:=aa fz;have HA0:=aa hA;have hlen:X.length+Y.length+Z.length=N:=by have:=hA.1;simpa [Nat.add_assoc] using this
 clear hA;obtain⟨ha2,ha3⟩:=le2 ha;obtain⟨hb2,hb3⟩:=le2 hb;obtain⟨hl2,hl3⟩:=le2 hlen;clear ha hb hlen;obtain⟨a1,ha1⟩:∃a1,a1=a+1:=⟨_,rfl⟩;obtain⟨ha4,ha5⟩:=le2 ha1;clear ha1;have hw1:IntKind.i64.wrap ((a:Int)+1)=(a1:Int):=(bn _ (by omega) (by omega)).trans (by omega);go_enter Tryz.func153,Tryz.ntmps153;go_wp2_with fail
 go_loopw [8] (fun i wr=>∃k i0:Nat,1≤k∧(k≤Y.length∨k=1)∧i0=a+k∧i= .int .i64 (i0:Int)∧Hid (AcR wr B g c N (X++aM aI (Y.take k)++Y.drop k++Z))∧Hid (w.grownBy wr (some g))) (fun i _=>b-(intOf i).toNat)
 case atStart=>exact⟨1,a1,by omega,.inr rfl,by omega,rfl,by have e:aM aI (Y.take 1)=Y.take 1:=(by cases Y <;>simp [aM,mrg]);rw [e,List.append_assoc X,List.take_append_drop];exact HA0,aa (grown_refl' _ _)⟩
 case round=>
  clear HA0;obtain⟨k,i0,hk1,hk2,hi0,rfl,HAk,HG⟩:=hrel
  rename World=>W1
  obtain⟨hi2,hi3⟩:=le2 hi0;clear hi0;by_cases hlt:i0<b
  ·have hkY:k<Y.length:=(by omega);have qlt:(i0:Int)<(b:Int):=(by omega);obtain⟨A,hAe⟩:∃A,A=aM aI (Y.take k):=⟨_,rfl⟩;obtain⟨y,hye⟩:∃y,y=Y.getD k ac0:=⟨_,rfl⟩;obtain⟨R,hRe⟩:∃R,R=Y.drop (k+1)++Z:=⟨_,rfl⟩;have hAl:A.length=k:=by rw [hAe,aN];simp;omega
   have HNX:Hid (∀m,m≤A.length→(m=0∨y.p≤(A.getD (m-1) ac0).p)→(m=A.length∨(A.getD m ac0).p<y.p)→bh X A y R m=X++aM aI (Y.take (k+1))++Y.drop (k+1)++Z):=aa (fun m h0 h1 h2=>by rw [hRe];exact nm hkY hAe hye h0 h1 h2);have HA0:Hid (AcR W1 B g c N (bh X A y R k)):=by have:=HAk.out;rw [mO hkY, ←hAe, ←hye, ←hRe]at this;exact aa this
   have hAl2:=aa hAl;obtain⟨hA2,hA3⟩:=le2 hAl;clear HAk hAe hye hRe hAl;have hai:a≤i0:=(by omega);obtain⟨i1,hi1⟩:∃i1,i1=i0+1:=⟨_,rfl⟩;obtain⟨hi4,hi5⟩:=le2 hi1;clear hi1;have hw2:IntKind.i64.wrap ((i0:Int)+1)=(i1:Int):=(bn _ (by omega) (by omega)).trans (by omega);go_wp2_with fail
   go_loopw [9] (fun j wr=>∃m j0:Nat,m≤k∧j0=a+m∧j= .int .i64 (j0:Int)∧Hid (m=A.length∨(A.getD m ac0).p<y.p)∧Hid (AcR wr B g c N (bh X A y R m))∧Hid (w.grownBy wr (some g))) (fun j _=>(intOf j).toNat)
   case atStart=>exact⟨k,i0,Nat.le_refl _,by omega,rfl,aa (.inl hAl2.out.symm),HA0,HG⟩
   case round=>
    clear HA0 HG;obtain⟨m,j0,hmk,hj0,rfl,HM2,HA,HG⟩:=hrel;obtain⟨hj2,hj3⟩:=le2 hj0;clear hj0;by_cases hm0:m=0
    ·subst hm0;have hm0:True:=trivial;have hng:¬(a<j0):=(by omega);have hng2:¬((a:Int)<(j0:Int)):=(by omega);go_wp2_with fail
     have hDr:Below wr.heap.size wr wr.drew:=(Below.refl _ _).drew;replace HA:=aa (HA.out.below hDr);replace HG:=aa (bN HG.out hDr);clear hDr;refine wp_region_held_drew (S:=fun _=>True) (by kernel_rfl) trivial (fun hHeld=>?_);generalize wr.drew=V at*;refine sqA [(0,18),(1,19),(2,20),(3,21)] ?_;(iterate 4 (refine sqN rfl (by kernel_rfl) (fun _ _ _ h=>h) rfl ‹_› (by intro w h;go_simp <;>with_reducible rfl) ?_;simp only [nz]));refine sqZ ?_;refine wpAnyH_take (i:=4) (oi:=⟨some 22,_,_,_,_,_⟩) (v:=undef) rfl (by kernel_rfl) (by kernel_rfl) (by kernel_rfl) (fun _ _ _ h=>h) (Or.inr ⟨by rfl,rfl⟩) (by assumption) ?_;(try simp only [nz]);refine wpAnyH_take (i:=5) (oi:=⟨some 23,_,_,_,_,_⟩) (v:=undef) rfl (by kernel_rfl) (by kernel_rfl) (by kernel_rfl) (fun _ _ _ h=>h) (Or.inr ⟨by rfl,rfl⟩) (by assumption) ?_;(try simp only [nz]);refine wpAnyH_take (i:=6) (oi:=⟨some 24,_,_,_,_,_⟩) (v:=undef) rfl (by kernel_rfl) (by kernel_rfl) (by kernel_rfl) (fun _ _ _ h=>h) (Or.inr ⟨by rfl,rfl⟩) (by assumption) ?_;(try simp only [nz]);refine wpAnyH_take (i:=7) (oi:=⟨some 25,_,_,_,_,_⟩) (v:=undef) rfl (by kernel_rfl) (by kernel_rfl) (by kernel_rfl) (fun _ _ _ h=>h) (Or.inr ⟨by rfl,rfl⟩) (by assumption) ?_;(try simp only [nz]);refine wpAnyH_take (i:=8) (oi:=⟨some 26,_,_,_,_,_⟩) (v:=undef) rfl (by kernel_rfl) (by kernel_rfl) (by kernel_rfl) (fun _ _ _ h=>h) (Or.inr ⟨by rfl,rfl⟩) (by assumption) ?_;(try simp only [nz]);refine wpAnyH_take (i:=9) (oi:=⟨some 27,_,_,_,_,_⟩) (v:=undef) rfl (by kernel_rfl) (by kernel_rfl) (by kernel_rfl) (fun _ _ _ h=>h) (Or.inr ⟨by rfl,rfl⟩) (by assumption) ?_;(try simp only [nz]);refine wpAnyH_take (i:=10) (oi:=⟨some 28,_,_,_,_,_⟩) (v:=undef) rfl (by kernel_rfl) (by kernel_rfl) (by kernel_rfl) (fun _ _ _ h=>h) (Or.inr ⟨by rfl,rfl⟩) (by assumption) ?_;(try simp only [nz]);refine wpAnyH_take (i:=11) (oi:=⟨some 29,_,_,_,_,_⟩) (v:=undef) rfl (by kernel_rfl) (by kernel_rfl) (by kernel_rfl) (fun _ _ _ h=>h) (Or.inr ⟨by rfl,rfl⟩) (by assumption) ?_;(try simp only [nz]);refine wpAnyH_take (i:=12) (oi:=⟨some 30,_,_,_,_,_⟩) (v:=undef) rfl (by kernel_rfl) (by kernel_rfl) (by kernel_rfl) (fun _ _ _ h=>h) (Or.inr ⟨by rfl,rfl⟩) (by assumption) ?_;(try simp only [nz]);refine wpAnyH_take (i:=13) (oi:=⟨some 31,_,_,_,_,_⟩) (v:=undef) rfl (by kernel_rfl) (by kernel_rfl) (by kernel_rfl) (fun _ _ _ h=>h) (Or.inr ⟨by rfl,rfl⟩) (by assumption) ?_;(try simp only [nz]);refine rs 14 32 (by kernel_rfl) rfl (fun K hK=>?_);rw [if_neg (by rw [Bool.not_eq_true];rfl)];refine hK.out _ _ trivial (fun hHeld=>?_);clear hK K;(try simp only [nz]);refine wpAnyH_take (i:=15) (oi:=⟨some 33,_,_,_,_,_⟩) (v:=undef) rfl (by kernel_rfl) (by kernel_rfl) (by kernel_rfl) (fun _ _ _ h=>h) (Or.inr ⟨by rfl,rfl⟩) (by assumption) ?_;(try simp only [nz])
     refine tq 16 34 rfl (by kernel_rfl) (fun _ _ _ h=>h) rfl ‹_› (by intro w h;go_simp <;>with_reducible rfl) ?_;simp only [nz];refine wpAnyH_done (by kernel_rfl) ?_ _;clear hHeld
     skip
     have HE:Hid (AcR V B g c N (X++aM aI (Y.take (k+1))++Y.drop (k+1)++Z)):=by rw [←HNX.out 0 (by rw [hAl2.out];exact hmk) (.inl rfl) HM2.out];exact HA
     clear HA HM2 HNX;go_wp2_with fail
     go_roundw
     case rel=>exact⟨k+1,i1,by omega,.inl (by omega),by omega,rfl,HE,HG⟩
     case measure=>simp [intOf];omega
    ·obtain⟨l,rfl⟩:∃l,m=l+1:=⟨m-1,by omega⟩;obtain⟨jl,hjl⟩:∃jl,jl=a+l:=⟨_,rfl⟩;obtain⟨hj4,hj5⟩:=le2 hjl;clear hjl;have hgt:(a:Int)<(j0:Int):=(by omega);have hw3:IntKind.i64.wrap ((j0:Int)-1)=(jl:Int):=(bn _ (by omega) (by omega)).trans (by omega);have t0:(0:Int)≤(j0:Int):=(by omega);have t1:(j0:Int)<(N:Int):=(by omega);have t2:(0:Int)≤(jl:Int):=(by omega);have t3:(jl:Int)<(N:Int):=(by omega);have hlA:l<A.length:=by rw [hAl2.out];omega
     obtain⟨x,hx⟩:∃x,x=A.getD l ac0:=⟨_,rfl⟩;have HR1:Hid (∀W,AcR W B g c N (bh X A y R (l+1))→W.rangeAt g (j0*9) (acC y)):=aa (fun W h=>by have:=h.range (i:=j0) (by omega);rwa [show j0=X.length+(l+1) by omega,fY (by omega), ←show j0=X.length+(l+1) by omega]at this);have HR2:Hid (∀W,AcR W B g c N (bh X A y R (l+1))→W.rangeAt g (jl*9) (acC x)):=aa (fun W h=>by have:=h.range (i:=jl) (by omega);rwa [show jl=X.length+l by omega,fP hlA, ←hx, ←show jl=X.length+l by omega]at this);have HSW:Hid (((bh X A y R (l+1)).set j0 x).set jl y=bh X A y R l):=aa (by rw [hx,show j0=X.length+l+1 by omega,show jl=X.length+l by omega];exact jR hlA);have HLT:=aa (gk x.p y.p);have hx2:=aa hx;clear hx;go_wp2_with fail
     have HD:Hid (AcR wr.drew B g c N _):=aa (HA.out.below ((Below.refl _ _).drew));refine wp_region_held_drew (S:=fun w'=>w'.rangeAt g (j0*9) (acC y)∧w'.rangeAt g (jl*9) (acC x)) (by kernel_rfl) ⟨HR1.out _ HD.out,HR2.out _ HD.out⟩ (fun hHeld=>?_);refine sqA [(0,18),(1,19),(2,20),(3,21),(4,22),(5,23),(6,24),(7,25)] ?_;(iterate 8 (refine sqN rfl (by kernel_rfl) (fun _ _ _ h=>h) rfl ‹_› (by intro w h;go_simp <;>with_reducible rfl) ?_;simp only [nz]));refine sqZ ?_;refine wpAnyH_take (i:=8) (oi:=⟨some 26,_,_,_,_,_⟩) (v:=.agg (acC y).toArray) rfl (by kernel_rfl) (by kernel_rfl) (by kernel_rfl) (fun _ _ _ h=>h) (yieldsIf_load_mid (by rfl) 58 (.tmp 25) rfl g (j0*9) rfl (acC y) _ (fun w h=>h.1) Tryz.underlying58 rfl aJ) (by assumption) ?_;(try simp only [nz]);refine sqA [(9,27),(10,28),(11,29),(12,30)] ?_;(iterate 4 (refine sqN rfl (by kernel_rfl) (fun _ _ _ h=>h) rfl ‹_› (by intro w h;go_simp <;>with_reducible rfl) ?_;simp only [nz]));refine sqZ ?_;refine wpAnyH_take (i:=13) (oi:=⟨some 31,_,_,_,_,_⟩) (v:=.agg (acC x).toArray) rfl (by kernel_rfl) (by kernel_rfl) (by kernel_rfl) (fun _ _ _ h=>h) (yieldsIf_load_mid (by rfl) 58 (.tmp 30) rfl g (jl*9) rfl (acC x) _ (fun w h=>h.2) Tryz.underlying58 rfl aJ) (by assumption) ?_;(try simp only [nz]);refine rs 14 32 (by kernel_rfl) rfl (fun K hK=>?_);go_simp;clear hHeld;refine(ae HCM y x _).mono ?_;rintro e V ⟨rfl,hb⟩;replace HA:=aa (HD.out.below hb);replace HG:=aa (bN HG.out (((Below.refl _ _).drew).trans hb));clear HD hb;refine hK.out _ _ ⟨HR1.out _ HA.out,HR2.out _ HA.out⟩ (fun hHeld=>?_);clear hK K;(try simp only [nz]);refine sqA [(15,33),(16,34)] ?_;(iterate 2 (refine sqN rfl (by kernel_rfl) (fun _ _ _ h=>h) rfl ‹_› (by intro w h;go_simp <;>with_reducible rfl) ?_;simp only [nz]));refine sqZ ?_;refine wpAnyH_done (by kernel_rfl) ?_ _;clear hHeld;by_cases hle:x.p<y.p
     ·have hlt2:aL x.p y.p<0:=by rw [HLT.out];exact hle
      go_wp2_with fail
      apply gi _ (fun w'=>AcR w' B g c N (((bh X A y R (l+1)).set j0 x).set jl y)∧w.grownBy w' (some g))
      ·have hDr:Below V.heap.size V V.drew:=(Below.refl _ _).drew;replace HA:=aa (HA.out.below hDr);replace HG:=aa (bN HG.out hDr);clear hDr;refine wp_region_held_drew (S:=fun _=>True) (by kernel_rfl) trivial (fun hHeld=>?_);generalize V.drew=V2 at*;refine sqA [(0,37),(1,38),(2,39),(3,40),(4,41),(5,42),(6,43),(7,44),(8,45),(10,47),(11,48),(12,49)] ?_;(iterate 12 (refine sqN rfl (by kernel_rfl) (fun _ _ _ h=>absurd h.1 (by simp)) rfl ‹_› (by intro w h;go_simp <;>with_reducible rfl) ?_;simp only [nz]));refine sqZ ?_;refine wpAnyH_ready (rs:=[9,13]) (by kernel_rfl) (by simp) ?_;refine(AllReadyH.cons (o:=⟨some 46,_,_,_,_,_⟩) rfl (fun K hK=>?_) (AllReadyH.cons (o:=⟨some 50,_,_,_,_,_⟩) rfl (fun K hK=>?_) AllReadyH.nil))
       ·rw [if_pos (by rfl)];clear hHeld;refine wp_load_mid 58 (.tmp 45) rfl g (jl*9) rfl (acC x) _ (HR2.out _ HA.out) Tryz.underlying58 rfl aJ ?_;refine hK.out _ _ trivial (fun hHeld=>?_);clear hK K;(try simp only [nz]);refine rs 13 50 (by kernel_rfl) rfl (fun K hK=>?_);rw [if_pos (by rfl)];clear hHeld;refine wp_load_mid 58 (.tmp 49) rfl g (j0*9) rfl (acC y) _ (HR1.out _ HA.out) Tryz.underlying58 rfl aJ ?_;refine hK.out _ _ trivial (fun hHeld=>?_);clear hK K;(try simp only [nz]);refine tq 14 51 rfl (by kernel_rfl) (fun _ _ _ h=>absurd h.1 (by simp)) rfl ‹_› (by intro w h;go_simp <;>with_reducible rfl) ?_;simp only [nz];refine rn 15 (by kernel_rfl) rfl (fun K hK=>?_);rw [if_pos (by rfl)];clear hHeld;refine wp_store_mid 58 (.tmp 51) (.tmp 46) rfl g (j0*9) (acC x).toArray rfl rfl (AcR.there HA.out (i:=j0) (by omega)) aJ (eE rfl) ?_;rw [show(acC x).toArray.toList=acC x from rfl];have HP0:=aa (AcR.put HA.out (i:=j0) (by omega) x).1;have hq0:=(AcR.put HA.out (i:=j0) (by omega) x).2;generalize World.setCells _ g (j0*9) (acC x)=V20 at*;refine hK.out _ _ trivial (fun hHeld=>?_);clear hK K;(try simp only [Act.put]);refine tq 16 52 rfl (by kernel_rfl) (fun _ _ _ h=>absurd h.1 (by simp)) rfl ‹_› (by intro w h;go_simp <;>with_reducible rfl) ?_;simp only [nz];refine rn 17 (by kernel_rfl) rfl (fun K hK=>?_);rw [if_pos (by rfl)];clear hHeld;refine wp_store_mid 58 (.tmp 52) (.tmp 50) rfl g (jl*9) (acC y).toArray rfl rfl (AcR.there HP0.out (i:=jl) (by omega)) aJ (eE rfl) ?_;rw [show(acC y).toArray.toList=acC y from rfl];have HP1:=aa (AcR.put HP0.out (i:=jl) (by omega) y).1;have hq1:=(AcR.put HP0.out (i:=jl) (by omega) y).2;generalize World.setCells _ g (jl*9) (acC y)=V21 at*;refine hK.out _ _ trivial (fun hHeld=>?_);clear hK K;(try simp only [Act.put]);refine wpAnyH_done (by kernel_rfl) ?_ _;clear hHeld;exact⟨rfl,rfl,HP1.out,ar HG.out (ar hq0 hq1)⟩
       ·rw [if_pos (by rfl)];clear hHeld;refine wp_load_mid 58 (.tmp 49) rfl g (j0*9) rfl (acC y) _ (HR1.out _ HA.out) Tryz.underlying58 rfl aJ ?_;refine hK.out _ _ trivial (fun hHeld=>?_);clear hK K;(try simp only [nz]);refine rs 9 46 (by kernel_rfl) rfl (fun K hK=>?_);rw [if_pos (by rfl)];clear hHeld;refine wp_load_mid 58 (.tmp 45) rfl g (jl*9) rfl (acC x) _ (HR2.out _ HA.out) Tryz.underlying58 rfl aJ ?_;refine hK.out _ _ trivial (fun hHeld=>?_);clear hK K;(try simp only [nz]);refine tq 14 51 rfl (by kernel_rfl) (fun _ _ _ h=>absurd h.1 (by simp)) rfl ‹_› (by intro w h;go_simp <;>with_reducible rfl) ?_;simp only [nz];refine rn 15 (by kernel_rfl) rfl (fun K hK=>?_);rw [if_pos (by rfl)];clear hHeld;refine wp_store_mid 58 (.tmp 51) (.tmp 46) rfl g (j0*9) (acC x).toArray rfl rfl (AcR.there HA.out (i:=j0) (by omega)) aJ (eE rfl) ?_;rw [show(acC x).toArray.toList=acC x from rfl];have HP0:=aa (AcR.put HA.out (i:=j0) (by omega) x).1;have hq0:=(AcR.put HA.out (i:=j0) (by omega) x).2;generalize World.setCells _ g (j0*9) (acC x)=V20 at*;refine hK.out _ _ trivial (fun hHeld=>?_);clear hK K;(try simp only [Act.put]);refine tq 16 52 rfl (by kernel_rfl) (fun _ _ _ h=>absurd h.1 (by simp)) rfl ‹_› (by intro w h;go_simp <;>with_reducible rfl) ?_;simp only [nz];refine rn 17 (by kernel_rfl) rfl (fun K hK=>?_);rw [if_pos (by rfl)];clear hHeld;refine wp_store_mid 58 (.tmp 52) (.tmp 50) rfl g (jl*9) (acC y).toArray rfl rfl (AcR.there HP0.out (i:=jl) (by omega)) aJ (eE rfl) ?_;rw [show(acC y).toArray.toList=acC y from rfl];have HP1:=aa (AcR.put HP0.out (i:=jl) (by omega) y).1;have hq1:=(AcR.put HP0.out (i:=jl) (by omega) y).2;generalize World.setCells _ g (jl*9) (acC y)=V21 at*;refine hK.out _ _ trivial (fun hHeld=>?_);clear hK K;(try simp only [Act.put]);refine wpAnyH_done (by kernel_rfl) ?_ _;clear hHeld;exact⟨rfl,rfl,HP1.out,ar HG.out (ar hq0 hq1)⟩
      intro W3 hW3;obtain⟨hA3,hG3⟩:=hW3;rw [HSW.out]at hA3;have HA3:=aa hA3;have HG3:=aa hG3;have HM3:Hid (l=A.length∨(A.getD l ac0).p<y.p):=aa (.inr (by rw [←hx2.out];exact hle));clear hA3 hG3 HA HG HR1 HR2 HSW HM2;go_wp2_with fail
      go_roundw
      case rel=>exact⟨l,jl,by omega,by omega,rfl,HM3,HA3,HG3⟩
      case measure=>simp [intOf];omega
     ·have hlt2:¬aL x.p y.p<0:=by rw [HLT.out];exact hle
      have HE:Hid (AcR V B g c N (X++aM aI (Y.take (k+1))++Y.drop (k+1)++Z)):=by rw [←HNX.out (l+1) (by rw [hAl2.out];exact hmk) (.inr (by rw [show l+1-1=l by omega, ←hx2.out];omega)) HM2.out];exact HA
      clear HA HM2 HNX;go_wp2_with fail
      go_roundw
      case rel=>exact⟨k+1,i1,by omega,.inl (by omega),by omega,rfl,HE,HG⟩
      case measure=>simp [intOf];omega
  ·have hke:Y.length≤k:=(by omega);have nlt:¬((i0:Int)<(b:Int)):=(by omega);have HE:Hid (AcR W1 B g c N T):=by rw [HT.out];have:=HAk.out;rw [List.take_of_length_le hke,List.drop_of_length_le hke,List.append_nil]at this;exact aa this
   clear HAk;go_wp2_with fail
   go_end0;exact⟨rfl,HE.out,HG.out⟩
theorem rN (P1 P2 P3:List Ac) (x y:Ac):(P1++x::P2++y::P3).getD P1.length ac0=x:=by
 rw [List.append_assoc,show P1.length=P1.length+0 from rfl,aU];rfl
theorem rJ (P1 P2 P3:List Ac) (x y:Ac):(P1++x::P2++y::P3).getD (P1.length+1+P2.length) ac0=y:=by
 have:=aU (A:=P1++x::P2) (B:=y::P3) 0;have hl:(P1++x::P2).length+0=P1.length+1+P2.length:=by simp;omega
 rw [hl]at this;exact this
def kx (P U Q V R:List Ac) (k:Nat):List Ac:=P++(V.take k++U.drop k)++Q++(U.take k++V.drop k)++R
theorem qR {P U Q V R:List Ac} {n k:Nat} (hU:U.length=n) (hV:V.length=n) (hk:k<n):kx P U Q V R k=(P++V.take k)++U.getD k ac0::(U.drop (k+1)++Q++U.take k)++V.getD k ac0::(V.drop (k+1)++R):=by
 have e1:U.drop k=U.getD k ac0::U.drop (k+1):=by
  rw [List.drop_eq_getElem_cons (by omega),List.getD_eq_getElem?_getD,List.getElem?_eq_getElem (by omega)];rfl
 have e2:V.drop k=V.getD k ac0::V.drop (k+1):=by
  rw [List.drop_eq_getElem_cons (by omega),List.getD_eq_getElem?_getD,List.getElem?_eq_getElem (by omega)];rfl
 unfold kx;rw [e1,e2];simp
theorem oM {P U Q V R:List Ac} {n k:Nat} (hU:U.length=n) (hV:V.length=n) (hk:k<n):kx P U Q V R (k+1)=(P++V.take k)++V.getD k ac0::(U.drop (k+1)++Q++U.take k)++U.getD k ac0::(V.drop (k+1)++R):=by
 have e1:U.take (k+1)=U.take k++ [U.getD k ac0]:=by
  rw [List.take_add_one,List.getD_eq_getElem?_getD,List.getElem?_eq_getElem (by omega)];rfl
 have e2:V.take (k+1)=V.take k++ [V.getD k ac0]:=by
  rw [List.take_add_one,List.getD_eq_getElem?_getD,List.getElem?_eq_getElem (by omega)];rfl
 unfold kx;rw [e1,e2];simp
theorem jw (P U Q V R:List Ac) (B g c N a b n:Nat) (w:World) (hA:AcR w B g c N (P++U++Q++V++R)) (hU:U.length=n) (hV:V.length=n) (ha:a=P.length) (hb:b=P.length+n+Q.length) (hN:N≤1000):
  Calls Tryz.prog 162 #[.slice (some ⟨g,0,none⟩) N c,.int .i64 (a:Int),.int .i64 (b:Int),.int .i64 (n:Int),.func (.func 103) #[] #[]] w fun e w'=>e= .returned (.tuple #[])∧AcR w' B g c N (P++V++Q++U++R)∧w.grownBy w' (some g):=by
 obtain⟨T,hT⟩:∃T,T=P++V++Q++U++R:=⟨_,rfl⟩;rw [←hT];have HT:=aa hT;clear hT;have HA0:Hid (AcR w B g c N (kx P U Q V R 0)):=by refine aa ?_;unfold kx;simpa using hA
 have hlen:P.length+n+Q.length+n+R.length=N:=by have:=hA.1;simp only [List.length_append,hU,hV]at this;omega
 obtain⟨ha2,ha3⟩:=le2 ha;obtain⟨hb2,hb3⟩:=le2 hb;obtain⟨hl2,hl3⟩:=le2 hlen;have HU:=aa hU;have HV:=aa hV;clear hA ha hb hlen hU hV;go_enter Tryz.func162,Tryz.ntmps162;go_wp2_with fail
 go_loopw [10] (fun i wr=>∃k:Nat,k≤n∧i= .int .i64 (k:Int)∧Hid (AcR wr B g c N (kx P U Q V R k))∧Hid (w.grownBy wr (some g))) (fun i _=>n-(intOf i).toNat)
 case atStart=>exact⟨0,by omega,rfl,HA0,aa (grown_refl' _ _)⟩
 case round=>
  clear HA0;obtain⟨k,hk,rfl,HA,HG⟩:=hrel;by_cases hlt:k<n
  ·have qlt:(k:Int)<(n:Int):=(by omega);obtain⟨ai,hai⟩:∃ai,ai=a+k:=⟨_,rfl⟩;obtain⟨bi,hbi⟩:∃bi,bi=b+k:=⟨_,rfl⟩;obtain⟨hai2,hai3⟩:=le2 hai;obtain⟨hbi2,hbi3⟩:=le2 hbi;have hw1:IntKind.i64.wrap ((a:Int)+(k:Int))=(ai:Int):=(bn _ (by omega) (by omega)).trans (by omega);have hw2:IntKind.i64.wrap ((b:Int)+(k:Int))=(bi:Int):=(bn _ (by omega) (by omega)).trans (by omega);clear hai hbi;have t0:(0:Int)≤(ai:Int):=(by omega);have t1:(ai:Int)<(N:Int):=(by omega);have t2:(0:Int)≤(bi:Int):=(by omega);have t3:(bi:Int)<(N:Int):=(by omega);have HI:=aa (qR (P:=P) (Q:=Q) (R:=R) HU.out HV.out hlt);have HX:=aa (oM (P:=P) (Q:=Q) (R:=R) HU.out HV.out hlt);obtain⟨P1,hP1⟩:∃P1,P1=P++V.take k:=⟨_,rfl⟩;obtain⟨P2,hP2⟩:∃P2,P2=U.drop (k+1)++Q++U.take k:=⟨_,rfl⟩;have hl1:P1.length=ai:=by rw [hP1];simp [HV.out];omega
   have hl4:P1.length+1+P2.length=bi:=by rw [hl1,hP2];simp [HU.out];omega
   rw [←hP1, ←hP2]at HI HX;clear hP1 hP2;generalize U.getD k ac0=x at*;generalize V.getD k ac0=y at*;generalize V.drop (k+1)++R=P3 at*;rw [HI.out]at HA;have HR1:Hid (∀W,AcR W B g c N (P1++x::P2++y::P3)→W.rangeAt g (ai*9) (acC x)):=aa (fun W h=>by have:=h.range (i:=ai) (by omega);rwa [←hl1,rN,hl1]at this);have HR2:Hid (∀W,AcR W B g c N (P1++x::P2++y::P3)→W.rangeAt g (bi*9) (acC y)):=aa (fun W h=>by have:=h.range (i:=bi) (by omega);rwa [←hl4,rJ,hl4]at this);have HSW:Hid (((P1++x::P2++y::P3).set ai y).set bi x=kx P U Q V R (k+1)):=aa (by rw [HX.out, ←hl1, ←hl4, ←ju P1 P2 P3 x y,hl1]);clear HI HX hl1 hl4;obtain⟨k1,hk1⟩:∃k1,k1=k+1:=⟨_,rfl⟩;have HK1:=aa hk1;have hw3:IntKind.i64.wrap ((k:Int)+1)=(k1:Int):=(bn _ (by omega) (by omega)).trans (by omega);obtain⟨hk2,hk3⟩:=le2 hk1;rw [←hk1]at HSW;clear hk1;obtain⟨LL,hLL⟩:∃LL,LL=P1++x::P2++y::P3:=⟨_,rfl⟩;rw [←hLL]at HA HR1 HR2 HSW;clear hLL;go_wp2_with fail
   apply gi _ (fun w'=>AcR w' B g c N ((LL.set ai y).set bi x)∧w.grownBy w' (some g))
   ·have hDr:Below wr.heap.size wr wr.drew:=(Below.refl _ _).drew;replace HA:=aa (HA.out.below hDr);replace HG:=aa (bN HG.out hDr);clear hDr;refine wp_region_held_drew (S:=fun _=>True) (by kernel_rfl) trivial (fun hHeld=>?_);generalize wr.drew=V2 at*;refine sqA [(0,16),(1,17),(2,18),(3,19),(4,20),(5,21),(6,22),(7,23),(8,24),(9,25),(10,26),(11,27),(12,28),(14,30),(15,31),(16,32),(17,33),(18,34)] ?_;(iterate 18 (refine sqN rfl (by kernel_rfl) (fun _ _ _ h=>absurd h.1 (by simp)) rfl ‹_› (by intro w h;go_simp <;>with_reducible rfl) ?_;simp only [nz]));refine sqZ ?_;refine wpAnyH_ready (rs:=[13,19]) (by kernel_rfl) (by simp) ?_;refine(AllReadyH.cons (o:=⟨some 29,_,_,_,_,_⟩) rfl (fun K hK=>?_) (AllReadyH.cons (o:=⟨some 35,_,_,_,_,_⟩) rfl (fun K hK=>?_) AllReadyH.nil))
    ·rw [if_pos (by rfl)];clear hHeld;refine wp_load_mid 58 (.tmp 28) rfl g (bi*9) rfl (acC y) _ (HR2.out _ HA.out) Tryz.underlying58 rfl aJ ?_;refine hK.out _ _ trivial (fun hHeld=>?_);clear hK K;(try simp only [nz]);refine rs 19 35 (by kernel_rfl) rfl (fun K hK=>?_);rw [if_pos (by rfl)];clear hHeld;refine wp_load_mid 58 (.tmp 34) rfl g (ai*9) rfl (acC x) _ (HR1.out _ HA.out) Tryz.underlying58 rfl aJ ?_;refine hK.out _ _ trivial (fun hHeld=>?_);clear hK K;(try simp only [nz]);refine tq 20 36 rfl (by kernel_rfl) (fun _ _ _ h=>absurd h.1 (by simp)) rfl ‹_› (by intro w h;go_simp <;>with_reducible rfl) ?_;simp only [nz];refine rn 21 (by kernel_rfl) rfl (fun K hK=>?_);rw [if_pos (by rfl)];clear hHeld;refine wp_store_mid 58 (.tmp 36) (.tmp 29) rfl g (ai*9) (acC y).toArray rfl rfl (AcR.there HA.out (i:=ai) (by omega)) aJ (eE rfl) ?_;rw [show(acC y).toArray.toList=acC y from rfl];have HP0:=aa (AcR.put HA.out (i:=ai) (by omega) y).1;have hq0:=(AcR.put HA.out (i:=ai) (by omega) y).2;generalize World.setCells _ g (ai*9) (acC y)=V20 at*;refine hK.out _ _ trivial (fun hHeld=>?_);clear hK K;(try simp only [Act.put]);refine tq 22 37 rfl (by kernel_rfl) (fun _ _ _ h=>absurd h.1 (by simp)) rfl ‹_› (by intro w h;go_simp <;>with_reducible rfl) ?_;simp only [nz];refine rn 23 (by kernel_rfl) rfl (fun K hK=>?_);rw [if_pos (by rfl)];clear hHeld;refine wp_store_mid 58 (.tmp 37) (.tmp 35) rfl g (bi*9) (acC x).toArray rfl rfl (AcR.there HP0.out (i:=bi) (by omega)) aJ (eE rfl) ?_;rw [show(acC x).toArray.toList=acC x from rfl];have HP1:=aa (AcR.put HP0.out (i:=bi) (by omega) x).1;have hq1:=(AcR.put HP0.out (i:=bi) (by omega) x).2;generalize World.setCells _ g (bi*9) (acC x)=V21 at*;refine hK.out _ _ trivial (fun hHeld=>?_);clear hK K;(try simp only [Act.put]);refine wpAnyH_done (by kernel_rfl) ?_ _;clear hHeld;exact⟨rfl,rfl,HP1.out,ar HG.out (ar hq0 hq1)⟩
    ·rw [if_pos (by rfl)];clear hHeld;refine wp_load_mid 58 (.tmp 34) rfl g (ai*9) rfl (acC x) _ (HR1.out _ HA.out) Tryz.underlying58 rfl aJ ?_;refine hK.out _ _ trivial (fun hHeld=>?_);clear hK K;(try simp only [nz]);refine rs 13 29 (by kernel_rfl) rfl (fun K hK=>?_);rw [if_pos (by rfl)];clear hHeld;refine wp_load_mid 58 (.tmp 28) rfl g (bi*9) rfl (acC y) _ (HR2.out _ HA.out) Tryz.underlying58 rfl aJ ?_;refine hK.out _ _ trivial (fun hHeld=>?_);clear hK K;(try simp only [nz]);refine tq 20 36 rfl (by kernel_rfl) (fun _ _ _ h=>absurd h.1 (by simp)) rfl ‹_› (by intro w h;go_simp <;>with_reducible rfl) ?_;simp only [nz];refine rn 21 (by kernel_rfl) rfl (fun K hK=>?_);rw [if_pos (by rfl)];clear hHeld;refine wp_store_mid 58 (.tmp 36) (.tmp 29) rfl g (ai*9) (acC y).toArray rfl rfl (AcR.there HA.out (i:=ai) (by omega)) aJ (eE rfl) ?_;rw [show(acC y).toArray.toList=acC y from rfl];have HP0:=aa (AcR.put HA.out (i:=ai) (by omega) y).1;have hq0:=(AcR.put HA.out (i:=ai) (by omega) y).2;generalize World.setCells _ g (ai*9) (acC y)=V20 at*;refine hK.out _ _ trivial (fun hHeld=>?_);clear hK K;(try simp only [Act.put]);refine tq 22 37 rfl (by kernel_rfl) (fun _ _ _ h=>absurd h.1 (by simp)) rfl ‹_› (by intro w h;go_simp <;>with_reducible rfl) ?_;simp only [nz];refine rn 23 (by kernel_rfl) rfl (fun K hK=>?_);rw [if_pos (by rfl)];clear hHeld;refine wp_store_mid 58 (.tmp 37) (.tmp 35) rfl g (bi*9) (acC x).toArray rfl rfl (AcR.there HP0.out (i:=bi) (by omega)) aJ (eE rfl) ?_;rw [show(acC x).toArray.toList=acC x from rfl];have HP1:=aa (AcR.put HP0.out (i:=bi) (by omega) x).1;have hq1:=(AcR.put HP0.out (i:=bi) (by omega) x).2;generalize World.setCells _ g (bi*9) (acC x)=V21 at*;refine hK.out _ _ trivial (fun hHeld=>?_);clear hK K;(try simp only [Act.put]);refine wpAnyH_done (by kernel_rfl) ?_ _;clear hHeld;exact⟨rfl,rfl,HP1.out,ar HG.out (ar hq0 hq1)⟩
   intro W3 hW3;obtain⟨hA3,hG3⟩:=hW3;rw [HSW.out]at hA3;have HA3:=aa hA3;have HG3:=aa hG3;clear hA3 hG3 HA HG HR1 HR2 HSW;go_wp2_with fail
   go_roundw
   case rel=>exact⟨k1,by omega,rfl,HA3,HG3⟩
   case measure=>simp [intOf];omega
  ·have hke:k=n:=(by omega);have nlt:¬((k:Int)<(n:Int)):=(by omega);have HE:Hid (AcR wr B g c N T):=by rw [HT.out];have:=HA.out;unfold kx at this;rw [hke,List.take_of_length_le (Nat.le_of_eq HV.out),List.take_of_length_le (Nat.le_of_eq HU.out),List.drop_of_length_le (Nat.le_of_eq HV.out),List.drop_of_length_le (Nat.le_of_eq HU.out)]at this;simp only [List.append_nil]at this;exact aa this
   clear HA hke;go_wp2_with fail
   go_end0;exact⟨rfl,HE.out,HG.out⟩
theorem mR (P U V R:List Ac) (B g c N a m b:Nat) (w:World) (hA:AcR w B g c N (P++U++V++R)) (hU:0<U.length) (hV:0<V.length) (ha:a=P.length) (hm:m=P.length+U.length) (hb:b=P.length+U.length+V.length) (hN:N≤1000):
  Calls Tryz.prog 160 #[.slice (some ⟨g,0,none⟩) N c,.int .i64 (a:Int),.int .i64 (m:Int),.int .i64 (b:Int),.func (.func 103) #[] #[]] w fun e w'=>e= .returned (.tuple #[])∧AcR w' B g c N (P++V++U++R)∧w.grownBy w' (some g):=by
 have hlen:P.length+U.length+V.length+R.length=N:=by have:=hA.1;simp only [List.length_append]at this;omega
 obtain⟨T,hT⟩:∃T,T=P++V++U++R:=⟨_,rfl⟩;rw [←hT];have HT:=aa hT.symm;have HA0:=aa hA;obtain⟨i1,hi1⟩:∃i1,i1=U.length:=⟨_,rfl⟩;obtain⟨j1,hj1⟩:∃j1,j1=V.length:=⟨_,rfl⟩;have HI1:=aa hi1.symm;have HJ1:=aa hj1.symm;have HM1:Hid (P.length+i1=m):=aa (by omega);have hw1:IntKind.i64.wrap ((m:Int)-(a:Int))=(i1:Int):=(bn _ (by omega) (by omega)).trans (by omega);have hw2:IntKind.i64.wrap ((b:Int)-(m:Int))=(j1:Int):=(bn _ (by omega) (by omega)).trans (by omega);have h0i:0<i1∧0<j1∧i1≤m∧m+j1≤N:=by omega
 clear hA hT ha hm hb hlen hi1 hj1 hU hV;go_enter Tryz.func160,Tryz.ntmps160;go_wp2_with fail
 go_loopw [10,11] (fun i j wr=>∃(P' U' V' R':List Ac) (i0 j0:Nat),Hid (P'++V'++U'++R'=T)∧(Hid (U'.length=i0)∧Hid (V'.length=j0)∧Hid (P'.length+i0=m))∧(0<i0∧0<j0∧i0≤m∧m+j0≤N)∧i= .int .i64 (i0:Int)∧j= .int .i64 (j0:Int)∧Hid (AcR wr B g c N (P'++U'++V'++R'))∧Hid (w.grownBy wr (some g))) (fun i j _=>(intOf i).toNat+(intOf j).toNat)
 case atStart=>exact⟨P,U,V,R,i1,j1,HT,⟨HI1,HJ1,HM1⟩,h0i,rfl,rfl,HA0,aa (grown_refl' _ _)⟩
 case round=>
  clear HA0 HT HI1 HJ1 HM1 h0i;obtain⟨P2,U2,V2,R2,i0,j0,HT,⟨HI,HJ,HM⟩,⟨hi,hj,him,hjn⟩,rfl,rfl,HA,HG⟩:=hrel;obtain⟨mi,hmi⟩:∃mi,mi=m-i0:=⟨_,rfl⟩;have HMI:=aa hmi;have hw3:IntKind.i64.wrap ((m:Int)-(i0:Int))=(mi:Int):=(bn _ (by omega) (by omega)).trans (by omega);clear hmi;rcases Nat.lt_trichotomy i0 j0 with hlt | heq | hgt
  ·have q1:(i0 != j0)=true:=by simp;omega
   have q2:¬(j0<i0):=(by omega);have q3:¬i0=j0:=(by omega);obtain⟨ji,hji⟩:∃ji,ji=j0-i0:=⟨_,rfl⟩;obtain⟨mj,hmj⟩:∃mj,mj=m+j0:=⟨_,rfl⟩;obtain⟨mk,hmk⟩:∃mk,mk=mj-i0:=⟨_,rfl⟩;have hw4:IntKind.i64.wrap ((m:Int)+(j0:Int))=(mj:Int):=(bn _ (by omega) (by omega)).trans (by omega);have hw5:IntKind.i64.wrap ((mj:Int)-(i0:Int))=(mk:Int):=(bn _ (by omega) (by omega)).trans (by omega);have hw6:IntKind.i64.wrap ((j0:Int)-(i0:Int))=(ji:Int):=(bn _ (by omega) (by omega)).trans (by omega);have hjl:(V2.drop ji).length=i0:=by rw [List.length_drop,HJ.out];omega
   have hjt:(V2.take ji).length=ji:=by rw [List.length_take,HJ.out];omega
   have HSW:=aa (jw P2 U2 (V2.take ji) (V2.drop ji) R2 B g c N mi mk i0 wr (by have:=HA.out;rw [List.append_assoc (P2++U2),List.append_assoc (P2++U2),List.take_append_drop];simpa using this) HI.out hjl (by have:=HM.out;have:=HMI.out;omega) (by have:=HM.out;rw [hjt];omega) hN);have HT2:Hid (P2++V2.take ji++V2.drop ji++(U2++R2)=T):=by rw [←HT.out,List.append_assoc P2,List.take_append_drop];exact aa (by simp)
   have HJL:=aa hjl;have HJT:=aa hjt;have hjx:0<ji∧ji<j0:=(by omega);have hjy:m+ji≤N:=(by omega);have HMJ:Hid (P2.length+i0=m):=HM;clear hji hmj hmk hjl hjt HA;go_wp2_with fail
   refine(ae HSW).mono ?_;rintro e W3 ⟨rfl,hA3,hG3⟩;have HA3:Hid (AcR W3 B g c N (P2++V2.drop ji++V2.take ji++(U2++R2))):=aa (by simpa using hA3);have HG3:=aa (ar HG.out hG3);clear hA3 hG3 HSW HG HT HM;go_wp2_with fail
   go_roundw
   case rel=>exact⟨P2,V2.drop ji,V2.take ji,U2++R2,i0,ji,HT2,⟨HJL,HJT,HMJ⟩,⟨hi,hjx.1,him,hjy⟩,rfl,rfl,HA3,HG3⟩
   case measure=>simp [intOf];omega
  ·subst heq;have q1:(i0 != i0)=false:=(by simp);have HSW:=aa (jw P2 U2 [] V2 R2 B g c N mi m i0 wr (by simpa using HA.out) HI.out HJ.out (by have:=HM.out;have:=HMI.out;omega) (by have:=HM.out;simp;omega) hN);clear HA;go_wp2_with fail
   refine(ae HSW).mono ?_;rintro e W3 ⟨rfl,hA3,hG3⟩;have HA3:Hid (AcR W3 B g c N T):=by rw [←HT.out];exact aa (by simpa using hA3)
   have HG3:=aa (ar HG.out hG3);clear hA3 hG3 HSW HG HT;go_wp2_with fail
   go_end0;exact⟨rfl,HA3.out,HG3.out⟩
  ·have q1:(i0 != j0)=true:=by simp;omega
   have q3:¬i0=j0:=(by omega);obtain⟨ij,hij⟩:∃ij,ij=i0-j0:=⟨_,rfl⟩;have hw6:IntKind.i64.wrap ((i0:Int)-(j0:Int))=(ij:Int):=(bn _ (by omega) (by omega)).trans (by omega);have hjl:(U2.take j0).length=j0:=by rw [List.length_take,HI.out];omega
   have hjt:(U2.drop j0).length=ij:=by rw [List.length_drop,HI.out];omega
   have HSW:=aa (jw P2 (U2.take j0) (U2.drop j0) V2 R2 B g c N mi m j0 wr (by have:=HA.out;rw [List.append_assoc P2,List.take_append_drop];exact this) hjl HJ.out (by have:=HM.out;have:=HMI.out;omega) (by have:=HM.out;rw [hjt];omega) hN);have HT2:Hid (P2++V2++U2.take j0++U2.drop j0++R2=T):=by rw [←HT.out,List.append_assoc (P2++V2),List.take_append_drop];exact aa rfl
   have HJL:=aa hjl;have HJT:=aa hjt;have hjx:0<ij∧ij<i0:=(by omega);have hjy:ij≤m:=(by omega);have HMJ:Hid ((P2++V2).length+ij=m):=by have:=HM.out;rw [List.length_append,HJ.out];exact aa (by omega)
   clear hij hjl hjt HA;go_wp2_with fail
   refine(ae HSW).mono ?_;rintro e W3 ⟨rfl,hA3,hG3⟩;have HA3:Hid (AcR W3 B g c N ((P2++V2)++U2.drop j0++U2.take j0++R2)):=aa (by simpa using hA3);have HG3:=aa (ar HG.out hG3);clear hA3 hG3 HSW HG HT HM;go_wp2_with fail
   go_roundw
   case rel=>exact⟨P2++V2,U2.drop j0,U2.take j0,R2,ij,j0,HT2,⟨HJT,HJL,HMJ⟩,⟨hjx.1,hj,hjy,hjn⟩,rfl,rfl,HA3,HG3⟩
   case measure=>simp [intOf];omega
theorem pX {X A:List Ac} {y:Ac} {R:List Ac} {i:Nat} (hi:i<A.length):(bh X A y R 0).getD (X.length+1+i) ac0=A.getD i ac0:=by
 unfold bh;simp only [List.take_zero,List.drop_zero,List.nil_append];rw [List.append_assoc,Nat.add_assoc,aU,Nat.add_comm 1 i];show((y::A)++R).getD (i+1) ac0=_;rw [cK (by simp;omega)];rfl
theorem pO {X A:List Ac} {y:Ac} {R:List Ac} {i:Nat} (hi:i<A.length):(bh X A y R A.length).getD (X.length+i) ac0=A.getD i ac0:=by
 unfold bh;rw [List.take_length,List.drop_length,List.append_assoc,aU,List.append_assoc,cK hi]
theorem sw {p q h:Nat} (hh:h=(p+q)/2):((p:Int)+(q:Int))/2=(h:Int):=by omega
theorem ns (P Bq R:List Ac) (x:Ac) (B g c N a m b:Nat) (w:World) (hA:AcR w B g c N (P++ [x]++Bq++R)) (hS:AscA Bq) (ha:a=P.length) (hm:m=P.length+1) (hb:b=P.length+1+Bq.length) (hN:N≤1000):
  Calls Tryz.prog 154 #[.slice (some ⟨g,0,none⟩) N c,.int .i64 (a:Int),.int .i64 (m:Int),.int .i64 (b:Int),.func (.func 103) #[] #[]] w fun e w'=>e= .returned (.tuple #[])∧AcR w' B g c N (P++mrg aI [x] Bq++R)∧w.grownBy w' (some g):=by
 have hlen:P.length+1+Bq.length+R.length=N:=by have:=hA.1;simp only [List.length_append,List.length_cons,List.length_nil]at this;omega
 obtain⟨T,hT⟩:∃T,T=P++mrg aI [x] Bq++R:=⟨_,rfl⟩;rw [←hT];have HT:Hid (∀k,k≤Bq.length→(k=0∨x.p<(Bq.getD (k-1) ac0).p)→(k=Bq.length∨(Bq.getD k ac0).p≤x.p)→bh P Bq x R k=T):=aa (fun k h0 h1 h2=>by rw [hT,oQ hS h0 h1 h2];rfl);have HA0:Hid (AcR w B g c N (bh P Bq x R 0)):=by refine aa ?_;unfold bh;simpa using hA
 have HCM:=aa fz;obtain⟨n,hn⟩:∃n,n=Bq.length:=⟨_,rfl⟩;have HN:=aa hn;obtain⟨ha2,ha3⟩:=le2 ha;obtain⟨hm2,hm3⟩:=le2 hm;obtain⟨hb2,hb3⟩:=le2 hb;obtain⟨hl2,hl3⟩:=le2 hlen;obtain⟨hn2,hn3⟩:=le2 hn;have hw1:IntKind.i64.wrap ((m:Int)-(a:Int))=1:=(bn _ (by omega) (by omega)).trans (by omega);clear hA hT ha hm hb hlen hn hS;go_enter Tryz.func154,Tryz.ntmps154;go_wp2_with fail
 go_loopw [10,11] (fun i j wr=>∃(k1 k2 i0 j0:Nat),(i0=m+k1∧j0=m+k2)∧(k1≤k2∧k2≤n)∧i= .int .i64 (i0:Int)∧j= .int .i64 (j0:Int)∧Hid (k1=0∨x.p<(Bq.getD (k1-1) ac0).p)∧Hid (k2=n∨(Bq.getD k2 ac0).p≤x.p)∧Hid (AcR wr B g c N (bh P Bq x R 0))∧Hid (w.grownBy wr (some g))) (fun i j _=>(intOf j).toNat-(intOf i).toNat)
 case atStart=>exact⟨0,n,m,b,⟨by omega,by omega⟩,⟨by omega,Nat.le_refl _⟩,rfl,rfl,aa (.inl rfl),aa (.inl rfl),HA0,aa (grown_refl' _ _)⟩
 case round=>
  clear HA0;obtain⟨k1,k2,i0,j0,⟨hi,hj⟩,⟨hk1,hk2⟩,rfl,rfl,HF1,HF2,HA,HG⟩:=hrel;obtain⟨hi2,hi3⟩:=le2 hi;obtain⟨hj2,hj3⟩:=le2 hj;clear hi hj;by_cases hlt:i0<j0
  ·obtain⟨h,hh⟩:∃h,h=(i0+j0)/2:=⟨_,rfl⟩;have e2:=sw hh;have hih:i0≤h:=(by omega);have hhj:h<j0:=(by omega);clear hh;obtain⟨kh,hkh⟩:∃kh,kh=h-m:=⟨_,rfl⟩;obtain⟨hkh2,hkh3⟩:=le2 hkh;obtain⟨h1,hh1⟩:∃h1,h1=h+1:=⟨_,rfl⟩;obtain⟨hh2,hh3⟩:=le2 hh1;have hw2:IntKind.i64.wrap ((h:Int)+1)=(h1:Int):=(bn _ (by omega) (by omega)).trans (by omega);clear hkh hh1;have t0:(0:Int)≤(h:Int):=(by omega);have t1:(h:Int)<(N:Int):=(by omega);have t2:(0:Int)≤(a:Int):=(by omega);have t3:(a:Int)<(N:Int):=(by omega);obtain⟨z,hz⟩:∃z,z=Bq.getD kh ac0:=⟨_,rfl⟩;have HR1:Hid (∀W,AcR W B g c N (bh P Bq x R 0)→W.rangeAt g (h*9) (acC z)):=aa (fun W hW=>by have:=hW.range (i:=h) (by omega);rwa [show h=P.length+1+kh by omega,pX (by omega), ←hz, ←show h=P.length+1+kh by omega]at this);have HR2:Hid (∀W,AcR W B g c N (bh P Bq x R 0)→W.rangeAt g (a*9) (acC x)):=aa (fun W hW=>by have:=hW.range (i:=a) (by omega);rwa [show a=P.length+0 by omega,fY (by omega), ←show a=P.length+0 by omega]at this);have HLT:=aa (gk x.p z.p);have HZ:=aa hz;clear hz;go_wp2_with fail
   clear e2;have HD:Hid (AcR wr.drew B g c N _):=aa (HA.out.below ((Below.refl _ _).drew));refine wp_region_held_drew (S:=fun w'=>w'.rangeAt g (h*9) (acC z)∧w'.rangeAt g (a*9) (acC x)) (by kernel_rfl) ⟨HR1.out _ HD.out,HR2.out _ HD.out⟩ (fun hHeld=>?_);refine sqA [(0,40),(1,41),(2,42),(3,43)] ?_;(iterate 4 (refine sqN rfl (by kernel_rfl) (fun _ _ _ h=>h) rfl ‹_› (by intro w h;go_simp <;>with_reducible rfl) ?_;simp only [nz]));refine sqZ ?_;refine wpAnyH_take (i:=4) (oi:=⟨some 44,_,_,_,_,_⟩) (v:=.agg (acC z).toArray) rfl (by kernel_rfl) (by kernel_rfl) (by kernel_rfl) (fun _ _ _ h=>h) (yieldsIf_load_mid (by rfl) 58 (.tmp 43) rfl g (h*9) rfl (acC z) _ (fun w h=>h.1) Tryz.underlying58 rfl aJ) (by assumption) ?_;(try simp only [nz]);refine sqA [(5,45),(6,46),(7,47)] ?_;(iterate 3 (refine sqN rfl (by kernel_rfl) (fun _ _ _ h=>h) rfl ‹_› (by intro w h;go_simp <;>with_reducible rfl) ?_;simp only [nz]));refine sqZ ?_;refine wpAnyH_take (i:=8) (oi:=⟨some 48,_,_,_,_,_⟩) (v:=.agg (acC x).toArray) rfl (by kernel_rfl) (by kernel_rfl) (by kernel_rfl) (fun _ _ _ h=>h) (yieldsIf_load_mid (by rfl) 58 (.tmp 47) rfl g (a*9) rfl (acC x) _ (fun w h=>h.2) Tryz.underlying58 rfl aJ) (by assumption) ?_;(try simp only [nz]);refine rs 9 49 (by kernel_rfl) rfl (fun K hK=>?_);go_simp;clear hHeld;refine(ae HCM z x _).mono ?_;rintro e V ⟨rfl,hb⟩;replace HA:=aa (HD.out.below hb);replace HG:=aa (bN HG.out (((Below.refl _ _).drew).trans hb));clear HD hb;refine hK.out _ _ ⟨HR1.out _ HA.out,HR2.out _ HA.out⟩ (fun hHeld=>?_);clear hK K;(try simp only [nz]);refine tq 10 50 rfl (by kernel_rfl) (fun _ _ _ h=>h) rfl ‹_› (by intro w h;go_simp <;>with_reducible rfl) ?_;simp only [nz];refine wpAnyH_done (by kernel_rfl) ?_ _;clear hHeld;by_cases hle:x.p<z.p
   ·have hl2x:aL x.p z.p<0:=by rw [HLT.out];exact hle
    have HF3:Hid (kh+1=0∨x.p<(Bq.getD (kh+1-1) ac0).p):=aa (.inr (by rw [Nat.add_sub_cancel, ←HZ.out];exact hle));clear HR1 HR2 HF1;go_wp2_with fail
    go_roundw
    case rel=>exact⟨kh+1,k2,h1,j0,⟨by omega,by omega⟩,⟨by omega,hk2⟩,rfl,rfl,HF3,HF2,HA,HG⟩
    case measure=>simp [intOf];omega
   ·have hl2x:¬aL x.p z.p<0:=by rw [HLT.out];exact hle
    have HF3:Hid (kh=n∨(Bq.getD kh ac0).p≤x.p):=aa (.inr (by rw [←HZ.out];omega));clear HR1 HR2 HF2;go_wp2_with fail
    go_roundw
    case rel=>exact⟨k1,kh,i0,h,⟨by omega,by omega⟩,⟨by omega,by omega⟩,rfl,rfl,HF1,HF3,HA,HG⟩
    case measure=>simp [intOf];omega
  ·have hke:k1=k2:=(by omega);have HTT:=aa (HT.out k1 (by omega) HF1.out (by rw [hke, ←HN.out];exact HF2.out));clear hke HF1 HF2 HT;obtain⟨il,hil⟩:∃il,il=i0-1:=⟨_,rfl⟩;obtain⟨hil2,hil3⟩:=le2 hil;have hw3:IntKind.i64.wrap ((i0:Int)-1)=(il:Int):=(bn _ (by omega) (by omega)).trans (by omega);clear hil
   rename World=>W1
   go_wp2_with fail
   go_loopw [13] (fun v wr=>∃(t v0:Nat),v0=a+t∧t≤k1∧v= .int .i64 (v0:Int)∧Hid (AcR wr B g c N (bh P Bq x R t))∧Hid (w.grownBy wr (some g))) (fun v _=>i0-(intOf v).toNat)
   case atStart=>exact⟨0,a,by omega,by omega,rfl,HA,HG⟩
   case round=>
    clear HA HG;obtain⟨t,v0,hv,htk,rfl,HA,HG⟩:=hrel;obtain⟨hv2,hv3⟩:=le2 hv;clear hv;by_cases htl:t<k1
    ·have htn:t<Bq.length:=(by omega);have q1:(v0:Int)<(il:Int):=(by omega);obtain⟨v1,hv1⟩:∃v1,v1=v0+1:=⟨_,rfl⟩;obtain⟨hv4,hv5⟩:=le2 hv1;have hw4:IntKind.i64.wrap ((v0:Int)+1)=(v1:Int):=(bn _ (by omega) (by omega)).trans (by omega);clear hv1;have t0:(0:Int)≤(v0:Int):=(by omega);have t1:(v0:Int)<(N:Int):=(by omega);have t2:(0:Int)≤(v1:Int):=(by omega);have t3:(v1:Int)<(N:Int):=(by omega);obtain⟨z,hz⟩:∃z,z=Bq.getD t ac0:=⟨_,rfl⟩;have HR1:Hid (∀W,AcR W B g c N (bh P Bq x R t)→W.rangeAt g (v0*9) (acC x)):=aa (fun W hW=>by have:=hW.range (i:=v0) (by omega);rwa [show v0=P.length+t by omega,fY (by omega), ←show v0=P.length+t by omega]at this);have HR2:Hid (∀W,AcR W B g c N (bh P Bq x R t)→W.rangeAt g (v1*9) (acC z)):=aa (fun W hW=>by have:=hW.range (i:=v1) (by omega);rwa [show v1=P.length+t+1 by omega,oU htn, ←hz, ←show v1=P.length+t+1 by omega]at this);have HSW:Hid (((bh P Bq x R t).set v0 z).set v1 x=bh P Bq x R (t+1)):=aa (by rw [hz,show v1=P.length+t+1 by omega,show v0=P.length+t by omega];exact iW htn);clear hz;obtain⟨LL,hLL⟩:∃LL,LL=bh P Bq x R t:=⟨_,rfl⟩;rw [←hLL]at HA HR1 HR2 HSW;clear hLL;go_wp2_with fail
     apply gi _ (fun w'=>AcR w' B g c N ((LL.set v0 z).set v1 x)∧w.grownBy w' (some g))
     ·have hDr:Below wr.heap.size wr wr.drew:=(Below.refl _ _).drew;replace HA:=aa (HA.out.below hDr);replace HG:=aa (bN HG.out hDr);clear hDr;refine wp_region_held_drew (S:=fun _=>True) (by kernel_rfl) trivial (fun hHeld=>?_);generalize wr.drew=V2 at*;refine sqA [(0,61),(1,62),(2,63),(3,64),(4,65),(5,66),(6,67),(7,68),(8,69),(10,71),(11,72),(12,73)] ?_;(iterate 12 (refine sqN rfl (by kernel_rfl) (fun _ _ _ h=>absurd h.1 (by simp)) rfl ‹_› (by intro w h;go_simp <;>with_reducible rfl) ?_;simp only [nz]));refine sqZ ?_;refine wpAnyH_ready (rs:=[9,13]) (by kernel_rfl) (by simp) ?_;refine(AllReadyH.cons (o:=⟨some 70,_,_,_,_,_⟩) rfl (fun K hK=>?_) (AllReadyH.cons (o:=⟨some 74,_,_,_,_,_⟩) rfl (fun K hK=>?_) AllReadyH.nil))
      ·rw [if_pos (by rfl)];clear hHeld;refine wp_load_mid 58 (.tmp 69) rfl g (v1*9) rfl (acC z) _ (HR2.out _ HA.out) Tryz.underlying58 rfl aJ ?_;refine hK.out _ _ trivial (fun hHeld=>?_);clear hK K;(try simp only [nz]);refine rs 13 74 (by kernel_rfl) rfl (fun K hK=>?_);rw [if_pos (by rfl)];clear hHeld;refine wp_load_mid 58 (.tmp 73) rfl g (v0*9) rfl (acC x) _ (HR1.out _ HA.out) Tryz.underlying58 rfl aJ ?_;refine hK.out _ _ trivial (fun hHeld=>?_);clear hK K;(try simp only [nz]);refine tq 14 75 rfl (by kernel_rfl) (fun _ _ _ h=>absurd h.1 (by simp)) rfl ‹_› (by intro w h;go_simp <;>with_reducible rfl) ?_;simp only [nz];refine rn 15 (by kernel_rfl) rfl (fun K hK=>?_);rw [if_pos (by rfl)];clear hHeld;refine wp_store_mid 58 (.tmp 75) (.tmp 70) rfl g (v0*9) (acC z).toArray rfl rfl (AcR.there HA.out (i:=v0) (by omega)) aJ (eE rfl) ?_;rw [show(acC z).toArray.toList=acC z from rfl];have HP0:=aa (AcR.put HA.out (i:=v0) (by omega) z).1;have hq0:=(AcR.put HA.out (i:=v0) (by omega) z).2;generalize World.setCells _ g (v0*9) (acC z)=V20 at*;refine hK.out _ _ trivial (fun hHeld=>?_);clear hK K;(try simp only [Act.put]);refine tq 16 76 rfl (by kernel_rfl) (fun _ _ _ h=>absurd h.1 (by simp)) rfl ‹_› (by intro w h;go_simp <;>with_reducible rfl) ?_;simp only [nz];refine rn 17 (by kernel_rfl) rfl (fun K hK=>?_);rw [if_pos (by rfl)];clear hHeld;refine wp_store_mid 58 (.tmp 76) (.tmp 74) rfl g (v1*9) (acC x).toArray rfl rfl (AcR.there HP0.out (i:=v1) (by omega)) aJ (eE rfl) ?_;rw [show(acC x).toArray.toList=acC x from rfl];have HP1:=aa (AcR.put HP0.out (i:=v1) (by omega) x).1;have hq1:=(AcR.put HP0.out (i:=v1) (by omega) x).2;generalize World.setCells _ g (v1*9) (acC x)=V21 at*;refine hK.out _ _ trivial (fun hHeld=>?_);clear hK K;(try simp only [Act.put]);refine wpAnyH_done (by kernel_rfl) ?_ _;clear hHeld;exact⟨rfl,rfl,HP1.out,ar HG.out (ar hq0 hq1)⟩
      ·rw [if_pos (by rfl)];clear hHeld;refine wp_load_mid 58 (.tmp 73) rfl g (v0*9) rfl (acC x) _ (HR1.out _ HA.out) Tryz.underlying58 rfl aJ ?_;refine hK.out _ _ trivial (fun hHeld=>?_);clear hK K;(try simp only [nz]);refine rs 9 70 (by kernel_rfl) rfl (fun K hK=>?_);rw [if_pos (by rfl)];clear hHeld;refine wp_load_mid 58 (.tmp 69) rfl g (v1*9) rfl (acC z) _ (HR2.out _ HA.out) Tryz.underlying58 rfl aJ ?_;refine hK.out _ _ trivial (fun hHeld=>?_);clear hK K;(try simp only [nz]);refine tq 14 75 rfl (by kernel_rfl) (fun _ _ _ h=>absurd h.1 (by simp)) rfl ‹_› (by intro w h;go_simp <;>with_reducible rfl) ?_;simp only [nz];refine rn 15 (by kernel_rfl) rfl (fun K hK=>?_);rw [if_pos (by rfl)];clear hHeld;refine wp_store_mid 58 (.tmp 75) (.tmp 70) rfl g (v0*9) (acC z).toArray rfl rfl (AcR.there HA.out (i:=v0) (by omega)) aJ (eE rfl) ?_;rw [show(acC z).toArray.toList=acC z from rfl];have HP0:=aa (AcR.put HA.out (i:=v0) (by omega) z).1;have hq0:=(AcR.put HA.out (i:=v0) (by omega) z).2;generalize World.setCells _ g (v0*9) (acC z)=V20 at*;refine hK.out _ _ trivial (fun hHeld=>?_);clear hK K;(try simp only [Act.put]);refine tq 16 76 rfl (by kernel_rfl) (fun _ _ _ h=>absurd h.1 (by simp)) rfl ‹_› (by intro w h;go_simp <;>with_reducible rfl) ?_;simp only [nz];refine rn 17 (by kernel_rfl) rfl (fun K hK=>?_);rw [if_pos (by rfl)];clear hHeld;refine wp_store_mid 58 (.tmp 76) (.tmp 74) rfl g (v1*9) (acC x).toArray rfl rfl (AcR.there HP0.out (i:=v1) (by omega)) aJ (eE rfl) ?_;rw [show(acC x).toArray.toList=acC x from rfl];have HP1:=aa (AcR.put HP0.out (i:=v1) (by omega) x).1;have hq1:=(AcR.put HP0.out (i:=v1) (by omega) x).2;generalize World.setCells _ g (v1*9) (acC x)=V21 at*;refine hK.out _ _ trivial (fun hHeld=>?_);clear hK K;(try simp only [Act.put]);refine wpAnyH_done (by kernel_rfl) ?_ _;clear hHeld;exact⟨rfl,rfl,HP1.out,ar HG.out (ar hq0 hq1)⟩
     intro W3 hW3;obtain⟨hA3,hG3⟩:=hW3;rw [HSW.out]at hA3;have HA3:=aa hA3;have HG3:=aa hG3;clear hA3 hG3 HA HG HR1 HR2 HSW;go_wp2_with fail
     go_roundw
     case rel=>exact⟨t+1,v1,by omega,by omega,rfl,HA3,HG3⟩
     case measure=>simp [intOf];omega
    ·have htk2:t=k1:=(by omega);have q1:¬((v0:Int)<(il:Int)):=(by omega);have HE:Hid (AcR wr B g c N T):=by rw [←HTT.out, ←htk2];exact HA
     clear HA HTT htk2;go_wp2_with fail
     (try simp only [Exit.inBlock,Exit.then]);refine bodyPost_ret (results_none rfl _ _ _) rfl ?_
     exact⟨rfl,HE.out,HG.out⟩
theorem lD (P A R:List Ac) (y:Ac) (B g c N a m b:Nat) (w:World) (hA:AcR w B g c N (P++A++ [y]++R)) (hS:AscA A) (h2:2≤A.length) (ha:a=P.length) (hm:m=P.length+A.length) (hb:b=P.length+A.length+1) (hN:N≤1000):
  Calls Tryz.prog 154 #[.slice (some ⟨g,0,none⟩) N c,.int .i64 (a:Int),.int .i64 (m:Int),.int .i64 (b:Int),.func (.func 103) #[] #[]] w fun e w'=>e= .returned (.tuple #[])∧AcR w' B g c N (P++mrg aI A [y]++R)∧w.grownBy w' (some g):=by
 have hlen:P.length+A.length+1+R.length=N:=by have:=hA.1;simp only [List.length_append,List.length_cons,List.length_nil]at this;omega
 obtain⟨T,hT⟩:∃T,T=P++mrg aI A [y]++R:=⟨_,rfl⟩;rw [←hT];have HT:Hid (∀k,k≤A.length→(k=0∨y.p≤(A.getD (k-1) ac0).p)→(k=A.length∨(A.getD k ac0).p<y.p)→bh P A y R k=T):=aa (fun k h0 h1 h2=>by rw [hT,iX hS h0 h1 h2];rfl);have HA0:Hid (AcR w B g c N (bh P A y R A.length)):=by refine aa ?_;unfold bh;simpa using hA
 have HCM:=aa fz;obtain⟨n,hn⟩:∃n,n=A.length:=⟨_,rfl⟩;have HN:=aa hn;rw [←hn]at HA0;obtain⟨ha2,ha3⟩:=le2 ha;obtain⟨hm2,hm3⟩:=le2 hm;obtain⟨hb2,hb3⟩:=le2 hb;obtain⟨hl2,hl3⟩:=le2 hlen;obtain⟨hn2,hn3⟩:=le2 hn;obtain⟨ma,hma⟩:∃ma,ma=m-a:=⟨_,rfl⟩;obtain⟨hma2,hma3⟩:=le2 hma;have hw1:IntKind.i64.wrap ((m:Int)-(a:Int))=(ma:Int):=(bn _ (by omega) (by omega)).trans (by omega);have hw0:IntKind.i64.wrap ((b:Int)-(m:Int))=1:=(bn _ (by omega) (by omega)).trans (by omega);have hm1:((ma:Int)==1)=false:=by simp;omega
 have hm1b:¬ma=1:=by omega
 clear hA hT ha hm hb hlen hn hS hma h2;go_enter Tryz.func154,Tryz.ntmps154;go_wp2_with fail
 go_loopw [14,15] (fun i j wr=>∃(k1 k2 i0 j0:Nat),(i0=a+k1∧j0=a+k2)∧(k1≤k2∧k2≤n)∧i= .int .i64 (i0:Int)∧j= .int .i64 (j0:Int)∧Hid (k1=0∨y.p≤(A.getD (k1-1) ac0).p)∧Hid (k2=n∨(A.getD k2 ac0).p<y.p)∧Hid (AcR wr B g c N (bh P A y R n))∧Hid (w.grownBy wr (some g))) (fun i j _=>(intOf j).toNat-(intOf i).toNat)
 case atStart=>exact⟨0,n,a,m,⟨by omega,by omega⟩,⟨by omega,Nat.le_refl _⟩,rfl,rfl,aa (.inl rfl),aa (.inl rfl),HA0,aa (grown_refl' _ _)⟩
 case round=>
  clear HA0;obtain⟨k1,k2,i0,j0,⟨hi,hj⟩,⟨hk1,hk2⟩,rfl,rfl,HF1,HF2,HA,HG⟩:=hrel;obtain⟨hi2,hi3⟩:=le2 hi;obtain⟨hj2,hj3⟩:=le2 hj;clear hi hj;by_cases hlt:i0<j0
  ·obtain⟨h,hh⟩:∃h,h=(i0+j0)/2:=⟨_,rfl⟩;have e2:=sw hh;have hih:i0≤h:=(by omega);have hhj:h<j0:=(by omega);clear hh;obtain⟨kh,hkh⟩:∃kh,kh=h-a:=⟨_,rfl⟩;obtain⟨hkh2,hkh3⟩:=le2 hkh;obtain⟨h1,hh1⟩:∃h1,h1=h+1:=⟨_,rfl⟩;obtain⟨hh2,hh3⟩:=le2 hh1;have hw2:IntKind.i64.wrap ((h:Int)+1)=(h1:Int):=(bn _ (by omega) (by omega)).trans (by omega);clear hkh hh1;have t0:(0:Int)≤(h:Int):=(by omega);have t1:(h:Int)<(N:Int):=(by omega);have t2:(0:Int)≤(m:Int):=(by omega);have t3:(m:Int)<(N:Int):=(by omega);obtain⟨z,hz⟩:∃z,z=A.getD kh ac0:=⟨_,rfl⟩;have HR1:Hid (∀W,AcR W B g c N (bh P A y R n)→W.rangeAt g (m*9) (acC y)):=aa (fun W hW=>by have:=hW.range (i:=m) (by omega);rwa [show m=P.length+n by omega,fY (by omega), ←show m=P.length+n by omega]at this);have HR2:Hid (∀W,AcR W B g c N (bh P A y R n)→W.rangeAt g (h*9) (acC z)):=aa (fun W hW=>by have:=hW.range (i:=h) (by omega);rwa [HN.out,show h=P.length+kh by omega,pO (by omega), ←hz, ←show h=P.length+kh by omega]at this);have HLT:=aa (gk z.p y.p);have HZ:=aa hz;clear hz;go_wp2_with fail
   clear e2;have HD:Hid (AcR wr.drew B g c N _):=aa (HA.out.below ((Below.refl _ _).drew));refine wp_region_held_drew (S:=fun w'=>w'.rangeAt g (m*9) (acC y)∧w'.rangeAt g (h*9) (acC z)) (by kernel_rfl) ⟨HR1.out _ HD.out,HR2.out _ HD.out⟩ (fun hHeld=>?_);refine sqA [(0,92),(1,93),(2,94),(3,95)] ?_;(iterate 4 (refine sqN rfl (by kernel_rfl) (fun _ _ _ h=>h) rfl ‹_› (by intro w h;go_simp <;>with_reducible rfl) ?_;simp only [nz]));refine sqZ ?_;refine wpAnyH_take (i:=4) (oi:=⟨some 96,_,_,_,_,_⟩) (v:=.agg (acC y).toArray) rfl (by kernel_rfl) (by kernel_rfl) (by kernel_rfl) (fun _ _ _ h=>h) (yieldsIf_load_mid (by rfl) 58 (.tmp 95) rfl g (m*9) rfl (acC y) _ (fun w h=>h.1) Tryz.underlying58 rfl aJ) (by assumption) ?_;(try simp only [nz]);refine sqA [(5,97),(6,98),(7,99)] ?_;(iterate 3 (refine sqN rfl (by kernel_rfl) (fun _ _ _ h=>h) rfl ‹_› (by intro w h;go_simp <;>with_reducible rfl) ?_;simp only [nz]));refine sqZ ?_;refine wpAnyH_take (i:=8) (oi:=⟨some 100,_,_,_,_,_⟩) (v:=.agg (acC z).toArray) rfl (by kernel_rfl) (by kernel_rfl) (by kernel_rfl) (fun _ _ _ h=>h) (yieldsIf_load_mid (by rfl) 58 (.tmp 99) rfl g (h*9) rfl (acC z) _ (fun w h=>h.2) Tryz.underlying58 rfl aJ) (by assumption) ?_;(try simp only [nz]);refine rs 9 101 (by kernel_rfl) rfl (fun K hK=>?_);go_simp;clear hHeld;refine(ae HCM y z _).mono ?_;rintro e V ⟨rfl,hb⟩;replace HA:=aa (HD.out.below hb);replace HG:=aa (bN HG.out (((Below.refl _ _).drew).trans hb));clear HD hb;refine hK.out _ _ ⟨HR1.out _ HA.out,HR2.out _ HA.out⟩ (fun hHeld=>?_);clear hK K;(try simp only [nz]);refine sqA [(10,102),(11,103)] ?_;(iterate 2 (refine sqN rfl (by kernel_rfl) (fun _ _ _ h=>h) rfl ‹_› (by intro w h;go_simp <;>with_reducible rfl) ?_;simp only [nz]));refine sqZ ?_;refine wpAnyH_done (by kernel_rfl) ?_ _;clear hHeld;by_cases hle:z.p<y.p
   ·have hl2x:aL z.p y.p<0:=by rw [HLT.out];exact hle
    have hl3x:(!decide (aL z.p y.p<0))=false:=(by simp only [hl2x,decide_true,Bool.not_true]);rw [hl3x];have HF3:Hid (kh=n∨(A.getD kh ac0).p<y.p):=aa (.inr (by rw [←HZ.out];exact hle));clear HR1 HR2 HF2;go_wp2_with fail
    go_roundw
    case rel=>exact⟨k1,kh,i0,h,⟨by omega,by omega⟩,⟨by omega,by omega⟩,rfl,rfl,HF1,HF3,HA,HG⟩
    case measure=>simp [intOf];omega
   ·have hl2x:¬aL z.p y.p<0:=by rw [HLT.out];exact hle
    have hl3x:(!decide (aL z.p y.p<0))=true:=(by simp only [hl2x,decide_false,Bool.not_false]);rw [hl3x];have HF3:Hid (kh+1=0∨y.p≤(A.getD (kh+1-1) ac0).p):=aa (.inr (by rw [Nat.add_sub_cancel, ←HZ.out];omega));clear HR1 HR2 HF1;go_wp2_with fail
    go_roundw
    case rel=>exact⟨kh+1,k2,h1,j0,⟨by omega,by omega⟩,⟨by omega,hk2⟩,rfl,rfl,HF3,HF2,HA,HG⟩
    case measure=>simp [intOf];omega
  ·have hke:k1=k2:=(by omega);have HTT:=aa (HT.out k1 (by omega) HF1.out (by rw [hke, ←HN.out];exact HF2.out));clear hke HF1 HF2 HT
   rename World=>W1
   go_wp2_with fail
   go_loopw [17] (fun v wr=>∃(t v0:Nat),v0=a+t∧(k1≤t∧t≤n)∧v= .int .i64 (v0:Int)∧Hid (AcR wr B g c N (bh P A y R t))∧Hid (w.grownBy wr (some g))) (fun v _=>(intOf v).toNat)
   case atStart=>exact⟨n,m,by omega,⟨by omega,Nat.le_refl _⟩,rfl,HA,HG⟩
   case round=>
    clear HA HG;obtain⟨t,v0,hv,⟨htk,htn⟩,rfl,HA,HG⟩:=hrel;obtain⟨hv2,hv3⟩:=le2 hv;clear hv;by_cases htl:k1<t
    ·obtain⟨l,rfl⟩:∃l,t=l+1:=⟨t-1,by omega⟩;have hln:l<A.length:=(by omega);have q1:(i0:Int)<(v0:Int):=(by omega);obtain⟨v1,hv1⟩:∃v1,v1=v0-1:=⟨_,rfl⟩;obtain⟨hv4,hv5⟩:=le2 hv1;have hw4:IntKind.i64.wrap ((v0:Int)-1)=(v1:Int):=(bn _ (by omega) (by omega)).trans (by omega);clear hv1;have t0:(0:Int)≤(v0:Int):=(by omega);have t1:(v0:Int)<(N:Int):=(by omega);have t2:(0:Int)≤(v1:Int):=(by omega);have t3:(v1:Int)<(N:Int):=(by omega);obtain⟨z,hz⟩:∃z,z=A.getD l ac0:=⟨_,rfl⟩;have HR1:Hid (∀W,AcR W B g c N (bh P A y R (l+1))→W.rangeAt g (v0*9) (acC y)):=aa (fun W hW=>by have:=hW.range (i:=v0) (by omega);rwa [show v0=P.length+(l+1) by omega,fY (by omega), ←show v0=P.length+(l+1) by omega]at this);have HR2:Hid (∀W,AcR W B g c N (bh P A y R (l+1))→W.rangeAt g (v1*9) (acC z)):=aa (fun W hW=>by have:=hW.range (i:=v1) (by omega);rwa [show v1=P.length+l by omega,fP hln, ←hz, ←show v1=P.length+l by omega]at this);have HSW:Hid (((bh P A y R (l+1)).set v0 z).set v1 y=bh P A y R l):=aa (by rw [hz,show v0=P.length+l+1 by omega,show v1=P.length+l by omega];exact jR hln);clear hz;obtain⟨LL,hLL⟩:∃LL,LL=bh P A y R (l+1):=⟨_,rfl⟩;rw [←hLL]at HA HR1 HR2 HSW;clear hLL;go_wp2_with fail
     apply gi _ (fun w'=>AcR w' B g c N ((LL.set v0 z).set v1 y)∧w.grownBy w' (some g))
     ·have hDr:Below wr.heap.size wr wr.drew:=(Below.refl _ _).drew;replace HA:=aa (HA.out.below hDr);replace HG:=aa (bN HG.out hDr);clear hDr;refine wp_region_held_drew (S:=fun _=>True) (by kernel_rfl) trivial (fun hHeld=>?_);generalize wr.drew=V2 at*;refine sqA [(0,113),(1,114),(2,115),(3,116),(4,117),(5,118),(6,119),(7,120),(8,121),(10,123),(11,124),(12,125)] ?_;(iterate 12 (refine sqN rfl (by kernel_rfl) (fun _ _ _ h=>absurd h.1 (by simp)) rfl ‹_› (by intro w h;go_simp <;>with_reducible rfl) ?_;simp only [nz]));refine sqZ ?_;refine wpAnyH_ready (rs:=[9,13]) (by kernel_rfl) (by simp) ?_;refine(AllReadyH.cons (o:=⟨some 122,_,_,_,_,_⟩) rfl (fun K hK=>?_) (AllReadyH.cons (o:=⟨some 126,_,_,_,_,_⟩) rfl (fun K hK=>?_) AllReadyH.nil))
      ·rw [if_pos (by rfl)];clear hHeld;refine wp_load_mid 58 (.tmp 121) rfl g (v1*9) rfl (acC z) _ (HR2.out _ HA.out) Tryz.underlying58 rfl aJ ?_;refine hK.out _ _ trivial (fun hHeld=>?_);clear hK K;(try simp only [nz]);refine rs 13 126 (by kernel_rfl) rfl (fun K hK=>?_);rw [if_pos (by rfl)];clear hHeld;refine wp_load_mid 58 (.tmp 125) rfl g (v0*9) rfl (acC y) _ (HR1.out _ HA.out) Tryz.underlying58 rfl aJ ?_;refine hK.out _ _ trivial (fun hHeld=>?_);clear hK K;(try simp only [nz]);refine tq 14 127 rfl (by kernel_rfl) (fun _ _ _ h=>absurd h.1 (by simp)) rfl ‹_› (by intro w h;go_simp <;>with_reducible rfl) ?_;simp only [nz];refine rn 15 (by kernel_rfl) rfl (fun K hK=>?_);rw [if_pos (by rfl)];clear hHeld;refine wp_store_mid 58 (.tmp 127) (.tmp 122) rfl g (v0*9) (acC z).toArray rfl rfl (AcR.there HA.out (i:=v0) (by omega)) aJ (eE rfl) ?_;rw [show(acC z).toArray.toList=acC z from rfl];have HP0:=aa (AcR.put HA.out (i:=v0) (by omega) z).1;have hq0:=(AcR.put HA.out (i:=v0) (by omega) z).2;generalize World.setCells _ g (v0*9) (acC z)=V20 at*;refine hK.out _ _ trivial (fun hHeld=>?_);clear hK K;(try simp only [Act.put]);refine tq 16 128 rfl (by kernel_rfl) (fun _ _ _ h=>absurd h.1 (by simp)) rfl ‹_› (by intro w h;go_simp <;>with_reducible rfl) ?_;simp only [nz];refine rn 17 (by kernel_rfl) rfl (fun K hK=>?_);rw [if_pos (by rfl)];clear hHeld;refine wp_store_mid 58 (.tmp 128) (.tmp 126) rfl g (v1*9) (acC y).toArray rfl rfl (AcR.there HP0.out (i:=v1) (by omega)) aJ (eE rfl) ?_;rw [show(acC y).toArray.toList=acC y from rfl];have HP1:=aa (AcR.put HP0.out (i:=v1) (by omega) y).1;have hq1:=(AcR.put HP0.out (i:=v1) (by omega) y).2;generalize World.setCells _ g (v1*9) (acC y)=V21 at*;refine hK.out _ _ trivial (fun hHeld=>?_);clear hK K;(try simp only [Act.put]);refine wpAnyH_done (by kernel_rfl) ?_ _;clear hHeld;exact⟨rfl,rfl,HP1.out,ar HG.out (ar hq0 hq1)⟩
      ·rw [if_pos (by rfl)];clear hHeld;refine wp_load_mid 58 (.tmp 125) rfl g (v0*9) rfl (acC y) _ (HR1.out _ HA.out) Tryz.underlying58 rfl aJ ?_;refine hK.out _ _ trivial (fun hHeld=>?_);clear hK K;(try simp only [nz]);refine rs 9 122 (by kernel_rfl) rfl (fun K hK=>?_);rw [if_pos (by rfl)];clear hHeld;refine wp_load_mid 58 (.tmp 121) rfl g (v1*9) rfl (acC z) _ (HR2.out _ HA.out) Tryz.underlying58 rfl aJ ?_;refine hK.out _ _ trivial (fun hHeld=>?_);clear hK K;(try simp only [nz]);refine tq 14 127 rfl (by kernel_rfl) (fun _ _ _ h=>absurd h.1 (by simp)) rfl ‹_› (by intro w h;go_simp <;>with_reducible rfl) ?_;simp only [nz];refine rn 15 (by kernel_rfl) rfl (fun K hK=>?_);rw [if_pos (by rfl)];clear hHeld;refine wp_store_mid 58 (.tmp 127) (.tmp 122) rfl g (v0*9) (acC z).toArray rfl rfl (AcR.there HA.out (i:=v0) (by omega)) aJ (eE rfl) ?_;rw [show(acC z).toArray.toList=acC z from rfl];have HP0:=aa (AcR.put HA.out (i:=v0) (by omega) z).1;have hq0:=(AcR.put HA.out (i:=v0) (by omega) z).2;generalize World.setCells _ g (v0*9) (acC z)=V20 at*;refine hK.out _ _ trivial (fun hHeld=>?_);clear hK K;(try simp only [Act.put]);refine tq 16 128 rfl (by kernel_rfl) (fun _ _ _ h=>absurd h.1 (by simp)) rfl ‹_› (by intro w h;go_simp <;>with_reducible rfl) ?_;simp only [nz];refine rn 17 (by kernel_rfl) rfl (fun K hK=>?_);rw [if_pos (by rfl)];clear hHeld;refine wp_store_mid 58 (.tmp 128) (.tmp 126) rfl g (v1*9) (acC y).toArray rfl rfl (AcR.there HP0.out (i:=v1) (by omega)) aJ (eE rfl) ?_;rw [show(acC y).toArray.toList=acC y from rfl];have HP1:=aa (AcR.put HP0.out (i:=v1) (by omega) y).1;have hq1:=(AcR.put HP0.out (i:=v1) (by omega) y).2;generalize World.setCells _ g (v1*9) (acC y)=V21 at*;refine hK.out _ _ trivial (fun hHeld=>?_);clear hK K;(try simp only [Act.put]);refine wpAnyH_done (by kernel_rfl) ?_ _;clear hHeld;exact⟨rfl,rfl,HP1.out,ar HG.out (ar hq0 hq1)⟩
     intro W3 hW3;obtain⟨hA3,hG3⟩:=hW3;rw [HSW.out]at hA3;have HA3:=aa hA3;have HG3:=aa hG3;clear hA3 hG3 HA HG HR1 HR2 HSW;go_wp2_with fail
     go_roundw
     case rel=>exact⟨l,v1,by omega,⟨by omega,by omega⟩,rfl,HA3,HG3⟩
     case measure=>simp [intOf];omega
    ·have htk2:t=k1:=(by omega);have q1:¬((i0:Int)<(v0:Int)):=(by omega);have HE:Hid (AcR wr B g c N T):=by rw [←HTT.out, ←htk2];exact HA
     clear HA HTT htk2;go_wp2_with fail
     (try simp only [Exit.inBlock,Exit.then]);refine bodyPost_ret (results_none rfl _ _ _) rfl ?_
     exact⟨rfl,HE.out,HG.out⟩
theorem rT {P A Bq R:List Ac} {i:Nat} (hi:i<A.length):(P++A++Bq++R).getD (P.length+i) ac0=A.getD i ac0:=by
 rw [List.append_assoc,List.append_assoc,aU,cK hi]
theorem rV {P A Bq R:List Ac} {i:Nat} (hi:i<Bq.length):(P++A++Bq++R).getD (P.length+A.length+i) ac0=Bq.getD i ac0:=by
 rw [List.append_assoc,show P.length+A.length=(P++A).length by simp,aU,cK hi]
theorem rm (n:Nat) (h:n≤1000000):IntKind.u64.wrap (n:Int)=(n:Int):=by
 simp [IntKind.wrap,IntKind.bits,IntKind.signed];omega
def rB (n:Nat):Prop:=∀(P A Bq R:List Ac) (B g c N a m b:Nat) (w:World),A.length+Bq.length≤n→0<A.length→0<Bq.length→AcR w B g c N (P++A++Bq++R)→AscA A→AscA Bq→a=P.length→m=P.length+A.length→b=P.length+A.length+Bq.length→N≤1000→
 Calls Tryz.prog 154 #[.slice (some ⟨g,0,none⟩) N c,.int .i64 (a:Int),.int .i64 (m:Int),.int .i64 (b:Int),.func (.func 103) #[] #[]] w fun e w'=>e= .returned (.tuple #[])∧AcR w' B g c N (P++mrg aI A Bq++R)∧w.grownBy w' (some g)
theorem rC {P A1 A2 B1 B2 R:List Ac} (h:A2= []∨B1= []):P++(A1++A2)++(B1++B2)++R=P++A1++B1++A2++B2++R:=by
 rcases h with rfl | rfl <;>simp
theorem nN {A1 B1:List Ac} (h:A1= []∨B1= []):mrg aI A1 B1=A1++B1:=by
 rcases h with rfl | rfl
 ·rw [er];rfl
 ·rw [dx,List.append_nil]
theorem mC (n:Nat) (IH:rB n) (P A Bq R:List Ac) (B g c N a m b:Nat) (w:World) (hn:A.length+Bq.length≤n+1) (h2:2≤A.length) (h3:2≤Bq.length) (hA:AcR w B g c N (P++A++Bq++R)) (hSA:AscA A) (hSB:AscA Bq) (ha:a=P.length) (hm:m=P.length+A.length) (hb:b=P.length+A.length+Bq.length) (hN:N≤1000):
  Calls Tryz.prog 154 #[.slice (some ⟨g,0,none⟩) N c,.int .i64 (a:Int),.int .i64 (m:Int),.int .i64 (b:Int),.func (.func 103) #[] #[]] w fun e w'=>e= .returned (.tuple #[])∧AcR w' B g c N (P++mrg aI A Bq++R)∧w.grownBy w' (some g):=by
 have hlen:P.length+A.length+Bq.length+R.length=N:=by have:=hA.1;simp only [List.length_append]at this;omega
 obtain⟨T,hT⟩:∃T,T=P++mrg aI A Bq++R:=⟨_,rfl⟩;rw [←hT];have HT:=aa hT;have HA0:=aa hA;have HCM:=aa fz;have HI:=aa IH;have HSA:=aa hSA;have HSB:=aa hSB;obtain⟨la,hla⟩:∃la,la=A.length:=⟨_,rfl⟩;obtain⟨lb,hlb⟩:∃lb,lb=Bq.length:=⟨_,rfl⟩;have HLA:=aa hla;have HLB:=aa hlb;obtain⟨ma,hma⟩:∃ma,ma=m-a:=⟨_,rfl⟩;obtain⟨mb,hmb⟩:∃mb,mb=b-m:=⟨_,rfl⟩;obtain⟨mid,hmid⟩:∃mid,mid=(a+b)/2:=⟨_,rfl⟩;obtain⟨nn,hnn⟩:∃nn,nn=mid+m:=⟨_,rfl⟩;obtain⟨p0,hp0⟩:∃p0,p0=nn-1:=⟨_,rfl⟩;obtain⟨ab,hab⟩:∃ab,ab=a+b:=⟨_,rfl⟩;have e3:(ab:Int)/2=(mid:Int):=by omega
 have q2:=rm ab (by omega);have q3:=bn (mid:Int) (by omega) (by omega);have q1:IntKind.i64.wrap ((a:Int)+(b:Int))=(ab:Int):=by go_light;exact(bn _ (by omega) (by omega)).trans (by omega)
 have hw1:IntKind.i64.wrap ((m:Int)-(a:Int))=(ma:Int):=by go_light;exact(bn _ (by omega) (by omega)).trans (by omega)
 have hw2:IntKind.i64.wrap ((b:Int)-(m:Int))=(mb:Int):=by go_light;exact(bn _ (by omega) (by omega)).trans (by omega)
 have hw3:IntKind.i64.wrap ((mid:Int)+(m:Int))=(nn:Int):=by go_light;exact(bn _ (by omega) (by omega)).trans (by omega)
 have hw4:IntKind.i64.wrap ((nn:Int)-1)=(p0:Int):=by go_light;exact(bn _ (by omega) (by omega)).trans (by omega)
 have hma1:¬ma=1:=by omega
 have hmb1:¬mb=1:=by omega
 have hmd1:a+b≤2*mid+1∧2*mid≤a+b:=by omega
 have hp1:p0+1=nn:=by omega
 have NF:=aa (And.intro hn (And.intro h2 (And.intro h3 (And.intro hN (And.intro ha (And.intro hm (And.intro hb (And.intro hlen (And.intro hla (And.intro hlb (And.intro hnn (And.intro hp1 (hmd1)))))))))))));clear hA hT hSA hSB IH hma hmb hmid hp0 hab;obtain⟨s0,r0,hsr,HF1,HF2,hcase⟩:∃s0 r0:Nat,(a≤s0∧s0≤r0∧r0≤m∧r0≤mid∧mid≤s0+lb)∧Hid (s0=a∨mid-s0=lb∨(Bq.getD (mid-s0) ac0).p≤(A.getD (s0-a-1) ac0).p)∧Hid (r0=m∨mid=r0∨(A.getD (r0-a) ac0).p<(Bq.getD (mid-r0-1) ac0).p)∧(mid<m∧IntKind.i64.wrap ((nn:Int)-(b:Int))=(s0:Int)∧mid=r0∨m≤mid∧a=s0∧m=r0):=by
  rcases Nat.lt_or_ge mid m with hmm | hmm
  ·exact⟨nn-b,mid,by omega,aa (.inr (.inl (by omega))),aa (.inr (.inl rfl)),.inl ⟨hmm,(bn _ (by omega) (by omega)).trans (by omega),rfl⟩⟩
  ·exact⟨a,m,by omega,aa (.inl rfl),aa (.inl rfl),.inr ⟨hmm,rfl,rfl⟩⟩
 have HSR:=aa hsr;have HCASE:=aa hcase;clear hsr hcase hn h2 h3 hN ha hm hb hlen hla hlb hnn hp1 hmd1;go_enter Tryz.func154,Tryz.ntmps154;go_upto_if 140 with fail;clear e3 q1 q2 q3;go_cut [20,21] (fun s r wx=>s= .int .i64 (s0:Int)∧r= .int .i64 (r0:Int)∧w=wx)
 case first=>
  rcases HCASE.out with⟨hmm,hw5,hrm⟩ |⟨hmm,hsa,hrm⟩
  ·have HRM:=aa hrm;clear hrm;have hmm2:(mid:Int)<(m:Int):=by go_light;omega
   go_wp2_with fail
   go_meet;exact⟨rfl,by rw [HRM.out],rfl⟩
  ·have HSA0:=aa hsa;have HRM:=aa hrm;clear hsa hrm;have hmm1:¬(mid<m):=by go_light;omega
   have hmm2:¬((mid:Int)<(m:Int)):=by go_light;omega
   go_wp2_with fail
   go_meet;exact⟨by rw [HSA0.out],by rw [HRM.out],rfl⟩
 case rest=>
  clear HCASE;obtain⟨rfl,rfl,rfl⟩:=hcut;go_wp2_with fail
  go_loopw [20,21] (fun i j wr=>∃(s r:Nat),Hid (a≤s∧s≤r∧r≤m∧r≤mid∧mid≤s+lb)∧i= .int .i64 (s:Int)∧j= .int .i64 (r:Int)∧Hid (s=a∨mid-s=lb∨(Bq.getD (mid-s) ac0).p≤(A.getD (s-a-1) ac0).p)∧Hid (r=m∨mid=r∨(A.getD (r-a) ac0).p<(Bq.getD (mid-r-1) ac0).p)∧Hid (AcR wr B g c N (P++A++Bq++R))∧Hid (w.grownBy wr (some g))) (fun i j _=>(intOf j).toNat-(intOf i).toNat)
  case atStart=>exact⟨_,_,HSR,rfl,rfl,HF1,HF2,HA0,aa (grown_refl' _ _)⟩
  case round=>
   clear HA0 HF1 HF2 HSR;obtain⟨s,r,HS,rfl,rfl,HF1,HF2,HA,HG⟩:=hrel;by_cases hlt:s<r
   ·as_aux_lemma=>
     have n1:=NF.out;have n2:=HS.out;obtain⟨ci,hci⟩:∃ci,ci=(s+r)/2:=⟨_,rfl⟩;obtain⟨sr,hsr⟩:∃sr,sr=s+r:=⟨_,rfl⟩;have e2:(sr:Int)/2=(ci:Int):=by go_light;omega
     have q5:=rm sr (by go_light;omega);have q6:=bn (ci:Int) (by go_light;omega) (by go_light;omega);have q4:IntKind.i64.wrap ((s:Int)+(r:Int))=(sr:Int):=by go_light;exact(bn _ (by omega) (by omega)).trans (by omega)
     have hsc:s≤ci:=by go_light;omega
     have hcr:ci<r:=by go_light;omega
     obtain⟨pc,hpc⟩:∃pc,pc=p0-ci:=⟨_,rfl⟩;obtain⟨kc,hkc⟩:∃kc,kc=ci-a:=⟨_,rfl⟩;obtain⟨kb,hkb⟩:∃kb,kb=mid-ci-1:=⟨_,rfl⟩;obtain⟨c1,hc1⟩:∃c1,c1=ci+1:=⟨_,rfl⟩;have hw6:IntKind.i64.wrap ((p0:Int)-(ci:Int))=(pc:Int):=by go_light;exact(bn _ (by omega) (by omega)).trans (by omega)
     have hw7:IntKind.i64.wrap ((ci:Int)+1)=(c1:Int):=by go_light;exact(bn _ (by omega) (by omega)).trans (by omega)
     have xp:pc+ci=p0:=by clear hkc hkb hc1;omega
     have xk:kc+a=ci:=by clear hpc hkb hc1;omega
     have xb:kb+ci+1=mid:=by clear hpc hkc hc1;omega
     have NX:=aa (And.intro hsc (And.intro hcr (And.intro xp (And.intro xk (And.intro xb (hc1))))));have HKC:=aa hkc;have HKB:=aa hkb;have HC1:=aa hc1;have HZ0:=aa (And.intro hpc (And.intro hkc hkb));clear hpc hkc hkb;have t0:(0:Int)≤(pc:Int):=by go_light;omega
     have t1:(pc:Int)<(N:Int):=by go_light;omega
     have t2:(0:Int)≤(ci:Int):=by go_light;omega
     have t3:(ci:Int)<(N:Int):=by go_light;omega
     clear hsc hcr xp xk xb hc1 hci n1 n2 hsr HZ0;obtain⟨x,hx⟩:∃x,x=A.getD kc ac0:=⟨_,rfl⟩;obtain⟨y,hy⟩:∃y,y=Bq.getD kb ac0:=⟨_,rfl⟩;have HR1:Hid (∀W,AcR W B g c N (P++A++Bq++R)→W.rangeAt g (pc*9) (acC y)):=aa (fun W hW=>by go_light;have n1:=NF.out;have n2:=HS.out;have n3:=NX.out;have:=hW.range (i:=pc) (by omega);rwa [show pc=P.length+A.length+kb by omega,rV (by omega), ←hy, ←show pc=P.length+A.length+kb by omega]at this);have HR2:Hid (∀W,AcR W B g c N (P++A++Bq++R)→W.rangeAt g (ci*9) (acC x)):=aa (fun W hW=>by go_light;have n1:=NF.out;have n2:=HS.out;have n3:=NX.out;have:=hW.range (i:=ci) (by omega);rwa [show ci=P.length+kc by omega,rT (by omega), ←hx, ←show ci=P.length+kc by omega]at this);have HLT:=aa (gk x.p y.p);have HX:=aa hx;have HY:=aa hy;clear hx hy;obtain⟨LL,hLL⟩:∃LL,LL=P++A++Bq++R:=⟨_,rfl⟩;have HLL:=aa hLL;rw [←hLL]at HA HR1 HR2;clear hLL;go_wp2_with fail
     clear e2 q4 q5 q6;have HD:Hid (AcR wr.drew B g c N _):=aa (HA.out.below ((Below.refl _ _).drew));refine wp_region_held_drew (S:=fun w'=>w'.rangeAt g (pc*9) (acC y)∧w'.rangeAt g (ci*9) (acC x)) (by kernel_rfl) ⟨HR1.out _ HD.out,HR2.out _ HD.out⟩ (fun hHeld=>?_);refine sqA [(0,158),(1,159),(2,160),(3,161),(4,162),(5,163)] ?_;(iterate 6 (refine sqN rfl (by kernel_rfl) (fun _ _ _ h=>h) rfl ‹_› (by intro w h;go_simp <;>with_reducible rfl) ?_;simp only [nz]));refine sqZ ?_;refine wpAnyH_take (i:=6) (oi:=⟨some 164,_,_,_,_,_⟩) (v:=.agg (acC y).toArray) rfl (by kernel_rfl) (by kernel_rfl) (by kernel_rfl) (fun _ _ _ h=>h) (yieldsIf_load_mid (by rfl) 58 (.tmp 163) rfl g (pc*9) rfl (acC y) _ (fun w h=>h.1) Tryz.underlying58 rfl aJ) (by assumption) ?_;(try simp only [nz]);refine sqA [(7,165),(8,166),(9,167)] ?_;(iterate 3 (refine sqN rfl (by kernel_rfl) (fun _ _ _ h=>h) rfl ‹_› (by intro w h;go_simp <;>with_reducible rfl) ?_;simp only [nz]));refine sqZ ?_;refine wpAnyH_take (i:=10) (oi:=⟨some 168,_,_,_,_,_⟩) (v:=.agg (acC x).toArray) rfl (by kernel_rfl) (by kernel_rfl) (by kernel_rfl) (fun _ _ _ h=>h) (yieldsIf_load_mid (by rfl) 58 (.tmp 167) rfl g (ci*9) rfl (acC x) _ (fun w h=>h.2) Tryz.underlying58 rfl aJ) (by assumption) ?_;(try simp only [nz]);refine rs 11 169 (by kernel_rfl) rfl (fun K hK=>?_);go_simp;clear hHeld;refine(ae HCM y x _).mono ?_;rintro e V ⟨rfl,hb⟩;replace HA:=aa (HD.out.below hb);replace HG:=aa (bN HG.out (((Below.refl _ _).drew).trans hb));clear HD hb;refine hK.out _ _ ⟨HR1.out _ HA.out,HR2.out _ HA.out⟩ (fun hHeld=>?_);clear hK K;(try simp only [nz]);refine sqA [(12,170),(13,171)] ?_;(iterate 2 (refine sqN rfl (by kernel_rfl) (fun _ _ _ h=>h) rfl ‹_› (by intro w h;go_simp <;>with_reducible rfl) ?_;simp only [nz]));refine sqZ ?_;refine wpAnyH_done (by kernel_rfl) ?_ _;clear hHeld;rw [HLL.out]at HA;by_cases hle:x.p<y.p
     ·have hl2x:aL x.p y.p<0:=by rw [HLT.out];exact hle
      have hl3x:(!decide (aL x.p y.p<0))=false:=(by simp only [hl2x,decide_true,Bool.not_true]);rw [hl3x];have HF3:Hid (ci=m∨mid=ci∨(A.getD (ci-a) ac0).p<(Bq.getD (mid-ci-1) ac0).p):=aa (.inr (.inr (by rw [←HKC.out, ←HKB.out, ←HX.out, ←HY.out];exact hle)));clear HR1 HR2 HF2;go_wp2_with fail
      go_roundw
      case rel=>exact⟨s,ci,aa (by go_light;have n1:=NF.out;have n2:=HS.out;have n3:=NX.out;omega),rfl,rfl,HF1,HF3,HA,HG⟩
      case measure=>
       go_light;have n3:=NX.out;simp [intOf];omega
     ·have hl2x:¬aL x.p y.p<0:=by rw [HLT.out];exact hle
      have hl3x:(!decide (aL x.p y.p<0))=true:=(by simp only [hl2x,decide_false,Bool.not_false]);rw [hl3x];have HF3:Hid (c1=a∨mid-c1=lb∨(Bq.getD (mid-c1) ac0).p≤(A.getD (c1-a-1) ac0).p):=aa (.inr (.inr (by go_light;have n1:=NF.out;have n2:=HS.out;have n3:=NX.out;rw [show mid-c1=kb by omega,show c1-a-1=kc by omega, ←HX.out, ←HY.out];omega)));clear HR1 HR2 HF1;go_wp2_with fail
      go_roundw
      case rel=>exact⟨c1,r,aa (by go_light;have n1:=NF.out;have n2:=HS.out;have n3:=NX.out;omega),rfl,rfl,HF3,HF2,HA,HG⟩
      case measure=>
       go_light;have n3:=NX.out;simp [intOf];omega
   ·as_aux_lemma=>
     have n1:=NF.out;have n2:=HS.out;obtain⟨ka,hka⟩:∃ka,ka=s-a:=⟨_,rfl⟩;obtain⟨kb,hkb⟩:∃kb,kb=mid-s:=⟨_,rfl⟩;have hsr2:s=r:=by go_light;omega
     have HMP:Hid (mrg aI A Bq=mrg aI (A.take ka) (Bq.take kb)++mrg aI (A.drop ka) (Bq.drop kb)):=aa (by go_light;exact qb HSA.out HSB.out (by omega) (by omega) (by rcases HF1.out with h | h | h;exact .inl (by omega);exact .inr (.inl (by rw [hkb,h,HLB.out]));exact .inr (.inr (by rw [hka,hkb];exact h))) (by rcases HF2.out with h | h | h;exact .inl (by omega);exact .inr (.inl (by omega));exact .inr (.inr (by rw [hka,hkb,hsr2];exact h))));obtain⟨A1,hA1⟩:∃A1,A1=A.take ka:=⟨_,rfl⟩;obtain⟨A2,hA2⟩:∃A2,A2=A.drop ka:=⟨_,rfl⟩;obtain⟨B1,hB1⟩:∃B1,B1=Bq.take kb:=⟨_,rfl⟩;obtain⟨B2,hB2⟩:∃B2,B2=Bq.drop kb:=⟨_,rfl⟩;rw [←hA1, ←hA2, ←hB1, ←hB2]at HMP;have hlA1:A1.length=ka:=by go_light;rw [hA1,List.length_take];omega
     have hlA2:A2.length=la-ka:=(by rw [hA2,List.length_drop,HLA.out]);have hlB1:B1.length=kb:=by go_light;rw [hB1,List.length_take];omega
     have hlB2:B2.length=lb-kb:=(by rw [hB2,List.length_drop,HLB.out]);have HSA1:Hid (AscA A1):=by rw [hA1];exact aa (HSA.out.take _)
     have HSA2:Hid (AscA A2):=by rw [hA2];exact aa (HSA.out.drop _)
     have HSB1:Hid (AscA B1):=by rw [hB1];exact aa (HSB.out.take _)
     have HSB2:Hid (AscA B2):=by rw [hB2];exact aa (HSB.out.drop _)
     have HA3:Hid (AcR wr B g c N (P++(A1++A2)++(B1++B2)++R)):=by rw [hA1,hA2,hB1,hB2,List.take_append_drop,List.take_append_drop];exact HA
     have HT2:Hid (P++(mrg aI A1 B1++mrg aI A2 B2)++R=T):=by rw [HT.out,HMP.out];exact aa rfl
     obtain⟨en,hen⟩:∃en,en=nn-s:=⟨_,rfl⟩;have hw8:IntKind.i64.wrap ((nn:Int)-(s:Int))=(en:Int):=by go_light;exact(bn _ (by omega) (by omega)).trans (by omega)
     have xe:en+s=nn:=by clear hlA1 hlA2 hlB1 hlB2;omega
     have xa:ka+a=s:=by clear hen hlA1 hlA2 hlB1 hlB2;omega
     have xm:kb+s=mid:=by clear hen hlA1 hlA2 hlB1 hlB2;omega
     have yA:A2.length+ka=la:=by clear hen hkb xm;omega
     have yB:B2.length+kb=lb:=by clear hen hka xa;omega
     have NZ:=aa (And.intro xe (And.intro xa (And.intro xm (And.intro hlA1 (And.intro yA (And.intro hlB1 (yB)))))));have HLA1:=aa hlA1;have HLB1:=aa hlB1;have hq1:¬(s<r):=hlt;clear hA1 hA2 hB1 hB2 HA HF1 HF2 HMP HT hsr2 hen hka hkb hlA1 hlA2 hlB1 hlB2 xe xa xm yA yB hlt n1 n2 HSA HSB HLA HLB HCM;go_upto_region 39 with fail
     obtain⟨tb,htb⟩:∃tb:Bool,tb=decide (s<m∧m<en):=⟨_,rfl⟩;have HTD:=aa htb;clear htb;go_cut [185] (fun tv wx=>tv= .bool tb∧wr=wx)
     case first=>
      as_aux_lemma=>
      rcases(show(0<A2.length∧0<B1.length)∨(A2.length=0)∨(0<A2.length∧B1.length=0) by clear HA3 HG HT2;go_light;omega)with⟨u1,u2⟩ | u1 |⟨u1,u2⟩
      ·have HTB:Hid (tb=true):=aa (by go_light;have n1:=NF.out;have n2:=HS.out;have n3:=NZ.out;rw [HTD.out];simp;omega);have g1:(s<m):=by go_light;have n1:=NF.out;have n2:=HS.out;have n3:=NZ.out;omega
       have f1:((s:Int)<(m:Int)):=by go_light;have n1:=NF.out;have n2:=HS.out;have n3:=NZ.out;omega
       have g2:(m<en):=by go_light;have n1:=NF.out;have n2:=HS.out;have n3:=NZ.out;omega
       have f2:((m:Int)<(en:Int)):=by go_light;have n1:=NF.out;have n2:=HS.out;have n3:=NZ.out;omega
       clear u1 u2;go_wp2_with fail
       go_meet;exact⟨by rw [HTB.out] <;>first | rfl | simp [f1,f2] | simp [f1],rfl⟩
      ·have HTB:Hid (tb=false):=aa (by go_light;have n1:=NF.out;have n2:=HS.out;have n3:=NZ.out;rw [HTD.out];simp;omega);have g1:¬(s<m):=by go_light;have n1:=NF.out;have n2:=HS.out;have n3:=NZ.out;omega
       have f1:¬((s:Int)<(m:Int)):=by go_light;have n1:=NF.out;have n2:=HS.out;have n3:=NZ.out;omega
       clear u1;go_wp2_with fail
       go_meet;exact⟨by rw [HTB.out] <;>first | rfl | simp [f1],rfl⟩
      ·have HTB:Hid (tb=false):=aa (by go_light;have n1:=NF.out;have n2:=HS.out;have n3:=NZ.out;rw [HTD.out];simp;omega);have g1:(s<m):=by go_light;have n1:=NF.out;have n2:=HS.out;have n3:=NZ.out;omega
       have f1:((s:Int)<(m:Int)):=by go_light;have n1:=NF.out;have n2:=HS.out;have n3:=NZ.out;omega
       have g2:¬(m<en):=by go_light;have n1:=NF.out;have n2:=HS.out;have n3:=NZ.out;omega
       have f2:¬((m:Int)<(en:Int)):=by go_light;have n1:=NF.out;have n2:=HS.out;have n3:=NZ.out;omega
       clear u1 u2;go_wp2_with fail
       go_meet;exact⟨by rw [HTB.out] <;>first | rfl | simp [f1,f2] | simp [f1],rfl⟩
     case rest=>
      obtain⟨rfl,rfl⟩:=hcut;go_upto_if 185 with fail;go_cut [] (fun wx=>Hid (AcR wx B g c N (P++A1++B1++A2++B2++R))∧Hid (w.grownBy wx (some g)))
      case first=>
       as_aux_lemma=>
       rcases(show(0<A2.length∧0<B1.length)∨(A2.length=0)∨(0<A2.length∧B1.length=0) by clear HA3 HG HT2;go_light;omega)with⟨u1,u2⟩ | u1 |⟨u1,u2⟩
       ·have htb:tb=true:=by go_light;have n1:=NF.out;have n2:=HS.out;have n3:=NZ.out;rw [HTD.out];simp;omega
        clear HTD;subst htb;have HC:=aa (mR (P++A1) A2 B1 (B2++R) B g c N s m en wr (by have:=HA3.out;simpa using this) (by go_light;have n1:=NF.out;have n2:=HS.out;have n3:=NZ.out;omega) (by go_light;have n1:=NF.out;have n2:=HS.out;have n3:=NZ.out;omega) (by rw [List.length_append,HLA1.out];go_light;have n1:=NF.out;have n2:=HS.out;have n3:=NZ.out;omega) (by rw [List.length_append,HLA1.out];go_light;have n1:=NF.out;have n2:=HS.out;have n3:=NZ.out;omega) (by rw [List.length_append,HLA1.out];go_light;have n1:=NF.out;have n2:=HS.out;have n3:=NZ.out;omega) (by have:=NF.out;omega));clear u1 u2;go_wp2_with fail
        refine(ae HC).mono ?_;rintro e WQ ⟨rfl,hA4,hG4⟩;have HA4:Hid (AcR WQ B g c N (P++A1++B1++A2++B2++R)):=aa (by simpa using hA4);have HG4:=aa (ar HG.out hG4);clear hA4 hG4 HC;go_wp2_with fail
        go_meet;exact⟨HA4,HG4⟩
       ·have nl:A2= []:=List.eq_nil_of_length_eq_zero (by go_light;have n1:=NF.out;have n2:=HS.out;have n3:=NZ.out;omega);have htb:tb=false:=by go_light;have n1:=NF.out;have n2:=HS.out;have n3:=NZ.out;rw [HTD.out];simp;omega
        clear HTD;subst htb;have HA4:=aa (show AcR wr B g c N (P++A1++B1++A2++B2++R)from by rw [←rC (.inl nl)];exact HA3.out);clear nl u1;go_wp2_with fail
        go_meet;exact⟨HA4,HG⟩
       ·have nl:B1= []:=List.eq_nil_of_length_eq_zero (by go_light;have n1:=NF.out;have n2:=HS.out;have n3:=NZ.out;omega);have htb:tb=false:=by go_light;have n1:=NF.out;have n2:=HS.out;have n3:=NZ.out;rw [HTD.out];simp;omega
        clear HTD;subst htb;have HA4:=aa (show AcR wr B g c N (P++A1++B1++A2++B2++R)from by rw [←rC (.inr nl)];exact HA3.out);clear nl u1 u2;go_wp2_with fail
        go_meet;exact⟨HA4,HG⟩
      case rest=>
       clear HA3 HG HTD;obtain⟨HA3,HG⟩:=hcut;generalize wc=W3 at*;go_upto_region 41 with fail
       obtain⟨tb,htb⟩:∃tb:Bool,tb=decide (a<s∧s<mid):=⟨_,rfl⟩;have HTD:=aa htb;clear htb;go_cut [199] (fun tv wx=>tv= .bool tb∧W3=wx)
       case first=>
        as_aux_lemma=>
        rcases(show(0<A1.length∧0<B1.length)∨(A1.length=0)∨(0<A1.length∧B1.length=0) by clear HA3 HG HT2;go_light;omega)with⟨u1,u2⟩ | u1 |⟨u1,u2⟩
        ·have HTB:Hid (tb=true):=aa (by go_light;have n1:=NF.out;have n2:=HS.out;have n3:=NZ.out;rw [HTD.out];simp;omega);have g1:(a<s):=by go_light;have n1:=NF.out;have n2:=HS.out;have n3:=NZ.out;omega
         have f1:((a:Int)<(s:Int)):=by go_light;have n1:=NF.out;have n2:=HS.out;have n3:=NZ.out;omega
         have g2:(s<mid):=by go_light;have n1:=NF.out;have n2:=HS.out;have n3:=NZ.out;omega
         have f2:((s:Int)<(mid:Int)):=by go_light;have n1:=NF.out;have n2:=HS.out;have n3:=NZ.out;omega
         clear u1 u2;go_wp2_with fail
         go_meet;exact⟨by rw [HTB.out] <;>first | rfl | simp [f1,f2] | simp [f1],rfl⟩
        ·have HTB:Hid (tb=false):=aa (by go_light;have n1:=NF.out;have n2:=HS.out;have n3:=NZ.out;rw [HTD.out];simp;omega);have g1:¬(a<s):=by go_light;have n1:=NF.out;have n2:=HS.out;have n3:=NZ.out;omega
         have f1:¬((a:Int)<(s:Int)):=by go_light;have n1:=NF.out;have n2:=HS.out;have n3:=NZ.out;omega
         clear u1;go_wp2_with fail
         go_meet;exact⟨by rw [HTB.out] <;>first | rfl | simp [f1],rfl⟩
        ·have HTB:Hid (tb=false):=aa (by go_light;have n1:=NF.out;have n2:=HS.out;have n3:=NZ.out;rw [HTD.out];simp;omega);have g1:(a<s):=by go_light;have n1:=NF.out;have n2:=HS.out;have n3:=NZ.out;omega
         have f1:((a:Int)<(s:Int)):=by go_light;have n1:=NF.out;have n2:=HS.out;have n3:=NZ.out;omega
         have g2:¬(s<mid):=by go_light;have n1:=NF.out;have n2:=HS.out;have n3:=NZ.out;omega
         have f2:¬((s:Int)<(mid:Int)):=by go_light;have n1:=NF.out;have n2:=HS.out;have n3:=NZ.out;omega
         clear u1 u2;go_wp2_with fail
         go_meet;exact⟨by rw [HTB.out] <;>first | rfl | simp [f1,f2] | simp [f1],rfl⟩
       case rest=>
        obtain⟨rfl,rfl⟩:=hcut;go_upto_if 199 with fail;go_cut [] (fun wx=>Hid (AcR wx B g c N (P++mrg aI A1 B1++A2++B2++R))∧Hid (w.grownBy wx (some g)))
        case first=>
         as_aux_lemma=>
         rcases(show(0<A1.length∧0<B1.length)∨(A1.length=0)∨(0<A1.length∧B1.length=0) by clear HA3 HG HT2;go_light;omega)with⟨u1,u2⟩ | u1 |⟨u1,u2⟩
         ·have htb:tb=true:=by go_light;have n1:=NF.out;have n2:=HS.out;have n3:=NZ.out;rw [HTD.out];simp;omega
          clear HTD;subst htb;have HC:=aa (HI.out P A1 B1 (A2++B2++R) B g c N a s mid W3 (by go_light;have n1:=NF.out;have n2:=HS.out;have n3:=NZ.out;omega) (by go_light;have n1:=NF.out;have n2:=HS.out;have n3:=NZ.out;omega) (by go_light;have n1:=NF.out;have n2:=HS.out;have n3:=NZ.out;omega) (by have:=HA3.out;simpa using this) HSA1.out HSB1.out (by go_light;have n1:=NF.out;have n2:=HS.out;have n3:=NZ.out;omega) (by go_light;have n1:=NF.out;have n2:=HS.out;have n3:=NZ.out;omega) (by go_light;have n1:=NF.out;have n2:=HS.out;have n3:=NZ.out;omega) (by go_light;have n1:=NF.out;have n2:=HS.out;have n3:=NZ.out;omega));clear u1 u2;go_wp2_with fail
          refine(ae HC).mono ?_;rintro e WQ ⟨rfl,hA4,hG4⟩;have HA4:Hid (AcR WQ B g c N (P++mrg aI A1 B1++A2++B2++R)):=aa (by simpa using hA4);have HG4:=aa (ar HG.out hG4);clear hA4 hG4 HC;go_wp2_with fail
          go_meet;exact⟨HA4,HG4⟩
         ·have nl:A1= []:=List.eq_nil_of_length_eq_zero (by go_light;have n1:=NF.out;have n2:=HS.out;have n3:=NZ.out;omega);have htb:tb=false:=by go_light;have n1:=NF.out;have n2:=HS.out;have n3:=NZ.out;rw [HTD.out];simp;omega
          clear HTD;subst htb;have HA4:=aa (show AcR W3 B g c N (P++mrg aI A1 B1++A2++B2++R)from by rw [nN (.inl nl)];have:=HA3.out;simpa using this);clear nl u1;go_wp2_with fail
          go_meet;exact⟨HA4,HG⟩
         ·have nl:B1= []:=List.eq_nil_of_length_eq_zero (by go_light;have n1:=NF.out;have n2:=HS.out;have n3:=NZ.out;omega);have htb:tb=false:=by go_light;have n1:=NF.out;have n2:=HS.out;have n3:=NZ.out;rw [HTD.out];simp;omega
          clear HTD;subst htb;have HA4:=aa (show AcR W3 B g c N (P++mrg aI A1 B1++A2++B2++R)from by rw [nN (.inr nl)];have:=HA3.out;simpa using this);clear nl u1 u2;go_wp2_with fail
          go_meet;exact⟨HA4,HG⟩
        case rest=>
         clear HA3 HG HTD;obtain⟨HA3,HG⟩:=hcut;generalize wc=W4 at*;go_upto_region 43 with fail
         obtain⟨tb,htb⟩:∃tb:Bool,tb=decide (mid<en∧en<b):=⟨_,rfl⟩;have HTD:=aa htb;clear htb;go_cut [213] (fun tv wx=>tv= .bool tb∧W4=wx)
         case first=>
          as_aux_lemma=>
          rcases(show(0<A2.length∧0<B2.length)∨(A2.length=0)∨(0<A2.length∧B2.length=0) by clear HA3 HG HT2;go_light;omega)with⟨u1,u2⟩ | u1 |⟨u1,u2⟩
          ·have HTB:Hid (tb=true):=aa (by go_light;have n1:=NF.out;have n2:=HS.out;have n3:=NZ.out;rw [HTD.out];simp;omega);have g1:(mid<en):=by go_light;have n1:=NF.out;have n2:=HS.out;have n3:=NZ.out;omega
           have f1:((mid:Int)<(en:Int)):=by go_light;have n1:=NF.out;have n2:=HS.out;have n3:=NZ.out;omega
           have g2:(en<b):=by go_light;have n1:=NF.out;have n2:=HS.out;have n3:=NZ.out;omega
           have f2:((en:Int)<(b:Int)):=by go_light;have n1:=NF.out;have n2:=HS.out;have n3:=NZ.out;omega
           clear u1 u2;go_wp2_with fail
           go_meet;exact⟨by rw [HTB.out] <;>first | rfl | simp [f1,f2] | simp [f1],rfl⟩
          ·have HTB:Hid (tb=false):=aa (by go_light;have n1:=NF.out;have n2:=HS.out;have n3:=NZ.out;rw [HTD.out];simp;omega);have g1:¬(mid<en):=by go_light;have n1:=NF.out;have n2:=HS.out;have n3:=NZ.out;omega
           have f1:¬((mid:Int)<(en:Int)):=by go_light;have n1:=NF.out;have n2:=HS.out;have n3:=NZ.out;omega
           clear u1;go_wp2_with fail
           go_meet;exact⟨by rw [HTB.out] <;>first | rfl | simp [f1],rfl⟩
          ·have HTB:Hid (tb=false):=aa (by go_light;have n1:=NF.out;have n2:=HS.out;have n3:=NZ.out;rw [HTD.out];simp;omega);have g1:(mid<en):=by go_light;have n1:=NF.out;have n2:=HS.out;have n3:=NZ.out;omega
           have f1:((mid:Int)<(en:Int)):=by go_light;have n1:=NF.out;have n2:=HS.out;have n3:=NZ.out;omega
           have g2:¬(en<b):=by go_light;have n1:=NF.out;have n2:=HS.out;have n3:=NZ.out;omega
           have f2:¬((en:Int)<(b:Int)):=by go_light;have n1:=NF.out;have n2:=HS.out;have n3:=NZ.out;omega
           clear u1 u2;go_wp2_with fail
           go_meet;exact⟨by rw [HTB.out] <;>first | rfl | simp [f1,f2] | simp [f1],rfl⟩
         case rest=>
          obtain⟨rfl,rfl⟩:=hcut;rcases(show(0<A2.length∧0<B2.length)∨(A2.length=0)∨(0<A2.length∧B2.length=0) by clear HA3 HG HT2;go_light;omega)with⟨u1,u2⟩ | u1 |⟨u1,u2⟩
          ·have htb:tb=true:=by go_light;have n1:=NF.out;have n2:=HS.out;have n3:=NZ.out;rw [HTD.out];simp;omega
           clear HTD;subst htb;have hlM:(mrg aI A1 B1).length=ka+kb:=(by rw [iJ,HLA1.out,HLB1.out]);have HC:=aa (HI.out (P++mrg aI A1 B1) A2 B2 R B g c N mid en b W4 (by go_light;have n1:=NF.out;have n2:=HS.out;have n3:=NZ.out;omega) (by go_light;have n1:=NF.out;have n2:=HS.out;have n3:=NZ.out;omega) (by go_light;have n1:=NF.out;have n2:=HS.out;have n3:=NZ.out;omega) (by have:=HA3.out;simpa using this) HSA2.out HSB2.out (by rw [List.length_append,hlM];go_light;have n1:=NF.out;have n2:=HS.out;have n3:=NZ.out;omega) (by rw [List.length_append,hlM];go_light;have n1:=NF.out;have n2:=HS.out;have n3:=NZ.out;omega) (by rw [List.length_append,hlM];go_light;have n1:=NF.out;have n2:=HS.out;have n3:=NZ.out;omega) (by go_light;have n1:=NF.out;have n2:=HS.out;have n3:=NZ.out;omega));clear hlM;clear u1 u2;go_wp2_with fail
           refine(ae HC).mono ?_;rintro e WQ ⟨rfl,hA4,hG4⟩;have HA4:Hid (AcR WQ B g c N (P++mrg aI A1 B1++mrg aI A2 B2++R)):=aa (by simpa using hA4);have HG4:=aa (ar HG.out hG4);clear hA4 hG4 HC;have HA5:AcR WQ B g c N T:=by rw [←HT2.out];have:=HA4.out;simpa using this
           go_wp2_with fail
           go_end0;exact⟨rfl,HA5,HG4.out⟩
          ·have nl:A2= []:=List.eq_nil_of_length_eq_zero (by go_light;have n1:=NF.out;have n2:=HS.out;have n3:=NZ.out;omega);have htb:tb=false:=by go_light;have n1:=NF.out;have n2:=HS.out;have n3:=NZ.out;rw [HTD.out];simp;omega
           clear HTD;subst htb;have HA4:=aa (show AcR W4 B g c N (P++mrg aI A1 B1++mrg aI A2 B2++R)from by rw [nN (A1:=A2) (.inl nl)];have:=HA3.out;simpa using this);clear nl u1;have HA5:AcR W4 B g c N T:=by rw [←HT2.out];have:=HA4.out;simpa using this
           go_wp2_with fail
           go_end0;exact⟨rfl,HA5,HG.out⟩
          ·have nl:B2= []:=List.eq_nil_of_length_eq_zero (by go_light;have n1:=NF.out;have n2:=HS.out;have n3:=NZ.out;omega);have htb:tb=false:=by go_light;have n1:=NF.out;have n2:=HS.out;have n3:=NZ.out;rw [HTD.out];simp;omega
           clear HTD;subst htb;have HA4:=aa (show AcR W4 B g c N (P++mrg aI A1 B1++mrg aI A2 B2++R)from by rw [nN (A1:=A2) (.inr nl)];have:=HA3.out;simpa using this);clear nl u1 u2;have HA5:AcR W4 B g c N T:=by rw [←HT2.out];have:=HA4.out;simpa using this
           go_wp2_with fail
           go_end0;exact⟨rfl,HA5,HG.out⟩
theorem nK:∀n,rB n
 | 0=>fun P A Bq R B g c N a m b w h0 h1 h2 _ _ _ _ _ _ _=>by omega
 | n+1=>fun P A Bq R B g c N a m b w h0 h1 h2 hA hSA hSB ha hm hb hN=>by
  by_cases hx:A.length=1
  ·obtain⟨x,rfl⟩:=List.length_eq_one_iff.1 hx;exact ns P Bq R x B g c N a m b w hA hSB ha hm hb hN
  ·by_cases hy:Bq.length=1
   ·obtain⟨y,rfl⟩:=List.length_eq_one_iff.1 hy;exact lD P A R y B g c N a m b w hA hSA (by omega) ha hm hb hN
   ·exact mC n (nK n) P A Bq R B g c N a m b w h0 (by omega) (by omega) hA hSA hSB ha hm hb hN
theorem iV (o:Option Addr) (c:Nat) (fv:Value) (w:World):Calls Tryz.prog 153 #[.slice o 0 c,.int .i64 0,.int .i64 0,fv] w fun e w'=>e= .returned (.tuple #[])∧w'=w:=by
 go_enter Tryz.func153,Tryz.ntmps153;go_wp2_with fail
 refine wp_loop_rounds 1 ?_;rw [rounds_succ];go_wp2_with fail
 go_end0;exact⟨rfl,rfl⟩
theorem jt (o:Option Addr) (c:Nat) (fv:Value) (w:World):Calls Tryz.prog 133 #[.slice o 0 c,.int .i64 0,fv] w fun e w'=>e= .returned (.tuple #[])∧w'=w:=by
 go_enter Tryz.func133,Tryz.ntmps133;go_wp2_with fail
 refine wp_loop_rounds 1 ?_;rw [rounds_succ];go_wp2_with fail
 refine(iV _ _ _ _).mono ?_;rintro e w1 ⟨rfl,rfl⟩;go_wp2_with fail
 refine wp_loop_rounds 1 ?_;rw [rounds_succ];go_wp2_with fail
 go_end0;exact⟨rfl,rfl⟩
theorem oZ:eM []:=fun u B w ho hB=>by
 obtain⟨o,c,rfl⟩:=aF ho;have HO:=aa ho;clear ho;go_enter Tryz.func102,Tryz.ntmps102;go_wp2_with fail
 refine(jt _ _ _ _).mono ?_;rintro e w1 ⟨rfl,rfl⟩;go_wp2_with fail
 go_end0;have e:aZ []= []:=by simp [aZ,mrg,aM]
 exact⟨rfl,by rw [e];exact HO.out,⟨rfl,rfl,rfl,Nat.le_refl _,fun _ _ _=>rfl⟩⟩
theorem du (X Y Z:List Ac) (B g c N:Nat) (ai bi:Int) (w:World) (hA:AcR w B g c N (X++Y++Z)) (ha:ai=(X.length:Int)) (hb:bi=((X.length+Y.length:Nat):Int)) (hN:N≤1000):
  Calls Tryz.prog 153 #[.slice (some ⟨g,0,none⟩) N c,.int .i64 ai,.int .i64 bi,.func (.func 103) #[] #[]] w fun e w'=>e= .returned (.tuple #[])∧AcR w' B g c N (X++aM aI Y++Z)∧w.grownBy w' (some g):=by
 subst ha hb;exact mH X Y Z B g c N _ _ w hA rfl rfl hN
theorem iU {L:List Ac} (h:L.length≤20):aZ L=aM aI L:=by
 unfold aZ;rw [List.take_of_length_le h,List.drop_of_length_le h];show mrg aI (aM aI L) []=_;rw [dx]
def eF (N:Nat):Prop:=∀(L:List Ac) (B g c:Nat) (w:World),AcR w B g c N L→Calls Tryz.prog 133 #[.slice (some ⟨g,0,none⟩) N c,.int .i64 (N:Int),.func (.func 103) #[] #[]] w fun e w'=>e= .returned (.tuple #[])∧AcR w' B g c N (aZ L)∧w.grownBy w' (some g)
theorem m6 {N:Nat} (h:N<20):eF N:=fun L B g c w hA=>by
 have HSI:=aa (du [] L [] B g c N 0 N w (by simpa using hA) (by simp) (by simp [hA.1]) (by omega));have HAS:=aa (iU (L:=L) (by rw [hA.1];omega));have q1:¬(20≤N):=by omega
 have q2:¬((20:Int)≤(N:Int)):=by omega
 have q3:¬(20<N):=by omega
 have q4:¬((20:Int)<(N:Int)):=by omega
 clear hA;go_enter Tryz.func133,Tryz.ntmps133;go_wp2_with fail
 refine wp_loop_rounds 1 ?_;rw [rounds_succ];go_wp2_with fail
 refine(ae HSI).mono ?_;rintro e w1 ⟨rfl,hA1,hG1⟩;have HE:Hid (AcR w1 B g c N (aZ L)):=by rw [HAS.out];exact aa (by simpa using hA1)
 have HG:=aa hG1;clear hA1 hG1 HSI HAS;go_wp2_with fail
 refine wp_loop_rounds 1 ?_;rw [rounds_succ];go_wp2_with fail
 go_end0;exact⟨rfl,HE.out,HG.out⟩
theorem qn {L:List Ac} (h:eF L.length):eM L:=by
 by_cases h0:L.length=0
 ·rw [List.eq_nil_of_length_eq_zero h0];exact oZ
 ·intro u B w ho hB;obtain⟨g,c,rfl,_,_⟩:=aP ho (by omega);have HST:=aa (h L B g c w ⟨rfl,ho⟩);obtain⟨N,hN⟩:∃N,N=L.length:=⟨_,rfl⟩;rw [←hN]at HST⊢h;clear ho hN h0 h;go_enter Tryz.func102,Tryz.ntmps102;go_wp2_with fail
  refine(ae HST).mono ?_;rintro e w1 ⟨rfl,hA1,hG1⟩;have HE:=aa hA1.2;have HG:=aa hG1;clear hA1 hG1 HST;go_wp2_with fail
  go_end0;exact⟨rfl,HE.out,HG.out⟩
theorem rz (A Bq:List Ac) (B g c N:Nat) (ai mi bi:Int) (w:World) (h1:0<A.length) (h2:0<Bq.length) (hA:AcR w B g c N (A++Bq)) (hSA:AscA A) (hSB:AscA Bq) (ha:ai=((0:Nat):Int)) (hm:mi=(A.length:Int)) (hb:bi=((A.length+Bq.length:Nat):Int)) (hN:N≤1000):
  Calls Tryz.prog 154 #[.slice (some ⟨g,0,none⟩) N c,.int .i64 ai,.int .i64 mi,.int .i64 bi,.func (.func 103) #[] #[]] w fun e w'=>e= .returned (.tuple #[])∧AcR w' B g c N (mrg aI A Bq)∧w.grownBy w' (some g):=by
 subst ha hm hb;have:=nK _ [] A Bq [] B g c N 0 A.length (A.length+Bq.length) w zr h1 h2 (by simpa using hA) hSA hSB rfl (by simp) (by simp) hN;simpa using this
theorem jM:eF 20:=fun L B g c w hA=>by
 have HSI:=aa (du [] L [] B g c 20 0 20 w (by simpa using hA) (by simp) (by simp [hA.1]) (by omega));have HAS:=aa (iU (L:=L) (by rw [hA.1];omega));have HSJ:=aa (fun W (hW:AcR W B g c 20 (aM aI L))=>du (aM aI L) [] [] B g c 20 20 20 W (by simpa using hW) (by rw [aN,hA.1];rfl) (by rw [aN,hA.1];rfl) (by omega));clear hA;go_enter Tryz.func133,Tryz.ntmps133;go_wp2_with fail
 refine wp_loop_rounds 2 ?_;rw [rounds_succ];go_wp2_with fail
 refine(ae HSI).mono ?_;rintro e w1 ⟨rfl,hA1,hG1⟩;have HA1:Hid (AcR w1 B g c 20 (aM aI L)):=aa (by simpa using hA1);have HG:=aa hG1;clear hA1 hG1 HSI;go_wp2_with fail
 rw [rounds_succ];go_wp2_with fail
 refine(ae HSJ _ HA1.out).mono ?_;rintro e w2 ⟨rfl,hA2,hG2⟩;have HE:Hid (AcR w2 B g c 20 (aZ L)):=by
  rw [HAS.out];have e:aM aI ([]:List Ac)= []:=rfl;rw [e]at hA2;exact aa (by simpa using hA2)
 have HG2:=aa (ar HG.out hG2);clear hA2 hG2 HSJ HAS HA1 HG;go_wp2_with fail
 refine wp_loop_rounds 1 ?_;rw [rounds_succ];go_wp2_with fail
 go_end0;exact⟨rfl,HE.out,HG2.out⟩
theorem oe {L:List Ac} {N:Nat} (h:L.length=N) (h2:20≤N):(L.take 20).length=20∧(L.drop 20).length=N-20∧L.take 20++L.drop 20=L:=⟨by rw [List.length_take];omega,by rw [List.length_drop];omega,List.take_append_drop _ _⟩
theorem ng {N:Nat} (h1:20<N) (h2:N<40):eF N:=fun L B g c w hA=>by
 obtain⟨hx,hy,hxy⟩:=oe hA.1 (by omega);have HT:Hid (aZ L=mrg aI (aM aI (L.take 20)) (aM aI (L.drop 20))):=rfl;obtain⟨T,hT⟩:∃T,T=aZ L:=⟨_,rfl⟩;rw [←hT];rw [←hT]at HT;rw [←hxy]at hA;generalize L.take 20=X at*;generalize L.drop 20=Y at*;have HS1:=aa (du [] X Y B g c N 0 20 w (by simpa using hA) (by simp) (by simp [hx]) (by omega));have HS2:=aa (fun W (hW:AcR W B g c N (aM aI X++Y))=>du (aM aI X) Y [] B g c N 20 N W (by simpa using hW) (by rw [aN,hx];rfl) (by rw [aN,hx,hy];omega) (by omega));have HS3:=aa (fun W (hW:AcR W B g c N (aM aI X++aM aI Y))=>rz (aM aI X) (aM aI Y) B g c N 0 20 N W (by rw [aN,hx];omega) (by rw [aN,hy];omega) hW (eA fZ gI _) (eA fZ gI _) rfl (by rw [aN,hx];rfl) (by rw [aN,aN,hx,hy];omega) (by omega));have q1:20≤N:=by omega
 have q2:(20:Int)≤(N:Int):=by omega
 have q3:¬(40≤N):=by omega
 have q4:¬((40:Int)≤(N:Int)):=by omega
 have q5:(20:Int)<(N:Int):=by omega
 have q6:¬(40<N):=by omega
 have q7:¬((40:Int)<(N:Int)):=by omega
 clear hA hT hx hy hxy;go_enter Tryz.func133,Tryz.ntmps133;go_wp2_with fail
 refine wp_loop_rounds 2 ?_;rw [rounds_succ];go_wp2_with fail
 refine(ae HS1).mono ?_;rintro e w1 ⟨rfl,hA1,hG1⟩;have HA1:Hid (AcR w1 B g c N (aM aI X++Y)):=aa (by simpa using hA1);have HG:=aa hG1;clear hA1 hG1 HS1;go_wp2_with fail
 rw [rounds_succ];go_wp2_with fail
 refine(ae HS2 _ HA1.out).mono ?_;rintro e w2 ⟨rfl,hA2,hG2⟩;have HA2:Hid (AcR w2 B g c N (aM aI X++aM aI Y)):=aa (by simpa using hA2);have HG2:=aa (ar HG.out hG2);clear hA2 hG2 HS2 HA1 HG;go_wp2_with fail
 refine wp_loop_rounds 2 ?_;rw [rounds_succ];go_wp2_with fail
 refine wp_loop_rounds 1 ?_;rw [rounds_succ];go_wp2_with fail
 refine(ae HS3 _ HA2.out).mono ?_;rintro e w3 ⟨rfl,hA3,hG3⟩;have HE:Hid (AcR w3 B g c N T):=by rw [HT.out];exact aa hA3
 have HG3:=aa (ar HG2.out hG3);clear hA3 hG3 HS3 HA2 HG2;go_wp2_with fail
 rw [rounds_succ];go_wp2_with fail
 go_end0;exact⟨rfl,HE.out,HG3.out⟩
theorem kQ:eF 40:=fun L B g c w hA=>by
 obtain⟨hx,hy,hxy⟩:=oe hA.1 (by omega);have HT:Hid (aZ L=mrg aI (aM aI (L.take 20)) (aM aI (L.drop 20))):=rfl;obtain⟨T,hT⟩:∃T,T=aZ L:=⟨_,rfl⟩;rw [←hT];rw [←hT]at HT;rw [←hxy]at hA;generalize L.take 20=X at*;generalize L.drop 20=Y at*;have HS1:=aa (du [] X Y B g c 40 0 20 w (by simpa using hA) (by simp) (by simp [hx]) (by omega));have HS2:=aa (fun W (hW:AcR W B g c 40 (aM aI X++Y))=>du (aM aI X) Y [] B g c 40 20 40 W (by simpa using hW) (by rw [aN,hx];rfl) (by rw [aN,hx,hy];rfl) (by omega));have HS4:=aa (fun W (hW:AcR W B g c 40 (aM aI X++aM aI Y))=>du (aM aI X++aM aI Y) [] [] B g c 40 40 40 W (by simpa using hW) (by rw [List.length_append,aN,aN,hx,hy];rfl) (by rw [List.length_append,aN,aN,hx,hy];rfl) (by omega));have HS3:=aa (fun W (hW:AcR W B g c 40 (aM aI X++aM aI Y))=>rz (aM aI X) (aM aI Y) B g c 40 0 20 40 W (by rw [aN,hx];omega) (by rw [aN,hy];omega) hW (eA fZ gI _) (eA fZ gI _) rfl (by rw [aN,hx];rfl) (by rw [aN,aN,hx,hy];rfl) (by omega));clear hA hT hx hy hxy;go_enter Tryz.func133,Tryz.ntmps133;go_wp2_with fail
 refine wp_loop_rounds 3 ?_;rw [rounds_succ];go_wp2_with fail
 refine(ae HS1).mono ?_;rintro e w1 ⟨rfl,hA1,hG1⟩;have HA1:Hid (AcR w1 B g c 40 (aM aI X++Y)):=aa (by simpa using hA1);have HG:=aa hG1;clear hA1 hG1 HS1;go_wp2_with fail
 rw [rounds_succ];go_wp2_with fail
 refine(ae HS2 _ HA1.out).mono ?_;rintro e w2 ⟨rfl,hA2,hG2⟩;have HA2:Hid (AcR w2 B g c 40 (aM aI X++aM aI Y)):=aa (by simpa using hA2);have HG2:=aa (ar HG.out hG2);clear hA2 hG2 HS2 HA1 HG;go_wp2_with fail
 rw [rounds_succ];go_wp2_with fail
 refine(ae HS4 _ HA2.out).mono ?_;rintro e w4 ⟨rfl,hA4,hG4⟩;have HA4:Hid (AcR w4 B g c 40 (aM aI X++aM aI Y)):=by
  have e:aM aI ([]:List Ac)= []:=rfl;rw [e]at hA4;exact aa (by simpa using hA4)
 have HG4:=aa (ar HG2.out hG4);clear hA4 hG4 HS4 HA2 HG2;go_wp2_with fail
 refine wp_loop_rounds 2 ?_;rw [rounds_succ];go_wp2_with fail
 refine wp_loop_rounds 2 ?_;rw [rounds_succ];go_wp2_with fail
 refine(ae HS3 _ HA4.out).mono ?_;rintro e w3 ⟨rfl,hA3,hG3⟩;have HE:Hid (AcR w3 B g c 40 T):=by rw [HT.out];exact aa hA3
 have HG3:=aa (ar HG4.out hG3);clear hA3 hG3 HS3 HA4 HG4;go_wp2_with fail
 rw [rounds_succ];go_wp2_with fail
 rw [rounds_succ];go_wp2_with fail
 go_end0;exact⟨rfl,HE.out,HG3.out⟩
theorem mS {N:Nat} (h:N≤40):eF N:=by
 rcases Nat.lt_or_ge N 20 with h1 | h1
 ·exact m6 h1
 ·by_cases h2:N=20
  ·subst h2;exact jM
  ·by_cases h3:N=40
   ·subst h3;exact kQ
   ·exact ng (by omega) (by omega)
theorem jX {L:List Ac} (h:L.length≤40):eM L:=qn (mS h)
def sC (T:Int):Int:=if T=0 then 0 else(T-1)%65535+1
def wt (i:Nat) (c:Int):Int:=if i%2=0 then 256*c else c
def tot (l:List Int):Nat→Int
 | 0=>0
 | k+1=>tot l k+wt k (l.getD k 0)
def Bs (l:List Int):Prop:=∀n∈l,0≤n∧n≤255
theorem Bs.at {l:List Int} (h:Bs l) (k:Nat):0≤l.getD k 0∧l.getD k 0≤255:=by
 by_cases hk:k<l.length
 ·have:=h l[k] (List.getElem_mem hk);simpa [List.getD,List.getElem?_eq_getElem hk] using this
 ·simp [List.getD,List.getElem?_eq_none (by omega:l.length≤k)]
theorem Bs.nil:Bs []:=fun n h=>by cases h
theorem Bs.append {a b:List Int} (ha:Bs a) (hb:Bs b):Bs (a++b):=fun n h=>by
 rcases List.mem_append.1 h with h | h
 ·exact ha n h
 ·exact hb n h
theorem Bs.take {a:List Int} (ha:Bs a) (k:Nat):Bs (a.take k):=fun n h=>ha n (List.mem_of_mem_take h)
theorem Bs.drop {a:List Int} (ha:Bs a) (k:Nat):Bs (a.drop k):=fun n h=>ha n (List.mem_of_mem_drop h)
def sm (l:List Int):Int:=65535-sC (tot l l.length)
def nc (n:Int):List Int:=[n/256,n%256]
def sA (s:ByteArray):List Int:=s.data.toList.map fun b=>(b.toNat:Int)
def U (l:List Int):List Value:=l.map (Value.int .u8)
def rX (dst src kind ips ipd ttl port:Int) (body:ByteArray):List Int:=
 nc dst++nc src++ [kind,ttl]++nc ips++nc ipd++nc port++nc body.size++sA body
def enc (dst src kind ips ipd ttl port:Int) (body:ByteArray):List Int:=
 rX dst src kind ips ipd ttl port body++nc (sm (rX dst src kind ips ipd ttl port body))
abbrev pkt (f0 f1 f2 f3 f4 f5 f6 f7 f8 f9:Int) (body:ByteArray):Value:=
 .agg #[.int .i64 f0,.int .i64 f1,.int .i64 f2,.int .i64 f3,.int .i64 f4,.int .i64 f5,.int .i64 f6,.int .i64 f7,.int .i64 f8,.int .i64 f9,.string body]
def PkAt (w:World) (b:Nat) (F:List Int) (body:ByteArray):Prop:=
 F.length=10∧(∀i,i<10→w.cell? ⟨b,i,none⟩=some (.int .i64 (F.getD i 0)))∧w.cell? ⟨b,10,none⟩=some (.string body)
theorem PkAt.below {w w':World} {b B:Nat} {F:List Int} {body:ByteArray} (h:PkAt w b F body) (hb:Below B w w') (hB:b<B):PkAt w' b F body:=
 ⟨h.1,fun i hi=>(hb.cell (p:=⟨b,i,none⟩) hB).trans (h.2.1 i hi),(hb.cell (p:=⟨b,10,none⟩) hB).trans h.2.2⟩
def dW (F:List Int) (n:Nat):Int:=if F.all aV then(if 40<n then 1 else 0)else 2
theorem aH (n:Int) (w:World):
  Calls Tryz.prog 63 #[.int .i64 n] w fun e w'=>e= .returned (.bool (aV n))∧w'=w:=by
 go_enter Tryz.func63,Tryz.ntmps63;go_wp2
 all_goals go_ret
 all_goals refine⟨aC ?_,rfl⟩
 all_goals (unfold aV;rw [Bool.eq_iff_iff];simp_all;try omega)
set_option maxRecDepth 100000 in
theorem iH (f0 f1 f2 f3 f4 f5 f6 f7 f8 f9:Int) (body:ByteArray) (w:World) (hb:body.size≤maxLen):
  Calls Tryz.prog 26 #[pkt f0 f1 f2 f3 f4 f5 f6 f7 f8 f9 body] w fun e w'=>e= .returned (.int .i64 (dW [f0,f1,f2,f3,f4,f5,f6,f7,f8,f9] body.size))∧Below w.heap.size w w':=by
 unfold maxLen at hb;have i0:∀w:World,(Instr.index 39 (.agg #[.int .i64 f0,.int .i64 f1,.int .i64 f2,.int .i64 f3,.int .i64 f4,.int .i64 f5,.int .i64 f6,.int .i64 f7,.int .i64 f8,.int .i64 f9]) (.int .i64 0)).run Tryz.prog w= .ok (.int .i64 f0) w:=fun _=>by kernel_rfl
 have i1:∀w:World,(Instr.index 39 (.agg #[.int .i64 f0,.int .i64 f1,.int .i64 f2,.int .i64 f3,.int .i64 f4,.int .i64 f5,.int .i64 f6,.int .i64 f7,.int .i64 f8,.int .i64 f9]) (.int .i64 1)).run Tryz.prog w= .ok (.int .i64 f1) w:=fun _=>by kernel_rfl
 have i2:∀w:World,(Instr.index 39 (.agg #[.int .i64 f0,.int .i64 f1,.int .i64 f2,.int .i64 f3,.int .i64 f4,.int .i64 f5,.int .i64 f6,.int .i64 f7,.int .i64 f8,.int .i64 f9]) (.int .i64 2)).run Tryz.prog w= .ok (.int .i64 f2) w:=fun _=>by kernel_rfl
 have i3:∀w:World,(Instr.index 39 (.agg #[.int .i64 f0,.int .i64 f1,.int .i64 f2,.int .i64 f3,.int .i64 f4,.int .i64 f5,.int .i64 f6,.int .i64 f7,.int .i64 f8,.int .i64 f9]) (.int .i64 3)).run Tryz.prog w= .ok (.int .i64 f3) w:=fun _=>by kernel_rfl
 have i4:∀w:World,(Instr.index 39 (.agg #[.int .i64 f0,.int .i64 f1,.int .i64 f2,.int .i64 f3,.int .i64 f4,.int .i64 f5,.int .i64 f6,.int .i64 f7,.int .i64 f8,.int .i64 f9]) (.int .i64 4)).run Tryz.prog w= .ok (.int .i64 f4) w:=fun _=>by kernel_rfl
 have i5:∀w:World,(Instr.index 39 (.agg #[.int .i64 f0,.int .i64 f1,.int .i64 f2,.int .i64 f3,.int .i64 f4,.int .i64 f5,.int .i64 f6,.int .i64 f7,.int .i64 f8,.int .i64 f9]) (.int .i64 5)).run Tryz.prog w= .ok (.int .i64 f5) w:=fun _=>by kernel_rfl
 have i6:∀w:World,(Instr.index 39 (.agg #[.int .i64 f0,.int .i64 f1,.int .i64 f2,.int .i64 f3,.int .i64 f4,.int .i64 f5,.int .i64 f6,.int .i64 f7,.int .i64 f8,.int .i64 f9]) (.int .i64 6)).run Tryz.prog w= .ok (.int .i64 f6) w:=fun _=>by kernel_rfl
 have i7:∀w:World,(Instr.index 39 (.agg #[.int .i64 f0,.int .i64 f1,.int .i64 f2,.int .i64 f3,.int .i64 f4,.int .i64 f5,.int .i64 f6,.int .i64 f7,.int .i64 f8,.int .i64 f9]) (.int .i64 7)).run Tryz.prog w= .ok (.int .i64 f7) w:=fun _=>by kernel_rfl
 have i8:∀w:World,(Instr.index 39 (.agg #[.int .i64 f0,.int .i64 f1,.int .i64 f2,.int .i64 f3,.int .i64 f4,.int .i64 f5,.int .i64 f6,.int .i64 f7,.int .i64 f8,.int .i64 f9]) (.int .i64 8)).run Tryz.prog w= .ok (.int .i64 f8) w:=fun _=>by kernel_rfl
 have i9:∀w:World,(Instr.index 39 (.agg #[.int .i64 f0,.int .i64 f1,.int .i64 f2,.int .i64 f3,.int .i64 f4,.int .i64 f5,.int .i64 f6,.int .i64 f7,.int .i64 f8,.int .i64 f9]) (.int .i64 9)).run Tryz.prog w= .ok (.int .i64 f9) w:=fun _=>by kernel_rfl
 have HF:Hid (dW [f0,f1,f2,f3,f4,f5,f6,f7,f8,f9] body.size=if([f0,f1,f2,f3,f4,f5,f6,f7,f8,f9]:List Int).all aV then(if 40<body.size then 1 else 0)else 2):=rfl;generalize dW [f0,f1,f2,f3,f4,f5,f6,f7,f8,f9] body.size=R at HF⊢;go_enter Tryz.func26,Tryz.ntmps26;go_wp2_with fail
 obtain⟨w1,hw1⟩:∃w1,w1=w.alloc (.cells #[.int .i64 f0,.int .i64 f1,.int .i64 f2,.int .i64 f3,.int .i64 f4,.int .i64 f5,.int .i64 f6,.int .i64 f7,.int .i64 f8,.int .i64 f9,.string body] 41):=⟨_,rfl⟩;have hbel:Below w.heap.size w w1:=by rw [hw1];exact(Below.refl _ _).alloc zr _
 have hc10:w1.cell? ⟨w.heap.size,10,none⟩=some (.string body):=by rw [hw1];simp
 rw [←hw1];clear hw1;go_loop [7] (fun i=>∃k:Nat,k≤10∧i= .int .i64 k∧Hid ((([f0,f1,f2,f3,f4,f5,f6,f7,f8,f9]:List Int).take k).all aV=true)) (fun i=>10-(intOf i).toNat)
 case atStart=>exact⟨0,by omega,rfl,rfl⟩
 case round=>
  obtain⟨k,hk,rfl,HA⟩:=hrel;have hk5:k=0∨k=1∨k=2∨k=3∨k=4∨k=5∨k=6∨k=7∨k=8∨k=9∨k=10:=(by omega);rcases hk5 with rfl | rfl | rfl | rfl | rfl | rfl | rfl | rfl | rfl | rfl | rfl
  ·by_cases hx:aV f0=true
   ·go_wp2_with (go_at_call 63;refine(aH _ _).mono ?_;rintro e w' ⟨rfl,rfl⟩)
    go_round
    case rel=>exact⟨1,by omega,rfl,aa (by simp [hx])⟩
    case measure=>simp [intOf]
   ·have hx':aV f0=false:=(by simpa using hx);clear hx;go_wp2_with (go_at_call 63;refine(aH _ _).mono ?_;rintro e w' ⟨rfl,rfl⟩)
    go_ret;exact⟨ap (by rw [HF.out];simp [hx']),hbel⟩
  ·by_cases hx:aV f1=true
   ·go_wp2_with (go_at_call 63;refine(aH _ _).mono ?_;rintro e w' ⟨rfl,rfl⟩)
    go_round
    case rel=>exact⟨2,by omega,rfl,aa (by have:=HA.out;simp at this⊢;simp [this,hx])⟩
    case measure=>simp [intOf]
   ·have hx':aV f1=false:=(by simpa using hx);clear hx;go_wp2_with (go_at_call 63;refine(aH _ _).mono ?_;rintro e w' ⟨rfl,rfl⟩)
    go_ret;exact⟨ap (by rw [HF.out];simp [hx']),hbel⟩
  ·by_cases hx:aV f2=true
   ·go_wp2_with (go_at_call 63;refine(aH _ _).mono ?_;rintro e w' ⟨rfl,rfl⟩)
    go_round
    case rel=>exact⟨3,by omega,rfl,aa (by have:=HA.out;simp at this⊢;simp [this,hx])⟩
    case measure=>simp [intOf]
   ·have hx':aV f2=false:=(by simpa using hx);clear hx;go_wp2_with (go_at_call 63;refine(aH _ _).mono ?_;rintro e w' ⟨rfl,rfl⟩)
    go_ret;exact⟨ap (by rw [HF.out];simp [hx']),hbel⟩
  ·by_cases hx:aV f3=true
   ·go_wp2_with (go_at_call 63;refine(aH _ _).mono ?_;rintro e w' ⟨rfl,rfl⟩)
    go_round
    case rel=>exact⟨4,by omega,rfl,aa (by have:=HA.out;simp at this⊢;simp [this,hx])⟩
    case measure=>simp [intOf]
   ·have hx':aV f3=false:=(by simpa using hx);clear hx;go_wp2_with (go_at_call 63;refine(aH _ _).mono ?_;rintro e w' ⟨rfl,rfl⟩)
    go_ret;exact⟨ap (by rw [HF.out];simp [hx']),hbel⟩
  ·by_cases hx:aV f4=true
   ·go_wp2_with (go_at_call 63;refine(aH _ _).mono ?_;rintro e w' ⟨rfl,rfl⟩)
    go_round
    case rel=>exact⟨5,by omega,rfl,aa (by have:=HA.out;simp at this⊢;simp [this,hx])⟩
    case measure=>simp [intOf]
   ·have hx':aV f4=false:=(by simpa using hx);clear hx;go_wp2_with (go_at_call 63;refine(aH _ _).mono ?_;rintro e w' ⟨rfl,rfl⟩)
    go_ret;exact⟨ap (by rw [HF.out];simp [hx']),hbel⟩
  ·by_cases hx:aV f5=true
   ·go_wp2_with (go_at_call 63;refine(aH _ _).mono ?_;rintro e w' ⟨rfl,rfl⟩)
    go_round
    case rel=>exact⟨6,by omega,rfl,aa (by have:=HA.out;simp at this⊢;simp [this,hx])⟩
    case measure=>simp [intOf]
   ·have hx':aV f5=false:=(by simpa using hx);clear hx;go_wp2_with (go_at_call 63;refine(aH _ _).mono ?_;rintro e w' ⟨rfl,rfl⟩)
    go_ret;exact⟨ap (by rw [HF.out];simp [hx']),hbel⟩
  ·by_cases hx:aV f6=true
   ·go_wp2_with (go_at_call 63;refine(aH _ _).mono ?_;rintro e w' ⟨rfl,rfl⟩)
    go_round
    case rel=>exact⟨7,by omega,rfl,aa (by have:=HA.out;simp at this⊢;simp [this,hx])⟩
    case measure=>simp [intOf]
   ·have hx':aV f6=false:=(by simpa using hx);clear hx;go_wp2_with (go_at_call 63;refine(aH _ _).mono ?_;rintro e w' ⟨rfl,rfl⟩)
    go_ret;exact⟨ap (by rw [HF.out];simp [hx']),hbel⟩
  ·by_cases hx:aV f7=true
   ·go_wp2_with (go_at_call 63;refine(aH _ _).mono ?_;rintro e w' ⟨rfl,rfl⟩)
    go_round
    case rel=>exact⟨8,by omega,rfl,aa (by have:=HA.out;simp at this⊢;simp [this,hx])⟩
    case measure=>simp [intOf]
   ·have hx':aV f7=false:=(by simpa using hx);clear hx;go_wp2_with (go_at_call 63;refine(aH _ _).mono ?_;rintro e w' ⟨rfl,rfl⟩)
    go_ret;exact⟨ap (by rw [HF.out];simp [hx']),hbel⟩
  ·by_cases hx:aV f8=true
   ·go_wp2_with (go_at_call 63;refine(aH _ _).mono ?_;rintro e w' ⟨rfl,rfl⟩)
    go_round
    case rel=>exact⟨9,by omega,rfl,aa (by have:=HA.out;simp at this⊢;simp [this,hx])⟩
    case measure=>simp [intOf]
   ·have hx':aV f8=false:=(by simpa using hx);clear hx;go_wp2_with (go_at_call 63;refine(aH _ _).mono ?_;rintro e w' ⟨rfl,rfl⟩)
    go_ret;exact⟨ap (by rw [HF.out];simp [hx']),hbel⟩
  ·by_cases hx:aV f9=true
   ·go_wp2_with (go_at_call 63;refine(aH _ _).mono ?_;rintro e w' ⟨rfl,rfl⟩)
    go_round
    case rel=>exact⟨10,by omega,rfl,aa (by have:=HA.out;simp at this⊢;simp [this,hx])⟩
    case measure=>simp [intOf]
   ·have hx':aV f9=false:=(by simpa using hx);clear hx;go_wp2_with (go_at_call 63;refine(aH _ _).mono ?_;rintro e w' ⟨rfl,rfl⟩)
    go_ret;exact⟨ap (by rw [HF.out];simp [hx']),hbel⟩
  ·have HL:=aa (show([f0,f1,f2,f3,f4,f5,f6,f7,f8,f9]:List Int).all aV=true from by simpa using HA.out);by_cases h40:40<body.size
   ·go_wp2_with fail
    go_ret;exact⟨ap (by rw [HF.out,HL.out,if_pos rfl,if_pos h40]),hbel⟩
   ·go_wp2_with fail
    go_ret;exact⟨ap (by rw [HF.out,HL.out,if_pos rfl,if_neg h40]),hbel⟩
def pkE (dst src kind ips ipd ttl port:Int) (n:Nat) (i net t:Int):Int:=
 if dV dst src kind ips ipd ttl port n=0 then dW [i,dst,src,kind,ips,ipd,ttl,port,net,t] n else dV dst src kind ips ipd ttl port n
abbrev pkZ:Value:=pkt 0 0 0 0 0 0 0 0 0 0 ⟨#[]⟩
theorem eH:(Tryz.prog.info? 41).map (·.size)=some 11:=by kernel_rfl
theorem ra:(Tryz.prog.info? 37).map (·.size)=some 8:=by kernel_rfl
theorem mf (dst src kind ips ipd ttl port:Int) (body:ByteArray) (i net t:Int) (w:World) (hb:body.size≤maxLen):
  Calls Tryz.prog 8 #[fr dst src kind ips ipd ttl port body,.int .i64 i,.int .i64 net,.int .i64 t] w fun e w'=>e= .returned (.tuple #[if pkE dst src kind ips ipd ttl port body.size i net t=0 then pkt i dst src kind ips ipd ttl port net t body else pkZ,.int .i64 (pkE dst src kind ips ipd ttl port body.size i net t)])∧Below w.heap.size w w':=by
 have HE:Hid (pkE dst src kind ips ipd ttl port body.size i net t=if dV dst src kind ips ipd ttl port body.size=0 then dW [i,dst,src,kind,ips,ipd,ttl,port,net,t] body.size else dV dst src kind ips ipd ttl port body.size):=rfl;generalize pkE dst src kind ips ipd ttl port body.size i net t=E at*;have H1:=aa (fun W=>kf dst src kind ips ipd ttl port body W hb);have H2:=aa (fun W=>iH i dst src kind ips ipd ttl port net t body W hb);generalize dV dst src kind ips ipd ttl port body.size=G at*;generalize dW [i,dst,src,kind,ips,ipd,ttl,port,net,t] body.size=K at*;obtain⟨W0,hW0⟩:∃W0,W0=(w.alloc (.cells #[.int .i64 dst,.int .i64 src,.int .i64 kind,.int .i64 ips,.int .i64 ipd,.int .i64 ttl,.int .i64 port,.string body] 37)).alloc (.cells #[.int .i64 0,.int .i64 0,.int .i64 0,.int .i64 0,.int .i64 0,.int .i64 0,.int .i64 0,.int .i64 0,.int .i64 0,.int .i64 0,.string ⟨#[]⟩] 41):=⟨_,rfl⟩;have kb:Below w.heap.size w W0:=by rw [hW0];exact((Below.refl _ w).alloc zr _).alloc (by simp) _
 have HBF:Hid (Box W0 w.heap.size [.int .i64 dst,.int .i64 src,.int .i64 kind,.int .i64 ips,.int .i64 ipd,.int .i64 ttl,.int .i64 port,.string body]):=by rw [hW0];exact aa ((Box.new w [.int .i64 dst,.int .i64 src,.int .i64 kind,.int .i64 ips,.int .i64 ipd,.int .i64 ttl,.int .i64 port,.string body] 37).alloc _)
 have HBP:Hid (Box W0 (w.heap.size+1) [.int .i64 0,.int .i64 0,.int .i64 0,.int .i64 0,.int .i64 0,.int .i64 0,.int .i64 0,.int .i64 0,.int .i64 0,.int .i64 0,.string ⟨#[]⟩]):=by rw [hW0];have h:=Box.new (w.alloc (.cells #[.int .i64 dst,.int .i64 src,.int .i64 kind,.int .i64 ips,.int .i64 ipd,.int .i64 ttl,.int .i64 port,.string body] 37)) [.int .i64 0,.int .i64 0,.int .i64 0,.int .i64 0,.int .i64 0,.int .i64 0,.int .i64 0,.int .i64 0,.int .i64 0,.int .i64 0,.string ⟨#[]⟩] 41;exact aa (by simpa using h)
 have HW0:=aa hW0.symm;clear hW0;go_enter Tryz.func8,Tryz.ntmps8;go_wp2_with (first | rw [HW0.out] |(refine wpList_load_mid rfl 37 (.tmp 4) rfl w.heap.size 0 rfl _ _ HBF.out.range Tryz.underlying37 rfl ra ?_))
 clear HW0;refine(ae H1 _).mono ?_;rintro e w1 ⟨rfl,hb1⟩;replace HBF:=aa (HBF.out.below hb1);replace HBP:=aa (HBP.out.below hb1);replace kb:=kb.trans (hb1.mono kb.size);have l1:=HBP.out.lt;clear hb1 H1;by_cases hG:¬G=0
 ·have hE:E=G:=(by rw [HE.out,if_neg hG]);subst hE;clear HE H2 HBF;obtain⟨V1,hV1⟩:∃V1,V1=w1.setCells (w.heap.size+1) 0 [.int .i64 0,.int .i64 0,.int .i64 0,.int .i64 0,.int .i64 0,.int .i64 0,.int .i64 0,.int .i64 0,.int .i64 0,.int .i64 0,.string ⟨#[]⟩]:=⟨_,rfl⟩;have HN:Hid (Box V1 (w.heap.size+1) [.int .i64 0,.int .i64 0,.int .i64 0,.int .i64 0,.int .i64 0,.int .i64 0,.int .i64 0,.int .i64 0,.int .i64 0,.int .i64 0,.string ⟨#[]⟩]):=by rw [hV1];exact aa (HBP.out.set [.int .i64 0,.int .i64 0,.int .i64 0,.int .i64 0,.int .i64 0,.int .i64 0,.int .i64 0,.int .i64 0,.int .i64 0,.int .i64 0,.string ⟨#[]⟩] rfl)
  have kz:Below w.heap.size w V1:=by rw [hV1];exact aY _ (by omega) _ _ kb
  have HV:Hid (w1.setCells (w.heap.size+1) 0 [.int .i64 0,.int .i64 0,.int .i64 0,.int .i64 0,.int .i64 0,.int .i64 0,.int .i64 0,.int .i64 0,.int .i64 0,.int .i64 0,.string ⟨#[]⟩]=V1):=hV1.symm;have HFT:=aa (HBP.out.fit 11 rfl);clear hV1 HBP;go_wp2_with (first |(refine wpList_store_mid rfl 41 (.tmp 8) (.tmp 18) rfl (w.heap.size+1) 0 (List.toArray [.int .i64 0,.int .i64 0,.int .i64 0,.int .i64 0,.int .i64 0,.int .i64 0,.int .i64 0,.int .i64 0,.int .i64 0,.int .i64 0,.string ⟨#[]⟩]) rfl rfl HFT.out eH (eE rfl) ?_;rw [HV.out]))
  refine bodyPost_ret (v:=.tuple #[.agg #[.int .i64 0,.int .i64 0,.int .i64 0,.int .i64 0,.int .i64 0,.int .i64 0,.int .i64 0,.int .i64 0,.int .i64 0,.int .i64 0,.string ⟨#[]⟩],.int .i64 E]) ?_ rfl ⟨by first | rfl | rw [if_neg (by assumption)],kz⟩;exact fL (cs:=[.int .i64 0,.int .i64 0,.int .i64 0,.int .i64 0,.int .i64 0,.int .i64 0,.int .i64 0,.int .i64 0,.int .i64 0,.int .i64 0,.string ⟨#[]⟩]) Tryz.results8 rfl HN.out.range Tryz.underlying41 rfl eH
 ·have hG0:G=0:=(by omega);have hE:E=K:=(by rw [HE.out,if_pos hG0]);subst hE;subst hG0;clear HE hG;have c0:=HBF.out.cell 0 _ rfl;have c1:=HBF.out.cell 1 _ rfl;have c2:=HBF.out.cell 2 _ rfl;have c3:=HBF.out.cell 3 _ rfl;have c4:=HBF.out.cell 4 _ rfl;have c5:=HBF.out.cell 5 _ rfl;have c6:=HBF.out.cell 6 _ rfl;have c7:=HBF.out.cell 7 _ rfl;have hq1:w.heap.size<w1.heap.size:=(by omega);have hq2:¬w.heap.size=w1.heap.size:=(by omega);go_wp2_with fail
  obtain⟨W2,hW2⟩:∃W2,W2=(w1.alloc (.cells #[.int .i64 i,.int .i64 dst,.int .i64 src,.int .i64 kind,.int .i64 ips,.int .i64 ipd,.int .i64 ttl,.int .i64 port,.int .i64 net,.int .i64 t] 39)).alloc (.cells #[.int .i64 i,.int .i64 dst,.int .i64 src,.int .i64 kind,.int .i64 ips,.int .i64 ipd,.int .i64 ttl,.int .i64 port,.int .i64 net,.int .i64 t,.string body] 41):=⟨_,rfl⟩;have hb2:Below w1.heap.size w1 W2:=by rw [hW2];exact((Below.refl _ w1).alloc zr _).alloc (by simp) _
  have HBK:Hid (Box W2 (w1.heap.size+1) [.int .i64 i,.int .i64 dst,.int .i64 src,.int .i64 kind,.int .i64 ips,.int .i64 ipd,.int .i64 ttl,.int .i64 port,.int .i64 net,.int .i64 t,.string body]):=by rw [hW2];have h:=Box.new (w1.alloc (.cells #[.int .i64 i,.int .i64 dst,.int .i64 src,.int .i64 kind,.int .i64 ips,.int .i64 ipd,.int .i64 ttl,.int .i64 port,.int .i64 net,.int .i64 t] 39)) [.int .i64 i,.int .i64 dst,.int .i64 src,.int .i64 kind,.int .i64 ips,.int .i64 ipd,.int .i64 ttl,.int .i64 port,.int .i64 net,.int .i64 t,.string body] 41;exact aa (by simpa using h)
  rw [←hW2];clear hW2 c0 c1 c2 c3 c4 c5 c6 c7 HBF;refine(ae H2 _).mono ?_;rintro e w3 ⟨rfl,hb3⟩;replace HBP:=aa ((HBP.out.below hb2).below hb3);replace HBK:=aa (HBK.out.below hb3);replace kb:=(kb.trans (hb2.mono kb.size)).trans (hb3.mono (Nat.le_trans kb.size hb2.size));clear hb2 hb3 H2;by_cases hK:¬E=0
  ·obtain⟨V3,hV3⟩:∃V3,V3=w3.setCells (w.heap.size+1) 0 [.int .i64 0,.int .i64 0,.int .i64 0,.int .i64 0,.int .i64 0,.int .i64 0,.int .i64 0,.int .i64 0,.int .i64 0,.int .i64 0,.string ⟨#[]⟩]:=⟨_,rfl⟩;have HN:Hid (Box V3 (w.heap.size+1) [.int .i64 0,.int .i64 0,.int .i64 0,.int .i64 0,.int .i64 0,.int .i64 0,.int .i64 0,.int .i64 0,.int .i64 0,.int .i64 0,.string ⟨#[]⟩]):=by rw [hV3];exact aa (HBP.out.set [.int .i64 0,.int .i64 0,.int .i64 0,.int .i64 0,.int .i64 0,.int .i64 0,.int .i64 0,.int .i64 0,.int .i64 0,.int .i64 0,.string ⟨#[]⟩] rfl)
   have kz:Below w.heap.size w V3:=by rw [hV3];exact aY _ (by omega) _ _ kb
   have HV:Hid (w3.setCells (w.heap.size+1) 0 [.int .i64 0,.int .i64 0,.int .i64 0,.int .i64 0,.int .i64 0,.int .i64 0,.int .i64 0,.int .i64 0,.int .i64 0,.int .i64 0,.string ⟨#[]⟩]=V3):=hV3.symm;have HFT:=aa (HBP.out.fit 11 rfl);clear hV3 HBP;go_wp2_with (first |(refine wpList_store_mid rfl 41 (.tmp 8) (.tmp 46) rfl (w.heap.size+1) 0 (List.toArray [.int .i64 0,.int .i64 0,.int .i64 0,.int .i64 0,.int .i64 0,.int .i64 0,.int .i64 0,.int .i64 0,.int .i64 0,.int .i64 0,.string ⟨#[]⟩]) rfl rfl HFT.out eH (eE rfl) ?_;rw [HV.out]))
   refine bodyPost_ret (v:=.tuple #[.agg #[.int .i64 0,.int .i64 0,.int .i64 0,.int .i64 0,.int .i64 0,.int .i64 0,.int .i64 0,.int .i64 0,.int .i64 0,.int .i64 0,.string ⟨#[]⟩],.int .i64 E]) ?_ rfl ⟨by first | rfl | rw [if_neg (by assumption)],kz⟩;exact fL (cs:=[.int .i64 0,.int .i64 0,.int .i64 0,.int .i64 0,.int .i64 0,.int .i64 0,.int .i64 0,.int .i64 0,.int .i64 0,.int .i64 0,.string ⟨#[]⟩]) Tryz.results8 rfl HN.out.range Tryz.underlying41 rfl eH
  ·have hK0:E=0:=(by omega);subst hK0;clear hK;obtain⟨V3,hV3⟩:∃V3,V3=w3.setCells (w.heap.size+1) 0 [.int .i64 i,.int .i64 dst,.int .i64 src,.int .i64 kind,.int .i64 ips,.int .i64 ipd,.int .i64 ttl,.int .i64 port,.int .i64 net,.int .i64 t,.string body]:=⟨_,rfl⟩;have HN:Hid (Box V3 (w.heap.size+1) [.int .i64 i,.int .i64 dst,.int .i64 src,.int .i64 kind,.int .i64 ips,.int .i64 ipd,.int .i64 ttl,.int .i64 port,.int .i64 net,.int .i64 t,.string body]):=by rw [hV3];exact aa (HBP.out.set [.int .i64 i,.int .i64 dst,.int .i64 src,.int .i64 kind,.int .i64 ips,.int .i64 ipd,.int .i64 ttl,.int .i64 port,.int .i64 net,.int .i64 t,.string body] rfl)
   have kz:Below w.heap.size w V3:=by rw [hV3];exact aY _ (by omega) _ _ kb
   have HV:Hid (w3.setCells (w.heap.size+1) 0 [.int .i64 i,.int .i64 dst,.int .i64 src,.int .i64 kind,.int .i64 ips,.int .i64 ipd,.int .i64 ttl,.int .i64 port,.int .i64 net,.int .i64 t,.string body]=V3):=hV3.symm;have HFT:=aa (HBP.out.fit 11 rfl);clear hV3 HBP;go_wp2_with (first |(refine wpList_store_mid rfl 41 (.tmp 8) (.tmp 48) rfl (w.heap.size+1) 0 (List.toArray [.int .i64 i,.int .i64 dst,.int .i64 src,.int .i64 kind,.int .i64 ips,.int .i64 ipd,.int .i64 ttl,.int .i64 port,.int .i64 net,.int .i64 t,.string body]) rfl rfl HFT.out eH (eE rfl) ?_;rw [HV.out]) |(refine wpList_load_mid rfl 41 (.tmp 12) rfl (w1.heap.size+1) 0 rfl _ _ HBK.out.range Tryz.underlying41 rfl eH ?_))
   refine bodyPost_ret (v:=.tuple #[.agg #[.int .i64 i,.int .i64 dst,.int .i64 src,.int .i64 kind,.int .i64 ips,.int .i64 ipd,.int .i64 ttl,.int .i64 port,.int .i64 net,.int .i64 t,.string body],.int .i64 0]) ?_ rfl ⟨by first | rfl | rw [if_neg (by assumption)],kz⟩;exact fL (cs:=[.int .i64 i,.int .i64 dst,.int .i64 src,.int .i64 kind,.int .i64 ips,.int .i64 ipd,.int .i64 ttl,.int .i64 port,.int .i64 net,.int .i64 t,.string body]) Tryz.results8 rfl HN.out.range Tryz.underlying41 rfl eH
theorem nv (g0 g1 g2 g3 g4 g5 g6 g7 g8 g9:Int) (body:ByteArray) (w:World) (hb:body.size≤maxLen):
  Calls Tryz.prog 9 #[pkt g0 g1 g2 g3 g4 g5 g6 g7 g8 g9 body] w fun e w'=>e= .returned (.tuple #[if dV g1 g2 g3 g4 g5 g6 g7 body.size=0 then fr g1 g2 g3 g4 g5 g6 g7 body else fr 0 0 0 0 0 0 0 ⟨#[]⟩,.int .i64 (dV g1 g2 g3 g4 g5 g6 g7 body.size)])∧Below w.heap.size w w':=by
 have H1:=aa (fun W=>kf g1 g2 g3 g4 g5 g6 g7 body W hb);generalize dV g1 g2 g3 g4 g5 g6 g7 body.size=E at*;go_enter Tryz.func9,Tryz.ntmps9;go_wp2_with fail
 obtain⟨W0,hW0⟩:∃W0,W0=((w.alloc (.cells #[.int .i64 g0,.int .i64 g1,.int .i64 g2,.int .i64 g3,.int .i64 g4,.int .i64 g5,.int .i64 g6,.int .i64 g7,.int .i64 g8,.int .i64 g9,.string body] 41)).alloc (.cells #[.int .i64 0,.int .i64 0,.int .i64 0,.int .i64 0,.int .i64 0,.int .i64 0,.int .i64 0,.string ⟨#[]⟩] 37)).alloc (.cells #[.int .i64 g1,.int .i64 g2,.int .i64 g3,.int .i64 g4,.int .i64 g5,.int .i64 g6,.int .i64 g7,.string body] 37):=⟨_,rfl⟩;have k0:Below w.heap.size w W0:=by rw [hW0];exact(((Below.refl _ w).alloc zr _).alloc (by simp) _).alloc (by simp;omega) _
 have hz0:W0.heap.size=w.heap.size+1+1+1:=by rw [hW0];simp
 have r0:W0.cell? ⟨w.heap.size+1,0,none⟩=some (.int .i64 0):=by rw [hW0];exact aq (aj _ _ (by simp) _ _ _ _ rfl) _
 have r1:W0.cell? ⟨w.heap.size+1,1,none⟩=some (.int .i64 0):=by rw [hW0];exact aq (aj _ _ (by simp) _ _ _ _ rfl) _
 have r2:W0.cell? ⟨w.heap.size+1,2,none⟩=some (.int .i64 0):=by rw [hW0];exact aq (aj _ _ (by simp) _ _ _ _ rfl) _
 have r3:W0.cell? ⟨w.heap.size+1,3,none⟩=some (.int .i64 0):=by rw [hW0];exact aq (aj _ _ (by simp) _ _ _ _ rfl) _
 have r4:W0.cell? ⟨w.heap.size+1,4,none⟩=some (.int .i64 0):=by rw [hW0];exact aq (aj _ _ (by simp) _ _ _ _ rfl) _
 have r5:W0.cell? ⟨w.heap.size+1,5,none⟩=some (.int .i64 0):=by rw [hW0];exact aq (aj _ _ (by simp) _ _ _ _ rfl) _
 have r6:W0.cell? ⟨w.heap.size+1,6,none⟩=some (.int .i64 0):=by rw [hW0];exact aq (aj _ _ (by simp) _ _ _ _ rfl) _
 have r7:W0.cell? ⟨w.heap.size+1,7,none⟩=some (.string ⟨#[]⟩):=by rw [hW0];exact aq (aj _ _ (by simp) _ _ _ _ rfl) _
 have f0:W0.cell? ⟨w.heap.size+1+1,0,none⟩=some (.int .i64 g1):=by rw [hW0];exact aj _ _ (by simp) _ _ _ _ rfl
 have f1:W0.cell? ⟨w.heap.size+1+1,1,none⟩=some (.int .i64 g2):=by rw [hW0];exact aj _ _ (by simp) _ _ _ _ rfl
 have f2:W0.cell? ⟨w.heap.size+1+1,2,none⟩=some (.int .i64 g3):=by rw [hW0];exact aj _ _ (by simp) _ _ _ _ rfl
 have f3:W0.cell? ⟨w.heap.size+1+1,3,none⟩=some (.int .i64 g4):=by rw [hW0];exact aj _ _ (by simp) _ _ _ _ rfl
 have f4:W0.cell? ⟨w.heap.size+1+1,4,none⟩=some (.int .i64 g5):=by rw [hW0];exact aj _ _ (by simp) _ _ _ _ rfl
 have f5:W0.cell? ⟨w.heap.size+1+1,5,none⟩=some (.int .i64 g6):=by rw [hW0];exact aj _ _ (by simp) _ _ _ _ rfl
 have f6:W0.cell? ⟨w.heap.size+1+1,6,none⟩=some (.int .i64 g7):=by rw [hW0];exact aj _ _ (by simp) _ _ _ _ rfl
 have f7:W0.cell? ⟨w.heap.size+1+1,7,none⟩=some (.string body):=by rw [hW0];exact aj _ _ (by simp) _ _ _ _ rfl
 have z:∀j,W0.frozen? ⟨w.heap.size+1,j,none⟩=false:=fun j=>by rw [hW0];exact mV (by simp) (bZ _ _ (by simp) _ _ _) _
 rw [←hW0];clear hW0;refine(ae H1 _).mono ?_;rintro e w1 ⟨rfl,hb1⟩;have k1:=k0.trans (hb1.mono k0.size);replace⟨r0,r1,r2,r3,r4,r5,r6,r7,f0,f1,f2,f3,f4,f5⟩:=az r0 r1 r2 r3 r4 r5 r6 r7 f0 f1 f2 f3 f4 f5 hb1;replace f6:=zC f6 hb1;replace f7:=zC f7 hb1;replace z:∀j,w1.frozen? ⟨w.heap.size+1,j,none⟩=false:=fun j=>(hb1.frozen (p:=⟨w.heap.size+1,j,none⟩) (by show w.heap.size+1<W0.heap.size;omega)).trans (z j);clear hb1 k0 H1 hz0;by_cases hE:¬E=0
 ·clear f0 f1 f2 f3 f4 f5 f6 f7;go_wp2_with fail
  have hS:((((((((w1.setCell ⟨w.heap.size+1,0,none⟩ (.int .i64 0)).setCell ⟨w.heap.size+1,1,none⟩ (.int .i64 0)).setCell ⟨w.heap.size+1,2,none⟩ (.int .i64 0)).setCell ⟨w.heap.size+1,3,none⟩ (.int .i64 0)).setCell ⟨w.heap.size+1,4,none⟩ (.int .i64 0)).setCell ⟨w.heap.size+1,5,none⟩ (.int .i64 0)).setCell ⟨w.heap.size+1,6,none⟩ (.int .i64 0)).setCell ⟨w.heap.size+1,7,none⟩ (.string ⟨#[]⟩))=w1.setCells (w.heap.size+1) 0 [Value.int .i64 0,.int .i64 0,.int .i64 0,.int .i64 0,.int .i64 0,.int .i64 0,.int .i64 0,.string ⟨#[]⟩]:=rfl;have HB:Hid (Below w.heap.size w ((((((((w1.setCell ⟨w.heap.size+1,0,none⟩ (.int .i64 0)).setCell ⟨w.heap.size+1,1,none⟩ (.int .i64 0)).setCell ⟨w.heap.size+1,2,none⟩ (.int .i64 0)).setCell ⟨w.heap.size+1,3,none⟩ (.int .i64 0)).setCell ⟨w.heap.size+1,4,none⟩ (.int .i64 0)).setCell ⟨w.heap.size+1,5,none⟩ (.int .i64 0)).setCell ⟨w.heap.size+1,6,none⟩ (.int .i64 0)).setCell ⟨w.heap.size+1,7,none⟩ (.string ⟨#[]⟩))):=by rw [hS];exact bv (Nat.le_succ _) _ _ _ (k1)
  have HI:Hid (∀j,j<8→(w1.cell? ⟨w.heap.size+1,j,none⟩).isSome=true):=fun j hj=>by
   have hc:j=0∨j=1∨j=2∨j=3∨j=4∨j=5∨j=6∨j=7:=(by omega);rcases hc with rfl | rfl | rfl | rfl | rfl | rfl | rfl | rfl
   ·rw [r0];rfl
   ·rw [r1];rfl
   ·rw [r2];rfl
   ·rw [r3];rfl
   ·rw [r4];rfl
   ·rw [r5];rfl
   ·rw [r6];rfl
   ·rw [r7];rfl
  have u0:((((((((w1.setCell ⟨w.heap.size+1,0,none⟩ (.int .i64 0)).setCell ⟨w.heap.size+1,1,none⟩ (.int .i64 0)).setCell ⟨w.heap.size+1,2,none⟩ (.int .i64 0)).setCell ⟨w.heap.size+1,3,none⟩ (.int .i64 0)).setCell ⟨w.heap.size+1,4,none⟩ (.int .i64 0)).setCell ⟨w.heap.size+1,5,none⟩ (.int .i64 0)).setCell ⟨w.heap.size+1,6,none⟩ (.int .i64 0)).setCell ⟨w.heap.size+1,7,none⟩ (.string ⟨#[]⟩)).cell? ⟨w.heap.size+1,0,none⟩=some (.int .i64 0):=by rw [hS];exact bS (vs:=[Value.int .i64 0,.int .i64 0,.int .i64 0,.int .i64 0,.int .i64 0,.int .i64 0,.int .i64 0,.string ⟨#[]⟩]) HI.out rfl
  have u1:((((((((w1.setCell ⟨w.heap.size+1,0,none⟩ (.int .i64 0)).setCell ⟨w.heap.size+1,1,none⟩ (.int .i64 0)).setCell ⟨w.heap.size+1,2,none⟩ (.int .i64 0)).setCell ⟨w.heap.size+1,3,none⟩ (.int .i64 0)).setCell ⟨w.heap.size+1,4,none⟩ (.int .i64 0)).setCell ⟨w.heap.size+1,5,none⟩ (.int .i64 0)).setCell ⟨w.heap.size+1,6,none⟩ (.int .i64 0)).setCell ⟨w.heap.size+1,7,none⟩ (.string ⟨#[]⟩)).cell? ⟨w.heap.size+1,1,none⟩=some (.int .i64 0):=by rw [hS];exact bS (vs:=[Value.int .i64 0,.int .i64 0,.int .i64 0,.int .i64 0,.int .i64 0,.int .i64 0,.int .i64 0,.string ⟨#[]⟩]) HI.out rfl
  have u2:((((((((w1.setCell ⟨w.heap.size+1,0,none⟩ (.int .i64 0)).setCell ⟨w.heap.size+1,1,none⟩ (.int .i64 0)).setCell ⟨w.heap.size+1,2,none⟩ (.int .i64 0)).setCell ⟨w.heap.size+1,3,none⟩ (.int .i64 0)).setCell ⟨w.heap.size+1,4,none⟩ (.int .i64 0)).setCell ⟨w.heap.size+1,5,none⟩ (.int .i64 0)).setCell ⟨w.heap.size+1,6,none⟩ (.int .i64 0)).setCell ⟨w.heap.size+1,7,none⟩ (.string ⟨#[]⟩)).cell? ⟨w.heap.size+1,2,none⟩=some (.int .i64 0):=by rw [hS];exact bS (vs:=[Value.int .i64 0,.int .i64 0,.int .i64 0,.int .i64 0,.int .i64 0,.int .i64 0,.int .i64 0,.string ⟨#[]⟩]) HI.out rfl
  have u3:((((((((w1.setCell ⟨w.heap.size+1,0,none⟩ (.int .i64 0)).setCell ⟨w.heap.size+1,1,none⟩ (.int .i64 0)).setCell ⟨w.heap.size+1,2,none⟩ (.int .i64 0)).setCell ⟨w.heap.size+1,3,none⟩ (.int .i64 0)).setCell ⟨w.heap.size+1,4,none⟩ (.int .i64 0)).setCell ⟨w.heap.size+1,5,none⟩ (.int .i64 0)).setCell ⟨w.heap.size+1,6,none⟩ (.int .i64 0)).setCell ⟨w.heap.size+1,7,none⟩ (.string ⟨#[]⟩)).cell? ⟨w.heap.size+1,3,none⟩=some (.int .i64 0):=by rw [hS];exact bS (vs:=[Value.int .i64 0,.int .i64 0,.int .i64 0,.int .i64 0,.int .i64 0,.int .i64 0,.int .i64 0,.string ⟨#[]⟩]) HI.out rfl
  have u4:((((((((w1.setCell ⟨w.heap.size+1,0,none⟩ (.int .i64 0)).setCell ⟨w.heap.size+1,1,none⟩ (.int .i64 0)).setCell ⟨w.heap.size+1,2,none⟩ (.int .i64 0)).setCell ⟨w.heap.size+1,3,none⟩ (.int .i64 0)).setCell ⟨w.heap.size+1,4,none⟩ (.int .i64 0)).setCell ⟨w.heap.size+1,5,none⟩ (.int .i64 0)).setCell ⟨w.heap.size+1,6,none⟩ (.int .i64 0)).setCell ⟨w.heap.size+1,7,none⟩ (.string ⟨#[]⟩)).cell? ⟨w.heap.size+1,4,none⟩=some (.int .i64 0):=by rw [hS];exact bS (vs:=[Value.int .i64 0,.int .i64 0,.int .i64 0,.int .i64 0,.int .i64 0,.int .i64 0,.int .i64 0,.string ⟨#[]⟩]) HI.out rfl
  have u5:((((((((w1.setCell ⟨w.heap.size+1,0,none⟩ (.int .i64 0)).setCell ⟨w.heap.size+1,1,none⟩ (.int .i64 0)).setCell ⟨w.heap.size+1,2,none⟩ (.int .i64 0)).setCell ⟨w.heap.size+1,3,none⟩ (.int .i64 0)).setCell ⟨w.heap.size+1,4,none⟩ (.int .i64 0)).setCell ⟨w.heap.size+1,5,none⟩ (.int .i64 0)).setCell ⟨w.heap.size+1,6,none⟩ (.int .i64 0)).setCell ⟨w.heap.size+1,7,none⟩ (.string ⟨#[]⟩)).cell? ⟨w.heap.size+1,5,none⟩=some (.int .i64 0):=by rw [hS];exact bS (vs:=[Value.int .i64 0,.int .i64 0,.int .i64 0,.int .i64 0,.int .i64 0,.int .i64 0,.int .i64 0,.string ⟨#[]⟩]) HI.out rfl
  have u6:((((((((w1.setCell ⟨w.heap.size+1,0,none⟩ (.int .i64 0)).setCell ⟨w.heap.size+1,1,none⟩ (.int .i64 0)).setCell ⟨w.heap.size+1,2,none⟩ (.int .i64 0)).setCell ⟨w.heap.size+1,3,none⟩ (.int .i64 0)).setCell ⟨w.heap.size+1,4,none⟩ (.int .i64 0)).setCell ⟨w.heap.size+1,5,none⟩ (.int .i64 0)).setCell ⟨w.heap.size+1,6,none⟩ (.int .i64 0)).setCell ⟨w.heap.size+1,7,none⟩ (.string ⟨#[]⟩)).cell? ⟨w.heap.size+1,6,none⟩=some (.int .i64 0):=by rw [hS];exact bS (vs:=[Value.int .i64 0,.int .i64 0,.int .i64 0,.int .i64 0,.int .i64 0,.int .i64 0,.int .i64 0,.string ⟨#[]⟩]) HI.out rfl
  have u7:((((((((w1.setCell ⟨w.heap.size+1,0,none⟩ (.int .i64 0)).setCell ⟨w.heap.size+1,1,none⟩ (.int .i64 0)).setCell ⟨w.heap.size+1,2,none⟩ (.int .i64 0)).setCell ⟨w.heap.size+1,3,none⟩ (.int .i64 0)).setCell ⟨w.heap.size+1,4,none⟩ (.int .i64 0)).setCell ⟨w.heap.size+1,5,none⟩ (.int .i64 0)).setCell ⟨w.heap.size+1,6,none⟩ (.int .i64 0)).setCell ⟨w.heap.size+1,7,none⟩ (.string ⟨#[]⟩)).cell? ⟨w.heap.size+1,7,none⟩=some (.string ⟨#[]⟩):=by rw [hS];exact bS (vs:=[Value.int .i64 0,.int .i64 0,.int .i64 0,.int .i64 0,.int .i64 0,.int .i64 0,.int .i64 0,.string ⟨#[]⟩]) HI.out rfl
  refine bodyPost_ret (v:=.tuple #[.agg #[.int .i64 0,.int .i64 0,.int .i64 0,.int .i64 0,.int .i64 0,.int .i64 0,.int .i64 0,.string ⟨#[]⟩],.int .i64 E]) ?_ rfl ⟨by first | rfl | rw [if_neg hE],HB.out⟩;clear HB HI hS r0 r1 r2 r3 r4 r5 r6 r7;generalize ((((((((w1.setCell ⟨w.heap.size+1,0,none⟩ (.int .i64 0)).setCell ⟨w.heap.size+1,1,none⟩ (.int .i64 0)).setCell ⟨w.heap.size+1,2,none⟩ (.int .i64 0)).setCell ⟨w.heap.size+1,3,none⟩ (.int .i64 0)).setCell ⟨w.heap.size+1,4,none⟩ (.int .i64 0)).setCell ⟨w.heap.size+1,5,none⟩ (.int .i64 0)).setCell ⟨w.heap.size+1,6,none⟩ (.int .i64 0)).setCell ⟨w.heap.size+1,7,none⟩ (.string ⟨#[]⟩))=W at*;simp [results,Tryz.results9,go_sem,u0,u1,u2,u3,u4,u5,u6,u7]
 ·have hE0:E=0:=(by omega);subst hE0;clear hE;go_wp2_with fail
  have hS:((((((((w1.setCell ⟨w.heap.size+1,0,none⟩ (.int .i64 g1)).setCell ⟨w.heap.size+1,1,none⟩ (.int .i64 g2)).setCell ⟨w.heap.size+1,2,none⟩ (.int .i64 g3)).setCell ⟨w.heap.size+1,3,none⟩ (.int .i64 g4)).setCell ⟨w.heap.size+1,4,none⟩ (.int .i64 g5)).setCell ⟨w.heap.size+1,5,none⟩ (.int .i64 g6)).setCell ⟨w.heap.size+1,6,none⟩ (.int .i64 g7)).setCell ⟨w.heap.size+1,7,none⟩ (.string body))=w1.setCells (w.heap.size+1) 0 [Value.int .i64 g1,.int .i64 g2,.int .i64 g3,.int .i64 g4,.int .i64 g5,.int .i64 g6,.int .i64 g7,.string body]:=rfl;have HB:Hid (Below w.heap.size w ((((((((w1.setCell ⟨w.heap.size+1,0,none⟩ (.int .i64 g1)).setCell ⟨w.heap.size+1,1,none⟩ (.int .i64 g2)).setCell ⟨w.heap.size+1,2,none⟩ (.int .i64 g3)).setCell ⟨w.heap.size+1,3,none⟩ (.int .i64 g4)).setCell ⟨w.heap.size+1,4,none⟩ (.int .i64 g5)).setCell ⟨w.heap.size+1,5,none⟩ (.int .i64 g6)).setCell ⟨w.heap.size+1,6,none⟩ (.int .i64 g7)).setCell ⟨w.heap.size+1,7,none⟩ (.string body))):=by rw [hS];exact bv (Nat.le_succ _) _ _ _ (k1)
  have HI:Hid (∀j,j<8→(w1.cell? ⟨w.heap.size+1,j,none⟩).isSome=true):=fun j hj=>by
   have hc:j=0∨j=1∨j=2∨j=3∨j=4∨j=5∨j=6∨j=7:=(by omega);rcases hc with rfl | rfl | rfl | rfl | rfl | rfl | rfl | rfl
   ·rw [r0];rfl
   ·rw [r1];rfl
   ·rw [r2];rfl
   ·rw [r3];rfl
   ·rw [r4];rfl
   ·rw [r5];rfl
   ·rw [r6];rfl
   ·rw [r7];rfl
  have u0:((((((((w1.setCell ⟨w.heap.size+1,0,none⟩ (.int .i64 g1)).setCell ⟨w.heap.size+1,1,none⟩ (.int .i64 g2)).setCell ⟨w.heap.size+1,2,none⟩ (.int .i64 g3)).setCell ⟨w.heap.size+1,3,none⟩ (.int .i64 g4)).setCell ⟨w.heap.size+1,4,none⟩ (.int .i64 g5)).setCell ⟨w.heap.size+1,5,none⟩ (.int .i64 g6)).setCell ⟨w.heap.size+1,6,none⟩ (.int .i64 g7)).setCell ⟨w.heap.size+1,7,none⟩ (.string body)).cell? ⟨w.heap.size+1,0,none⟩=some (.int .i64 g1):=by rw [hS];exact bS (vs:=[Value.int .i64 g1,.int .i64 g2,.int .i64 g3,.int .i64 g4,.int .i64 g5,.int .i64 g6,.int .i64 g7,.string body]) HI.out rfl
  have u1:((((((((w1.setCell ⟨w.heap.size+1,0,none⟩ (.int .i64 g1)).setCell ⟨w.heap.size+1,1,none⟩ (.int .i64 g2)).setCell ⟨w.heap.size+1,2,none⟩ (.int .i64 g3)).setCell ⟨w.heap.size+1,3,none⟩ (.int .i64 g4)).setCell ⟨w.heap.size+1,4,none⟩ (.int .i64 g5)).setCell ⟨w.heap.size+1,5,none⟩ (.int .i64 g6)).setCell ⟨w.heap.size+1,6,none⟩ (.int .i64 g7)).setCell ⟨w.heap.size+1,7,none⟩ (.string body)).cell? ⟨w.heap.size+1,1,none⟩=some (.int .i64 g2):=by rw [hS];exact bS (vs:=[Value.int .i64 g1,.int .i64 g2,.int .i64 g3,.int .i64 g4,.int .i64 g5,.int .i64 g6,.int .i64 g7,.string body]) HI.out rfl
  have u2:((((((((w1.setCell ⟨w.heap.size+1,0,none⟩ (.int .i64 g1)).setCell ⟨w.heap.size+1,1,none⟩ (.int .i64 g2)).setCell ⟨w.heap.size+1,2,none⟩ (.int .i64 g3)).setCell ⟨w.heap.size+1,3,none⟩ (.int .i64 g4)).setCell ⟨w.heap.size+1,4,none⟩ (.int .i64 g5)).setCell ⟨w.heap.size+1,5,none⟩ (.int .i64 g6)).setCell ⟨w.heap.size+1,6,none⟩ (.int .i64 g7)).setCell ⟨w.heap.size+1,7,none⟩ (.string body)).cell? ⟨w.heap.size+1,2,none⟩=some (.int .i64 g3):=by rw [hS];exact bS (vs:=[Value.int .i64 g1,.int .i64 g2,.int .i64 g3,.int .i64 g4,.int .i64 g5,.int .i64 g6,.int .i64 g7,.string body]) HI.out rfl
  have u3:((((((((w1.setCell ⟨w.heap.size+1,0,none⟩ (.int .i64 g1)).setCell ⟨w.heap.size+1,1,none⟩ (.int .i64 g2)).setCell ⟨w.heap.size+1,2,none⟩ (.int .i64 g3)).setCell ⟨w.heap.size+1,3,none⟩ (.int .i64 g4)).setCell ⟨w.heap.size+1,4,none⟩ (.int .i64 g5)).setCell ⟨w.heap.size+1,5,none⟩ (.int .i64 g6)).setCell ⟨w.heap.size+1,6,none⟩ (.int .i64 g7)).setCell ⟨w.heap.size+1,7,none⟩ (.string body)).cell? ⟨w.heap.size+1,3,none⟩=some (.int .i64 g4):=by rw [hS];exact bS (vs:=[Value.int .i64 g1,.int .i64 g2,.int .i64 g3,.int .i64 g4,.int .i64 g5,.int .i64 g6,.int .i64 g7,.string body]) HI.out rfl
  have u4:((((((((w1.setCell ⟨w.heap.size+1,0,none⟩ (.int .i64 g1)).setCell ⟨w.heap.size+1,1,none⟩ (.int .i64 g2)).setCell ⟨w.heap.size+1,2,none⟩ (.int .i64 g3)).setCell ⟨w.heap.size+1,3,none⟩ (.int .i64 g4)).setCell ⟨w.heap.size+1,4,none⟩ (.int .i64 g5)).setCell ⟨w.heap.size+1,5,none⟩ (.int .i64 g6)).setCell ⟨w.heap.size+1,6,none⟩ (.int .i64 g7)).setCell ⟨w.heap.size+1,7,none⟩ (.string body)).cell? ⟨w.heap.size+1,4,none⟩=some (.int .i64 g5):=by rw [hS];exact bS (vs:=[Value.int .i64 g1,.int .i64 g2,.int .i64 g3,.int .i64 g4,.int .i64 g5,.int .i64 g6,.int .i64 g7,.string body]) HI.out rfl
  have u5:((((((((w1.setCell ⟨w.heap.size+1,0,none⟩ (.int .i64 g1)).setCell ⟨w.heap.size+1,1,none⟩ (.int .i64 g2)).setCell ⟨w.heap.size+1,2,none⟩ (.int .i64 g3)).setCell ⟨w.heap.size+1,3,none⟩ (.int .i64 g4)).setCell ⟨w.heap.size+1,4,none⟩ (.int .i64 g5)).setCell ⟨w.heap.size+1,5,none⟩ (.int .i64 g6)).setCell ⟨w.heap.size+1,6,none⟩ (.int .i64 g7)).setCell ⟨w.heap.size+1,7,none⟩ (.string body)).cell? ⟨w.heap.size+1,5,none⟩=some (.int .i64 g6):=by rw [hS];exact bS (vs:=[Value.int .i64 g1,.int .i64 g2,.int .i64 g3,.int .i64 g4,.int .i64 g5,.int .i64 g6,.int .i64 g7,.string body]) HI.out rfl
  have u6:((((((((w1.setCell ⟨w.heap.size+1,0,none⟩ (.int .i64 g1)).setCell ⟨w.heap.size+1,1,none⟩ (.int .i64 g2)).setCell ⟨w.heap.size+1,2,none⟩ (.int .i64 g3)).setCell ⟨w.heap.size+1,3,none⟩ (.int .i64 g4)).setCell ⟨w.heap.size+1,4,none⟩ (.int .i64 g5)).setCell ⟨w.heap.size+1,5,none⟩ (.int .i64 g6)).setCell ⟨w.heap.size+1,6,none⟩ (.int .i64 g7)).setCell ⟨w.heap.size+1,7,none⟩ (.string body)).cell? ⟨w.heap.size+1,6,none⟩=some (.int .i64 g7):=by rw [hS];exact bS (vs:=[Value.int .i64 g1,.int .i64 g2,.int .i64 g3,.int .i64 g4,.int .i64 g5,.int .i64 g6,.int .i64 g7,.string body]) HI.out rfl
  have u7:((((((((w1.setCell ⟨w.heap.size+1,0,none⟩ (.int .i64 g1)).setCell ⟨w.heap.size+1,1,none⟩ (.int .i64 g2)).setCell ⟨w.heap.size+1,2,none⟩ (.int .i64 g3)).setCell ⟨w.heap.size+1,3,none⟩ (.int .i64 g4)).setCell ⟨w.heap.size+1,4,none⟩ (.int .i64 g5)).setCell ⟨w.heap.size+1,5,none⟩ (.int .i64 g6)).setCell ⟨w.heap.size+1,6,none⟩ (.int .i64 g7)).setCell ⟨w.heap.size+1,7,none⟩ (.string body)).cell? ⟨w.heap.size+1,7,none⟩=some (.string body):=by rw [hS];exact bS (vs:=[Value.int .i64 g1,.int .i64 g2,.int .i64 g3,.int .i64 g4,.int .i64 g5,.int .i64 g6,.int .i64 g7,.string body]) HI.out rfl
  refine bodyPost_ret (v:=.tuple #[.agg #[.int .i64 g1,.int .i64 g2,.int .i64 g3,.int .i64 g4,.int .i64 g5,.int .i64 g6,.int .i64 g7,.string body],.int .i64 0]) ?_ rfl ⟨rfl,HB.out⟩;clear HB HI hS r0 r1 r2 r3 r4 r5 r6 r7;generalize ((((((((w1.setCell ⟨w.heap.size+1,0,none⟩ (.int .i64 g1)).setCell ⟨w.heap.size+1,1,none⟩ (.int .i64 g2)).setCell ⟨w.heap.size+1,2,none⟩ (.int .i64 g3)).setCell ⟨w.heap.size+1,3,none⟩ (.int .i64 g4)).setCell ⟨w.heap.size+1,4,none⟩ (.int .i64 g5)).setCell ⟨w.heap.size+1,5,none⟩ (.int .i64 g6)).setCell ⟨w.heap.size+1,6,none⟩ (.int .i64 g7)).setCell ⟨w.heap.size+1,7,none⟩ (.string body))=W at*;simp [results,Tryz.results9,go_sem,u0,u1,u2,u3,u4,u5,u6,u7]
theorem sB (a b c:Int) (w:World):(Op.equalIn 10000 82 (.agg #[.int .i64 a,.int .i64 b,.int .i64 c]) (.agg #[.int .i64 a,.int .i64 b,.int .i64 c])).run Tryz.prog w= .ok true w:=by
 have hS:Tryz.prog.underlying 82=some (.struct (Tryz.prog.fieldsOf 82)):=by kernel_rfl
 have hp:Tryz.prog.stoodInHeld 82=false:=by kernel_rfl
 rw [show(10000:Nat)=9999+1 from rfl,run_equalIn_agg w 9999 82 _ _ hS hp];simp only [Program.fieldsOf,Tryz.underlying82];go_simp
theorem rj:Tryz.prog.eqGuardType Tryz.prog.depth 82=false:=by kernel_rfl
theorem sE (a b c:Int) (w:World):(Op.equalIn 10000 85 (.agg #[.int .i64 a,.int .i64 b,.int .i64 c]) (.agg #[.int .i64 a,.int .i64 b,.int .i64 c])).run Tryz.prog w= .ok true w:=by
 have hS:Tryz.prog.underlying 85=some (.struct (Tryz.prog.fieldsOf 85)):=by kernel_rfl
 have hp:Tryz.prog.stoodInHeld 85=false:=by kernel_rfl
 rw [show(10000:Nat)=9999+1 from rfl,run_equalIn_agg w 9999 85 _ _ hS hp];simp only [Program.fieldsOf,Tryz.underlying85];go_simp
theorem qF:Tryz.prog.eqGuardType Tryz.prog.depth 85=false:=by kernel_rfl
section
open Go.Shelf
def Tryz.sortFl_ren:Go.Shelf.Ren:=⟨fun | 6=>81 | 15=>118 | 14=>117 | 28=>147 | 29=>148 | 20=>139 | 21=>140 | 22=>141 | 23=>142 | 24=>143 | 25=>144 | 26=>145 | 27=>146 | 46=>155 | 47=>156 | 48=>157 | 49=>158 | 50=>159 | 57=>161 | n=>n,fun | 22=>31 | 24=>77 | 25=>87 | 3=>3 | 39=>153 | 0=>0 | 53=>175 | 55=>177 | 4=>4 | 46=>168 | 45=>167 | 50=>172 | 5=>5 | 9=>9 | 66=>180 | 70=>184 | 76=>186 | 77=>187 | n=>n,fun | n=>n⟩
theorem Tryz.sortFl:Go.Proofs.SlLaysF0.n6 Tryz.prog Tryz.sortFl_ren:={
 mixed:=by kernel_rfl
 f6:=⟨Tryz.f81.name,by decide,Tryz.func81.trans (congrArg some (by kernel_rfl))⟩
 f14:=⟨Tryz.f117.name,by decide,Tryz.func117.trans (congrArg some (by kernel_rfl))⟩
 f15:=Tryz.func118.trans (congrArg some (by kernel_rfl))
 f20:=⟨Tryz.f139.name,by decide,Tryz.func139.trans (congrArg some (by kernel_rfl))⟩
 f21:=⟨Tryz.f140.name,by decide,Tryz.func140.trans (congrArg some (by kernel_rfl))⟩
 f22:=⟨Tryz.f141.name,by decide,Tryz.func141.trans (congrArg some (by kernel_rfl))⟩
 f23:=⟨Tryz.f142.name,by decide,Tryz.func142.trans (congrArg some (by kernel_rfl))⟩
 f24:=⟨Tryz.f143.name,by decide,Tryz.func143.trans (congrArg some (by kernel_rfl))⟩
 f25:=⟨Tryz.f144.name,by decide,Tryz.func144.trans (congrArg some (by kernel_rfl))⟩
 f26:=⟨Tryz.f145.name,by decide,Tryz.func145.trans (congrArg some (by kernel_rfl))⟩
 f27:=⟨Tryz.f146.name,by decide,Tryz.func146.trans (congrArg some (by kernel_rfl))⟩
 f28:=Tryz.func147.trans (congrArg some (by kernel_rfl))
 f29:=Tryz.func148.trans (congrArg some (by kernel_rfl))
 f46:=⟨Tryz.f155.name,by decide,Tryz.func155.trans (congrArg some (by kernel_rfl))⟩
 f47:=Tryz.func156.trans (congrArg some (by kernel_rfl))
 f48:=Tryz.func157.trans (congrArg some (by kernel_rfl))
 f49:=⟨Tryz.f158.name,by decide,Tryz.func158.trans (congrArg some (by kernel_rfl))⟩
 f50:=⟨Tryz.f159.name,by decide,Tryz.func159.trans (congrArg some (by kernel_rfl))⟩
 f57:=⟨Tryz.f161.name,by decide,Tryz.func161.trans (congrArg some (by kernel_rfl))⟩
 t0:=Tryz.underlying0
 a0:=Tryz.isAgg0
 z0:=Tryz.sizeOf0
 v0:=Tryz.zeroValue0
 t3:=Tryz.underlying3
 a3:=Tryz.isAgg3
 z3:=Tryz.sizeOf3
 v3:=Tryz.zeroValue3
 t4:=Tryz.underlying4
 a4:=Tryz.isAgg4
 z4:=Tryz.sizeOf4
 v4:=Tryz.zeroValue4
 t5:=Tryz.underlying5
 a5:=Tryz.isAgg5
 z5:=Tryz.sizeOf5
 v5:=Tryz.zeroValue5
 t9:=Tryz.underlying9
 a9:=Tryz.isAgg9
 z9:=Tryz.sizeOf9
 v9:=Tryz.zeroValue9
 t22:=Tryz.underlying31
 a22:=Tryz.isAgg31
 z22:=Tryz.sizeOf31
 v22:=Tryz.zeroValue31
 t25:=Tryz.underlying87
 a25:=Tryz.isAgg87
 z25:=Tryz.sizeOf87
 v25:=Tryz.zeroValue87
 t39:=Tryz.underlying153
 a39:=Tryz.isAgg153
 z39:=Tryz.sizeOf153
 v39:=Tryz.zeroValue153
 t45:=Tryz.underlying167
 a45:=Tryz.isAgg167
 z45:=Tryz.sizeOf167
 v45:=Tryz.zeroValue167
 t46:=Tryz.underlying168
 a46:=Tryz.isAgg168
 z46:=Tryz.sizeOf168
 v46:=Tryz.zeroValue168
 t50:=Tryz.underlying172
 a50:=Tryz.isAgg172
 z50:=Tryz.sizeOf172
 v50:=Tryz.zeroValue172
 t53:=Tryz.underlying175
 a53:=Tryz.isAgg175
 z53:=Tryz.sizeOf175
 v53:=Tryz.zeroValue175
 t55:=Tryz.underlying177
 a55:=Tryz.isAgg177
 z55:=Tryz.sizeOf177
 v55:=Tryz.zeroValue177
 t66:=Tryz.underlying180
 a66:=Tryz.isAgg180
 z66:=Tryz.sizeOf180
 v66:=Tryz.zeroValue180
 t70:=Tryz.underlying184
 a70:=Tryz.isAgg184
 z70:=Tryz.sizeOf184
 v70:=Tryz.zeroValue184
 t76:=Tryz.underlying186
 a76:=Tryz.isAgg186
 z76:=Tryz.sizeOf186
 v76:=Tryz.zeroValue186
 t77:=Tryz.underlying187
 a77:=Tryz.isAgg187
 z77:=Tryz.sizeOf187
 v77:=Tryz.zeroValue187}
end
theorem mt (xt xp yt yp:Int) (xa ya xb yb:Option Addr) (xm xc ym yc xd xe yd ye:Nat) (w:World):
  Calls Tryz.prog 69 #[.agg #[.int .i64 xt,.int .i64 xp,.slice xa xm xc,.slice xb xd xe],.agg #[.int .i64 yt,.int .i64 yp,.slice ya ym yc,.slice yb yd ye]] w fun e w'=>e= .returned (.int .i64 (aL xt yt))∧Grw w w':=by
 have H0:=aa (fun W=>co (xt) (yt) W);generalize aL xt yt=R at H0⊢;go_enter Tryz.func69,Tryz.ntmps69;go_wp2_with fail
 refine(ae H0 _).mono ?_;rintro e w1 ⟨rfl,rfl⟩;go_wp2_with fail
 go_ret;exact⟨rfl,((Grw.refl w).alloc _).alloc _⟩
theorem lu (xt xp yt yp:Int) (xa ya xb yb:Option Addr) (xm xc ym yc xd xe yd ye:Nat) (w:World):
  Calls Tryz.prog 71 #[.agg #[.int .i64 xt,.int .i64 xp,.slice xa xm xc,.slice xb xd xe],.agg #[.int .i64 yt,.int .i64 yp,.slice ya ym yc,.slice yb yd ye]] w fun e w'=>e= .returned (.int .i64 (aL yp xp))∧Grw w w':=by
 have H0:=aa (fun W=>co (yp) (xp) W);generalize aL yp xp=R at H0⊢;go_enter Tryz.func71,Tryz.ntmps71;go_wp2_with fail
 refine(ae H0 _).mono ?_;rintro e w1 ⟨rfl,rfl⟩;go_wp2_with fail
 go_ret;exact⟨rfl,((Grw.refl w).alloc _).alloc _⟩
theorem lI (xt xp yt yp:Int) (xa ya xb yb:Option Addr) (xm xc ym yc xd xe yd ye:Nat) (w:World):
  Calls Tryz.prog 72 #[.agg #[.int .i64 xt,.int .i64 xp,.slice xa xm xc,.slice xb xd xe],.agg #[.int .i64 yt,.int .i64 yp,.slice ya ym yc,.slice yb yd ye]] w fun e w'=>e= .returned (.int .i64 (aL (xm:Int) (ym:Int)))∧Grw w w':=by
 have H0:=aa (fun W=>co ((xm:Int)) ((ym:Int)) W);generalize aL (xm:Int) (ym:Int)=R at H0⊢;go_enter Tryz.func72,Tryz.ntmps72;go_wp2_with fail
 refine(ae H0 _).mono ?_;rintro e w1 ⟨rfl,rfl⟩;go_wp2_with fail
 go_ret;exact⟨rfl,((Grw.refl w).alloc _).alloc _⟩
theorem lK (xt xp yt yp:Int) (xa ya xb yb:Option Addr) (xm xc ym yc xd xe yd ye:Nat) (w:World):
  Calls Tryz.prog 73 #[.agg #[.int .i64 xt,.int .i64 xp,.slice xa xm xc,.slice xb xd xe],.agg #[.int .i64 yt,.int .i64 yp,.slice ya ym yc,.slice yb yd ye]] w fun e w'=>e= .returned (.int .i64 (aL (xd:Int) (yd:Int)))∧Grw w w':=by
 have H0:=aa (fun W=>co ((xd:Int)) ((yd:Int)) W);generalize aL (xd:Int) (yd:Int)=R at H0⊢;go_enter Tryz.func73,Tryz.ntmps73;go_wp2_with fail
 refine(ae H0 _).mono ?_;rintro e w1 ⟨rfl,rfl⟩;go_wp2_with fail
 go_ret;exact⟨rfl,((Grw.refl w).alloc _).alloc _⟩
theorem lN (x y:Fl) (xa ya xb yb:Option Addr) (xc yc xe ye:Nat) (w:World) (hx:MsAt w (.slice xa x.ms.length xc) x.ms) (hy:MsAt w (.slice ya y.ms.length yc) y.ms) (hl:x.ms.length≤2000000) (hl2:y.ms.length≤2000000):
  Calls Tryz.prog 74 #[.agg #[.int .i64 x.t,.int .i64 x.p,.slice xa x.ms.length xc,.slice xb x.ds.length xe],.agg #[.int .i64 y.t,.int .i64 y.p,.slice ya y.ms.length yc,.slice yb y.ds.length ye]] w fun e w'=>e= .returned (.int .i64 (dF x.ms y.ms))∧Grw w w':=by
 have HX:=aa hx;have HY:=aa hy;have HC:Hid (∀W:World,Below w.heap.size w W→Calls Tryz.prog 75 #[.slice xa x.ms.length xc,.slice ya y.ms.length yc,.func (.func 76) #[] #[]] W fun e w'=>e= .returned (.int .i64 (dF x.ms y.ms))∧Grw W w'):=fun W hW=>gj _ _ _ _ W (HX.out.below hW zr) (HY.out.below hW zr) hl hl2;clear hx hy HX HY;generalize dF x.ms y.ms=R at HC⊢;have hA:Grw w ((w.alloc (.cells #[.int .i64 x.t,.int .i64 x.p,.slice xa x.ms.length xc,.slice xb x.ds.length xe] 77)).alloc (.cells #[.int .i64 y.t,.int .i64 y.p,.slice ya y.ms.length yc,.slice yb y.ds.length ye] 77)):=((Grw.refl w).alloc _).alloc _;go_enter Tryz.func74,Tryz.ntmps74;go_wp2_with fail
 refine(ae HC _ hA.below).mono ?_;rintro e w1 ⟨rfl,hg1⟩;have hg:=hA.trans hg1;go_wp2_with fail
 go_ret;exact⟨rfl,hg⟩
theorem lU (x y:Fl) (xa ya xb yb:Option Addr) (xc yc xe ye:Nat) (w:World) (hx:DsAt w (.slice xb x.ds.length xe) x.ds) (hy:DsAt w (.slice yb y.ds.length ye) y.ds) (hl:x.ds.length≤2000000) (hl2:y.ds.length≤2000000):
  Calls Tryz.prog 77 #[.agg #[.int .i64 x.t,.int .i64 x.p,.slice xa x.ms.length xc,.slice xb x.ds.length xe],.agg #[.int .i64 y.t,.int .i64 y.p,.slice ya y.ms.length yc,.slice yb y.ds.length ye]] w fun e w'=>e= .returned (.int .i64 (fa x.ds y.ds))∧Grw w w':=by
 have HX:=aa hx;have HY:=aa hy;have HC:Hid (∀W:World,Below w.heap.size w W→Calls Tryz.prog 78 #[.slice xb x.ds.length xe,.slice yb y.ds.length ye,.func (.func 79) #[] #[]] W fun e w'=>e= .returned (.int .i64 (fa x.ds y.ds))∧Grw W w'):=fun W hW=>gu _ _ _ _ W (HX.out.below hW zr) (HY.out.below hW zr) hl hl2;clear hx hy HX HY;generalize fa x.ds y.ds=R at HC⊢;have hA:Grw w ((w.alloc (.cells #[.int .i64 x.t,.int .i64 x.p,.slice xa x.ms.length xc,.slice xb x.ds.length xe] 77)).alloc (.cells #[.int .i64 y.t,.int .i64 y.p,.slice ya y.ms.length yc,.slice yb y.ds.length ye] 77)):=((Grw.refl w).alloc _).alloc _;go_enter Tryz.func77,Tryz.ntmps77;go_wp2_with fail
 refine(ae HC _ hA.below).mono ?_;rintro e w1 ⟨rfl,hg1⟩;have hg:=hA.trans hg1;go_wp2_with fail
 go_ret;exact⟨rfl,hg⟩
def OrdAt (w:World) (g:Nat):Prop:=∃q,w.cell? ⟨g,0,none⟩=some (.slice (some ⟨q,0,none⟩) 6 6)∧w.cell? ⟨q,0,none⟩=some (.func (.func 69) #[] #[])∧w.cell? ⟨q,1,none⟩=some (.func (.func 71) #[] #[])∧w.cell? ⟨q,2,none⟩=some (.func (.func 72) #[] #[])
 ∧w.cell? ⟨q,3,none⟩=some (.func (.func 73) #[] #[])∧w.cell? ⟨q,4,none⟩=some (.func (.func 74) #[] #[])∧w.cell? ⟨q,5,none⟩=some (.func (.func 77) #[] #[])
theorem OrdAt.below {w w':World} {g:Nat} (h:OrdAt w g) (hb:Below w.heap.size w w'):OrdAt w' g:=by
 obtain⟨q,h0,h1,h2,h3,h4,h5,h6⟩:=h;exact⟨q,ag h0 hb zr,ag h1 hb zr,ag h2 hb zr,ag h3 hb zr,ag h4 hb zr,ag h5 hb zr,ag h6 hb zr⟩
def oB (x y:Fl):Int:=
 if aL x.t y.t≠0 then aL x.t y.t else if aL y.p x.p≠0 then aL y.p x.p else if aL (x.ms.length:Int) (y.ms.length:Int)≠0 then aL (x.ms.length:Int) (y.ms.length:Int)else
 if aL (x.ds.length:Int) (y.ds.length:Int)≠0 then aL (x.ds.length:Int) (y.ds.length:Int)else if dF x.ms y.ms≠0 then dF x.ms y.ms else fa x.ds y.ds
theorem ke (x y:Fl) (xa ya xb yb:Option Addr) (xc yc xe ye g:Nat) (w:World) (hO:OrdAt w g) (h1:MsAt w (.slice xa x.ms.length xc) x.ms) (h2:DsAt w (.slice xb x.ds.length xe) x.ds) (h3:MsAt w (.slice ya y.ms.length yc) y.ms) (h4:DsAt w (.slice yb y.ds.length ye) y.ds)
  (l1:x.ms.length≤2000000) (l2:x.ds.length≤2000000) (l3:y.ms.length≤2000000) (l4:y.ds.length≤2000000):
  Calls Tryz.prog 114 #[.agg #[.int .i64 x.t,.int .i64 x.p,.slice xa x.ms.length xc,.slice xb x.ds.length xe],.agg #[.int .i64 y.t,.int .i64 y.p,.slice ya y.ms.length yc,.slice yb y.ds.length ye],.pointer (some ⟨g,0,none⟩)] w fun e w'=>e= .returned (.int .i64 (oB x y))∧Grw w w':=by
 have K1:=aa (fun W=>mt x.t x.p y.t y.p xa ya xb yb x.ms.length xc y.ms.length yc x.ds.length xe y.ds.length ye W);have K2:=aa (fun W=>lu x.t x.p y.t y.p xa ya xb yb x.ms.length xc y.ms.length yc x.ds.length xe y.ds.length ye W);have K3:=aa (fun W=>lI x.t x.p y.t y.p xa ya xb yb x.ms.length xc y.ms.length yc x.ds.length xe y.ds.length ye W);have K4:=aa (fun W=>lK x.t x.p y.t y.p xa ya xb yb x.ms.length xc y.ms.length yc x.ds.length xe y.ds.length ye W);have K5:=aa (fun W (hW:Below w.heap.size w W)=>lN x y xa ya xb yb xc yc xe ye W (h1.below hW zr) (h3.below hW zr) l1 l3);have K6:=aa (fun W (hW:Below w.heap.size w W)=>lU x y xa ya xb yb xc yc xe ye W (h2.below hW zr) (h4.below hW zr) l2 l4);clear h1 h2 h3 h4;have HO:Hid (oB x y=if aL x.t y.t≠0 then aL x.t y.t else if aL y.p x.p≠0 then aL y.p x.p else if aL (x.ms.length:Int) (y.ms.length:Int)≠0 then aL (x.ms.length:Int) (y.ms.length:Int)else
  if aL (x.ds.length:Int) (y.ds.length:Int)≠0 then aL (x.ds.length:Int) (y.ds.length:Int)else if dF x.ms y.ms≠0 then dF x.ms y.ms else fa x.ds y.ds):=rfl
 generalize oB x y=R at*;generalize aL x.t y.t=r1 at*;generalize aL y.p x.p=r2 at*;generalize aL (x.ms.length:Int) (y.ms.length:Int)=r3 at*;generalize aL (x.ds.length:Int) (y.ds.length:Int)=r4 at*;generalize dF x.ms y.ms=r5 at*;generalize fa x.ds y.ds=r6 at*;obtain⟨q,o0,o1,o2,o3,o4,o5,o6⟩:=hO;have hgl:=bs o0;have hql:=bs o1;go_enter Tryz.func114,Tryz.ntmps114;go_wp2_with fail
 obtain⟨W1,hW1⟩:∃W1,W1=(w.alloc (.cells #[.int .i64 x.t,.int .i64 x.p,.slice xa x.ms.length xc,.slice xb x.ds.length xe] 77)).alloc (.cells #[.int .i64 y.t,.int .i64 y.p,.slice ya y.ms.length yc,.slice yb y.ds.length ye] 77):=⟨_,rfl⟩;have hgW:Grw w W1:=by rw [hW1];exact((Grw.refl w).alloc _).alloc _
 have hbW:=hgW.below;have b0:W1.cell? ⟨w.heap.size,0,none⟩=some (.int .i64 x.t):=by rw [hW1];simp
 have b1:W1.cell? ⟨w.heap.size,1,none⟩=some (.int .i64 x.p):=by rw [hW1];simp
 have b2:W1.cell? ⟨w.heap.size,2,none⟩=some (.slice xa x.ms.length xc):=by rw [hW1];simp
 have b3:W1.cell? ⟨w.heap.size,3,none⟩=some (.slice xb x.ds.length xe):=by rw [hW1];simp
 have d0:W1.cell? ⟨w.heap.size+1,0,none⟩=some (.int .i64 y.t):=by
  rw [hW1];have e:w.heap.size+1=(w.alloc (.cells #[.int .i64 x.t,.int .i64 x.p,.slice xa x.ms.length xc,.slice xb x.ds.length xe] 77)).heap.size:=(by simp);rw [e];simp
 have d1:W1.cell? ⟨w.heap.size+1,1,none⟩=some (.int .i64 y.p):=by
  rw [hW1];have e:w.heap.size+1=(w.alloc (.cells #[.int .i64 x.t,.int .i64 x.p,.slice xa x.ms.length xc,.slice xb x.ds.length xe] 77)).heap.size:=(by simp);rw [e];simp
 have d2:W1.cell? ⟨w.heap.size+1,2,none⟩=some (.slice ya y.ms.length yc):=by
  rw [hW1];have e:w.heap.size+1=(w.alloc (.cells #[.int .i64 x.t,.int .i64 x.p,.slice xa x.ms.length xc,.slice xb x.ds.length xe] 77)).heap.size:=(by simp);rw [e];simp
 have d3:W1.cell? ⟨w.heap.size+1,3,none⟩=some (.slice yb y.ds.length ye):=by
  rw [hW1];have e:w.heap.size+1=(w.alloc (.cells #[.int .i64 x.t,.int .i64 x.p,.slice xa x.ms.length xc,.slice xb x.ds.length xe] 77)).heap.size:=(by simp);rw [e];simp
 replace o1:=ag o1 hbW zr;replace o2:=ag o2 hbW zr;replace o3:=ag o3 hbW zr;replace o4:=ag o4 hbW zr;replace o5:=ag o5 hbW zr;replace o6:=ag o6 hbW zr;rw [←hW1];clear hW1 o0;go_loopw [11] (fun i wr=>∃k:Nat,k≤6∧i= .int .i64 k∧Hid ((1≤k→r1=0)∧(2≤k→r2=0)∧(3≤k→r3=0)∧(4≤k→r4=0)∧(5≤k→r5=0)∧(6≤k→r6=0))∧Grw W1 wr) (fun i _=>6-(intOf i).toNat)
 case atStart=>exact⟨0,by omega,rfl,aa ⟨fun h=>absurd h (by omega),fun h=>absurd h (by omega),fun h=>absurd h (by omega),fun h=>absurd h (by omega),fun h=>absurd h (by omega),fun h=>absurd h (by omega)⟩,Grw.refl _⟩
 case round=>
  obtain⟨k,hk,rfl,HZ,hgr⟩:=hrel;have hbr:=hgr.below;have hgw:=hgW.trans hgr;have hbw:=hgw.below;replace b0:=ag b0 hbr zr;replace b1:=ag b1 hbr zr;replace b2:=ag b2 hbr zr;replace b3:=ag b3 hbr zr;replace d0:=ag d0 hbr zr;replace d1:=ag d1 hbr zr;replace d2:=ag d2 hbr zr;replace d3:=ag d3 hbr zr;replace o1:=ag o1 hbr zr;replace o2:=ag o2 hbr zr;replace o3:=ag o3 hbr zr;replace o4:=ag o4 hbr zr;replace o5:=ag o5 hbr zr;replace o6:=ag o6 hbr zr;have hc:k=0∨k=1∨k=2∨k=3∨k=4∨k=5∨k=6:=(by omega);rcases hc with rfl | rfl | rfl | rfl | rfl | rfl | rfl
  ·go_wp2_with fail
   refine(ae K1 _).mono ?_;rintro e w1 ⟨rfl,hg1⟩;have hg2:=hgr.trans hg1;have hg3:=hgw.trans hg1;by_cases hr:r1=0
   ·have HZ2:Hid ((1≤1→r1=0)∧(2≤1→r2=0)∧(3≤1→r3=0)∧(4≤1→r4=0)∧(5≤1→r5=0)∧(6≤1→r6=0)):=by
     obtain⟨z1,z2,z3,z4,z5,z6⟩:=HZ.out;exact aa ⟨fun _=>hr,fun h=>absurd h (by omega),fun h=>absurd h (by omega),fun h=>absurd h (by omega),fun h=>absurd h (by omega),fun h=>absurd h (by omega)⟩
    rw [hr];clear HZ;go_wp2_with fail
    go_roundw
    case rel=>exact⟨1,by omega,rfl,HZ2,hg2⟩
    case measure=>simp [intOf]
   ·have HV:Hid (R=r1):=by
     obtain⟨z1,z2,z3,z4,z5,z6⟩:=HZ.out;show _=_;rw [HO.out,if_pos hr]
    clear HZ;go_wp2_with fail
    go_ret;exact⟨ap HV.out.symm,hg3⟩
  ·go_wp2_with fail
   refine(ae K2 _).mono ?_;rintro e w1 ⟨rfl,hg1⟩;have hg2:=hgr.trans hg1;have hg3:=hgw.trans hg1;by_cases hr:r2=0
   ·have HZ2:Hid ((1≤2→r1=0)∧(2≤2→r2=0)∧(3≤2→r3=0)∧(4≤2→r4=0)∧(5≤2→r5=0)∧(6≤2→r6=0)):=by
     obtain⟨z1,z2,z3,z4,z5,z6⟩:=HZ.out;exact aa ⟨fun _=>z1 (by omega),fun _=>hr,fun h=>absurd h (by omega),fun h=>absurd h (by omega),fun h=>absurd h (by omega),fun h=>absurd h (by omega)⟩
    rw [hr];clear HZ;go_wp2_with fail
    go_roundw
    case rel=>exact⟨2,by omega,rfl,HZ2,hg2⟩
    case measure=>simp [intOf]
   ·have HV:Hid (R=r2):=by
     obtain⟨z1,z2,z3,z4,z5,z6⟩:=HZ.out;show _=_;rw [HO.out,if_neg (fun h=>h (z1 (by omega))),if_pos hr]
    clear HZ;go_wp2_with fail
    go_ret;exact⟨ap HV.out.symm,hg3⟩
  ·go_wp2_with fail
   refine(ae K3 _).mono ?_;rintro e w1 ⟨rfl,hg1⟩;have hg2:=hgr.trans hg1;have hg3:=hgw.trans hg1;by_cases hr:r3=0
   ·have HZ2:Hid ((1≤3→r1=0)∧(2≤3→r2=0)∧(3≤3→r3=0)∧(4≤3→r4=0)∧(5≤3→r5=0)∧(6≤3→r6=0)):=by
     obtain⟨z1,z2,z3,z4,z5,z6⟩:=HZ.out;exact aa ⟨fun _=>z1 (by omega),fun _=>z2 (by omega),fun _=>hr,fun h=>absurd h (by omega),fun h=>absurd h (by omega),fun h=>absurd h (by omega)⟩
    rw [hr];clear HZ;go_wp2_with fail
    go_roundw
    case rel=>exact⟨3,by omega,rfl,HZ2,hg2⟩
    case measure=>simp [intOf]
   ·have HV:Hid (R=r3):=by
     obtain⟨z1,z2,z3,z4,z5,z6⟩:=HZ.out;show _=_;rw [HO.out,if_neg (fun h=>h (z1 (by omega))),if_neg (fun h=>h (z2 (by omega))),if_pos hr]
    clear HZ;go_wp2_with fail
    go_ret;exact⟨ap HV.out.symm,hg3⟩
  ·go_wp2_with fail
   refine(ae K4 _).mono ?_;rintro e w1 ⟨rfl,hg1⟩;have hg2:=hgr.trans hg1;have hg3:=hgw.trans hg1;by_cases hr:r4=0
   ·have HZ2:Hid ((1≤4→r1=0)∧(2≤4→r2=0)∧(3≤4→r3=0)∧(4≤4→r4=0)∧(5≤4→r5=0)∧(6≤4→r6=0)):=by
     obtain⟨z1,z2,z3,z4,z5,z6⟩:=HZ.out;exact aa ⟨fun _=>z1 (by omega),fun _=>z2 (by omega),fun _=>z3 (by omega),fun _=>hr,fun h=>absurd h (by omega),fun h=>absurd h (by omega)⟩
    rw [hr];clear HZ;go_wp2_with fail
    go_roundw
    case rel=>exact⟨4,by omega,rfl,HZ2,hg2⟩
    case measure=>simp [intOf]
   ·have HV:Hid (R=r4):=by
     obtain⟨z1,z2,z3,z4,z5,z6⟩:=HZ.out;show _=_;rw [HO.out,if_neg (fun h=>h (z1 (by omega))),if_neg (fun h=>h (z2 (by omega))),if_neg (fun h=>h (z3 (by omega))),if_pos hr]
    clear HZ;go_wp2_with fail
    go_ret;exact⟨ap HV.out.symm,hg3⟩
  ·go_wp2_with fail
   refine(ae K5 _ hbw).mono ?_;rintro e w1 ⟨rfl,hg1⟩;have hg2:=hgr.trans hg1;have hg3:=hgw.trans hg1;by_cases hr:r5=0
   ·have HZ2:Hid ((1≤5→r1=0)∧(2≤5→r2=0)∧(3≤5→r3=0)∧(4≤5→r4=0)∧(5≤5→r5=0)∧(6≤5→r6=0)):=by
     obtain⟨z1,z2,z3,z4,z5,z6⟩:=HZ.out;exact aa ⟨fun _=>z1 (by omega),fun _=>z2 (by omega),fun _=>z3 (by omega),fun _=>z4 (by omega),fun _=>hr,fun h=>absurd h (by omega)⟩
    rw [hr];clear HZ;go_wp2_with fail
    go_roundw
    case rel=>exact⟨5,by omega,rfl,HZ2,hg2⟩
    case measure=>simp [intOf]
   ·have HV:Hid (R=r5):=by
     obtain⟨z1,z2,z3,z4,z5,z6⟩:=HZ.out;show _=_;rw [HO.out,if_neg (fun h=>h (z1 (by omega))),if_neg (fun h=>h (z2 (by omega))),if_neg (fun h=>h (z3 (by omega))),if_neg (fun h=>h (z4 (by omega))),if_pos hr]
    clear HZ;go_wp2_with fail
    go_ret;exact⟨ap HV.out.symm,hg3⟩
  ·go_wp2_with fail
   refine(ae K6 _ hbw).mono ?_;rintro e w1 ⟨rfl,hg1⟩;have hg2:=hgr.trans hg1;have hg3:=hgw.trans hg1;by_cases hr:r6=0
   ·have HZ2:Hid ((1≤6→r1=0)∧(2≤6→r2=0)∧(3≤6→r3=0)∧(4≤6→r4=0)∧(5≤6→r5=0)∧(6≤6→r6=0)):=by
     obtain⟨z1,z2,z3,z4,z5,z6⟩:=HZ.out;exact aa ⟨fun _=>z1 (by omega),fun _=>z2 (by omega),fun _=>z3 (by omega),fun _=>z4 (by omega),fun _=>z5 (by omega),fun _=>hr⟩
    rw [hr];clear HZ;go_wp2_with fail
    go_roundw
    case rel=>exact⟨6,by omega,rfl,HZ2,hg2⟩
    case measure=>simp [intOf]
   ·have HV:Hid (R=r6):=by
     obtain⟨z1,z2,z3,z4,z5,z6⟩:=HZ.out;show _=_;rw [HO.out,if_neg (fun h=>h (z1 (by omega))),if_neg (fun h=>h (z2 (by omega))),if_neg (fun h=>h (z3 (by omega))),if_neg (fun h=>h (z4 (by omega))),if_neg (fun h=>h (z5 (by omega)))]
    clear HZ;go_wp2_with fail
    go_ret;exact⟨ap HV.out.symm,hg3⟩
  ·have HV:Hid (R=0):=by
    obtain⟨z1,z2,z3,z4,z5,z6⟩:=HZ.out;show _=_;rw [HO.out,if_neg (fun h=>h (z1 (by omega))),if_neg (fun h=>h (z2 (by omega))),if_neg (fun h=>h (z3 (by omega))),if_neg (fun h=>h (z4 (by omega))),if_neg (fun h=>h (z5 (by omega))),z6 (by omega)]
   clear HZ;go_wp2_with fail
   go_ret;exact⟨ap HV.out.symm,hgw⟩
def key (a:Fl):List Int:=[a.t, -a.p,(a.ms.length:Int),(a.ds.length:Int)]++fm a.ms++fd a.ds
theorem gw:ee [] []=0:=rfl
theorem dj (b:Int) (y:List Int):ee [] (b::y)<0:=by simp [ee]
theorem cm (a:Int) (x:List Int):0<ee (a::x) []:=by simp [ee]
theorem bA (a b:Int) (x y:List Int):ee (a::x) (b::y)=if a<b then-1 else if b<a then 1 else ee x y:=rfl
theorem ki:∀x y:List Int,ee x y=0→x=y
 | [],[],_=>rfl
 | [],b::y,h=>by have:=dj b y;omega
 | a::x,[],h=>by have:=cm a x;omega
 | a::x,b::y,h=>by
  rw [bA]at h;split at h
  ·omega
  ·split at h
   ·omega
   ·rw [ki x y h,show a=b by omega]
theorem j7:∀x:List Int,ee x x=0
 | []=>rfl
 | a::x=>by rw [bA,if_neg (by omega),if_neg (by omega)];exact j7 x
theorem jV:∀x y:List Int,ee x y<0↔0<ee y x
 | [],[]=>by simp [gw]
 | [],b::y=>by have:=dj b y;have:=cm b y;omega
 | a::x,[]=>by have:=dj a x;have:=cm a x;omega
 | a::x,b::y=>by
  have ih:=jV x y;rw [bA,bA];split <;>split <;>(try split) <;>first | omega | exact ih
theorem jc:∀x y z:List Int,ee x y<0→ee y z<0→ee x z<0
 | [],[],z,h,_=>by simp [gw]at h
 | [],b::y,[],_,h=>by have:=cm b y;omega
 | [],b::y,c::z,_,_=>dj c z
 | a::x,[],z,h,_=>by have:=cm a x;omega
 | a::x,b::y,[],_,h=>by have:=cm b y;omega
 | a::x,b::y,c::z,h1,h2=>by
  have ih:=jc x y z;rw [bA]at h1 h2⊢;split at h1 <;>split at h2 <;>(try split at h1) <;>(try split at h2) <;>split <;>(try split) <;>first | omega | exact ih h1 h2 |(exfalso;omega)
theorem gl (a b:Fl):plc a b=ee (key a) (key b):=by
 unfold plc rQ key;simp only [List.cons_append,List.nil_append];simp only [bA];have h1:(b.p<a.p)↔(-a.p< -b.p):=by omega
 have h2:(a.p<b.p)↔(-b.p< -a.p):=by omega
 simp only [h1,h2]
theorem pJ:∀x y:List Mt,fm x=fm y→x=y
 | [],[],_=>rfl
 | [],y::ys,h=>by simp [fm]at h
 | x::xs,[],h=>by simp [fm]at h
 | x::xs,y::ys,h=>by
  obtain⟨a,b,c⟩:=x;obtain⟨a',b',c'⟩:=y;have h':a=a'∧b=b'∧c=c'∧fm xs=fm ys:=(by simpa [fm] using h);obtain⟨rfl,rfl,rfl,h4⟩:=h';rw [pJ xs ys h4]
theorem p9:∀x y:List Do,fd x=fd y→x=y
 | [],[],_=>rfl
 | [],y::ys,h=>by simp [fd]at h
 | x::xs,[],h=>by simp [fd]at h
 | x::xs,y::ys,h=>by
  obtain⟨a,b,c⟩:=x;obtain⟨a',b',c'⟩:=y;have h':a=a'∧b=b'∧c=c'∧fd xs=fd ys:=(by simpa [fd] using h);obtain⟨rfl,rfl,rfl,h4⟩:=h';rw [p9 xs ys h4]
theorem qC (a b:Fl) (h:key a=key b):a=b:=by
 obtain⟨t,p,ms,ds⟩:=a;obtain⟨t',p',ms',ds'⟩:=b;unfold key at h;simp only [List.cons_append,List.nil_append,List.cons.injEq]at h;obtain⟨rfl,h2,h3,h4,h5⟩:=h;have hl:(fm ms).length=(fm ms').length:=by rw [j6,j6];omega
 obtain⟨h6,h7⟩:=List.append_inj h5 hl;rw [pJ _ _ h6,p9 _ _ h7,show p=p' by omega]
theorem fl {a b:Fl} (h:plc a b=0):a=b:=qC a b (ki _ _ (by rw [←gl];exact h))
theorem ff (a:Fl):plc a a=0:=by rw [gl];exact j7 _
theorem eB (a b:Fl):plc a b<0↔0<plc b a:=by rw [gl,gl];exact jV _ _
theorem gU {a b c:Fl} (h1:plc a b<0) (h2:plc b c<0):plc a c<0:=by rw [gl]at*;exact jc _ _ _ h1 h2
theorem mg (a b c a' b' c':Int) (x y:List Int):ee (a::b::c::x) (a'::b'::c'::y)=if or3 (aL a a') (aL b b') (aL c c')≠0 then or3 (aL a a') (aL b b') (aL c c')else ee x y:=by
 rw [bA,bA,bA];unfold or3 aL;split
 ·simp
 ·split
  ·simp
  ·split
   ·simp
   ·split
    ·simp
    ·split
     ·simp
     ·split
      ·simp
      ·simp
theorem nH:∀(xs ys:List Mt) (u v:List Int),xs.length=ys.length→ee (fm xs++u) (fm ys++v)=if dF xs ys≠0 then dF xs ys else ee u v
 | [],[],u,v,_=>by simp [fm,dF]
 | [],_::_,_,_,h=>by simp at h
 | _::_,[],_,_,h=>by simp at h
 | x::xs,y::ys,u,v,h=>by
  have ih:=nH xs ys u v (by simpa using h);have e1:fm (x::xs)++u=x.f::x.m::x.v::(fm xs++u):=(by simp [fm]);have e2:fm (y::ys)++v=y.f::y.m::y.v::(fm ys++v):=(by simp [fm]);have e3:dF (x::xs) (y::ys)=if or3 (aL x.f y.f) (aL x.m y.m) (aL x.v y.v)≠0 then or3 (aL x.f y.f) (aL x.m y.m) (aL x.v y.v)else dF xs ys:=rfl;rw [e1,e2,mg,ih,e3];by_cases h0:or3 (aL x.f y.f) (aL x.m y.m) (aL x.v y.v)=0
  ·simp [h0]
  ·simp [h0]
theorem nX:∀(xs ys:List Do),xs.length=ys.length→ee (fd xs) (fd ys)=fa xs ys
 | [],[],_=>rfl
 | [],_::_,h=>by simp at h
 | _::_,[],h=>by simp at h
 | x::xs,y::ys,h=>by
  have ih:=nX xs ys (by simpa using h);have e1:fd (x::xs)=x.k::x.a::x.n::fd xs:=(by simp [fd]);have e2:fd (y::ys)=y.k::y.a::y.n::fd ys:=(by simp [fd]);rw [e1,e2,mg,ih];rfl
theorem lW (a b:Fl):oB a b=plc a b:=by
 unfold plc rQ oB;simp only [List.cons_append,List.nil_append];rw [bA,bA,bA,bA];unfold aL;by_cases h1:a.t<b.t
 ·simp [h1]
 ·by_cases h2:b.t<a.t
  ·simp [h1,h2]
  ·by_cases h3:b.p<a.p
   ·simp [h1,h2,h3]
   ·by_cases h4:a.p<b.p
    ·simp [h1,h2,h3,h4]
    ·by_cases h5:(a.ms.length:Int)<b.ms.length
     ·simp [h1,h2,h3,h4];simp at h5;simp [h5]
     ·by_cases h6:(b.ms.length:Int)<a.ms.length
      ·simp [h1,h2,h3,h4];simp at h5 h6;simp [h6,show¬a.ms.length<b.ms.length by omega]
      ·by_cases h7:(a.ds.length:Int)<b.ds.length
       ·simp [h1,h2,h3,h4];simp at h5 h6 h7;simp [h7,show¬a.ms.length<b.ms.length by omega,show¬b.ms.length<a.ms.length by omega]
       ·by_cases h8:(b.ds.length:Int)<a.ds.length
        ·simp [h1,h2,h3,h4];simp at h5 h6 h7 h8;simp [h8,show¬a.ms.length<b.ms.length by omega,show¬b.ms.length<a.ms.length by omega,show¬a.ds.length<b.ds.length by omega]
        ·rw [nH _ _ _ _ (by omega),nX _ _ (by omega)];simp only [if_neg h1,if_neg h2,if_neg h3,if_neg h4,if_neg h5,if_neg h6,if_neg h7,if_neg h8];simp
def Srt (l:List Fl):Prop:=l.Pairwise fun a b=>plc a b<0
theorem jo:∀a b:List Fl,Srt a→Srt b→(∀x,x∈a↔x∈b)→a=b
 | [],[],_,_,_=>rfl
 | [],y::ys,_,_,h=>by have:=(h y).2 (by simp);simp at this
 | x::xs,[],_,_,h=>by have:=(h x).1 (by simp);simp at this
 | x::xs,y::ys,ha,hb,h=>by
  unfold Srt at ha hb;rw [List.pairwise_cons]at ha hb;have hxy:x=y:=by
   have h1:=(h x).1 (by simp);have h2:=(h y).2 (by simp);simp only [List.mem_cons]at h1 h2;rcases h1 with h1 | h1
   ·exact h1
   ·rcases h2 with h2 | h2
    ·exact h2.symm
    ·have a1:=hb.1 x h1;have a2:=ha.1 y h2;rw [eB]at a1;omega
  subst hxy;have hx1:x∉xs:=fun h'=>by have:=ha.1 x h';rw [ff]at this;omega
  have hx2:x∉ys:=fun h'=>by have:=hb.1 x h';rw [ff]at this;omega
  rw [jo xs ys ha.2 hb.2 fun z=>?_];have hz:=h z;simp only [List.mem_cons]at hz;constructor
  ·intro h';rcases hz.1 (.inr h')with rfl | h''
   ·exact absurd h' hx1
   ·exact h''
  ·intro h';rcases hz.2 (.inr h')with rfl | h''
   ·exact absurd h' hx2
   ·exact h''
theorem oa (f:Fl) (out:List Fl) (hs:Srt out):∀k,k≤out.length→
  ((nx f out k)=(out.take k,false)∧∀j,j<k→0<plc f (out.getD j fl0))∨((nx f out k)=(out.take k,true)∧f∈out.take k)∨
  (∃j,j<k∧nx f out k=(out.take j++f::(out.take k).drop j,true)∧(∀i,i<j→0<plc f (out.getD i fl0))∧plc f (out.getD j fl0)<0)
 | 0,_=>.inl ⟨by simp [nx],fun j h=>absurd h (by omega)⟩
 | k+1,hk=>by
  have hkl:k<out.length:=(by omega);have ht:out.take (k+1)=out.take k++ [out.getD k fl0]:=by
   rw [List.take_succ_eq_append_getElem hkl];simp [List.getD,List.getElem?_eq_getElem hkl]
  obtain⟨y,hy⟩:∃y,y=out.getD k fl0:=⟨_,rfl⟩;rw [←hy]at ht;have hm:y∈out.take (k+1):=by rw [ht];simp
  rcases oa f out hs k (by omega)with⟨h1,h2⟩ |⟨h1,h2⟩ |⟨j,hj,h1,h2,h3⟩
  ·unfold nx;rw [h1, ←hy];simp only [Bool.false_or];by_cases hz:plc f y=0
   ·have hfe:=fl hz;refine .inr (.inl ⟨?_,by rw [hfe];exact hm⟩);rw [if_neg (by omega),ht];simp [hz]
   ·by_cases hl:plc f y<0
    ·refine .inr (.inr ⟨k,by omega,?_,h2,by rw [←hy];exact hl⟩);rw [if_pos ⟨hl,by simp [hz]⟩,ht];have hlen:(out.take k).length=k:=by simp;omega
     rw [List.drop_append_of_le_length (by omega),List.drop_of_length_le (by omega)];simp
    ·refine .inl ⟨?_,fun j hj=>?_⟩
     ·rw [if_neg (by omega),ht];simp [hz]
     ·by_cases e:j=k
      ·subst e;rw [←hy];omega
      ·exact h2 j (by omega)
  ·unfold nx;rw [h1, ←hy];simp only [Bool.true_or];refine .inr (.inl ⟨?_,by rw [ht];simp [h2]⟩);rw [if_neg (by simp),ht]
  ·unfold nx;rw [h1, ←hy];simp only [Bool.true_or];refine .inr (.inr ⟨j,by omega,?_,h2,h3⟩);rw [if_neg (by simp),ht];have hlen:(out.take k).length=k:=by simp;omega
   rw [List.drop_append_of_le_length (by omega)];simp
theorem p7 (f:Fl) (out:List Fl) (hs:Srt out):Srt (lz f out)∧∀x,x∈lz f out↔x=f∨x∈out:=by
 have hp:∀i j,i<j→j<out.length→plc (out.getD i fl0) (out.getD j fl0)<0:=fun i j hij hj=>by
  have:=List.pairwise_iff_getElem.1 hs i j (by omega) hj hij;simpa [List.getD,List.getElem?_eq_getElem hj,List.getElem?_eq_getElem (show i<out.length by omega)] using this
 have hmem:∀x∈out,∃i,i<out.length∧x=out.getD i fl0:=fun x hx=>by
  obtain⟨i,hi,rfl⟩:=List.getElem_of_mem hx;exact⟨i,hi,by simp [List.getD,List.getElem?_eq_getElem hi]⟩
 unfold lz;rcases oa f out hs out.length zr with⟨h1,h2⟩ |⟨h1,h2⟩ |⟨j,hj,h1,h2,h3⟩
 ·rw [h1];simp only [List.take_length,Bool.false_eq_true,if_false];refine⟨?_,fun x=>by simp [or_comm]⟩;refine List.pairwise_append.2 ⟨hs,by simp,fun a ha b hb=>?_⟩;simp only [List.mem_singleton]at hb;subst hb;obtain⟨i,hi,rfl⟩:=hmem a ha;rw [eB];exact h2 i hi
 ·rw [h1];rw [List.take_length]at h2;simp only [List.take_length,if_true];exact⟨hs,fun x=>⟨fun h=>.inr h,fun h=>by rcases h with rfl | h;exact h2;exact h⟩⟩
 ·rw [h1];simp only [List.take_length,if_true];have hsp:out=out.take j++out.drop j:=(List.take_append_drop j out).symm;refine⟨?_,fun x=>?_⟩
  ·have hs':=hs;unfold Srt at hs';rw [hsp]at hs';obtain⟨ha,hb,hc⟩:=List.pairwise_append.1 hs';have hdl:∀x∈out.drop j,plc f x<0:=fun x hx=>by
    obtain⟨i,hi,rfl⟩:=List.getElem_of_mem hx;rw [List.getElem_drop];have hjl:j+i<out.length:=(by simpa using (by simp at hi;omega:j+i<out.length));have e:out[j+i]=out.getD (j+i) fl0:=(by simp [List.getD,List.getElem?_eq_getElem hjl]);rw [e];rcases Nat.eq_zero_or_pos i with h0 | h0
    ·subst h0;exact h3
    ·exact gU h3 (hp j (j+i) (by omega) hjl)
   refine List.pairwise_append.2 ⟨ha,List.pairwise_cons.2 ⟨hdl,hb⟩,fun a ha' b hb'=>?_⟩;simp only [List.mem_cons]at hb';rcases hb' with rfl | hb'
   ·obtain⟨i,hi,rfl⟩:=List.getElem_of_mem ha';rw [eB,List.getElem_take];have hil:i<j:=by simp at hi;omega
    have:=h2 i hil;simpa [List.getD,List.getElem?_eq_getElem (show i<out.length by omega)] using this
   ·exact hc a ha' b hb'
  ·rw [List.mem_append,List.mem_cons];have:x∈out↔x∈out.take j∨x∈out.drop j:=(by rw [←List.mem_append,List.take_append_drop]);rw [this];constructor
   ·rintro(h | h | h)
    ·exact .inr (.inl h)
    ·exact .inl h
    ·exact .inr (.inr h)
   ·rintro(h | h | h)
    ·exact .inr (.inl h)
    ·exact .inl h
    ·exact .inr (.inr h)
theorem iO (l:List Fl):∀k,k≤l.length→Srt (srt l k)∧∀x,x∈srt l k↔x∈l.take k
 | 0,_=>⟨List.Pairwise.nil,fun x=>by simp [srt]⟩
 | k+1,hk=>by
  obtain⟨h1,h2⟩:=iO l k (by omega);have hkl:k<l.length:=(by omega);have ht:l.take (k+1)=l.take k++ [l.getD k fl0]:=by
   rw [List.take_succ_eq_append_getElem hkl];simp [List.getD,List.getElem?_eq_getElem hkl]
  obtain⟨h3,h4⟩:=p7 (l.getD k fl0) (srt l k) h1;refine⟨h3,fun x=>?_⟩;show x∈lz _ _↔_;rw [h4,h2,ht,List.mem_append,List.mem_singleton,or_comm]
theorem pD {l m:List Fl} (hs:Srt m) (hm:∀x,x∈m↔x∈l):m=srt l l.length:=by
 obtain⟨h1,h2⟩:=iO l l.length zr;exact jo _ _ hs h1 fun x=>by rw [h2,List.take_length];exact hm x
section
open Go.Sort (grow PermIn SortedIn SWO flatK get_flatK size_flatK HoldsK Holds putRowK putRow putCells mapBlock onCells)
theorem MsAt.kept0 {w w':World} {v:Value} {ms:List Mt} {row:Option Nat} (h:MsAt w v ms) (hg:w.grownBy w' row) (hne:ms.length=0∨v.ownBlock≠row):MsAt w' v ms:=by
 rcases hne with h0 | hne
 ·obtain⟨a,cap,rfl,hn,_⟩:=h;exact⟨a,cap,rfl,hn,.inl h0⟩
 ·exact h.kept hg (.inr hne)
theorem DsAt.kept0 {w w':World} {v:Value} {ds:List Do} {row:Option Nat} (h:DsAt w v ds) (hg:w.grownBy w' row) (hne:ds.length=0∨v.ownBlock≠row):DsAt w' v ds:=by
 rcases hne with h0 | hne
 ·obtain⟨a,cap,rfl,hn,_⟩:=h;exact⟨a,cap,rfl,hn,.inl h0⟩
 ·exact h.kept hg (.inr hne)
def Held (w:World) (x:Fv):Prop:=MsAt w x.mv x.f.ms∧DsAt w x.dv x.f.ds
theorem Held.below {w w':World} {B:Nat} {x:Fv} (h:Held w x) (hb:Below B w w') (hB:w.heap.size≤B):Held w' x:=⟨h.1.below hb hB,h.2.below hb hB⟩
theorem Held.one {w:World} {x:Fv} (h:Held w x):∀u∈C [x],u.oneCell'=true:=by
 obtain⟨⟨o,c,h1,_⟩,⟨o',c',h2,_⟩⟩:=h;intro u hu;simp [C]at hu;rcases hu with rfl | rfl | rfl | rfl
 ·rfl
 ·rfl
 ·rw [h1];rfl
 ·rw [h2];rfl
def FoOk (w:World) (blk:Nat) (x:Fv):Prop:=Held w x∧(x.f.ms.length=0∨x.mv.ownBlock≠some blk)∧(x.f.ds.length=0∨x.dv.ownBlock≠some blk)∧x.f.ms.length≤2000000∧x.f.ds.length≤2000000
theorem sf (w:World) (blk:Nat):FoOk w blk fv0:=by
 refine⟨⟨⟨none,0,rfl,fun _=>rfl,.inl rfl⟩,⟨none,0,rfl,fun _=>rfl,.inl rfl⟩⟩,.inl rfl,.inl rfl,?_,?_⟩
 all_goals simp [fv0,fl0]
abbrev Fo (w:World) (blk:Nat):={x:Fv//FoOk w blk x}
abbrev nC (w:World) (blk:Nat):Inhabited (Fo w blk):=⟨⟨fv0,sf w blk⟩⟩
def fD {w:World} {blk:Nat} (x:Fo w blk):List Value:=[.int .i64 x.1.f.t,.int .i64 x.1.f.p,x.1.mv,x.1.dv]
def cf4 {w:World} {blk:Nat} (x y:Fo w blk):Int:=oB x.1.f y.1.f
theorem lt4 {w:World} {blk:Nat} (x y:Fo w blk):ltOf cf4 x y=decide (plc x.1.f y.1.f<0):=by unfold ltOf cf4;rw [lW]
theorem sD (w:World) (blk:Nat):SWO (ltOf (cf4 (w:=w) (blk:=blk))) where
 irrefl x:=by rw [lt4,ff];rfl
 trans x y z h1 h2:=by
  rw [lt4]at*;simp only [decide_eq_true_eq]at*;exact gU h1 h2
 ntrans x y z h1 h2:=by
  rw [lt4]at*;simp only [decide_eq_false_iff_not]at*;intro h;have h3:¬0<plc y.1.f x.1.f:=fun h'=>h1 ((eB _ _).2 h');by_cases e:plc y.1.f x.1.f=0
  ·have:=fl e;rw [this]at h2;exact h2 h
  ·exact h2 (gU (show plc y.1.f x.1.f<0 by omega) h)
def OrdAt2 (w:World) (g blk:Nat):Prop:=g≠blk∧∃q,q≠blk∧w.cell? ⟨g,0,none⟩=some (.slice (some ⟨q,0,none⟩) 6 6)∧w.cell? ⟨q,0,none⟩=some (.func (.func 69) #[] #[])∧w.cell? ⟨q,1,none⟩=some (.func (.func 71) #[] #[])∧w.cell? ⟨q,2,none⟩=some (.func (.func 72) #[] #[])
 ∧w.cell? ⟨q,3,none⟩=some (.func (.func 73) #[] #[])∧w.cell? ⟨q,4,none⟩=some (.func (.func 74) #[] #[])∧w.cell? ⟨q,5,none⟩=some (.func (.func 77) #[] #[])
theorem OrdAt2.kept {w w':World} {g blk:Nat} (h:OrdAt2 w g blk) (hg:w.grownBy w' (some blk)):OrdAt w' g:=by
 obtain⟨hgb,q,hqb,h0,h1,h2,h3,h4,h5,h6⟩:=h;have n1:some g≠some blk:=by simpa using hgb
 have n2:some q≠some blk:=by simpa using hqb
 exact⟨q,hg.cell h0 n1,hg.cell h1 n2,hg.cell h2 n2,hg.cell h3 n2,hg.cell h4 n2,hg.cell h5 n2,hg.cell h6 n2⟩
theorem FoOk.kept {w w':World} {blk:Nat} {x:Fv} (h:FoOk w blk x) (hg:w.grownBy w' (some blk)):Held w' x:=⟨h.1.1.kept0 hg h.2.1,h.1.2.kept0 hg h.2.2.1⟩
theorem FoOk.kept2 {w w':World} {blk:Nat} {x:Fv} (h:FoOk w blk x) (hg:w.grownBy w' (some blk)):FoOk w' blk x:=⟨h.kept hg,h.2⟩
section
variable {w:World} {blk:Nat}
theorem my (n:Nat) (d:Array (Fo w blk)) (os:Array Obj):letI:=nC w blk
  w.grownBy (sortWorldK fD 4 w blk 0 n d os) (some blk):=by
 letI:=nC w blk
 refine⟨rfl,rfl,rfl,?_,fun k hk hne=>?_⟩
 ·exact size_sortWorldK_c fD 4 w blk 0 n d os
 ·unfold sortWorldK;rw [Go.Sort.heap_grow_old _ _ (by rw [Go.Sort.size_putRowK];exact hk)];unfold putRowK putRow mapBlock;simp only [Array.getElem?_modify];rw [if_neg (fun h=>hne (by rw [h]))];rfl
theorem qk (g size:Nat) (hO:OrdAt2 w g blk):letI:=nC w blk
  CmpLays Tryz.prog 114 #[.pointer (some ⟨g,0,none⟩)] (fD (w:=w) (blk:=blk)) 4 cf4 blk 0 size w:=by
 letI:=nC w blk
 intro m os dk hd x y;have hg:=my (w:=w) (blk:=blk) m dk os;have ho:=hO.kept hg;have hx:=x.2.kept hg;have hy:=y.2.kept hg;obtain⟨⟨xa,xc,e1,_⟩,⟨xb,xe,e2,_⟩⟩:=hx;obtain⟨⟨ya,yc,e3,_⟩,⟨yb,ye,e4,_⟩⟩:=hy;have hx':=x.2.kept hg;have hy':=y.2.kept hg;have h:=ke x.1.f y.1.f xa ya xb yb xc yc xe ye g _ ho (by rw [←e1];exact hx'.1) (by rw [←e2];exact hx'.2) (by rw [←e3];exact hy'.1) (by rw [←e4];exact hy'.2) x.2.2.2.2.1 x.2.2.2.2.2 y.2.2.2.2.1 y.2.2.2.2.2;have ea: #[Value.agg (fD x).toArray,Value.agg (fD y).toArray]++ #[Value.pointer (some ⟨g,0,none⟩)]= #[.agg #[.int .i64 x.1.f.t,.int .i64 x.1.f.p,.slice xa x.1.f.ms.length xc,.slice xb x.1.f.ds.length xe],.agg #[.int .i64 y.1.f.t,.int .i64 y.1.f.p,.slice ya y.1.f.ms.length yc,.slice yb y.1.f.ds.length ye],.pointer (some ⟨g,0,none⟩)]:=by
  unfold fD;rw [e1,e2,e3,e4];rfl
 rw [ea];exact h
theorem qm (lo:List Fv) (h:∀x∈lo,FoOk w blk x):letI:=nC w blk
  (flatK fD 4 (lo.pmap (fun x hx=>(⟨x,hx⟩:Fo w blk)) h).toArray).toList=C lo:=by
 letI:=nC w blk
 refine List.ext_getElem? fun j=>?_;have hl:(C lo).length=lo.length*4:=by
  clear h
  induction lo with
  | nil=>rfl
  | cons x r ih=>simp [C]at ih⊢;omega
 by_cases hj:j<lo.length*4
 ·have hsz:j<(flatK fD 4 (lo.pmap (fun x hx=>(⟨x,hx⟩:Fo w blk)) h).toArray).size:=by rw [size_flatK];simpa using hj
  rw [Array.getElem?_toList,Array.getElem?_eq_getElem hsz, ←getElem!_pos _ j hsz,get_flatK _ _ _ _ (by simpa using hj)];have hi:j/4<lo.length:=(by omega);have hd:(lo.pmap (fun x hx=>(⟨x,hx⟩:Fo w blk)) h).toArray[j/4]! =⟨lo[j/4],h _ (List.getElem_mem hi)⟩:=by
   rw [getElem!_pos _ _ (by simpa using hi)];simp
  rw [hd];obtain⟨c0,c1,c2,c3⟩:=qD lo (j/4) hi;have hg:lo.getD (j/4) fv0=lo[j/4]:=(by simp [List.getD,List.getElem?_eq_getElem hi]);rw [hg]at c0 c1 c2 c3;have hm:j%4=0∨j%4=1∨j%4=2∨j%4=3:=(by omega);rcases hm with hm | hm | hm | hm
  ·have e:j=j/4*4:=(by omega);rw [hm];rw [←e]at c0;rw [c0];rfl
  ·have e:j=j/4*4+1:=(by omega);rw [hm];rw [←e]at c1;rw [c1];rfl
  ·have e:j=j/4*4+2:=(by omega);rw [hm];rw [←e]at c2;rw [c2];rfl
  ·have e:j=j/4*4+3:=(by omega);rw [hm];rw [←e]at c3;rw [c3];rfl
 ·rw [List.getElem?_eq_none (by rw [Array.length_toList,size_flatK];simp;omega),List.getElem?_eq_none (by omega)]
theorem kV (B cap g:Nat) (lo:List Fv) (hown:w.ownsRow B 77 4 (.slice (some ⟨blk,0,none⟩) lo.length cap) lo.length (C lo)) (hok:∀x∈lo,FoOk w blk x) (hO:OrdAt2 w g blk) (hl:lo.length≤2000000):
  Calls Tryz.prog 81 #[.slice (some ⟨blk,0,none⟩) lo.length cap,.func (.func 114) #[] #[.pointer (some ⟨g,0,none⟩)]] w fun e w'=>e= .returned (.tuple #[])∧∃lo':List Fv,lo'.Perm lo∧(lo'.Pairwise fun a b=>¬plc b.f a.f<0)∧w'.ownsRow B 77 4 (.slice (some ⟨blk,0,none⟩) lo.length cap) lo.length (C lo')∧w.grownBy w' (some blk):=by
 letI:=nC w blk
 have eg:∀args w,(callFunc 114 args).run Tryz.prog w= .ok (.enter 114 args) w:=enters_of Tryz.func114 (by kernel_rfl) rfl;have hfl:=qm lo hok;have hown':=hown;obtain⟨hlen,⟨h,_⟩ |⟨g',cap',cur,hv,hB,hheap,hnc,hcm,hcs,htk⟩⟩:=hown
 ·simp at h
 simp only [Value.slice.injEq,Option.some.injEq,Addr.mk.injEq]at hv;obtain⟨⟨rfl,_⟩,_,rfl⟩:=hv;have hblk:blk<w.heap.size:=by
  rcases Nat.lt_or_ge blk w.heap.size with h' | h'
  ·exact h'
  ·simp [Array.getElem?_eq_none h']at hheap
 obtain⟨d,hd⟩:∃d,d=(lo.pmap (fun x hx=>(⟨x,hx⟩:Fo w blk)) hok).toArray:=⟨_,rfl⟩;have hds:d.size=lo.length:=by rw [hd];simp
 rw [←hd]at hfl;have hH:HoldsK fD 4 w blk 0 d:=by
  intro j hj;rw [size_flatK,hds]at hj;have hc:=hown'.cellAt j hj;have hf:=hown'.frozenAt j;have e:(C lo)[j]? =some ((flatK fD 4 d)[j]!):=by
   rw [←hfl,Array.getElem?_toList,Array.getElem?_eq_getElem (by rw [size_flatK,hds];exact hj),getElem!_pos _ j (by rw [size_flatK,hds];exact hj)]
  rw [Nat.zero_add];exact⟨hc.trans e,hf⟩
 have hone:∀x:Fo w blk,∀v∈fD x,v.oneCell'=true:=fun x v hv=>x.2.1.one v (by simpa [C,fD] using hv);have hcon:=AnyQ.slices_SortFunc Tryz.sortFl 4 Tryz.isAgg77 Tryz.sizeOf77 fD (fun _=>rfl) hone cf4 (sD w blk) 114 #[.pointer (some ⟨g,0,none⟩)] blk 0 cap d w eg (qk g d.size hO) hH hblk (by omega);rw [hds]at hcon;refine Calls.mono hcon ?_;rintro e w' ⟨he,d',n,os,hp,hs,rfl⟩;have hds':d'.size=lo.length:=by rw [hp.1,hds]
 have hback:d'=((d'.toList.map (·.1)).pmap (fun x hx=>(⟨x,hx⟩:Fo w blk)) (fun x hx=>by
   obtain⟨y,_,rfl⟩:=List.mem_map.1 hx;exact y.2)).toArray:=by
  apply Array.toList_inj.1;refine List.ext_getElem (by simp) fun i h1 h2=>?_;simp
 have hfl':(flatK fD 4 d').toList=C (d'.toList.map (·.1)):=by
  have:=qm (w:=w) (blk:=blk) (d'.toList.map (·.1)) (fun x hx=>by
   obtain⟨y,_,rfl⟩:=List.mem_map.1 hx;exact y.2)
  rw [←hback]at this;exact this
 refine⟨he,d'.toList.map (·.1),?_,?_,?_,?_⟩
 ·have h1:=hp.2.2;have e1:d'.extract 0 lo.length=d':=by rw [←hds'];simp
  have e2:d.extract 0 lo.length=d:=by rw [←hds];simp
  rw [e1,e2]at h1;have h2:=h1.map (·.1);have e3:d.toList.map (·.1)=lo:=by
   rw [hd];exact List.ext_getElem (by simp) fun i h1 h2=>by simp
  rw [e3]at h2;exact h2
 ·rw [List.pairwise_iff_getElem];intro i j hi hj hij;have hi':i<d'.size:=(by simpa using hi);have hj':j<d'.size:=(by simpa using hj);have h1:=hs i j (Nat.zero_le _) hij (by omega);rw [lt4,getElem!_pos d' i hi',getElem!_pos d' j hj']at h1;simpa using h1
 ·have hcl:(C (d'.toList.map (·.1))).length=lo.length*4:=(by rw [←hfl',Array.length_toList,size_flatK,hds']);refine⟨hcl,.inr ⟨blk,cap,putCells id 0 (flatK fD 4 d') cur,rfl,hB,?_,hnc,hcm,?_,?_⟩⟩
  ·unfold sortWorldK;rw [Go.Sort.heap_grow_old _ _ (by rw [Go.Sort.size_putRowK];exact hblk)];unfold putRowK putRow mapBlock;simp only [Array.getElem?_modify,if_true];show(w.heap[blk]?).map _=_;rw [hheap];rfl
  ·rw [←hcs];simp [putCells]
  ·rw [←hfl'];refine List.ext_getElem? fun j=>?_;by_cases hj:j<lo.length*4
   ·rw [List.getElem?_take,if_pos hj,Array.getElem?_toList,Array.getElem?_toList];unfold putCells;rw [Array.getElem?_mapIdx];have hjc:j<cur.size:=by rw [hcs];omega
    have hjf:j<(flatK fD 4 d').size:=by rw [size_flatK,hds'];exact hj
    rw [Array.getElem?_eq_getElem hjc,Array.getElem?_eq_getElem hjf];simp only [Option.map_some,Nat.zero_le,true_and,Nat.zero_add,Nat.sub_zero,id];rw [if_pos hjf,getElem!_pos _ j hjf]
   ·rw [List.getElem?_eq_none (by simp;omega),List.getElem?_eq_none (by rw [Array.length_toList,size_flatK,hds'];omega)]
 ·exact my n d' os
end
end
abbrev rG:Obj:=.cells #[.func (.func 69) #[] #[],.func (.func 71) #[] #[],.func (.func 72) #[] #[],.func (.func 73) #[] #[],.func (.func 74) #[] #[],.func (.func 77) #[] #[]] 87
theorem fw (w:World):
  Calls Tryz.prog 32 #[] w fun e w'=>e= .returned (.func (.func 114) #[] #[.pointer (some ⟨w.heap.size+1,0,none⟩)])∧w'=(w.alloc rG).alloc (.cells #[.slice (some ⟨w.heap.size,0,none⟩) 6 6] 149):=by
 have hT:Hid (∀(v:Value) (W:World),(∃a n c,v= .slice a n c)→Calls Tryz.prog 68 #[v] W fun e w'=>e= .returned (.func (.func 114) #[] #[.pointer (some ⟨W.heap.size,0,none⟩)])∧w'=W.alloc (.cells #[v] 149)):=by
  rintro v W ⟨a,n,c,rfl⟩;go_enter Tryz.func68,Tryz.ntmps68;go_wp2_with fail
  go_ret;exact⟨rfl,rfl⟩
 go_enter Tryz.func32,Tryz.ntmps32;go_wp2_with fail
 refine(ae hT _ _ ⟨_,_,_,rfl⟩).mono ?_;rintro e w1 ⟨rfl,rfl⟩;go_wp2_with fail
 go_ret;exact⟨by simp,rfl⟩
theorem jC (w:World):Calls Tryz.prog 32 #[] w fun e w'=>∃g,e= .returned (.func (.func 114) #[] #[.pointer (some ⟨g,0,none⟩)])∧Below w.heap.size w w':=
 (fw w).mono fun e w' ⟨he,hw⟩=>⟨_,he,by rw [hw];exact((Below.refl _ _).alloc zr _).alloc (by simp) _⟩
theorem kS (w:World):Calls Tryz.prog 80 #[.slice none 0 0] w fun e w'=>e= .returned (.slice none 0 0)∧w'=w:=by
 go_enter Tryz.func80,Tryz.ntmps80;go_wp2;go_ret;exact⟨rfl,rfl⟩
theorem js (w:World):Calls Tryz.prog 36 #[.slice none 0 0] w fun e w'=>e= .returned (.slice none 0 0)∧w'=w:=by
 go_enter Tryz.func36,Tryz.ntmps36;go_wp2;go_ret;exact⟨rfl,rfl⟩
theorem ja (w:World):Calls Tryz.prog 37 #[.slice none 0 0] w fun e w'=>e= .returned (.slice none 0 0)∧w'=w:=by
 go_enter Tryz.func37,Tryz.ntmps37;go_wp2;go_ret;exact⟨rfl,rfl⟩
theorem jg (p:Option Addr) (n cap:Nat) (fv:Value) (w:World) (hn:n≤1):
  Calls Tryz.prog 139 #[.slice p n cap,.int .i64 0,.int .i64 n,fv] w fun e w'=>e= .returned (.tuple #[])∧w'=w:=by
 go_enter Tryz.func139,Tryz.ntmps139;go_wp2_with fail
 refine wp_loop_rounds 1 ?_;rw [rounds_succ];go_wp2_with fail
 go_end0;exact⟨rfl,rfl⟩
theorem kr (n:Nat) (w:World) (hn:n≤1):
  Calls Tryz.prog 118 #[.int .u64 n] w fun e w'=>(∃r:Int,e= .returned (.int .i64 r))∧w'=w:=by
 have hn':n=0∨n=1:=by omega
 have h64:Hid (∀W:World,Calls Tryz.prog 148 #[.int .u64 n] W fun e w'=>(∃r:Int,e= .returned (.int .i64 r))∧w'=W):=by
  intro W;rcases hn' with rfl | rfl
  ·go_enter Tryz.func148,Tryz.ntmps148;go_wp2;go_ret;exact⟨⟨_,rfl⟩,rfl⟩
  ·go_enter Tryz.func148,Tryz.ntmps148;go_wp2;go_ret;exact⟨⟨_,rfl⟩,rfl⟩
 rcases hn' with rfl | rfl
 all_goals
  go_enter Tryz.func118,Tryz.ntmps118;go_wp2_with fail
  refine(ae h64 _).mono ?_;rintro e w1 ⟨⟨r,rfl⟩,rfl⟩;go_wp2_with fail
  go_ret;exact⟨⟨_,rfl⟩,rfl⟩
theorem qe (p:Option Addr) (n cap:Nat) (lim:Int) (fv:Value) (w:World) (hn:n≤1):
  Calls Tryz.prog 117 #[.slice p n cap,.int .i64 0,.int .i64 n,.int .i64 lim,fv] w fun e w'=>e= .returned (.tuple #[])∧w'=w:=by
 go_enter Tryz.func117,Tryz.ntmps117;go_wp2_with fail
 refine wp_loop_rounds 1 ?_;rw [rounds_succ];go_wp2_with fail
 refine(jg _ _ _ _ _ hn).mono ?_;rintro e w1 ⟨rfl,rfl⟩;go_wp2_with fail
 (try simp only [Exit.inBlock,Exit.then]);refine bodyPost_ret (results_none rfl _ _ _) rfl ?_
 exact⟨rfl,rfl⟩
theorem jI (p:Option Addr) (n cap:Nat) (fv:Value) (w:World) (hn:n≤1):
  Calls Tryz.prog 81 #[.slice p n cap,fv] w fun e w'=>e= .returned (.tuple #[])∧w'=w:=by
 go_enter Tryz.func81,Tryz.ntmps81;go_wp2_with fail
 refine(kr n _ hn).mono ?_;rintro e w1 ⟨⟨r,rfl⟩,rfl⟩;go_wp2_with fail
 refine(qe _ _ _ _ _ _ hn).mono ?_;rintro e w1 ⟨rfl,rfl⟩;go_wp2_with fail
 go_end0;exact⟨rfl,rfl⟩
theorem rM:(Tryz.prog.info? 77).map (fun i=>(i.zero,i.size,i.bytes))=some (some (.agg #[.int .i64 0,.int .i64 0,.slice none 0 0,.slice none 0 0]),4,64):=by kernel_rfl
theorem mJ (ad:Addr) (n cap:Nat) (news:List Value) (w:World) (hl:news.length=n*4) (hc:∀j u,news[j]? =some u→w.cell? (ad.add j)=some u) (h1:∀u∈news,u.oneCell'=true) (hm:n≤1000000000):
  Calls Tryz.prog 80 #[.slice (some ad) n cap] w fun e w'=>∃v,e= .returned v∧w'.ownsRow w.heap.size 77 4 v n news∧Below w.heap.size w w':=by
 obtain⟨i0,hi,hz0,hz1,hz2⟩:=info_parts rM;have HC:=aa hc;have H1:=aa h1;clear hc h1;go_enter Tryz.func80,Tryz.ntmps80;go_wp2_with (at_builtin;refine wpList_append_own _ rfl _ _ 31 rfl w.heap.size 77 i0 _ 4 64 Tryz.underlying31 hi hz0 hz1 hz2 rfl (by decide) _ _ _ rfl (World.ownsRow_nil w w.heap.size 77 4) ad n cap news rfl hl HC.out H1.out ?a1 ?a2 ?a3 ?_)
 case a1=>unfold maxLen;omega
 case a2=>omega
 case a3=>exact Nat.le_refl _
 intro v1 w1 ho1 hg1 _;have hb1:Below w.heap.size w w1:=(Below.refl _ w).grown hg1 (by simp) (aB (World.ownsRow_nil w w.heap.size 77 4));have ho1':w1.ownsRow w.heap.size 77 4 v1 n news:=by simpa using ho1
 clear ho1 hg1;go_wp2;go_ret;exact⟨v1,rfl,ho1',hb1⟩
theorem sn {w:World} {a:Option Addr} {n cap:Nat} {fs:List Fl} (h:FsAt w (.slice a n cap) fs):n=fs.length∧(a=none→cap=0)∧∃lo:List Fv,lo.map Fv.f=fs∧(∀x∈lo,Held w x)∧(lo.length=0∨∃b off,a=some ⟨b,off,none⟩∧lo.length≤cap∧∀j u,(C lo)[j]? =some u→w.cell? ((⟨b,off,none⟩:Addr).add j)=some u):=by
 obtain⟨a',cap',hv,hn,hL⟩:=h;simp only [Value.slice.injEq]at hv;obtain⟨rfl,rfl,rfl⟩:=hv;refine⟨rfl,hn,?_⟩;rcases hL with h0 |⟨b,off,rfl,hcap,hc⟩
 ·obtain rfl:=List.eq_nil_of_length_eq_zero h0;exact⟨[],rfl,fun x hx=>by simp at hx,.inl rfl⟩
 ·have key:∀k,k≤fs.length→∃lo:List Fv,lo.map Fv.f=fs.take k∧(∀x∈lo,Held w x)∧∀j u,(C lo)[j]? =some u→w.cell? ⟨b,off+j,none⟩=some u:=by
   intro k
   induction k with
   | zero=>exact fun _=>⟨[],by simp,fun x hx=>by simp at hx,fun j u h=>by simp [C]at h⟩
   | succ k ih=>
    intro hk;obtain⟨lo,h1,h2,h3⟩:=ih (by omega);obtain⟨f0,f1,mv,dv,f2,f3,hm,hd⟩:=hc k (by omega);have hll:lo.length=k:=by
     have:=congrArg List.length h1;simpa [Nat.min_eq_left (show k≤fs.length by omega)] using this
    have hcl:(C lo).length=k*4:=by
     rw [←hll];clear h1 h2 h3 hll
     induction lo with
     | nil=>rfl
     | cons x r ih=>simp [C]at ih⊢;omega
    refine⟨lo++ [⟨fs.getD k fl0,mv,dv⟩],?_,fun x hx=>?_,fun j u hj=>?_⟩
    ·rw [List.take_succ_eq_append_getElem (by omega),List.map_append,h1];simp [List.getD,List.getElem?_eq_getElem (show k<fs.length by omega)]
    ·simp only [List.mem_append,List.mem_singleton]at hx;rcases hx with hx | rfl
     ·exact h2 x hx
     ·exact⟨hm,hd⟩
    ·rw [gN]at hj;by_cases hjl:j<k*4
     ·rw [List.getElem?_append_left (by omega)]at hj;exact h3 j u hj
     ·rw [List.getElem?_append_right (by omega),hcl]at hj;have hj4:j-k*4=0∨j-k*4=1∨j-k*4=2∨j-k*4=3:=by
       rcases Nat.lt_or_ge (j-k*4) 4 with h | h
       ·omega
       ·rw [List.getElem?_eq_none (by simpa [C] using h)]at hj;simp at hj
      rcases hj4 with e | e | e | e
      ·rw [e]at hj;simp [C]at hj;subst hj;rw [show off+j=off+k*4 by omega];exact f0
      ·rw [e]at hj;simp [C]at hj;subst hj;rw [show off+j=off+k*4+1 by omega];exact f1
      ·rw [e]at hj;simp [C]at hj;subst hj;rw [show off+j=off+k*4+2 by omega];exact f2
      ·rw [e]at hj;simp [C]at hj;subst hj;rw [show off+j=off+k*4+3 by omega];exact f3
  obtain⟨lo,h1,h2,h3⟩:=key fs.length zr;rw [List.take_length]at h1;have hll:lo.length=fs.length:=by rw [←h1];simp
  refine⟨lo,h1,h2,.inr ⟨b,off,rfl,by omega,fun j u hj=>?_⟩⟩;have e:(⟨b,off,none⟩:Addr).add j=⟨b,off+j,none⟩:=by by_cases h:j=0 <;>simp [Addr.add,h]
  rw [e];exact h3 j u hj
theorem rq (lo:List Fv):(C lo).length=lo.length*4:=by
 induction lo with
 | nil=>rfl
 | cons x r ih=>simp [C]at ih⊢;omega
theorem pK {w:World} {lo:List Fv} (h:∀x∈lo,Held w x):∀u∈C lo,u.oneCell'=true:=by
 intro u hu;simp only [C,List.mem_flatMap]at hu;obtain⟨x,hx,hu⟩:=hu;exact(h x hx).one u (by simpa [C] using hu)
theorem mx (v:Value) (fs:List Fl) (w:World) (hF:FsAt w v fs) (hl:fs.length≤2000000):
  Calls Tryz.prog 80 #[v] w fun e w'=>∃u lo,e= .returned u∧lo.map Fv.f=fs∧(∀x∈lo,Held w x)∧w'.ownsRow w.heap.size 77 4 u lo.length (C lo)∧Below w.heap.size w w':=by
 obtain⟨a,cap,rfl,_,_⟩:=id hF;obtain⟨_,hn,lo,h1,h2,h3⟩:=sn hF;have hll:lo.length=fs.length:=by rw [←h1];simp
 cases a with
 | none=>
  obtain rfl:=hn rfl;have h0:fs.length=0:=by
   rcases h3 with h |⟨_,_,h,_⟩
   ·omega
   ·simp at h
  have hlo:lo= []:=List.eq_nil_of_length_eq_zero (by omega);rw [h0];refine(kS w).mono ?_;rintro e w' ⟨rfl,rfl⟩;exact⟨_,lo,rfl,h1,h2,by rw [hlo];exact World.ownsRow_nil _ _ _ _,Below.refl _ _⟩
 | some ad=>
  have hnews:∀j u,(C lo)[j]? =some u→w.cell? (ad.add j)=some u:=by
   rcases h3 with h |⟨b,off,h4,_,h5⟩
   ·intro j u hj;rw [List.eq_nil_of_length_eq_zero h]at hj;simp [C]at hj
   ·cases h4;exact h5
  refine(mJ ad fs.length cap (C lo) w (by rw [rq,hll]) hnews (pK h2) (by omega)).mono ?_;rintro e w' ⟨u,rfl,ho,hb⟩;exact⟨u,lo,rfl,h1,h2,by rw [hll];exact ho,hb⟩
theorem Held.away {w:World} {x:Fv} (h:Held w x) {blk:Nat} (hb:w.heap.size≤blk):(x.f.ms.length=0∨x.mv.ownBlock≠some blk)∧(x.f.ds.length=0∨x.dv.ownBlock≠some blk):=by
 obtain⟨⟨a,c,h1,_,h2⟩,⟨a',c',h3,_,h4⟩⟩:=h;constructor
 ·rcases h2 with h2 |⟨b,off,rfl,_,h2⟩
  ·exact .inl h2
  ·rcases Nat.eq_zero_or_pos x.f.ms.length with h0 | h0
   ·exact .inl h0
   ·have:=bs (h2 0 h0).1;exact .inr (by rw [h1];simp [Value.ownBlock];omega)
 ·rcases h4 with h4 |⟨b,off,rfl,_,h4⟩
  ·exact .inl h4
  ·rcases Nat.eq_zero_or_pos x.f.ds.length with h0 | h0
   ·exact .inl h0
   ·have:=bs (h4 0 h0).1;exact .inr (by rw [h3];simp [Value.ownBlock];omega)
theorem me (v:Value) (fs:List Fl) (w:World) (hF:FsAt w v fs) (hl:fs.length≤2000000) (hs:∀f∈fs,f.ms.length≤2000000∧f.ds.length≤2000000):
  Calls Tryz.prog 34 #[v] w fun e w'=>∃u,e= .returned u∧∃lo:List Fv,(lo.map Fv.f).Perm fs∧(lo.Pairwise fun a b=>¬plc b.f a.f<0)∧(∀x∈lo,Held w x)∧w'.ownsRow w.heap.size 77 4 u lo.length (C lo)∧Below w.heap.size w w':=by
 have HF:=aa hF;obtain⟨a,cap,rfl,_,_⟩:=hF;go_enter Tryz.func34,Tryz.ntmps34;go_wp2_with fail
 refine(mx _ fs w HF.out hl).mono ?_;rintro e w1 ⟨u,lo,rfl,hlo,hh,ho1,hb1⟩;have HH:=aa hh;have HLO:=aa hlo;have HLL:Hid (lo.length≤2000000):=aa (by have:lo.length=fs.length:=(by rw [←hlo];simp);omega);clear hh hlo;by_cases h0:lo.length=0
 ·obtain⟨ua,uc,rfl⟩:∃a c,u= .slice a 0 c:=by
   obtain⟨_,⟨rfl,_⟩ |⟨g,cap,cur,rfl,_⟩⟩:=ho1
   ·exact⟨_,_,rfl⟩
   ·exact⟨_,_,by rw [h0]⟩
  have HO1:=aa ho1;clear ho1;go_wp2_with fail
  refine(jC _).mono ?_;rintro e w2 ⟨g,rfl,hb2⟩;go_wp2_with fail
  refine(jI _ 0 _ _ _ (by omega)).mono ?_;rintro e w3 ⟨rfl,rfl⟩;go_wp2_with fail
  go_ret;obtain rfl:=List.eq_nil_of_length_eq_zero h0;exact⟨_,rfl,[],by rw [HLO.out],List.Pairwise.nil,HH.out,aA HO1.out hb2,hb1.trans (hb2.mono hb1.size)⟩
 ·obtain⟨blk,uc,rfl,_⟩:=ho1.form (by omega);have HO1:=aa ho1;have hbl:=gR ho1;clear ho1;go_wp2_with fail
  refine(fw _).mono ?_;rintro e w2 ⟨rfl,hw2⟩;have hgr2:Below w1.heap.size w1 w2:=by rw [hw2];exact((Below.refl _ _).alloc zr _).alloc (by simp) _
  have HOA:Hid (OrdAt2 w2 (w1.heap.size+1) blk):=by
   rw [hw2];have e:w1.heap.size+1=(w1.alloc rG).heap.size:=(by simp);refine aa ⟨by omega,w1.heap.size,by omega,?_,?_⟩
   ·rw [e];simp
   ·simp
  have hb12:=hb1.trans (hgr2.mono hb1.size);have HO2:=aa (aA HO1.out hgr2);have HFO:Hid (∀x∈lo,FoOk w2 blk x):=fun x hx=>by
   have hx1:=HH.out x hx;have hf:x.f∈fs:=by rw [←HLO.out];exact List.mem_map_of_mem hx
   obtain⟨a1,a2⟩:=hx1.away (show w.heap.size≤blk from hbl.1);exact⟨hx1.below hb12 zr,a1,a2,(hs x.f hf).1,(hs x.f hf).2⟩
  clear hw2 hgr2;go_wp2_with fail
  refine(kV w.heap.size uc (w1.heap.size+1) lo HO2.out HFO.out HOA.out HLL.out).mono ?_;rintro e w3 ⟨rfl,lo',hp,hsrt,ho3,hg3⟩;have HP:=aa hp;have HS:=aa hsrt;have HO3:=aa ho3;clear hp hsrt ho3;go_wp2_with fail
  go_ret;have hl':lo'.length=lo.length:=HP.out.length_eq;exact⟨_,rfl,lo',by rw [←HLO.out];exact HP.out.map _,HS.out,fun x hx=>HH.out x (HP.out.mem_iff.1 hx),by rw [hl'];exact HO3.out,hb12.grown hg3 hb12.size (fun k hk=>by cases hk;exact hbl.1)⟩
end Go.Proofs.YthmblklaeeifiaaGreat
