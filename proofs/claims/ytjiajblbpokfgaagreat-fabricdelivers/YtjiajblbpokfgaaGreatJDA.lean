/- Texts joined: Rs, Rq, Dk, Dpo, Dal, Dcm; the data of Dld. -/
import Derived.Deep.Light
import Derived.Maps.AppendAt
import Derived.Deep.DeepCutAuto
import Derived.Test.YtjiajblbpokfgaaGreatJD6
namespace Go.Proofs.YtjiajblbpokfgaaGreat
open Go.RowKit
set_option linter.unusedVariables false
set_option maxRecDepth 100000
set_option maxHeartbeats 40000000
def iq (S:List Sw) (P:List Pr) (x:Sw):Int:=
 if(inB x.i 1 500&&inB x.t 1 9&&inB x.g 0 65535)=false then 2 else if(S.any (fun s=>s.i==x.i)|| (decide (0<x.g)&&cN S P x.t x.g))=true then 7 else if 12≤S.length then 1 else 0
theorem ll (sv pv av:Value) (S:List Sw) (P:List Pr) (A:List Ac) (x:Sw) (w:World) (hC:CfAt w sv pv av S P A) (h1:S.length*24≤140737488355328) (h2:P.length*40≤140737488355328):
  Calls Tryz.prog 32 #[.agg #[sv,pv,av],.agg #[.int .i64 x.i,.int .i64 x.t,.int .i64 x.g]] w fun e w'=>e= .returned (.int .i64 (iq S P x))∧Below w.heap.size w w':=by
 obtain⟨xi,xt,xg⟩:=x;have HK:Hid (∀W:World,Below w.heap.size w W→Calls Tryz.prog 60 #[.agg #[sv,pv,av],.int .i64 xi] W fun e w'=>e= .returned (.tuple #[.agg #[.int .i64 (sof S xi).i,.int .i64 (sof S xi).t,.int .i64 (sof S xi).g],.bool (S.any (fun s=>s.i==xi))])∧Below W.heap.size W w'):=fun W hW=>dW sv pv av S P A xi W (hC.below hW zr) h1;have HT:Hid (∀W:World,Below w.heap.size w W→Calls Tryz.prog 61 #[.agg #[sv,pv,av],.int .i64 xt,.int .i64 xg] W fun e w'=>e= .returned (.bool (cN S P xt xg))∧Below W.heap.size W w'):=fun W hW=>j4 sv pv av S P A xt xg W (hC.below hW zr) h1 h2;have HR:Hid (iq S P ⟨xi,xt,xg⟩=if(inB xi 1 500&&inB xt 1 9&&inB xg 0 65535)=false then 2 else if(S.any (fun s=>s.i==xi)|| (decide (0<xg)&&cN S P xt xg))=true then 7 else if 12≤S.length then 1 else 0):=rfl;generalize iq S P ⟨xi,xt,xg⟩=R at*;generalize S.any (fun s=>s.i==xi)=R1 at*;generalize cN S P xt xg=R2 at*;generalize sof S xi=X at*;obtain⟨z0,z1,z2⟩:=X;simp only at HK;obtain⟨s1,s2,rfl⟩:=hC.1.slice;obtain⟨p1,p2,rfl⟩:=hC.2.1.slice;obtain⟨a1,a2,rfl⟩:=hC.2.2.slice;clear hC;simp only;by_cases hr1:inB xi 1 500=true
 ·by_cases hr2:inB xt 1 9=true
  ·by_cases hr3:inB xg 0 65535=true
   ·go_enter Tryz.func32,Tryz.ntmps32;go_wp2_with (go_at_call 18;refine(cC _ _ _ _).mono ?_;rintro e w' ⟨rfl,rfl⟩)
    obtain⟨W0,hW0⟩:∃W0,W0=(w.alloc (.cells #[.slice s1 S.length s2,.slice p1 P.length p2,.slice a1 A.length a2] 26)).alloc (.cells #[.int .i64 xi,.int .i64 xt,.int .i64 xg] 60):=⟨_,rfl⟩;have hb0:Below w.heap.size w W0:=by rw [hW0];exact((Below.refl _ _).alloc zr _).alloc (by simp) _
    have c0:W0.cell? ⟨w.heap.size,0,none⟩=some (.slice s1 S.length s2):=by rw [hW0];exact au (aj w _ rfl _ _ _ _ rfl) _
    have c1:W0.cell? ⟨w.heap.size,1,none⟩=some (.slice p1 P.length p2):=by rw [hW0];exact au (aj w _ rfl _ _ _ _ rfl) _
    have c2:W0.cell? ⟨w.heap.size,2,none⟩=some (.slice a1 A.length a2):=by rw [hW0];exact au (aj w _ rfl _ _ _ _ rfl) _
    have x0:W0.cell? ⟨w.heap.size+1,0,none⟩=some (.int .i64 xi):=by rw [hW0];exact aj _ _ (by simp) _ _ _ _ rfl
    have x1:W0.cell? ⟨w.heap.size+1,1,none⟩=some (.int .i64 xt):=by rw [hW0];exact aj _ _ (by simp) _ _ _ _ rfl
    have x2:W0.cell? ⟨w.heap.size+1,2,none⟩=some (.int .i64 xg):=by rw [hW0];exact aj _ _ (by simp) _ _ _ _ rfl
    rw [←hW0];clear hW0;refine(ag HK _ hb0).mono ?_;rintro e w1 ⟨rfl,hc1⟩;have k1:=hb0.trans (hc1.mono hb0.size);have d0:=zC c0 hc1;have d1:=zC c1 hc1;have d2:=zC c2 hc1;have y0:=zC x0 hc1;have y1:=zC x1 hc1;have y2:=zC x2 hc1;clear HK hc1 hb0 c0 c1 c2 x0 x1 x2;have n1:=am d0;have n2:=am y0;have m1:w.heap.size≠w1.heap.size:=(by omega);have m2:w.heap.size+1≠w1.heap.size:=(by omega);have hs1:=k1.size;have k2:Below w.heap.size w (w1.alloc (.cells #[.int .i64 z0,.int .i64 z1,.int .i64 z2] 60)):=k1.alloc hs1 _;cases R1
    ·by_cases hg:0<xg
     ·go_wp2_with fail
      refine(ag HT _ k2).mono ?_;rintro e w2 ⟨rfl,hc2⟩;have k3:=k2.trans (hc2.mono k2.size);have v0:=dp (au d0 _) hc2 zr;clear HT hc2 k2 n1 n2 m1 m2 d0 d1 d2 y0 y1 y2;cases R2
      ·by_cases h12:12≤S.length
       ·have h12i:(12:Int)≤(S.length:Int):=(by omega);go_wp2_with fail
        go_ret;exact⟨ah (by rw [HR.out];simp_all),k3⟩
       ·have h12j:(S.length:Int)<12:=(by omega);go_wp2_with fail
        go_ret;exact⟨ah (by rw [HR.out];simp_all),k3⟩
      ·go_wp2_with fail
       go_ret;exact⟨ah (by rw [HR.out];simp_all),k3⟩
     ·have HR0:Hid (R=if 12≤S.length then 1 else 0):=HR.out.trans (by simp [hr1,hr2,hr3,hg]);clear HT HR;by_cases h12:12≤S.length
      ·have h12i:(12:Int)≤(S.length:Int):=(by omega);go_wp2_with fail
       go_ret;exact⟨ah (by rw [HR0.out];simp_all),k2⟩
      ·have h12j:(S.length:Int)<12:=(by omega);go_wp2_with fail
       go_ret;exact⟨ah (by rw [HR0.out];simp_all),k2⟩
    ·clear HT;go_wp2_with fail
     go_ret;exact⟨ah (by rw [HR.out];simp_all),k2⟩
   ·have hr3':inB xg 0 65535=false:=(by simpa using hr3);clear hr3 HK HT;go_enter Tryz.func32,Tryz.ntmps32;go_wp2_with (go_at_call 18;refine(cC _ _ _ _).mono ?_;rintro e w' ⟨rfl,rfl⟩)
    go_ret;exact⟨ah (by rw [HR.out];simp_all),((Below.refl _ _).alloc zr _).alloc (by simp) _⟩
  ·have hr2':inB xt 1 9=false:=(by simpa using hr2);clear hr2 HK HT;go_enter Tryz.func32,Tryz.ntmps32;go_wp2_with (go_at_call 18;refine(cC _ _ _ _).mono ?_;rintro e w' ⟨rfl,rfl⟩)
   go_ret;exact⟨ah (by rw [HR.out];simp_all),((Below.refl _ _).alloc zr _).alloc (by simp) _⟩
 ·have hr1':inB xi 1 500=false:=(by simpa using hr1);clear hr1 HK HT;go_enter Tryz.func32,Tryz.ntmps32;go_wp2_with (go_at_call 18;refine(cC _ _ _ _).mono ?_;rintro e w' ⟨rfl,rfl⟩)
  go_ret;exact⟨ah (by rw [HR.out];simp_all),((Below.refl _ _).alloc zr _).alloc (by simp) _⟩
def iv (S:List Sw) (P:List Pr) (x:Pr):Int:=
 if eN x=false then 2 else if S.any (fun s=>s.i==x.s)=false then 6 else if P.any (fun y=>y.i==x.i|| y.s==x.s&&y.m==x.m)=true then 7 else
 if cN S P (sof S x.s).t x.p=true then 7 else if 40≤P.length then 1 else 0
theorem nU (sv pv av:Value) (S:List Sw) (P:List Pr) (A:List Ac) (x:Pr) (w:World) (hC:CfAt w sv pv av S P A) (h1:S.length*24≤140737488355328) (h2:P.length*40≤140737488355328):
  Calls Tryz.prog 33 #[.agg #[sv,pv,av],.agg #[.int .i64 x.i,.int .i64 x.s,.int .i64 x.m,.int .i64 x.p,.int .i64 x.c]] w fun e w'=>e= .returned (.int .i64 (iv S P x))∧Below w.heap.size w w':=by
 obtain⟨xi,xs,xm,xp,xc⟩:=x;have HC:=aa hC;have HK:Hid (∀W:World,Below w.heap.size w W→Calls Tryz.prog 60 #[.agg #[sv,pv,av],.int .i64 xs] W fun e w'=>e= .returned (.tuple #[.agg #[.int .i64 (sof S xs).i,.int .i64 (sof S xs).t,.int .i64 (sof S xs).g],.bool (S.any (fun s=>s.i==xs))])∧Below W.heap.size W w'):=fun W hW=>dW sv pv av S P A xs W (hC.below hW zr) h1;have HT:Hid (∀W:World,Below w.heap.size w W→Calls Tryz.prog 61 #[.agg #[sv,pv,av],.int .i64 (sof S xs).t,.int .i64 xp] W fun e w'=>e= .returned (.bool (cN S P (sof S xs).t xp))∧Below W.heap.size W w'):=fun W hW=>j4 sv pv av S P A _ xp W (hC.below hW zr) h1 h2;have HR:Hid (iv S P ⟨xi,xs,xm,xp,xc⟩=if(inB xi 1 999&&inB xm 1 59999&&inB xp 1 65535&&inB xc (-1) 5)=false then 2 else if S.any (fun s=>s.i==xs)=false then 6 else if P.any (fun y=>y.i==xi|| y.s==xs&&y.m==xm)=true then 7 else
  if cN S P (sof S xs).t xp=true then 7 else if 40≤P.length then 1 else 0):=rfl
 have HY:Hid (∀k,k<P.length→((P.getD k pr0).i==xi|| (P.getD k pr0).s==xs&&(P.getD k pr0).m==xm)=true→P.any (fun y=>y.i==xi|| y.s==xs&&y.m==xm)=true):=fun k hk h=>tl (p:=fun y:Pr=>y.i==xi|| y.s==xs&&y.m==xm) pr0 hk h;have HNO:Hid ((∀k,k<P.length→((P.getD k pr0).i==xi|| (P.getD k pr0).s==xs&&(P.getD k pr0).m==xm)=false)→P.any (fun y=>y.i==xi|| y.s==xs&&y.m==xm)=false):=fun h=>ns (p:=fun y:Pr=>y.i==xi|| y.s==xs&&y.m==xm) pr0 h;generalize iv S P ⟨xi,xs,xm,xp,xc⟩=R at*;generalize S.any (fun s=>s.i==xs)=R1 at*;generalize P.any (fun y=>y.i==xi|| y.s==xs&&y.m==xm)=R3 at*;generalize cN S P (sof S xs).t xp=R2 at*;generalize sof S xs=X at*;obtain⟨z0,z1,z2⟩:=X;simp only at HK HT;obtain⟨s1,s2,rfl⟩:=hC.1.slice;obtain⟨p1,p2,rfl⟩:=hC.2.1.slice;obtain⟨a1,a2,rfl⟩:=hC.2.2.slice;clear hC;simp only;by_cases hr1:inB xi 1 999=true
 ·by_cases hr2:inB xm 1 59999=true
  ·by_cases hr3:inB xp 1 65535=true
   ·by_cases hr4:inB xc (-1) 5=true
    ·go_enter Tryz.func33,Tryz.ntmps33;go_wp2_with (go_at_call 18;refine(cC _ _ _ _).mono ?_;rintro e w' ⟨rfl,rfl⟩)
     obtain⟨W0,hW0⟩:∃W0,W0=(w.alloc (.cells #[.slice s1 S.length s2,.slice p1 P.length p2,.slice a1 A.length a2] 26)).alloc (.cells #[.int .i64 xi,.int .i64 xs,.int .i64 xm,.int .i64 xp,.int .i64 xc] 51):=⟨_,rfl⟩;have hb0:Below w.heap.size w W0:=by rw [hW0];exact((Below.refl _ _).alloc zr _).alloc (by simp) _
     have c0:W0.cell? ⟨w.heap.size,0,none⟩=some (.slice s1 S.length s2):=by rw [hW0];exact au (aj w _ rfl _ _ _ _ rfl) _
     have c1:W0.cell? ⟨w.heap.size,1,none⟩=some (.slice p1 P.length p2):=by rw [hW0];exact au (aj w _ rfl _ _ _ _ rfl) _
     have c2:W0.cell? ⟨w.heap.size,2,none⟩=some (.slice a1 A.length a2):=by rw [hW0];exact au (aj w _ rfl _ _ _ _ rfl) _
     have x0:W0.cell? ⟨w.heap.size+1,0,none⟩=some (.int .i64 xi):=by rw [hW0];exact aj _ _ (by simp) _ _ _ _ rfl
     have x1:W0.cell? ⟨w.heap.size+1,1,none⟩=some (.int .i64 xs):=by rw [hW0];exact aj _ _ (by simp) _ _ _ _ rfl
     have x2:W0.cell? ⟨w.heap.size+1,2,none⟩=some (.int .i64 xm):=by rw [hW0];exact aj _ _ (by simp) _ _ _ _ rfl
     have x3:W0.cell? ⟨w.heap.size+1,3,none⟩=some (.int .i64 xp):=by rw [hW0];exact aj _ _ (by simp) _ _ _ _ rfl
     have x4:W0.cell? ⟨w.heap.size+1,4,none⟩=some (.int .i64 xc):=by rw [hW0];exact aj _ _ (by simp) _ _ _ _ rfl
     rw [←hW0];clear hW0;refine(ag HK _ hb0).mono ?_;rintro e w1 ⟨rfl,hc1⟩;have k1:=hb0.trans (hc1.mono hb0.size);have d0:=zC c0 hc1;have d1:=zC c1 hc1;have d2:=zC c2 hc1;have y0:=zC x0 hc1;have y1:=zC x1 hc1;have y2:=zC x2 hc1;have y3:=zC x3 hc1;have y4:=zC x4 hc1;clear HK hc1 hb0 c0 c1 c2 x0 x1 x2 x3 x4;have HR1:Hid (R=if R1=false then 6 else if R3=true then 7 else if R2=true then 7 else if 40≤P.length then 1 else 0):=HR.out.trans (by simp [hr1,hr2,hr3,hr4]);clear HR;have n1:=am d0;have n2:=am y0;have m1:w.heap.size≠w1.heap.size:=(by omega);have m2:w.heap.size+1≠w1.heap.size:=(by omega);have hs1:=k1.size;have k2:Below w.heap.size w (w1.alloc (.cells #[.int .i64 z0,.int .i64 z1,.int .i64 z2] 60)):=k1.alloc hs1 _;cases R1
     ·clear HT HY HNO;go_wp2_with fail
      go_ret;exact⟨ah (by rw [HR1.out];simp),k2⟩
     ·go_wp2_with fail
      obtain⟨W2,hW2⟩:∃W2,W2=w1.alloc (.cells #[.int .i64 z0,.int .i64 z1,.int .i64 z2] 60):=⟨_,rfl⟩;have u0:W2.cell? ⟨w1.heap.size,0,none⟩=some (.int .i64 z0):=zN1 hW2 rfl;have u1:W2.cell? ⟨w1.heap.size,1,none⟩=some (.int .i64 z1):=zN1 hW2 rfl;have c0:W2.cell? ⟨w.heap.size,0,none⟩=some (.slice s1 S.length s2):=by rw [hW2];exact au d0 _
      have c1:W2.cell? ⟨w.heap.size,1,none⟩=some (.slice p1 P.length p2):=by rw [hW2];exact au d1 _
      have c2:W2.cell? ⟨w.heap.size,2,none⟩=some (.slice a1 A.length a2):=by rw [hW2];exact au d2 _
      have x0:W2.cell? ⟨w.heap.size+1,0,none⟩=some (.int .i64 xi):=by rw [hW2];exact au y0 _
      have x1:W2.cell? ⟨w.heap.size+1,1,none⟩=some (.int .i64 xs):=by rw [hW2];exact au y1 _
      have x2:W2.cell? ⟨w.heap.size+1,2,none⟩=some (.int .i64 xm):=by rw [hW2];exact au y2 _
      have x3:W2.cell? ⟨w.heap.size+1,3,none⟩=some (.int .i64 xp):=by rw [hW2];exact au y3 _
      have x4:W2.cell? ⟨w.heap.size+1,4,none⟩=some (.int .i64 xc):=by rw [hW2];exact au y4 _
      rw [←hW2]at k2⊢;clear hW2 n1 n2 m1 m2 hs1 k1 d0 d1 d2 y0 y1 y2 y3 y4;obtain⟨B,hB⟩:∃B,B=w1.heap.size:=⟨_,rfl⟩;rw [←hB]at u0 u1⊢;clear hB;go_loopw [7] (fun i wr=>∃k:Nat,k≤P.length∧i= .int .i64 k∧Hid (∀j,j<k→((P.getD j pr0).i==xi|| (P.getD j pr0).s==xs&&(P.getD j pr0).m==xm)=false)∧∃n,wr=W2.drewN n) (fun i _=>P.length-(intOf i).toNat)
      case atStart=>exact⟨0,by omega,rfl,aa (fun j h=>absurd h (by omega)),0,rfl⟩
      case round=>
       obtain⟨k,hk,rfl,HALL,n,hwn⟩:=hrel;have HW:=aa hwn;have e:∀a:Addr,wr.cell? a=W2.cell? a:=fun a=>by rw [hwn];rfl
       have k3:Below w.heap.size w wr:=by rw [hwn];exact kM k2 n
       clear hwn;rw [←e]at c0 c1 c2 x0 x1 x2 x3 x4 u0 u1;by_cases hlt:k<P.length
       ·obtain⟨b,off,cap,e1,hcap,hb,g0,g1,g2,g3,g4⟩:=eO (RowAt.below HC.out.2.1 k3 zr) hlt;simp only [Value.slice.injEq,true_and]at e1;obtain⟨rfl,rfl⟩:=e1;have q3:(0:Int)≤(k:Int):=(by omega);have q4:(k:Int)<(P.length:Int):=(by omega);have HYk:=aa (HY.out k hlt);have HN:Hid (((P.getD k pr0).i==xi|| (P.getD k pr0).s==xs&&(P.getD k pr0).m==xm)=false→∀j,j<k+1→((P.getD j pr0).i==xi|| (P.getD j pr0).s==xs&&(P.getD j pr0).m==xm)=false):=fun hx j hj=>by
         by_cases e:j=k
         ·subst e;exact hx
         ·exact HALL.out j (by omega)
        clear HALL HY HNO HT e;generalize (P.getD k pr0).i=y0 at*;generalize (P.getD k pr0).s=y1 at*;generalize (P.getD k pr0).m=y2 at*;generalize (P.getD k pr0).p=y3 at*;generalize (P.getD k pr0).c=y4 at*;by_cases ha:y0=xi
        ·subst ha;obtain rfl:=HYk.out (by simp);clear HYk HN;go_wp2_with fail
         go_quiet (fail);go_wp2;go_ret;exact⟨ah (by rw [HR1.out];simp),kM k3 _⟩
        ·have hab:(y0==xi)=false:=(by simpa using ha);by_cases hs:y1=xs
         ·subst hs;by_cases hm:y2=xm
          ·subst hm;obtain rfl:=HYk.out (by simp);clear HYk HN;go_wp2_with fail
           go_quiet (fail);go_wp2;go_ret;exact⟨ah (by rw [HR1.out];simp),kM k3 _⟩
          ·have hmb:(y2==xm)=false:=(by simpa using hm);have HN2:=aa (HN.out (by simp [ha,hm]));clear HYk HN;go_wp2_with fail
           go_quiet (fail);go_wp2;go_roundw
           case rel=>exact⟨k+1,by omega,by go_num,HN2,_,by rw [HW.out];exact World.drewN_drewN _ _ _⟩
           case measure=>simp [intOf];omega
         ·have hsb:(y1==xs)=false:=(by simpa using hs);have HN2:=aa (HN.out (by simp [ha,hs]));clear HYk HN;go_wp2_with fail
          go_quiet (fail);go_wp2;go_roundw
          case rel=>exact⟨k+1,by omega,by go_num,HN2,_,by rw [HW.out];exact World.drewN_drewN _ _ _⟩
          case measure=>simp [intOf];omega
       ·obtain rfl:=HNO.out fun j hj=>HALL.out j (by omega);clear HALL HNO HY e HC;go_wp2_with fail
        refine(ag HT _ k3).mono ?_;rintro e w4 ⟨rfl,hc4⟩;have k4:Below w.heap.size w w4:=k3.trans (hc4.mono k3.size);have v0:=zC c0 hc4;have v1:=zC c1 hc4;have v2:=zC c2 hc4;have v3:=zC x3 hc4;have v4:=zC u1 hc4;clear HT c0 c1 c2 x0 x1 x2 x3 x4 u0 u1 k3 hc4;cases R2
        ·by_cases h40:40≤P.length
         ·have h40i:(40:Int)≤(P.length:Int):=(by omega);go_wp2_with fail
          go_ret;exact⟨ah (by rw [HR1.out];simp [h40]),k4⟩
         ·have h40i:(P.length:Int)<40:=(by omega);go_wp2_with fail
          go_ret;exact⟨ah (by rw [HR1.out];simp [h40]),k4⟩
        ·go_wp2_with fail
         go_ret;exact⟨ah (by rw [HR1.out];simp),k4⟩
    ·have hr4':inB xc (-1) 5=false:=(by simpa using hr4);clear hr4 HK HT HY HNO;go_enter Tryz.func33,Tryz.ntmps33;go_wp2_with (go_at_call 18;refine(cC _ _ _ _).mono ?_;rintro e w' ⟨rfl,rfl⟩)
     go_ret;exact⟨ah (by rw [HR.out];simp_all),((Below.refl _ _).alloc zr _).alloc (by simp) _⟩
   ·have hr3':inB xp 1 65535=false:=(by simpa using hr3);clear hr3 HK HT HY HNO;go_enter Tryz.func33,Tryz.ntmps33;go_wp2_with (go_at_call 18;refine(cC _ _ _ _).mono ?_;rintro e w' ⟨rfl,rfl⟩)
    go_ret;exact⟨ah (by rw [HR.out];simp_all),((Below.refl _ _).alloc zr _).alloc (by simp) _⟩
  ·have hr2':inB xm 1 59999=false:=(by simpa using hr2);clear hr2 HK HT HY HNO;go_enter Tryz.func33,Tryz.ntmps33;go_wp2_with (go_at_call 18;refine(cC _ _ _ _).mono ?_;rintro e w' ⟨rfl,rfl⟩)
   go_ret;exact⟨ah (by rw [HR.out];simp_all),((Below.refl _ _).alloc zr _).alloc (by simp) _⟩
 ·have hr1':inB xi 1 999=false:=(by simpa using hr1);clear hr1 HK HT HY HNO;go_enter Tryz.func33,Tryz.ntmps33;go_wp2_with (go_at_call 18;refine(cC _ _ _ _).mono ?_;rintro e w' ⟨rfl,rfl⟩)
  go_ret;exact⟨ah (by rw [HR.out];simp_all),((Below.refl _ _).alloc zr _).alloc (by simp) _⟩
theorem oA (k:Nat) (hk:k≤16):0<(65536:Int)/2 ^ k∧(65536:Int)/2 ^ k≤65536:=by
 have hc:k=0∨k=1∨k=2∨k=3∨k=4∨k=5∨k=6∨k=7∨k=8∨k=9∨k=10∨k=11∨k=12∨k=13∨k=14∨k=15∨k=16:=by omega
 rcases hc with rfl | rfl | rfl | rfl | rfl | rfl | rfl | rfl | rfl | rfl | rfl | rfl | rfl | rfl | rfl | rfl | rfl <;>decide
theorem gG (n:Int) (h0:0≤n) (h1:n≤1000000):IntKind.i64.wrap n=n:=by
 simp [IntKind.wrap,IntKind.bits,IntKind.signed];split <;>omega
theorem oT (sv pv av:Value) (S:List Sw) (P:List Pr) (A:List Ac) (x:Ac) (w:World) (hC:CfAt w sv pv av S P A) (h1:S.length*24≤140737488355328):
  Calls Tryz.prog 34 #[.agg #[sv,pv,av],.agg #[.int .i64 x.s,.int .i64 x.p,.bool x.n,.int .i64 x.src,.int .i64 x.sb,.int .i64 x.dst,.int .i64 x.db,.int .i64 x.o,.bool x.d]] w fun e w'=>e= .returned (.int .i64 (aU S A x))∧Below w.heap.size w w':=by
 obtain⟨xs,xp,xn,xf,xb,xd,xe,xo,xy⟩:=x;have HK:Hid (∀W:World,Below w.heap.size w W→Calls Tryz.prog 60 #[.agg #[sv,pv,av],.int .i64 xs] W fun e w'=>e= .returned (.tuple #[.agg #[.int .i64 (sof S xs).i,.int .i64 (sof S xs).t,.int .i64 (sof S xs).g],.bool (S.any (fun s=>s.i==xs))])∧Below W.heap.size W w'):=fun W hW=>dW sv pv av S P A xs W (hC.below hW zr) h1;have HR:Hid (aU S A ⟨xs,xp,xn,xf,xb,xd,xe,xo,xy⟩=if(inB xp 0 1000&&inB xf 0 65535&&inB xd 0 65535&&inB xb 0 16&&inB xe 0 16&&inB xo (-1) 65535)=false then 2 else if(bH xf xb&&bH xd xe)=false then 4 else if S.any (fun s=>s.i==xs)=false then 6 else if 40≤A.length then 1 else 0):=rfl;generalize aU S A ⟨xs,xp,xn,xf,xb,xd,xe,xo,xy⟩=R at*;generalize S.any (fun s=>s.i==xs)=R1 at*;generalize sof S xs=X at*;obtain⟨z0,z1,z2⟩:=X;simp only at HK;obtain⟨s1,s2,rfl⟩:=hC.1.slice;obtain⟨p1,p2,rfl⟩:=hC.2.1.slice;obtain⟨a1,a2,rfl⟩:=hC.2.2.slice;clear hC;simp only;by_cases hr1:inB xp 0 1000=true
 ·by_cases hr2:inB xf 0 65535=true
  ·by_cases hr3:inB xd 0 65535=true
   ·by_cases hr4:inB xb 0 16=true
    ·by_cases hr5:inB xe 0 16=true
     ·by_cases hr6:inB xo (-1) 65535=true
      ·have HR1:Hid (R=if(bH xf xb&&bH xd xe)=false then 4 else if R1=false then 6 else if 40≤A.length then 1 else 0):=HR.out.trans (by simp [hr1,hr2,hr3,hr4,hr5,hr6]);clear HR;go_enter Tryz.func34,Tryz.ntmps34;go_wp2_with (go_at_call 18;refine(cC _ _ _ _).mono ?_;rintro e w' ⟨rfl,rfl⟩)
       obtain⟨W0,hW0⟩:∃W0,W0=(w.alloc (.cells #[.slice s1 S.length s2,.slice p1 P.length p2,.slice a1 A.length a2] 26)).alloc (.cells #[.int .i64 xs,.int .i64 xp,.bool xn,.int .i64 xf,.int .i64 xb,.int .i64 xd,.int .i64 xe,.int .i64 xo,.bool xy] 62):=⟨_,rfl⟩;have hb0:Below w.heap.size w W0:=by rw [hW0];exact((Below.refl _ _).alloc zr _).alloc (by simp) _
       have c0:W0.cell? ⟨w.heap.size,0,none⟩=some (.slice s1 S.length s2):=by rw [hW0];exact au (aj w _ rfl _ _ _ _ rfl) _
       have c1:W0.cell? ⟨w.heap.size,1,none⟩=some (.slice p1 P.length p2):=by rw [hW0];exact au (aj w _ rfl _ _ _ _ rfl) _
       have c2:W0.cell? ⟨w.heap.size,2,none⟩=some (.slice a1 A.length a2):=by rw [hW0];exact au (aj w _ rfl _ _ _ _ rfl) _
       have x0:W0.cell? ⟨w.heap.size+1,0,none⟩=some (.int .i64 xs):=by rw [hW0];exact aj _ _ (by simp) _ _ _ _ rfl
       have x1:W0.cell? ⟨w.heap.size+1,1,none⟩=some (.int .i64 xp):=by rw [hW0];exact aj _ _ (by simp) _ _ _ _ rfl
       have x2:W0.cell? ⟨w.heap.size+1,2,none⟩=some (.bool xn):=by rw [hW0];exact aj _ _ (by simp) _ _ _ _ rfl
       have x3:W0.cell? ⟨w.heap.size+1,3,none⟩=some (.int .i64 xf):=by rw [hW0];exact aj _ _ (by simp) _ _ _ _ rfl
       have x4:W0.cell? ⟨w.heap.size+1,4,none⟩=some (.int .i64 xb):=by rw [hW0];exact aj _ _ (by simp) _ _ _ _ rfl
       have x5:W0.cell? ⟨w.heap.size+1,5,none⟩=some (.int .i64 xd):=by rw [hW0];exact aj _ _ (by simp) _ _ _ _ rfl
       have x6:W0.cell? ⟨w.heap.size+1,6,none⟩=some (.int .i64 xe):=by rw [hW0];exact aj _ _ (by simp) _ _ _ _ rfl
       have x7:W0.cell? ⟨w.heap.size+1,7,none⟩=some (.int .i64 xo):=by rw [hW0];exact aj _ _ (by simp) _ _ _ _ rfl
       have x8:W0.cell? ⟨w.heap.size+1,8,none⟩=some (.bool xy):=by rw [hW0];exact aj _ _ (by simp) _ _ _ _ rfl
       rw [←hW0];clear hW0;have hb4:=hr4;have hb5:=hr5;have hf2:=hr2;have hf3:=hr3;simp [inB]at hb4 hb5 hf2 hf3;obtain⟨cb,rfl⟩:=Int.eq_ofNat_of_zero_le hb4.1;obtain⟨ce,rfl⟩:=Int.eq_ofNat_of_zero_le hb5.1;have HU1:Hid (∀W:World,Calls Tryz.prog 62 #[.int .i64 (cb:Int)] W fun e w'=>e= .returned (.int .i64 (65536/2 ^ cb))∧w'=W):=fun W=>jK cb W (by omega);have HU2:Hid (∀W:World,Calls Tryz.prog 62 #[.int .i64 (ce:Int)] W fun e w'=>e= .returned (.int .i64 (65536/2 ^ ce))∧w'=W):=fun W=>jK ce W (by omega);obtain⟨o1,o2⟩:=oA cb (by omega);obtain⟨o3,o4⟩:=oA ce (by omega);unfold bH at HR1;rw [Int.toNat_natCast,Int.toNat_natCast]at HR1;generalize (65536:Int)/2 ^ cb=U1 at*;generalize (65536:Int)/2 ^ ce=U2 at*;have e1:(U1==0)=false:=by simp;omega
       have e2:(U2==0)=false:=by simp;omega
       have e3:U1≠0:=(by omega);have e4:U2≠0:=(by omega);have tm1:xf.tmod U1=xf%U1:=Int.tmod_eq_emod_of_nonneg hf2.1;have tm2:xd.tmod U2=xd%U2:=Int.tmod_eq_emod_of_nonneg hf3.1;have b1:=Int.emod_nonneg xf e3;have b2:=Int.emod_lt_of_pos xf o1;have b3:=Int.emod_nonneg xd e4;have b4:=Int.emod_lt_of_pos xd o3;have wr1:IntKind.i64.wrap (xf%U1)=xf%U1:=gG _ (by omega) (by omega);have wr2:IntKind.i64.wrap (xd%U2)=xd%U2:=gG _ (by omega) (by omega);generalize xf%U1=m1 at*;generalize xd%U2=m2 at*;have HBB:=aa hb0;by_cases hm1:m1=0
       ·subst hm1;by_cases hm2:m2=0
        ·subst hm2;refine wp_region_held_drew (S:=(fun w'=>w'.cell? ⟨w.heap.size,0,none⟩=some (.slice s1 S.length s2)∧w'.cell? ⟨w.heap.size,1,none⟩=some (.slice p1 P.length p2)∧w'.cell? ⟨w.heap.size,2,none⟩=some (.slice a1 A.length a2)∧w'.cell? ⟨w.heap.size+1,0,none⟩=some (.int .i64 xs)∧w'.cell? ⟨w.heap.size+1,3,none⟩=some (.int .i64 xf)∧w'.cell? ⟨w.heap.size+1,4,none⟩=some (.int .i64 (cb:Int))∧w'.cell? ⟨w.heap.size+1,5,none⟩=some (.int .i64 xd)∧w'.cell? ⟨w.heap.size+1,6,none⟩=some (.int .i64 (ce:Int)))) (by kernel_rfl) ?hS1 (fun hHeld=>?hR1)
         case hS1=>(try dsimp only);go_keep
         refine sqA [(0,41),(1,42),(2,43),(3,44)] ?_;(iterate 4 (refine sqN rfl (by kernel_rfl) (fun _ _ _ h=>h) rfl ‹_› (by intro w h;go_simp <;>with_reducible rfl) ?_;simp only [nz]));refine sqZ ?_;refine rsq 4 45 (by kernel_rfl) rfl (fun K hK=>?_);go_simp;(go_at_call 62;refine(ag HU1 _).mono ?_;rintro e w1 ⟨rfl,rfl⟩);go_wp2_with fail
         refine hK.out _ _ ?hS6 (fun hHeld=>?hR6)
         case hS6=>(try dsimp only);go_keep
         clear hK K;(try simp only [nz]);refine sqA [(5,46),(6,47),(7,48),(8,49),(9,50),(10,51),(11,52)] ?_;(iterate 7 (refine sqN rfl (by kernel_rfl) (fun _ _ _ h=>h) rfl ‹_› (by intro w h;go_simp <;>with_reducible rfl) ?_;simp only [nz]));refine sqZ ?_;refine rsq 12 53 (by kernel_rfl) rfl (fun K hK=>?_);go_simp;(go_at_call 62;refine(ag HU2 _).mono ?_;rintro e w1 ⟨rfl,rfl⟩);go_wp2_with fail
         refine hK.out _ _ ?hS14 (fun hHeld=>?hR14)
         case hS14=>(try dsimp only);go_keep
         clear hK K;(try simp only [nz]);refine sqA [(13,54),(14,55),(15,56)] ?_;(iterate 3 (refine sqN rfl (by kernel_rfl) (fun _ _ _ h=>h) rfl ‹_› (by intro w h;go_simp <;>with_reducible rfl) ?_;simp only [nz]));refine sqZ ?_;refine wpAnyH_done (by kernel_rfl) ?_ _;clear hHeld HU1 HU2 tm1 tm2 wr1 wr2 e1 e2 e3 e4 o1 o2 o3 o4;have HR2:Hid (R=if R1=false then 6 else if 40≤A.length then 1 else 0):=HR1.out.trans (by simp);clear HR1;go_wp2_with fail
         refine(ag HK _ hb0.drew).mono ?_;rintro e w3 ⟨rfl,hc3⟩;have hc4:Below W0.heap.size W0 w3:=((Below.refl _ W0).drew).trans hc3;have k3:=hb0.trans (hc4.mono hb0.size);have d2:=zC c2 hc4;have n1:=am d2;have n2:w.heap.size≠w3.heap.size:=(by omega);have hs3:=k3.size;clear HK hc3 hc4 c0 c1 c2 x0 x1 x2 x3 x4 x5 x6 x7 x8;cases R1
         ·go_wp2_with fail
          go_ret;exact⟨ah (by rw [HR2.out];simp),k3.alloc hs3 _⟩
         ·by_cases h40:40≤A.length
          ·have h40i:(40:Int)≤(A.length:Int):=(by omega);go_wp2_with fail
           go_ret;exact⟨ah (by rw [HR2.out];simp [h40]),k3.alloc hs3 _⟩
          ·have h40i:(A.length:Int)<40:=(by omega);go_wp2_with fail
           go_ret;exact⟨ah (by rw [HR2.out];simp [h40]),k3.alloc hs3 _⟩
        ·have hmb:(m2 != 0)=true:=(by simpa using hm2);refine wp_region_held_drew (S:=(fun w'=>w'.cell? ⟨w.heap.size,0,none⟩=some (.slice s1 S.length s2)∧w'.cell? ⟨w.heap.size,1,none⟩=some (.slice p1 P.length p2)∧w'.cell? ⟨w.heap.size,2,none⟩=some (.slice a1 A.length a2)∧w'.cell? ⟨w.heap.size+1,0,none⟩=some (.int .i64 xs)∧w'.cell? ⟨w.heap.size+1,3,none⟩=some (.int .i64 xf)∧w'.cell? ⟨w.heap.size+1,4,none⟩=some (.int .i64 (cb:Int))∧w'.cell? ⟨w.heap.size+1,5,none⟩=some (.int .i64 xd)∧w'.cell? ⟨w.heap.size+1,6,none⟩=some (.int .i64 (ce:Int)))) (by kernel_rfl) ?hS18 (fun hHeld=>?hR18)
         case hS18=>(try dsimp only);go_keep
         refine sqA [(0,41),(1,42),(2,43),(3,44)] ?_;(iterate 4 (refine sqN rfl (by kernel_rfl) (fun _ _ _ h=>h) rfl ‹_› (by intro w h;go_simp <;>with_reducible rfl) ?_;simp only [nz]));refine sqZ ?_;refine rsq 4 45 (by kernel_rfl) rfl (fun K hK=>?_);go_simp;(go_at_call 62;refine(ag HU1 _).mono ?_;rintro e w1 ⟨rfl,rfl⟩);go_wp2_with fail
         refine hK.out _ _ ?hS23 (fun hHeld=>?hR23)
         case hS23=>(try dsimp only);go_keep
         clear hK K;(try simp only [nz]);refine sqA [(5,46),(6,47),(7,48),(8,49),(9,50),(10,51),(11,52)] ?_;(iterate 7 (refine sqN rfl (by kernel_rfl) (fun _ _ _ h=>h) rfl ‹_› (by intro w h;go_simp <;>with_reducible rfl) ?_;simp only [nz]));refine sqZ ?_;refine rsq 12 53 (by kernel_rfl) rfl (fun K hK=>?_);go_simp;(go_at_call 62;refine(ag HU2 _).mono ?_;rintro e w1 ⟨rfl,rfl⟩);go_wp2_with fail
         refine hK.out _ _ ?hS31 (fun hHeld=>?hR31)
         case hS31=>(try dsimp only);go_keep
         clear hK K;(try simp only [nz]);refine sqA [(13,54),(14,55),(15,56)] ?_;(iterate 3 (refine sqN rfl (by kernel_rfl) (fun _ _ _ h=>h) rfl ‹_› (by intro w h;go_simp <;>with_reducible rfl) ?_;simp only [nz]));refine sqZ ?_;refine wpAnyH_done (by kernel_rfl) ?_ _;clear hHeld HU1 HU2 tm1 tm2 wr1 wr2 e1 e2 e3 e4 o1 o2 o3 o4;go_wp2_with fail
         go_ret;exact⟨ah (by rw [HR1.out];simp_all),HBB.out.drew⟩
       ·have hmb:(m1 != 0)=true:=(by simpa using hm1);refine wp_region_held_drew (S:=(fun w'=>w'.cell? ⟨w.heap.size,0,none⟩=some (.slice s1 S.length s2)∧w'.cell? ⟨w.heap.size,1,none⟩=some (.slice p1 P.length p2)∧w'.cell? ⟨w.heap.size,2,none⟩=some (.slice a1 A.length a2)∧w'.cell? ⟨w.heap.size+1,0,none⟩=some (.int .i64 xs)∧w'.cell? ⟨w.heap.size+1,3,none⟩=some (.int .i64 xf)∧w'.cell? ⟨w.heap.size+1,4,none⟩=some (.int .i64 (cb:Int))∧w'.cell? ⟨w.heap.size+1,5,none⟩=some (.int .i64 xd)∧w'.cell? ⟨w.heap.size+1,6,none⟩=some (.int .i64 (ce:Int)))) (by kernel_rfl) ?hS35 (fun hHeld=>?hR35)
        case hS35=>(try dsimp only);go_keep
        refine sqA [(0,41),(1,42),(2,43),(3,44)] ?_;(iterate 4 (refine sqN rfl (by kernel_rfl) (fun _ _ _ h=>h) rfl ‹_› (by intro w h;go_simp <;>with_reducible rfl) ?_;simp only [nz]));refine sqZ ?_;refine rsq 4 45 (by kernel_rfl) rfl (fun K hK=>?_);go_simp;(go_at_call 62;refine(ag HU1 _).mono ?_;rintro e w1 ⟨rfl,rfl⟩);go_wp2_with fail
        refine hK.out _ _ ?hS40 (fun hHeld=>?hR40)
        case hS40=>(try dsimp only);go_keep
        clear hK K;(try simp only [nz]);refine sqA [(5,46),(6,47),(7,48)] ?_;(iterate 3 (refine sqN rfl (by kernel_rfl) (fun _ _ _ h=>h) rfl ‹_› (by intro w h;go_simp <;>with_reducible rfl) ?_;simp only [nz]));refine sqZ ?_;refine wpAnyH_take (i:=8) (oi:=⟨some 49,_,_,_,_,_⟩) (v:=undef) rfl (by kernel_rfl) (by kernel_rfl) (by kernel_rfl) (fun _ _ _ h=>h) (Or.inr ⟨by rfl,rfl⟩) (by assumption) ?_;(try simp only [nz]);refine wpAnyH_take (i:=9) (oi:=⟨some 50,_,_,_,_,_⟩) (v:=undef) rfl (by kernel_rfl) (by kernel_rfl) (by kernel_rfl) (fun _ _ _ h=>h) (Or.inr ⟨by rfl,rfl⟩) (by assumption) ?_;(try simp only [nz]);refine wpAnyH_take (i:=10) (oi:=⟨some 51,_,_,_,_,_⟩) (v:=undef) rfl (by kernel_rfl) (by kernel_rfl) (by kernel_rfl) (fun _ _ _ h=>h) (Or.inr ⟨by rfl,rfl⟩) (by assumption) ?_;(try simp only [nz]);refine wpAnyH_take (i:=11) (oi:=⟨some 52,_,_,_,_,_⟩) (v:=undef) rfl (by kernel_rfl) (by kernel_rfl) (by kernel_rfl) (fun _ _ _ h=>h) (Or.inr ⟨by rfl,rfl⟩) (by assumption) ?_;(try simp only [nz]);refine rsq 12 53 (by kernel_rfl) rfl (fun K hK=>?_);rw [if_neg (by rw [Bool.not_eq_true];rfl)];refine hK.out _ _ ?hS44 (fun hHeld=>?hR44)
        case hS44=>(try dsimp only);go_keep
        clear hK K;(try simp only [nz]);refine wpAnyH_take (i:=13) (oi:=⟨some 54,_,_,_,_,_⟩) (v:=undef) rfl (by kernel_rfl) (by kernel_rfl) (by kernel_rfl) (fun _ _ _ h=>h) (Or.inr ⟨by rfl,rfl⟩) (by assumption) ?_;(try simp only [nz]);refine wpAnyH_take (i:=14) (oi:=⟨some 55,_,_,_,_,_⟩) (v:=undef) rfl (by kernel_rfl) (by kernel_rfl) (by kernel_rfl) (fun _ _ _ h=>h) (Or.inr ⟨by rfl,rfl⟩) (by assumption) ?_;(try simp only [nz]);refine tq 15 56 rfl (by kernel_rfl) (fun _ _ _ h=>h) rfl ‹_› (by intro w h;go_simp <;>with_reducible rfl) ?_;simp only [nz];refine wpAnyH_done (by kernel_rfl) ?_ _;clear hHeld HU1 HU2 tm1 tm2 wr1 wr2 e1 e2 e3 e4 o1 o2 o3 o4;go_wp2_with fail
        go_ret;exact⟨ah (by rw [HR1.out];simp_all),HBB.out.drew⟩
      ·have hr6':inB xo (-1) 65535=false:=(by simpa using hr6);clear hr6 HK;go_enter Tryz.func34,Tryz.ntmps34;go_wp2_with (go_at_call 18;refine(cC _ _ _ _).mono ?_;rintro e w' ⟨rfl,rfl⟩)
       go_ret;exact⟨ah (by rw [HR.out];simp_all),((Below.refl _ _).alloc zr _).alloc (by simp) _⟩
     ·have hr5':inB xe 0 16=false:=(by simpa using hr5);clear hr5 HK;go_enter Tryz.func34,Tryz.ntmps34;go_wp2_with (go_at_call 18;refine(cC _ _ _ _).mono ?_;rintro e w' ⟨rfl,rfl⟩)
      go_ret;exact⟨ah (by rw [HR.out];simp_all),((Below.refl _ _).alloc zr _).alloc (by simp) _⟩
    ·have hr4':inB xb 0 16=false:=(by simpa using hr4);clear hr4 HK;go_enter Tryz.func34,Tryz.ntmps34;go_wp2_with (go_at_call 18;refine(cC _ _ _ _).mono ?_;rintro e w' ⟨rfl,rfl⟩)
     go_ret;exact⟨ah (by rw [HR.out];simp_all),((Below.refl _ _).alloc zr _).alloc (by simp) _⟩
   ·have hr3':inB xd 0 65535=false:=(by simpa using hr3);clear hr3 HK;go_enter Tryz.func34,Tryz.ntmps34;go_wp2_with (go_at_call 18;refine(cC _ _ _ _).mono ?_;rintro e w' ⟨rfl,rfl⟩)
    go_ret;exact⟨ah (by rw [HR.out];simp_all),((Below.refl _ _).alloc zr _).alloc (by simp) _⟩
  ·have hr2':inB xf 0 65535=false:=(by simpa using hr2);clear hr2 HK;go_enter Tryz.func34,Tryz.ntmps34;go_wp2_with (go_at_call 18;refine(cC _ _ _ _).mono ?_;rintro e w' ⟨rfl,rfl⟩)
   go_ret;exact⟨ah (by rw [HR.out];simp_all),((Below.refl _ _).alloc zr _).alloc (by simp) _⟩
 ·have hr1':inB xp 0 1000=false:=(by simpa using hr1);clear hr1 HK;go_enter Tryz.func34,Tryz.ntmps34;go_wp2_with (go_at_call 18;refine(cC _ _ _ _).mono ?_;rintro e w' ⟨rfl,rfl⟩)
  go_ret;exact⟨ah (by rw [HR.out];simp_all),((Below.refl _ _).alloc zr _).alloc (by simp) _⟩
theorem vX (S:List Sw) (x:Sw):iq S [] x=aK S [] x:=by
 unfold iq aK cN bq;by_cases h:(inB x.i 1 500&&inB x.t 1 9&&inB x.g 0 65535)=false
 ·rw [if_pos h,if_pos h]
 ·rw [if_neg h,if_neg h];have hg:decide (0<x.g)=(x.g != 0):=by
   have h':(inB x.i 1 500&&inB x.t 1 9&&inB x.g 0 65535)=true:=Bool.not_eq_false _ |>.mp h;simp only [Bool.and_eq_true,inB,decide_eq_true_eq]at h';rw [Bool.eq_iff_iff];simp;omega
  rw [hg];simp
theorem gQ {S:List Sw} {P:List Pr} {x:Sw} (h:aK S P x=0):
  (inB x.i 1 500=true∧inB x.t 1 9=true∧inB x.g 0 65535=true)∧(S.any (fun s=>s.i==x.i)=false∧(x.g != 0&&bq S P x.t x.g)=false)∧S.length<12:=by
 unfold aK at h;by_cases h0:(inB x.i 1 500&&inB x.t 1 9&&inB x.g 0 65535)=false
 ·rw [if_pos h0]at h;omega
 ·rw [if_neg h0]at h;by_cases h1:(S.any (fun s=>s.i==x.i)|| (x.g != 0&&bq S P x.t x.g))=true
  ·rw [if_pos h1]at h;omega
  ·rw [if_neg h1]at h;by_cases h2:12≤S.length
   ·rw [if_pos h2]at h;omega
   ·have h0':=Bool.not_eq_false _ |>.mp h0
    have h1':=Bool.not_eq_true _ |>.mp h1;simp only [Bool.and_eq_true]at h0';rw [Bool.or_eq_false_iff]at h1';exact⟨⟨h0'.1.1,h0'.1.2,h0'.2⟩,h1',by omega⟩
theorem wD {S:List Sw} (h:aW S=true) {k:Nat} (hk:k<S.length):aK (S.take k) [] (S.getD k sw0)=0:=by
 unfold aW at h;rw [List.all_eq_true]at h;simpa using h k (List.mem_range.2 hk)
theorem Bc {S:List Sw} (h:aW S=true) {x:Sw} (hx:x∈S):inB x.i 1 500=true∧inB x.t 1 9=true∧inB x.g 0 65535=true:=by
 obtain⟨k,hk,rfl⟩:=List.getElem_of_mem hx;have:=(gQ (wD h hk)).1;simpa [List.getD,List.getElem?_eq_getElem hk] using this
theorem xO {S:List Sw} (h:aW S=true) {j k:Nat} (hk:k<S.length) (hj:j<k):(S[j]'(by omega)).i≠S[k].i:=by
 have h1:=(gQ (wD h hk)).2.1.1;rw [List.any_eq_false]at h1;have hm:S[j]'(by omega)∈S.take k:=by
  rw [List.mem_take_iff_getElem];exact⟨j,by omega,rfl⟩
 have:=h1 _ hm;simpa [List.getD,List.getElem?_eq_getElem hk] using this
theorem Ae {S:List Sw} (h:aW S=true) {a b:Sw} (ha:a∈S) (hb:b∈S) (hi:a.i=b.i):a=b:=by
 obtain⟨j,hj,rfl⟩:=List.getElem_of_mem ha;obtain⟨k,hk,rfl⟩:=List.getElem_of_mem hb;rcases Nat.lt_trichotomy j k with h' | h' | h'
 ·exact absurd hi (xO h hk h')
 ·subst h';rfl
 ·exact absurd hi.symm (xO h hj h')
theorem oZ {S:List Sw} {id:Int} (h:S.any (fun s=>s.i==id)=true):sof S id∈S∧(sof S id).i=id∧¬idx (fun s=>s.i==id) S<0∧sof S id=S.getD (idx (fun s=>s.i==id) S).toNat sw0:=by
 have e:=bX (fun s:Sw=>s.i==id) S;rw [h]at e;have h0:0≤idx (fun s:Sw=>s.i==id) S:=by simpa using e
 have hf:∃k,S.findIdx? (fun s=>s.i==id)=some k:=by
  cases hq:S.findIdx? (fun s:Sw=>s.i==id)with
  | none=>unfold idx at h0;rw [hq]at h0;simp at h0
  | some k=>exact⟨k,rfl⟩
 obtain⟨k,hq⟩:=hf;have hi:idx (fun s:Sw=>s.i==id) S=k:=by unfold idx;rw [hq]
 have hs:sof S id=S.getD k sw0:=by unfold sof;rw [hi,if_neg (by omega),Int.toNat_natCast]
 rw [List.findIdx?_eq_some_iff_getElem]at hq;obtain⟨hk,h1,_⟩:=hq;have hg:S.getD k sw0=S[k]:=by simp [List.getD,List.getElem?_eq_getElem hk]
 refine⟨by rw [hs,hg];exact List.getElem_mem hk,by rw [hs,hg];simpa using h1,by omega,by rw [hi,Int.toNat_natCast];exact hs⟩
theorem wF {S:List Sw} {id:Int} (h:S.any (fun s=>s.i==id)=false):sof S id=sw0∧idx (fun s=>s.i==id) S<0:=by
 have e:=bX (fun s:Sw=>s.i==id) S;rw [h]at e;have h0:idx (fun s:Sw=>s.i==id) S<0:=by simpa using e
 exact⟨by unfold sof;rw [if_pos h0],h0⟩
theorem of_eq {S:List Sw} (h:aW S=true) (id t:Int) (ht:t≠0):((sof S id).t==t)=S.any (fun s=>s.i==id&&s.t==t):=by
 rw [Bool.eq_iff_iff,List.any_eq_true];cases ha:S.any (fun s=>s.i==id)with
 | false=>
  rw [(wF ha).1];constructor
  ·intro h0;simp [sw0]at h0;omega
  ·rintro⟨x,hx,hp⟩;rw [List.any_eq_false]at ha;simp at hp;have:=ha x hx;simp at this;exact absurd hp.1 this
 | true=>
  obtain⟨hm,hi,_⟩:=oZ ha;constructor
  ·intro h0;exact⟨_,hm,by simpa [hi] using h0⟩
  ·rintro⟨x,hx,hp⟩;simp at hp;have:=Ae h hx hm (by rw [hi];exact hp.1);rw [←this];simpa using hp.2
theorem yL {S:List Sw} (h:aW S=true) (P:List Pr) (t ip:Int) (ht:t≠0):cN S P t ip=bq S P t ip:=by
 unfold cN bq;congr 1;congr 1;funext x;rw [of_eq h x.s t ht]
theorem AQ {S:List Sw} (h:aW S=true) (P:List Pr) (x:Pr):iv S P x=aN S P x:=by
 unfold iv aN;by_cases h0:eN x=false
 ·rw [if_pos h0,if_pos h0]
 ·rw [if_neg h0,if_neg h0];cases ha:S.any (fun s=>s.i==x.s)with
  | false=>rw [if_pos rfl,if_pos (wF ha).2]
  | true=>
   obtain⟨hm,hi,hn,hs⟩:=oZ ha;rw [if_neg (by simp),if_neg hn, ←hs];have:=(Bc h hm).2.1;simp [inB]at this;rw [yL h P _ _ (by omega)]
def pof (P:List Pr) (id:Int):Pr:=if idx (fun p=>p.i==id) P<0 then pr0 else P.getD (idx (fun p=>p.i==id) P).toNat pr0
theorem jf {P:List Pr} {id:Int} (h:P.any (fun q=>q.i==id)=true):pof P id∈P∧(pof P id).i=id:=by
 rw [←bX]at h;obtain⟨k,hk,e,h2⟩:=qQ pr0 (of_decide_eq_true h);unfold pof;rw [e,if_neg (by omega),Int.toNat_natCast];refine⟨?_,by simpa using h2⟩;rw [List.getD_eq_getElem?_getD,List.getElem?_eq_getElem hk];exact List.getElem_mem hk
theorem mD {P:List Pr} {p:Pr} (hp:p∈P):P.any (fun q=>q.i==p.i)=true:=List.any_eq_true.2 ⟨p,hp,by simp⟩
theorem mO {S:List Sw} {P:List Pr} (hP:aL S P=true) {p:Pr} (hp:p∈P):pof P p.i=p:=by
 obtain⟨h1,h2⟩:=jf (mD hp);exact cI hP h1 hp h2
theorem jm {S:List Sw} {P:List Pr} (hS:aW S=true) (hP:aL S P=true) {p:Pr} (hp:p∈P):sof S p.s=dz S p.s∧sof S p.s∈S∧(sof S p.s).i=p.s:=by
 obtain⟨s,hs,e⟩:=lO hP hp;obtain⟨h1,h2,_,_⟩:=oZ (S:=S) (id:=p.s) (List.any_eq_true.2 ⟨s,hs,by simp [e]⟩);obtain⟨g1,g2⟩:=jZ hP hp;exact⟨iO hS h1 g1 (by rw [h2,g2]),h1,h2⟩
def dBr (s:Sw) (id d:Int) (q:Pr):Bool:=(q.s==s.i&& !(q.i==id))&&(d==65535|| d==q.m)
def dRt (S:List Sw) (s:Sw) (d b t:Int) (q:Pr):Bool:=decide (0<s.g)&&(d==60000+s.i&&(decide (1<t)&&((sof S q.s).t==s.t&&(decide (0<(sof S q.s).g)&&q.p==b))))
def jU (S:List Sw) (s:Sw) (id d sc a b t o:Int) (q:Pr):List Gl:=
 if q.c<0 then []else(if dBr s id d q=true then [⟨s.i,q.i,q.c,[d,sc,3,a,b,t,o]⟩]else [])++(if dRt S s d b t q=true then [⟨(sof S q.s).i,q.i,q.c,[q.m,60000+(sof S q.s).i,3,a,b,t-1,o]⟩]else [])
def otB (s:Sw) (id b:Int) (q:Pr):Bool:=q.s==s.i&&(!(q.i==id)&&q.p==b)
def sy (P:List Pr) (s:Sw) (id ch m ip b:Int):List Gl:=
 if 0<s.g∧s.g=b then [⟨s.i,id,ch,[m,60000+s.i,2,b,ip,0,0]⟩]else match P.find? (otB s id b)with
  | none=>[]
  | some q=>[⟨s.i,id,ch,[m,q.m,2,b,ip,0,0]⟩]
def xH (S:List Sw) (P:List Pr) (s:Sw) (id d sc a b t o:Int):List Gl:=P.flatMap (jU S s id d sc a b t o)
def dj (S:List Sw) (P:List Pr) (A:List Ac) (ch id d sc k a b t o:Int):List Gl:=
 if P.any (fun q=>q.i==id)=true∧(pof P id).c=ch∧sc=(pof P id).m∧a=(pof P id).p then
  (if k=1 then sy P (sof S (pof P id).s) id ch (pof P id).m (pof P id).p b else if k=3∧bN A (sof S (pof P id).s).i true a b o=true then xH S P (sof S (pof P id).s) id d sc a b t o else [])
 else []
theorem lW {α β:Type} {F:α→List β} {f:α→Bool} {g:α→β}:∀{l:List α},(∀q∈l,F q=if f q=true then [g q]else [])→l.flatMap F=(l.filter f).map g
 | [],_=>rfl
 | x::r,h=>by
  rw [List.flatMap_cons,h x (by simp),lW (fun q hq=>h q (by simp [hq])),List.filter_cons];cases f x <;>simp
theorem s7 {α:Type} {f:α→Bool} {l:List α} (h:(l.filter f).length≤1):l.filter f=(l.find? f).toList:=by
 have e:=List.head?_filter (l:=l) (p:=f)
 match hl:l.filter f,h with
 | [],_=>rw [hl]at e;rw [←e];rfl
 | [x],_=>rw [hl]at e;rw [←e];rfl
 | x::y::r,h=>simp at h
section
variable {S:List Sw} {P:List Pr} {A:List Ac}
theorem vP (hS:aW S=true) (hP:aL S P=true) {q:Pr} (hq:q∈P) (t:Int):cw S t q=((sof S q.s).t==t&&decide (0<(sof S q.s).g)):=by
 obtain⟨_,h1,h2⟩:=jm hS hP hq;have hg:=(dE hS).2 _ h1;unfold cw;rw [Bool.eq_iff_iff,List.any_eq_true];simp only [Bool.and_eq_true,beq_iff_eq,Bool.not_eq_true',beq_eq_false_iff_ne,decide_eq_true_eq];constructor
 ·rintro⟨x,hx,⟨e1,e2⟩,e3⟩;obtain rfl:=iO hS hx h1 (by rw [h2];exact e1);exact⟨e2,by omega⟩
 ·rintro⟨e1,e2⟩;exact⟨_,h1,⟨h2,e1⟩,by omega⟩
theorem zE (hm:may S P A=true) {p:Pr} (hp:p∈P) (d sc a b t o:Int):xH S P (sof S p.s) p.i d sc a b t o=lE S P (dz S p.s) p.i d sc a b t o:=by
 obtain⟨hS,hP,_⟩:=aR hm;obtain⟨e,h1,h2⟩:=jm hS hP hp;rw [←e];have hs:=(dE hS).2 _ h1;unfold xH lE;by_cases hd:d=60000+(sof S p.s).i
 ·have h0:P.filter (brB (sof S p.s) p.i d)= []:=by
   rw [List.filter_eq_nil_iff];intro q hq hb;unfold brB at hb;simp only [Bool.and_eq_true,Bool.or_eq_true,beq_iff_eq]at hb;have h1:=(bI hS hP).2 q hq;rcases hb.2.2 with h | h <;>omega
  rw [h0,List.map_nil,List.nil_append];refine lW fun q hq=>?_;have hq1:=(bI hS hP).2 q hq;obtain⟨_,g1,g2⟩:=jm hS hP hq;have hb:dBr (sof S p.s) p.i d q=false:=by
   unfold dBr;have e1:(d==65535)=false:=by simp;omega
   have e2:(d==q.m)=false:=by simp;omega
   rw [e1,e2];simp
  have hr:rtB S (sof S p.s) d b t q=(aw q&&dRt S (sof S p.s) d b t q):=by
   unfold rtB dRt;rw [vP hS hP hq];congr 1;rw [Bool.eq_iff_iff];simp only [Bool.and_eq_true,beq_iff_eq,decide_eq_true_eq];constructor
   ·rintro⟨⟨a1,a2,a3⟩,⟨a4,a5⟩,a6⟩;exact⟨by omega,a2,a3,a4,a5,a6⟩
   ·rintro⟨a1,a2,a3,a4,a5,a6⟩;exact⟨⟨by omega,a2,a3⟩,⟨a4,a5⟩,a6⟩
  unfold jU;rw [hb,hr];by_cases hc:q.c<0
  ·have:aw q=false:=by unfold aw;simp;omega
   rw [if_pos hc,this];simp
  ·have:aw q=true:=by unfold aw;simp;omega
   rw [if_neg hc,this,Bool.true_and];simp [rtG,g2]
 ·have h0:P.filter (rtB S (sof S p.s) d b t)= []:=by
   rw [List.filter_eq_nil_iff];intro q hq hb;unfold rtB at hb;simp only [Bool.and_eq_true,decide_eq_true_eq]at hb;exact hd hb.2.1.2.1
  rw [h0,List.map_nil,List.append_nil];refine lW fun q hq=>?_;have hq1:=(bI hS hP).2 q hq;have hb:dRt S (sof S p.s) d b t q=false:=by
   unfold dRt;have e1:(d==60000+(sof S p.s).i)=false:=(by simpa using hd);rw [e1];simp
  have hr:brB (sof S p.s) p.i d q=(aw q&&dBr (sof S p.s) p.i d q):=rfl;unfold jU;rw [hb,hr];by_cases hc:q.c<0
  ·have:aw q=false:=by unfold aw;simp;omega
   rw [if_pos hc,this];simp
  ·have:aw q=true:=by unfold aw;simp;omega
   rw [if_neg hc,this,Bool.true_and];simp [brG]
theorem zw (hm:may S P A=true) {p:Pr} (hp:p∈P) (c m ip b:Int):sy P (sof S p.s) p.i c m ip b=kf P (dz S p.s) p.i c m ip b:=by
 obtain⟨hS,hP,_⟩:=aR hm;obtain⟨e,h1,h2⟩:=jm hS hP hp;have h3:=na hm hp c m ip b;rw [←e]at h3⊢;have hs:=(dE hS).2 _ h1;unfold kf at h3⊢;unfold sy;rw [List.length_map,List.length_append,List.length_map]at h3;by_cases hg:0<(sof S p.s).g∧(sof S p.s).g=b
 ·have hg2:(sof S p.s).g≠0∧b=(sof S p.s).g:=⟨by omega,hg.2.symm⟩;rw [if_pos hg,if_pos hg2];rw [if_pos hg2]at h3;have:(P.filter (fun q=>q.s==(sof S p.s).i&&(!(q.i==p.i)&&q.p==b)))= []:=List.eq_nil_of_length_eq_zero (by simp only [List.length_cons,List.length_nil]at h3;omega);rw [this];rfl
 ·have hg2:¬((sof S p.s).g≠0∧b=(sof S p.s).g):=fun h=>hg ⟨by omega,h.2.symm⟩;rw [if_neg hg,if_neg hg2,List.nil_append];rw [if_neg hg2,List.length_nil,Nat.zero_add]at h3;rw [s7 h3];show(match P.find? (fun q=>q.s==(sof S p.s).i&&(!(q.i==p.i)&&q.p==b))with | none=>[] | some q=>_)=_;cases P.find? (fun q=>q.s==(sof S p.s).i&&(!(q.i==p.i)&&q.p==b)) <;>rfl
theorem kL (hm:may S P A=true) (ch id d sc k a b t o:Int):dj S P A ch id d sc k a b t o=led S P A ch id d sc k a b t o:=by
 obtain⟨hS,hP,_⟩:=aR hm;unfold dj;by_cases h:P.any (fun q=>q.i==id)=true
 ·obtain⟨hp,hi⟩:=jf h;generalize pof P id=p at*;subst hi;have hf:=ox hP hp;unfold led;rw [hf];simp only [h,true_and];obtain⟨e,_,_⟩:=jm hS hP hp;rw [zw hm hp,zE hm hp,e]
 ·rw [if_neg (fun x=>h x.1)];unfold led;rw [List.find?_eq_none.2 (fun q hq=>by
   intro e;exact h (List.any_eq_true.2 ⟨q,hq,e⟩))]
end
def dCm (P:List Pr) (A:List Ac) (ch:Int) (g:Gl):Bool:=
 (P.any (fun q=>q.i==g.u)&&((pof P g.u).c==ch&&(pof P g.u).s==g.n))&&(g.f.getD 2 0==2|| bN A g.n false (g.f.getD 3 0) (g.f.getD 4 0) (g.f.getD 6 0))
theorem AL {S:List Sw} {P:List Pr} {A:List Ac} (hm:may S P A=true) {ch:Int} {g:Gl} (hk:g.f.getD 2 0=2∨g.f.getD 2 0=3):dCm P A ch g=gB P A ch (g.f.getD 2 0) (g.f.getD 3 0) (g.f.getD 4 0) (g.f.getD 6 0) g.n g.u:=by
 obtain⟨hS,hP,_⟩:=aR hm;unfold dCm gB;have h2:(g.f.getD 2 0==2|| g.f.getD 2 0==3&&bN A g.n false (g.f.getD 3 0) (g.f.getD 4 0) (g.f.getD 6 0))=(g.f.getD 2 0==2|| bN A g.n false (g.f.getD 3 0) (g.f.getD 4 0) (g.f.getD 6 0)):=by
  rcases hk with h | h <;>rw [h] <;>simp
 rw [h2];congr 1;rw [Bool.eq_iff_iff,List.any_eq_true];constructor
 ·intro h;simp only [Bool.and_eq_true]at h;obtain⟨h1,h2⟩:=jf h.1;exact⟨_,h1,by simp only [Bool.and_eq_true,beq_iff_eq]at h⊢;exact⟨h.2.1,h.2.2,h2⟩⟩
 ·rintro⟨q,hq,h⟩;simp only [Bool.and_eq_true,beq_iff_eq]at h;have e:=mO hP hq;rw [h.2.2]at e;simp only [Bool.and_eq_true,beq_iff_eq];refine⟨?_,by rw [e];exact h.1,by rw [e];exact h.2.1⟩;rw [←h.2.2];exact mD hq
structure Cf where
 S:List Sw
 P:List Pr
 A:List Ac
def cf0:Cf:=⟨[],[],[]⟩
def LR (K:Nat→List Fl) (C:Nat→Cf):Prop:=∀i:Nat,i<6→(K i= []∧C i=cf0)∨(may (C i).S (C i).P (C i).A=true∧K i=cmL (C i).S (C i).P (C i).A i)
theorem LR.lrn {K:Nat→List Fl} {C:Nat→Cf} (h:LR K C):Lrn (fun _=>True) K:=fun i hi=>by
 rcases h i hi with h | h
 ·exact .inl h.1
 ·exact .inr ⟨_,_,_,⟨h.1,trivial⟩,h.2⟩
theorem LR.may {K:Nat→List Fl} {C:Nat→Cf} (h:LR K C) {i:Nat} (hi:i<6):may (C i).S (C i).P (C i).A=true:=by
 rcases h i hi with h | h
 ·rw [h.2];exact zP
 ·exact h.1
theorem wN {S:List Sw} {P:List Pr} {A:List Ac} {ch id d sc k a b t o:Int}:∀g∈led S P A ch id d sc k a b t o,g.f.getD 2 0=2∨g.f.getD 2 0=3:=by
 intro g hg;unfold led at hg;cases hfd:P.find? (fun p=>p.i==id)with
 | none=>rw [hfd]at hg;cases hg
 | some p=>
  rw [hfd]at hg;simp only at hg;split at hg
  ·split at hg
   ·unfold kf at hg;obtain⟨m,_,rfl⟩:=List.mem_map.1 hg;exact .inl rfl
   ·split at hg
    ·unfold lE at hg;rcases List.mem_append.1 hg with h | h
     ·obtain⟨q,hq,rfl⟩:=List.mem_map.1 h;exact .inr rfl
     ·obtain⟨q,hq,rfl⟩:=List.mem_map.1 h;exact .inr rfl
    ·cases hg
  ·cases hg
theorem rz {S:List Sw} {P:List Pr} {A:List Ac} (hm:may S P A=true) {ch id d sc k a b t o:Int}:∀g∈led S P A ch id d sc k a b t o,(pof P g.u).c=g.c∧1≤g.u∧g.u≤999:=by
 obtain⟨hS,hP,_⟩:=aR hm;have hpr:=(bI hS hP).2;intro g hg;unfold led at hg;cases hfd:P.find? (fun p=>p.i==id)with
 | none=>rw [hfd]at hg;cases hg
 | some p=>
  rw [hfd]at hg;have hp:=List.mem_of_find?_eq_some hfd;have hi:p.i=id:=(by simpa using List.find?_some hfd);simp only at hg;split at hg
  ·rename_i hq;split at hg
   ·unfold kf at hg;obtain⟨m,_,rfl⟩:=List.mem_map.1 hg;have:=hpr p hp;subst hi;refine⟨?_,by show 1≤p.i;omega,by show p.i≤999;omega⟩;show(pof P p.i).c=ch;rw [mO hP hp];exact hq.1
   ·split at hg
    ·unfold lE at hg;rcases List.mem_append.1 hg with h | h
     ·obtain⟨q,hq,rfl⟩:=List.mem_map.1 h;have hq1:=(List.mem_filter.1 hq).1;have:=hpr q hq1;refine⟨?_,by show 1≤q.i;omega,by show q.i≤999;omega⟩;show(pof P q.i).c=q.c;rw [mO hP hq1]
     ·obtain⟨q,hq,rfl⟩:=List.mem_map.1 h;have hq1:=(List.mem_filter.1 hq).1;have:=hpr q hq1;refine⟨?_,by show 1≤q.i;omega,by show q.i≤999;omega⟩;show(pof P q.i).c=q.c;rw [mO hP hq1]
    ·cases hg
  ·cases hg
def cmB (C:Nat→Cf) (g:Gl):Bool:=dCm (C g.c.toNat).P (C g.c.toNat).A g.c g
section
variable {K:Nat→List Fl} {C:Nat→Cf}
theorem ur (hK:LR K C) {i:Int} {m:Nat} (hi:ap i=true) {g:Gl} (hg:uZ m g) (hk:g.f.getD 2 0=2∨g.f.getD 2 0=3):
  m8 K m (gh i g)=0∧jN K m (gh i g)=if cmB C g=true then [goA g]else []:=by
 obtain⟨d,s,k,a,b,t,o,e,hf,hn,hu,hc0,hc1⟩:=hg;obtain⟨n,u,c,f⟩:=g;simp only at e hn hu hc0 hc1;subst e;obtain⟨c,rfl⟩:=Int.eq_ofNat_of_zero_le hc0;have hff:ff [i,d,s,k,a,b,t,o,n,u] m=0:=hf;have hff0:ff [0,d,s,k,a,b,t,o,n,u] m=0:=hf;have e1:gh i ⟨n,u,(c:Int),[d,s,k,a,b,t,o]⟩=⟨6,c,[i,d,s,k,a,b,t,o,n,u]⟩:=rfl;have e2:fU [i,d,s,k,a,b,t,o,n,u]= [0,d,s,k,a,b,t,o,n,u]:=rfl;have hF:=uD (i:=0) hf (by decide) hn hu;obtain⟨h1,h2,h3,h4⟩:=dI hf;rw [e1];have hB:cmB C ⟨n,u,(c:Int),[d,s,k,a,b,t,o]⟩=dCm (C c).P (C c).A c ⟨n,u,(c:Int),[d,s,k,a,b,t,o]⟩:=rfl;generalize cmB C ⟨n,u,(c:Int),[d,s,k,a,b,t,o]⟩=B at hB⊢;rcases hK c (by omega)with⟨h0,hC0⟩ |⟨hm,hKc⟩
 ·have hz:=eZ (fs:=[]) (by decide) hF h3;rw [hC0]at hB;obtain rfl:B=false:=hB;unfold m8 jN;simp only [if_true,hff,e2,Int.toNat_natCast,h0,hz,jI];exact⟨rfl,rfl⟩
 ·have hE:=pR (ch:=(c:Int)) hm hc0 hc1;have hr:=mV (ch:=(c:Int)) (fs:=cmL (C c).S (C c).P (C c).A c) hm (pO hE) hF (by omega) h2.2.2.2.2.2.2 (fun h=>⟨(h4 h).1,(h4 h).2.1⟩);have hz:=eZ (pJ hE) hF h3;rw [AL hm hk]at hB;subst hB;unfold m8 jN;simp only [if_true,hff,e2,Int.toNat_natCast,hKc,hz,hr];show _∧_=if gB (C c).P (C c).A c k a b o n u=true then [goA ⟨n,u,(c:Int),[d,s,k,a,b,t,o]⟩]else [];by_cases hcm:gB (C c).P (C c).A c k a b o n u=true
  ·simp only [if_pos hcm];have hE2:atE m [⟨5,u,[0,d,s,k,a,b,t,o,n,u]⟩]=0:=by
    simp [atE,j7,n9,hff0]
   refine⟨hE2,?_⟩;unfold atL;rw [if_pos hE2];rfl
  ·simp only [if_neg hcm];exact⟨rfl,rfl⟩
theorem xM (hK:LR K C) {i:Int} {m:Nat} (hi:ap i=true) (gs:List Gl) (hg:∀g∈gs,uZ m g) (hk:∀g∈gs,g.f.getD 2 0=2∨g.f.getD 2 0=3):jP K m (gs.map (gh i))=0∧dh K m (gs.map (gh i))=(gs.filter (cmB C)).map goA:=by
 constructor
 ·unfold jP;rw [List.find?_eq_none.2 (fun x hx=>by
   obtain⟨g,h,rfl⟩:=List.mem_map.1 hx;simp [jT,(ur hK hi (hg g h) (hk g h)).1])]
 ·unfold dh;rw [List.flatMap_map];exact lW fun g h=>(ur hK hi (hg g h) (hk g h)).2
theorem An (hK:LR K C) {S:List Sw} {P:List Pr} {A:List Ac} (hm:may S P A=true) {p:Pr} (hp:p∈P) (hc:p.c≠ -1) {d s k a b t o:Int} {m:Nat} (hf:aQ d s k a b t o m=0):
  fT K P p.i d s k a b t o m=0∧fW K P p.i d s k a b t o m=((dj (C p.c.toNat).S (C p.c.toNat).P (C p.c.toNat).A p.c p.i d s k a b t o).filter (cmB C)).map goA:=by
 obtain⟨hS,hP,hA⟩:=aR hm;have hpp:=(bI hS hP).2 p hp;obtain⟨h0,he⟩:=oy hP hp hc;have hi:ap p.i=true:=by rw [er];omega
 have hF:=uD (i:=p.i) (n:=0) (u:=0) hf hi (by decide) (by decide);obtain⟨h1,h2,h3,h4⟩:=dI hf;obtain⟨c,hcc⟩:=Int.eq_ofNat_of_zero_le (show 0≤p.c by omega);have hpk:pkE d s k a b t o m p.i 0 0=0:=by
  unfold pkE;rw [if_pos hf];have:=eZ (fs:=[]) (by decide) hF h3;unfold dM at this
  rwa [if_pos (by decide)]at this
 rw [kL (by rw [hcc,Int.toNat_natCast];exact hK.may (by omega))];rcases hK c (by omega)with⟨k0,hC0⟩ |⟨hm1,hKc⟩
 ·have hz:=eZ (fs:=[]) (by decide) hF h3;have hA0:fT K P p.i d s k a b t o m=0:=by
   unfold fT;rw [if_neg (by omega),if_pos hpk,he,hcc,Int.toNat_natCast,k0,if_pos hz,jI];rfl
  refine⟨hA0,?_⟩;unfold fW;rw [if_pos hA0,he,hcc,Int.toNat_natCast,k0,jI,hC0];rfl
 ·have hE:=pR (ch:=(c:Int)) hm1 (by omega) (by omega);have hr:=qy (ch:=(c:Int)) (fs:=cmL (C c).S (C c).P (C c).A c) hm1 (pO hE) (i:=p.i) (by omega) hF (by omega) h2.2.2.2.2.2.2 (fun h=>⟨(h4 h).1,(h4 h).2.1⟩);have hz:=eZ (pJ hE) hF h3;obtain⟨e1,e2⟩:=xM hK hi (led (C c).S (C c).P (C c).A c p.i d s k a b t o) (sq hm1 ⟨by omega,by omega⟩ hi hf) wN;have hA0:fT K P p.i d s k a b t o m=0:=by
   unfold fT;rw [if_neg (by omega),if_pos hpk,he,hcc,Int.toNat_natCast,hKc,if_pos hz];rw [show ran (cmL (C c).S (C c).P (C c).A c) [p.i,d,s,k,a,b,t,o,0,0]=_ from hr];exact e1
  refine⟨hA0,?_⟩;unfold fW;rw [if_pos hA0,he,hcc,Int.toNat_natCast,hKc];rw [show ran (cmL (C c).S (C c).P (C c).A c) [p.i,d,s,k,a,b,t,o,0,0]=_ from hr];exact e2
end
theorem iW (sv pv av:Value) (S:List Sw) (P:List Pr) (A:List Ac) (id:Int) (w:World) (hC:CfAt w sv pv av S P A) (h1:P.length≤1000):
  Calls Tryz.prog 14 #[.agg #[sv,pv,av],.int .i64 id] w fun e w'=>e= .returned (.tuple #[.agg #[.int .i64 (pof P id).i,.int .i64 (pof P id).s,.int .i64 (pof P id).m,.int .i64 (pof P id).p,.int .i64 (pof P id).c],.bool (P.any (fun y=>y.i==id))])∧Below w.heap.size w w':=by
 have HC:=aa hC;have HNO:Hid ((∀j,j<P.length→((P.getD j pr0).i==id)=false)→pof P id=pr0∧P.any (fun s=>s.i==id)=false):=fun h=>by
  have e:=gR (p:=fun s:Pr=>s.i==id) pr0 h;refine⟨by unfold pof;rw [e];rfl,?_⟩;rw [←bX,e];rfl
 have HYE:Hid (∀k,k<P.length→(∀j,j<k→((P.getD j pr0).i==id)=false)→((P.getD k pr0).i==id)=true→pof P id=P.getD k pr0∧P.any (fun s=>s.i==id)=true):=fun k hk h1 h2=>by
  have e:=gJ (p:=fun s:Pr=>s.i==id) pr0 hk h1 h2;refine⟨by unfold pof;rw [e,if_neg (by omega),Int.toNat_natCast],?_⟩;rw [←bX,e];simp
 generalize pof P id=X at*;generalize P.any (fun s=>s.i==id)=R at*;obtain⟨x0,x1,x2,x3,x4⟩:=X;simp only;obtain⟨s1,s2,rfl⟩:=hC.1.slice;obtain⟨p1,p2,rfl⟩:=hC.2.1.slice;obtain⟨a1,a2,rfl⟩:=hC.2.2.slice;clear hC;go_enter Tryz.func14,Tryz.ntmps14;go_wp2_with fail
 obtain⟨W0,hW0⟩:∃W0,W0=(w.alloc (.cells #[.slice s1 S.length s2,.slice p1 P.length p2,.slice a1 A.length a2] 26)).alloc (.cells #[.int .i64 0,.int .i64 0,.int .i64 0,.int .i64 0,.int .i64 0] 51):=⟨_,rfl⟩;have hb0:Below w.heap.size w W0:=by rw [hW0];exact((Below.refl _ _).alloc zr _).alloc (by simp) _
 have d0:W0.cell? ⟨w.heap.size,1,none⟩=some (.slice p1 P.length p2):=by rw [hW0];exact au (aj w _ rfl _ _ _ _ rfl) _
 have t0:W0.cell? ⟨w.heap.size+1,0,none⟩=some (.int .i64 0):=by rw [hW0];exact aj _ _ (by simp) _ _ _ _ rfl
 have f0:W0.frozen? ⟨w.heap.size+1,0,none⟩=false:=by rw [hW0];simp
 have t1:W0.cell? ⟨w.heap.size+1,1,none⟩=some (.int .i64 0):=by rw [hW0];exact aj _ _ (by simp) _ _ _ _ rfl
 have f1:W0.frozen? ⟨w.heap.size+1,1,none⟩=false:=by rw [hW0];simp
 have t2:W0.cell? ⟨w.heap.size+1,2,none⟩=some (.int .i64 0):=by rw [hW0];exact aj _ _ (by simp) _ _ _ _ rfl
 have f2:W0.frozen? ⟨w.heap.size+1,2,none⟩=false:=by rw [hW0];simp
 have t3:W0.cell? ⟨w.heap.size+1,3,none⟩=some (.int .i64 0):=by rw [hW0];exact aj _ _ (by simp) _ _ _ _ rfl
 have f3:W0.frozen? ⟨w.heap.size+1,3,none⟩=false:=by rw [hW0];simp
 have t4:W0.cell? ⟨w.heap.size+1,4,none⟩=some (.int .i64 0):=by rw [hW0];exact aj _ _ (by simp) _ _ _ _ rfl
 have f4:W0.frozen? ⟨w.heap.size+1,4,none⟩=false:=by rw [hW0];simp
 rw [←hW0];clear hW0;have HBE:Hid (∀x0 x1 x2 x3 x4:Int,Below w.heap.size w (((((W0.setCell ⟨w.heap.size+1,0,none⟩ (.int .i64 x0)).setCell ⟨w.heap.size+1,1,none⟩ (.int .i64 x1)).setCell ⟨w.heap.size+1,2,none⟩ (.int .i64 x2)).setCell ⟨w.heap.size+1,3,none⟩ (.int .i64 x3)).setCell ⟨w.heap.size+1,4,none⟩ (.int .i64 x4))):=fun x0 x1 x2 x3 x4=>((((hb0.setCell (Nat.le_succ _) _).setCell (Nat.le_succ _) _).setCell (Nat.le_succ _) _).setCell (Nat.le_succ _) _).setCell (Nat.le_succ _) _;go_loop [6] (fun i=>∃k:Nat,k≤P.length∧i= .int .i64 k∧Hid (∀j,j<k→((P.getD j pr0).i==id)=false)) (fun i=>P.length-(intOf i).toNat)
 case atStart=>exact⟨0,by omega,rfl,aa (fun j h=>absurd h (by omega))⟩
 case round=>
  obtain⟨k,hk,rfl,HALL⟩:=hrel;by_cases hlt:k<P.length
  ·obtain⟨b,off,cap',e1,hcap,hb,g0,g1,g2,g3,g4⟩:=eO (RowAt.below HC.out.2.1 hb0 zr) hlt;simp only [Value.slice.injEq,true_and]at e1;obtain⟨rfl,rfl⟩:=e1;have q3:(0:Int)≤(k:Int):=(by omega);have q4:(k:Int)<(P.length:Int):=(by omega);by_cases hx:((P.getD k pr0).i==id)=true
   ·obtain⟨hX,rfl⟩:=HYE.out k hlt HALL.out hx;rw [←hX]at g0 g1 g2 g3 g4 hx;clear HALL HNO HYE hX;simp only at g0 g1 g2 g3 g4 hx;obtain rfl:x0=id:=(by simpa using hx);clear hx;obtain⟨u0,u1,u2,u3,u4⟩:=Bu t0 t1 t2 t3 t4 (.int .i64 x0) (.int .i64 x1) (.int .i64 x2) (.int .i64 x3) (.int .i64 x4);have HB:=aa (HBE.out x0 x1 x2 x3 x4);clear HBE;go_wp2_with fail
    refine bodyPost_ret (v:=.tuple #[.agg #[.int .i64 x0,.int .i64 x1,.int .i64 x2,.int .i64 x3,.int .i64 x4],.bool true]) ?_ rfl ⟨rfl,HB.out⟩;clear t0 t1 t2 t3 t4 f0 f1 f2 f3 f4 g0 g1 g2 g3 g4 hb0 HB;generalize (((((W0.setCell ⟨w.heap.size+1,0,none⟩ (.int .i64 x0)).setCell ⟨w.heap.size+1,1,none⟩ (.int .i64 x1)).setCell ⟨w.heap.size+1,2,none⟩ (.int .i64 x2)).setCell ⟨w.heap.size+1,3,none⟩ (.int .i64 x3)).setCell ⟨w.heap.size+1,4,none⟩ (.int .i64 x4))=W at*;simp [results,Tryz.results14,go_sem,u0,u1,u2,u3,u4]
   ·have hx':((P.getD k pr0).i==id)=false:=(by simpa using hx);have HN:Hid (∀j,j<k+1→((P.getD j pr0).i==id)=false):=fun j hj=>by
     by_cases e:j=k
     ·subst e;exact hx'
     ·exact HALL.out j (by omega)
    have hx2:¬(P.getD k pr0).i=id:=(by simpa using hx);clear hx hx' HALL HYE HNO HBE;generalize (P.getD k pr0).i=y0 at*;go_wp2_with fail
    go_round
    case rel=>exact⟨k+1,by omega,by go_num,HN⟩
    case measure=>simp [intOf];omega
  ·obtain⟨hX,rfl⟩:=HNO.out fun j hj=>HALL.out j (by omega);simp only [pr0,Pr.mk.injEq]at hX;obtain⟨rfl,rfl,rfl,rfl,rfl⟩:=hX;obtain⟨u0,u1,u2,u3,u4⟩:=Bu t0 t1 t2 t3 t4 (.int .i64 0) (.int .i64 0) (.int .i64 0) (.int .i64 0) (.int .i64 0);have HB:=aa (HBE.out 0 0 0 0 0);clear HALL HYE HNO HBE;go_wp2_with fail
   refine bodyPost_ret (v:=.tuple #[.agg #[.int .i64 0,.int .i64 0,.int .i64 0,.int .i64 0,.int .i64 0],.bool false]) ?_ rfl ⟨rfl,HB.out⟩;clear t0 t1 t2 t3 t4 f0 f1 f2 f3 f4 hb0 HB;generalize (((((W0.setCell ⟨w.heap.size+1,0,none⟩ (.int .i64 0)).setCell ⟨w.heap.size+1,1,none⟩ (.int .i64 0)).setCell ⟨w.heap.size+1,2,none⟩ (.int .i64 0)).setCell ⟨w.heap.size+1,3,none⟩ (.int .i64 0)).setCell ⟨w.heap.size+1,4,none⟩ (.int .i64 0))=W at*;simp [results,Tryz.results14,go_sem,u0,u1,u2,u3,u4]
theorem yY:(Tryz.prog.info? 62).map (·.size)=some 9:=by kernel_rfl
theorem dR:(Tryz.prog.info? 28).map (·.size)=some 8:=by kernel_rfl
theorem dx:(Tryz.prog.info? 26).map (·.size)=some 3:=by kernel_rfl
def alF (net:Int) (inn:Bool) (a b o:Int) (r:Ac):Bool:=(r.s==net&&r.n==inn)&&qg a b o r
theorem tA (A:List Ac) (net:Int) (inn:Bool) (a b o:Int):bN A net inn a b o=match dH (A.filter (alF net inn a b o))with
  | none=>true
  | some r=> !r.d:=by
 unfold bN aP;rw [List.filter_filter];rw [show(fun x:Ac=>qg a b o x&&(x.s==net&&x.n==inn))=alF net inn a b o from by funext x;unfold alF;rw [Bool.and_comm]];cases dH (A.filter (alF net inn a b o)) <;>rfl
def alB (A:List Ac) (F:Ac→Bool) (k:Nat) (bi:Int):Prop:=(bi= -1∧dH ((A.take k).filter F)=none)∨∃j:Nat,j<k∧bi=j∧dH ((A.take k).filter F)=some (A.getD j ac0)
section
variable {A:List Ac} {F:Ac→Bool} {k:Nat}
theorem AJ (hk:k<A.length) (h:F (A.getD k ac0)=false) {bi:Int} (hb:alB A F k bi):alB A F (k+1) bi:=by
 have e:(A.take (k+1)).filter F=(A.take k).filter F:=by rw [dL F ac0 hk,h];simp
 unfold alB at hb⊢;rw [e];rcases hb with h |⟨j,hj,h⟩
 ·exact .inl h
 ·exact .inr ⟨j,by omega,h⟩
theorem py (hk:k<A.length) (h:F (A.getD k ac0)=true):dH ((A.take (k+1)).filter F)=cu (dH ((A.take k).filter F)) (some (A.getD k ac0)):=by
 rw [dL F ac0 hk,h,kF];rfl
theorem uP (hk:k<A.length) (h:F (A.getD k ac0)=true) (hb:dH ((A.take k).filter F)=none):alB A F (k+1) k:=.inr ⟨k,by omega,rfl,by rw [py hk h,hb];rfl⟩
theorem vU (hk:k<A.length) (h:F (A.getD k ac0)=true) {j:Nat} (hb:dH ((A.take k).filter F)=some (A.getD j ac0)) (hp:(A.getD j ac0).p<(A.getD k ac0).p):alB A F (k+1) k:=.inr ⟨k,by omega,rfl,by rw [py hk h,hb];simp only [cu];rw [if_pos hp]⟩
theorem xX (hk:k<A.length) (h:F (A.getD k ac0)=true) {j:Nat} (hj:j<k) (hb:dH ((A.take k).filter F)=some (A.getD j ac0)) (hp:¬(A.getD j ac0).p<(A.getD k ac0).p):alB A F (k+1) j:=.inr ⟨j,by omega,rfl,by rw [py hk h,hb];simp only [cu];rw [if_neg hp]⟩
end
theorem AE (c:Nat) (hc:c≤16):un (c:Int)=65536/2 ^ c:=by
 have h:c=0∨c=1∨c=2∨c=3∨c=4∨c=5∨c=6∨c=7∨c=8∨c=9∨c=10∨c=11∨c=12∨c=13∨c=14∨c=15∨c=16:=by omega
 rcases h with rfl | rfl | rfl | rfl | rfl | rfl | rfl | rfl | rfl | rfl | rfl | rfl | rfl | rfl | rfl | rfl | rfl <;>decide
theorem kr {x u:Int} (h0:0≤x) (h1:x≤65535) (hu:1≤u):x.tdiv u=x/u∧IntKind.i64.wrap (x/u)=x/u:=by
 have e1:=Int.ediv_nonneg h0 (show 0≤u by omega);have e2:x/u≤x:=Int.ediv_le_self _ h0;exact⟨Int.tdiv_eq_ediv_of_nonneg h0,gG _ (by omega) (by omega)⟩
theorem Ay (c:Nat) (hc:c≤16):1≤un (c:Int)∧un (c:Int)≤65536:=by
 have h:c=0∨c=1∨c=2∨c=3∨c=4∨c=5∨c=6∨c=7∨c=8∨c=9∨c=10∨c=11∨c=12∨c=13∨c=14∨c=15∨c=16:=by omega
 rcases h with rfl | rfl | rfl | rfl | rfl | rfl | rfl | rfl | rfl | rfl | rfl | rfl | rfl | rfl | rfl | rfl | rfl <;>decide
theorem mQ (sv pv av:Value) (S:List Sw) (P:List Pr) (A:List Ac) (net:Int) (inn:Bool) (d s kd a b t o:Int) (body:ByteArray) (w:World) (hC:CfAt w sv pv av S P A) (hA:bE S A=true) (ha:0≤a∧a≤65535) (hb:0≤b∧b≤65535):
  Calls Tryz.prog 63 #[.agg #[sv,pv,av],.int .i64 net,.bool inn,fr d s kd a b t o body] w fun e w'=>e= .returned (.bool (bN A net inn a b o))∧Below w.heap.size w w':=by
 have HC:=aa hC;obtain⟨s1,s2,rfl⟩:=hC.1.slice;obtain⟨p1,p2,rfl⟩:=hC.2.1.slice;obtain⟨a1,a2,rfl⟩:=hC.2.2.slice;clear hC;have HAF:=aa (tA A net inn a b o);have HAL:=aa (gK hA);have hln:=(gK hA).1;have HBT:=aa (pM hA);clear hA;have HHA:=aa ha;have HHB:=aa hb;clear ha hb;have kb:=Below.refl w.heap.size w;obtain⟨W0,hW0⟩:∃W0,W0=w.alloc (.cells #[.slice s1 S.length s2,.slice p1 P.length p2,.slice a1 A.length a2] 26):=⟨_,rfl⟩;have bW0:Below w.heap.size w W0:=by rw [hW0];exact(Below.refl _ _).alloc zr _
 have HB1:Hid (Box W0 w.heap.size [.slice s1 S.length s2,.slice p1 P.length p2,.slice a1 A.length a2]):=by rw [hW0];exact aa (Box.new w [.slice s1 S.length s2,.slice p1 P.length p2,.slice a1 A.length a2] 26)
 replace HC:=aa (HC.out.below bW0 zr);replace kb:=kb.trans (bW0.mono kb.size);have HW0:Hid (w.alloc (.cells #[.slice s1 S.length s2,.slice p1 P.length p2,.slice a1 A.length a2] 26)=W0):=hW0.symm;clear hW0 bW0;obtain⟨W1,hW1⟩:∃W1,W1=W0.alloc (.cells #[.int .i64 d,.int .i64 s,.int .i64 kd,.int .i64 a,.int .i64 b,.int .i64 t,.int .i64 o,.string body] 28):=⟨_,rfl⟩;have bW1:Below W0.heap.size W0 W1:=by rw [hW1];exact(Below.refl _ _).alloc zr _
 have HB2:Hid (Box W1 W0.heap.size [.int .i64 d,.int .i64 s,.int .i64 kd,.int .i64 a,.int .i64 b,.int .i64 t,.int .i64 o,.string body]):=by rw [hW1];exact aa (Box.new W0 [.int .i64 d,.int .i64 s,.int .i64 kd,.int .i64 a,.int .i64 b,.int .i64 t,.int .i64 o,.string body] 28)
 replace HB1:=aa (HB1.out.below bW1);replace HC:=aa (HC.out.below bW1 zr);replace kb:=kb.trans (bW1.mono kb.size);have HW1:Hid (W0.alloc (.cells #[.int .i64 d,.int .i64 s,.int .i64 kd,.int .i64 a,.int .i64 b,.int .i64 t,.int .i64 o,.string body] 28)=W1):=hW1.symm;clear hW1 bW1;obtain⟨F,hF⟩:∃F,F=alF net inn a b o:=⟨_,rfl⟩;rw [←hF]at HAF;have HFF:=aa hF;clear hF;generalize bN A net inn a b o=R at*;obtain⟨N,hN⟩:∃N,N=A.length:=⟨_,rfl⟩;have HNN:=aa hN;go_enter Tryz.func63,Tryz.ntmps63;go_wp2_with (first | rw [HW1.out] | rw [HW0.out])
 clear HW1 HW0;go_loopw [9,10] (fun bst i wr=>∃(k:Nat) (bi:Int),k≤A.length∧bst= .int .i64 bi∧i= .int .i64 k∧Hid (alB A F k bi)∧Below W1.heap.size W1 wr) (fun _ i _=>A.length-(intOf i).toNat)
 case atStart=>exact⟨0, -1,by omega,rfl,rfl,aa (.inl ⟨rfl,rfl⟩),Below.refl _ _⟩
 case round=>
  obtain⟨k,bi,hk,rfl,rfl,HAB,kz⟩:=hrel;replace HC:=aa (HC.out.below kz zr);replace HB1:=aa (HB1.out.below kz);replace HB2:=aa (HB2.out.below kz);have c2:=HB1.out.cell 2 _ rfl;by_cases hlt:k<A.length
  ·obtain⟨bb,off,cap,e1,hcap,hR⟩:=dF ac0 HC.out.2.2 hlt;simp only [Value.slice.injEq,true_and]at e1;obtain⟨rfl,rfl⟩:=e1;have HRJ:Hid (∀W,Below wr.heap.size wr W→∀j,j<A.length→W.rangeAt bb (off+j*9) (acC (A.getD j ac0))):=aa (fun W hW j hj=>by
    obtain⟨b2,o2,cp2,e2, -,h2⟩:=dF ac0 (RowAt.below HC.out.2.2 hW zr) hj;simp only [Value.slice.injEq,Option.some.injEq,Addr.mk.injEq,true_and,and_true]at e2;obtain⟨⟨rfl,rfl⟩,rfl⟩:=e2;exact h2)
   have hmm:A.getD k ac0∈A:=fL hlt;have hin:=(HAL.out.2 _ hmm).1;have hbt:=HBT.out _ hmm;have HNO:=aa (fun h=>AJ (F:=F) hlt h HAB.out);have HY1:=aa (fun h hb=>uP (F:=F) hlt h hb);have HY2:=aa (fun h (j:Nat) hb hp=>vU (F:=F) hlt h (j:=j) hb hp);have HY3:=aa (fun h (j:Nat) hj hb hp=>xX (F:=F) hlt h (j:=j) hj hb hp);have HFX:Hid (F (A.getD k ac0)=alF net inn a b o (A.getD k ac0)):=by rw [HFF.out];exact aa rfl
   have R0:=aa hR;clear hR hmm;generalize F (A.getD k ac0)=fx at*;generalize A.getD k ac0=x at*;obtain⟨xs,xp,xn,xf,xb,xd,xe,xo,xy⟩:=x;simp only [eM,inB,Bool.and_eq_true,decide_eq_true_eq]at hin;simp only at hbt;obtain⟨⟨⟨⟨⟨hp9,hf9⟩,hd9⟩, -⟩, -⟩,ho9⟩:=hin;obtain⟨c1,rfl⟩:=Int.eq_ofNat_of_zero_le hbt.1.1;obtain⟨c2,rfl⟩:=Int.eq_ofNat_of_zero_le hbt.2.1;have HU1:Hid (∀W:World,Calls Tryz.prog 62 #[.int .i64 (c1:Int)] W fun e w'=>e= .returned (.int .i64 (un c1))∧w'=W):=aa (fun W=>by rw [AE c1 (by omega)];exact jK c1 W (by omega));have HU2:Hid (∀W:World,Calls Tryz.prog 62 #[.int .i64 (c2:Int)] W fun e w'=>e= .returned (.int .i64 (un c2))∧w'=W):=aa (fun W=>by rw [AE c2 (by omega)];exact jK c2 W (by omega));obtain⟨u1,u1b⟩:=Ay c1 (by omega);obtain⟨u2,u2b⟩:=Ay c2 (by omega);obtain⟨t1,w1⟩:=kr HHA.out.1 HHA.out.2 u1;obtain⟨t2,w2⟩:=kr hf9.1 hf9.2 u1;obtain⟨t3,w3⟩:=kr HHB.out.1 HHB.out.2 u2;obtain⟨t4,w4⟩:=kr hd9.1 hd9.2 u2;have HFV:Hid (fx=((xs==net&&xn==inn)&&((a/un c1==xf/un c1)&&(b/un c2==xd/un c2)&&(xo== -1|| o==xo)))):=HFX;have e1:¬(un c1=0):=(by omega);have e2:¬(un c2=0):=(by omega);clear HFX hbt hf9 hd9;generalize un c1=U1 at*;generalize un c2=U2 at*;generalize a/U1=A1 at*;generalize xf/U1=A2 at*;generalize b/U2=B1 at*;generalize xd/U2=B2 at*;have HXC:Hid (acC ⟨xs,xp,xn,xf,c1,xd,c2,xo,xy⟩= [.int .i64 xs,.int .i64 xp,.bool xn,.int .i64 xf,.int .i64 (c1:Int),.int .i64 xd,.int .i64 (c2:Int),.int .i64 xo,.bool xy]):=rfl;rw [HXC.out]at R0;clear HXC;have q0:(0:Int)≤(k:Int):=(by omega);have q1:(k:Int)<(A.length:Int):=(by omega);obtain⟨W2,hW2⟩:∃W2,W2=wr.alloc (.cells #[.int .i64 xs,.int .i64 xp,.bool xn,.int .i64 xf,.int .i64 (c1:Int),.int .i64 xd,.int .i64 (c2:Int),.int .i64 xo,.bool xy] 62):=⟨_,rfl⟩;have bW2:Below wr.heap.size wr W2:=by rw [hW2];exact(Below.refl _ _).alloc zr _
   have HBX:Hid (Box W2 wr.heap.size [.int .i64 xs,.int .i64 xp,.bool xn,.int .i64 xf,.int .i64 (c1:Int),.int .i64 xd,.int .i64 (c2:Int),.int .i64 xo,.bool xy]):=by rw [hW2];exact aa (Box.new wr [.int .i64 xs,.int .i64 xp,.bool xn,.int .i64 xf,.int .i64 (c1:Int),.int .i64 xd,.int .i64 (c2:Int),.int .i64 xo,.bool xy] 62)
   replace HB1:=aa (HB1.out.below bW2);replace HB2:=aa (HB2.out.below bW2);replace HC:=aa (HC.out.below bW2 zr);replace kz:=kz.trans (bW2.mono kz.size);have HKW:Hid (Below wr.heap.size wr W2):=aa bW2;have HW2:Hid (wr.alloc (.cells #[.int .i64 xs,.int .i64 xp,.bool xn,.int .i64 xf,.int .i64 (c1:Int),.int .i64 xd,.int .i64 (c2:Int),.int .i64 xo,.bool xy] 62)=W2):=hW2.symm;clear hW2 bW2;go_upto_region 6 with(first | rw [HW2.out] |(refine wpList_load_mid rfl 62 (.tmp 22) rfl bb (off+k*9) rfl _ _ R0.out Tryz.underlying62 rfl yY ?_))
   clear HW2 R0;have hc:(xs != net)=true∨(xs != net)=false∧((inn= !xn)∨(inn=xn)∧((A1 != A2)=true∨(A1 != A2)=false∧((B1 != B2)=true∨(B1 != B2)=false∧((0≤xo∧(xo != o)=true)∨(¬0≤xo)∨(0≤xo∧(xo != o)=false))))):=by
    cases (xs != net) <;>cases xn <;>cases inn <;>cases (A1 != A2) <;>cases (B1 != B2) <;>cases (xo != o) <;>simp <;>omega
   have hD:Below W2.heap.size W2 W2.drew:=(Below.refl _ _).drew;replace HB1:=aa (HB1.out.below hD);replace HB2:=aa (HB2.out.below hD);replace HBX:=aa (HBX.out.below hD);replace HC:=aa (HC.out.below hD zr);replace kz:=kz.trans (hD.mono kz.size);clear hD;have HTT:Hid (W2.drew.cell? ⟨W0.heap.size,3,none⟩=some (.int .i64 a)∧W2.drew.cell? ⟨W0.heap.size,4,none⟩=some (.int .i64 b)∧W2.drew.cell? ⟨W0.heap.size,6,none⟩=some (.int .i64 o)∧W2.drew.cell? ⟨wr.heap.size,0,none⟩=some (.int .i64 xs)∧W2.drew.cell? ⟨wr.heap.size,2,none⟩=some (.bool xn)∧W2.drew.cell? ⟨wr.heap.size,3,none⟩=some (.int .i64 xf)∧W2.drew.cell? ⟨wr.heap.size,4,none⟩=some (.int .i64 (c1:Int))∧W2.drew.cell? ⟨wr.heap.size,5,none⟩=some (.int .i64 xd)∧W2.drew.cell? ⟨wr.heap.size,6,none⟩=some (.int .i64 (c2:Int))∧W2.drew.cell? ⟨wr.heap.size,7,none⟩=some (.int .i64 xo)):=aa ⟨HB2.out.cell 3 _ rfl,HB2.out.cell 4 _ rfl,HB2.out.cell 6 _ rfl,HBX.out.cell 0 _ rfl,HBX.out.cell 2 _ rfl,HBX.out.cell 3 _ rfl,HBX.out.cell 4 _ rfl,HBX.out.cell 5 _ rfl,HBX.out.cell 6 _ rfl,HBX.out.cell 7 _ rfl⟩;refine wp_region_held_drew (S:=(fun w'=>w'.cell? ⟨W0.heap.size,3,none⟩=some (.int .i64 a)∧w'.cell? ⟨W0.heap.size,4,none⟩=some (.int .i64 b)∧w'.cell? ⟨W0.heap.size,6,none⟩=some (.int .i64 o)∧w'.cell? ⟨wr.heap.size,0,none⟩=some (.int .i64 xs)∧w'.cell? ⟨wr.heap.size,2,none⟩=some (.bool xn)∧w'.cell? ⟨wr.heap.size,3,none⟩=some (.int .i64 xf)∧w'.cell? ⟨wr.heap.size,4,none⟩=some (.int .i64 (c1:Int))∧w'.cell? ⟨wr.heap.size,5,none⟩=some (.int .i64 xd)∧w'.cell? ⟨wr.heap.size,6,none⟩=some (.int .i64 (c2:Int))∧w'.cell? ⟨wr.heap.size,7,none⟩=some (.int .i64 xo))) (by kernel_rfl) HTT.out (fun hHeld=>?_);have HKV:Hid (Below wr.heap.size wr W2.drew):=aa (by have:=HKW.out;exact this.drew);generalize W2.drew=V at*;rcases hc with h1 |⟨h1,rfl |⟨rfl,h3 |⟨h3,h4 |⟨h4,⟨h5,h6⟩ | h5 |⟨h5,h6⟩⟩⟩⟩⟩
   all_goals
    first
     |(refine tq 0 24 rfl (by kernel_rfl) (fun _ _ _ h=>h) rfl ‹_› (by intro w h;go_simp <;>with_reducible rfl) ?_)
     |(refine wpAnyH_take (i:=0) (oi:=⟨some 24,_,_,_,_,_⟩) (v:=undef) rfl (by kernel_rfl) (by kernel_rfl) (by kernel_rfl) (fun _ _ _ h=>h) (Or.inr ⟨by rfl,rfl⟩) (by assumption) ?_)
    (try simp only [nz])
    first
     |(refine tq 1 25 rfl (by kernel_rfl) (fun _ _ _ h=>h) rfl ‹_› (by intro w h;go_simp <;>with_reducible rfl) ?_)
     |(refine wpAnyH_take (i:=1) (oi:=⟨some 25,_,_,_,_,_⟩) (v:=undef) rfl (by kernel_rfl) (by kernel_rfl) (by kernel_rfl) (fun _ _ _ h=>h) (Or.inr ⟨by rfl,rfl⟩) (by assumption) ?_)
    (try simp only [nz])
    first
     |(refine tq 2 26 rfl (by kernel_rfl) (fun _ _ _ h=>h) rfl ‹_› (by intro w h;go_simp <;>with_reducible rfl) ?_)
     |(refine wpAnyH_take (i:=2) (oi:=⟨some 26,_,_,_,_,_⟩) (v:=undef) rfl (by kernel_rfl) (by kernel_rfl) (by kernel_rfl) (fun _ _ _ h=>h) (Or.inr ⟨by rfl,rfl⟩) (by assumption) ?_)
    (try simp only [nz])
    first
     |(refine tq 3 27 rfl (by kernel_rfl) (fun _ _ _ h=>h) rfl ‹_› (by intro w h;go_simp <;>with_reducible rfl) ?_)
     |(refine wpAnyH_take (i:=3) (oi:=⟨some 27,_,_,_,_,_⟩) (v:=undef) rfl (by kernel_rfl) (by kernel_rfl) (by kernel_rfl) (fun _ _ _ h=>h) (Or.inr ⟨by rfl,rfl⟩) (by assumption) ?_)
    (try simp only [nz])
    first
     |(refine tq 4 28 rfl (by kernel_rfl) (fun _ _ _ h=>h) rfl ‹_› (by intro w h;go_simp <;>with_reducible rfl) ?_)
     |(refine wpAnyH_take (i:=4) (oi:=⟨some 28,_,_,_,_,_⟩) (v:=undef) rfl (by kernel_rfl) (by kernel_rfl) (by kernel_rfl) (fun _ _ _ h=>h) (Or.inr ⟨by rfl,rfl⟩) (by assumption) ?_)
    (try simp only [nz])
    first
     |(refine tq 5 29 rfl (by kernel_rfl) (fun _ _ _ h=>h) rfl ‹_› (by intro w h;go_simp <;>with_reducible rfl) ?_)
     |(refine wpAnyH_take (i:=5) (oi:=⟨some 29,_,_,_,_,_⟩) (v:=undef) rfl (by kernel_rfl) (by kernel_rfl) (by kernel_rfl) (fun _ _ _ h=>h) (Or.inr ⟨by rfl,rfl⟩) (by assumption) ?_)
    (try simp only [nz])
    first
     |(refine tq 6 30 rfl (by kernel_rfl) (fun _ _ _ h=>h) rfl ‹_› (by intro w h;go_simp <;>with_reducible rfl) ?_)
     |(refine wpAnyH_take (i:=6) (oi:=⟨some 30,_,_,_,_,_⟩) (v:=undef) rfl (by kernel_rfl) (by kernel_rfl) (by kernel_rfl) (fun _ _ _ h=>h) (Or.inr ⟨by rfl,rfl⟩) (by assumption) ?_)
    (try simp only [nz])
    first
     |(refine tq 7 31 rfl (by kernel_rfl) (fun _ _ _ h=>h) rfl ‹_› (by intro w h;go_simp <;>with_reducible rfl) ?_)
     |(refine wpAnyH_take (i:=7) (oi:=⟨some 31,_,_,_,_,_⟩) (v:=undef) rfl (by kernel_rfl) (by kernel_rfl) (by kernel_rfl) (fun _ _ _ h=>h) (Or.inr ⟨by rfl,rfl⟩) (by assumption) ?_)
    (try simp only [nz])
    first
     |(refine tq 8 32 rfl (by kernel_rfl) (fun _ _ _ h=>h) rfl ‹_› (by intro w h;go_simp <;>with_reducible rfl) ?_)
     |(refine wpAnyH_take (i:=8) (oi:=⟨some 32,_,_,_,_,_⟩) (v:=undef) rfl (by kernel_rfl) (by kernel_rfl) (by kernel_rfl) (fun _ _ _ h=>h) (Or.inr ⟨by rfl,rfl⟩) (by assumption) ?_)
    (try simp only [nz])
    first
     |(refine tq 9 33 rfl (by kernel_rfl) (fun _ _ _ h=>h) rfl ‹_› (by intro w h;go_simp <;>with_reducible rfl) ?_)
     |(refine wpAnyH_take (i:=9) (oi:=⟨some 33,_,_,_,_,_⟩) (v:=undef) rfl (by kernel_rfl) (by kernel_rfl) (by kernel_rfl) (fun _ _ _ h=>h) (Or.inr ⟨by rfl,rfl⟩) (by assumption) ?_)
    (try simp only [nz])
    first
     |(refine tq 10 34 rfl (by kernel_rfl) (fun _ _ _ h=>h) rfl ‹_› (by intro w h;go_simp <;>with_reducible rfl) ?_)
     |(refine wpAnyH_take (i:=10) (oi:=⟨some 34,_,_,_,_,_⟩) (v:=undef) rfl (by kernel_rfl) (by kernel_rfl) (by kernel_rfl) (fun _ _ _ h=>h) (Or.inr ⟨by rfl,rfl⟩) (by assumption) ?_)
    (try simp only [nz])
    first
     |(refine tq 11 35 rfl (by kernel_rfl) (fun _ _ _ h=>h) rfl ‹_› (by intro w h;go_simp <;>with_reducible rfl) ?_)
     |(refine wpAnyH_take (i:=11) (oi:=⟨some 35,_,_,_,_,_⟩) (v:=undef) rfl (by kernel_rfl) (by kernel_rfl) (by kernel_rfl) (fun _ _ _ h=>h) (Or.inr ⟨by rfl,rfl⟩) (by assumption) ?_)
    (try simp only [nz])
    first
     |(refine tq 12 36 rfl (by kernel_rfl) (fun _ _ _ h=>h) rfl ‹_› (by intro w h;go_simp <;>with_reducible rfl) ?_)
     |(refine wpAnyH_take (i:=12) (oi:=⟨some 36,_,_,_,_,_⟩) (v:=undef) rfl (by kernel_rfl) (by kernel_rfl) (by kernel_rfl) (fun _ _ _ h=>h) (Or.inr ⟨by rfl,rfl⟩) (by assumption) ?_)
    (try simp only [nz])
    first
     |(refine tq 13 37 rfl (by kernel_rfl) (fun _ _ _ h=>h) rfl ‹_› (by intro w h;go_simp <;>with_reducible rfl) ?_)
     |(refine wpAnyH_take (i:=13) (oi:=⟨some 37,_,_,_,_,_⟩) (v:=undef) rfl (by kernel_rfl) (by kernel_rfl) (by kernel_rfl) (fun _ _ _ h=>h) (Or.inr ⟨by rfl,rfl⟩) (by assumption) ?_)
    (try simp only [nz])
    first
     |(refine tq 14 38 rfl (by kernel_rfl) (fun _ _ _ h=>h) rfl ‹_› (by intro w h;go_simp <;>with_reducible rfl) ?_)
     |(refine wpAnyH_take (i:=14) (oi:=⟨some 38,_,_,_,_,_⟩) (v:=undef) rfl (by kernel_rfl) (by kernel_rfl) (by kernel_rfl) (fun _ _ _ h=>h) (Or.inr ⟨by rfl,rfl⟩) (by assumption) ?_)
    (try simp only [nz])
    first
     |(refine tq 17 41 rfl (by kernel_rfl) (fun _ _ _ h=>h) rfl ‹_› (by intro w h;go_simp <;>with_reducible rfl) ?_)
     |(refine wpAnyH_take (i:=17) (oi:=⟨some 41,_,_,_,_,_⟩) (v:=undef) rfl (by kernel_rfl) (by kernel_rfl) (by kernel_rfl) (fun _ _ _ h=>h) (Or.inr ⟨by rfl,rfl⟩) (by assumption) ?_)
    (try simp only [nz])
    first
     |(refine tq 18 42 rfl (by kernel_rfl) (fun _ _ _ h=>h) rfl ‹_› (by intro w h;go_simp <;>with_reducible rfl) ?_)
     |(refine wpAnyH_take (i:=18) (oi:=⟨some 42,_,_,_,_,_⟩) (v:=undef) rfl (by kernel_rfl) (by kernel_rfl) (by kernel_rfl) (fun _ _ _ h=>h) (Or.inr ⟨by rfl,rfl⟩) (by assumption) ?_)
    (try simp only [nz])
    first
     |(refine tq 19 43 rfl (by kernel_rfl) (fun _ _ _ h=>h) rfl ‹_› (by intro w h;go_simp <;>with_reducible rfl) ?_)
     |(refine wpAnyH_take (i:=19) (oi:=⟨some 43,_,_,_,_,_⟩) (v:=undef) rfl (by kernel_rfl) (by kernel_rfl) (by kernel_rfl) (fun _ _ _ h=>h) (Or.inr ⟨by rfl,rfl⟩) (by assumption) ?_)
    (try simp only [nz])
    first
     |(refine tq 20 44 rfl (by kernel_rfl) (fun _ _ _ h=>h) rfl ‹_› (by intro w h;go_simp <;>with_reducible rfl) ?_)
     |(refine wpAnyH_take (i:=20) (oi:=⟨some 44,_,_,_,_,_⟩) (v:=undef) rfl (by kernel_rfl) (by kernel_rfl) (by kernel_rfl) (fun _ _ _ h=>h) (Or.inr ⟨by rfl,rfl⟩) (by assumption) ?_)
    (try simp only [nz]);refine rsq 15 39 (by kernel_rfl) rfl (fun K hK=>?_)
    first
     |(rw [if_neg (by rw [Bool.not_eq_true];rfl)]
       refine hK.out _ _ hHeld (fun hHeld=>?_);clear hK K)
     |(go_simp
       refine(HU1.out _).mono ?_;rintro e w' ⟨rfl,hw9⟩;rw [hw9];clear hw9 w';refine hK.out _ _ HTT.out (fun hHeld=>?_);clear hK K)
    (try simp only [nz])
    first
     |(refine tq 16 40 rfl (by kernel_rfl) (fun _ _ _ h=>h) rfl ‹_› (by intro w h;go_simp <;>with_reducible rfl) ?_)
     |(refine wpAnyH_take (i:=16) (oi:=⟨some 40,_,_,_,_,_⟩) (v:=undef) rfl (by kernel_rfl) (by kernel_rfl) (by kernel_rfl) (fun _ _ _ h=>h) (Or.inr ⟨by rfl,rfl⟩) (by assumption) ?_)
    (try simp only [nz]);refine rsq 21 45 (by kernel_rfl) rfl (fun K hK=>?_)
    first
     |(rw [if_neg (by rw [Bool.not_eq_true];rfl)]
       refine hK.out _ _ hHeld (fun hHeld=>?_);clear hK K)
     |(go_simp
       refine(HU1.out _).mono ?_;rintro e w' ⟨rfl,hw9⟩;rw [hw9];clear hw9 w';refine hK.out _ _ HTT.out (fun hHeld=>?_);clear hK K)
    (try simp only [nz])
    first
     |(refine tq 22 46 rfl (by kernel_rfl) (fun _ _ _ h=>h) rfl ‹_› (by intro w h;go_simp <;>with_reducible rfl) ?_)
     |(refine wpAnyH_take (i:=22) (oi:=⟨some 46,_,_,_,_,_⟩) (v:=undef) rfl (by kernel_rfl) (by kernel_rfl) (by kernel_rfl) (fun _ _ _ h=>h) (Or.inr ⟨by rfl,rfl⟩) (by assumption) ?_)
    (try simp only [nz])
    first
     |(refine tq 23 47 rfl (by kernel_rfl) (fun _ _ _ h=>h) rfl ‹_› (by intro w h;go_simp <;>with_reducible rfl) ?_)
     |(refine wpAnyH_take (i:=23) (oi:=⟨some 47,_,_,_,_,_⟩) (v:=undef) rfl (by kernel_rfl) (by kernel_rfl) (by kernel_rfl) (fun _ _ _ h=>h) (Or.inr ⟨by rfl,rfl⟩) (by assumption) ?_)
    (try simp only [nz])
    first
     |(refine tq 24 48 rfl (by kernel_rfl) (fun _ _ _ h=>h) rfl ‹_› (by intro w h;go_simp <;>with_reducible rfl) ?_)
     |(refine wpAnyH_take (i:=24) (oi:=⟨some 48,_,_,_,_,_⟩) (v:=undef) rfl (by kernel_rfl) (by kernel_rfl) (by kernel_rfl) (fun _ _ _ h=>h) (Or.inr ⟨by rfl,rfl⟩) (by assumption) ?_)
    (try simp only [nz])
    first
     |(refine tq 25 49 rfl (by kernel_rfl) (fun _ _ _ h=>h) rfl ‹_› (by intro w h;go_simp <;>with_reducible rfl) ?_)
     |(refine wpAnyH_take (i:=25) (oi:=⟨some 49,_,_,_,_,_⟩) (v:=undef) rfl (by kernel_rfl) (by kernel_rfl) (by kernel_rfl) (fun _ _ _ h=>h) (Or.inr ⟨by rfl,rfl⟩) (by assumption) ?_)
    (try simp only [nz])
    first
     |(refine tq 26 50 rfl (by kernel_rfl) (fun _ _ _ h=>h) rfl ‹_› (by intro w h;go_simp <;>with_reducible rfl) ?_)
     |(refine wpAnyH_take (i:=26) (oi:=⟨some 50,_,_,_,_,_⟩) (v:=undef) rfl (by kernel_rfl) (by kernel_rfl) (by kernel_rfl) (fun _ _ _ h=>h) (Or.inr ⟨by rfl,rfl⟩) (by assumption) ?_)
    (try simp only [nz])
    first
     |(refine tq 27 51 rfl (by kernel_rfl) (fun _ _ _ h=>h) rfl ‹_› (by intro w h;go_simp <;>with_reducible rfl) ?_)
     |(refine wpAnyH_take (i:=27) (oi:=⟨some 51,_,_,_,_,_⟩) (v:=undef) rfl (by kernel_rfl) (by kernel_rfl) (by kernel_rfl) (fun _ _ _ h=>h) (Or.inr ⟨by rfl,rfl⟩) (by assumption) ?_)
    (try simp only [nz])
    first
     |(refine tq 28 52 rfl (by kernel_rfl) (fun _ _ _ h=>h) rfl ‹_› (by intro w h;go_simp <;>with_reducible rfl) ?_)
     |(refine wpAnyH_take (i:=28) (oi:=⟨some 52,_,_,_,_,_⟩) (v:=undef) rfl (by kernel_rfl) (by kernel_rfl) (by kernel_rfl) (fun _ _ _ h=>h) (Or.inr ⟨by rfl,rfl⟩) (by assumption) ?_)
    (try simp only [nz])
    first
     |(refine tq 29 53 rfl (by kernel_rfl) (fun _ _ _ h=>h) rfl ‹_› (by intro w h;go_simp <;>with_reducible rfl) ?_)
     |(refine wpAnyH_take (i:=29) (oi:=⟨some 53,_,_,_,_,_⟩) (v:=undef) rfl (by kernel_rfl) (by kernel_rfl) (by kernel_rfl) (fun _ _ _ h=>h) (Or.inr ⟨by rfl,rfl⟩) (by assumption) ?_)
    (try simp only [nz])
    first
     |(refine tq 32 56 rfl (by kernel_rfl) (fun _ _ _ h=>h) rfl ‹_› (by intro w h;go_simp <;>with_reducible rfl) ?_)
     |(refine wpAnyH_take (i:=32) (oi:=⟨some 56,_,_,_,_,_⟩) (v:=undef) rfl (by kernel_rfl) (by kernel_rfl) (by kernel_rfl) (fun _ _ _ h=>h) (Or.inr ⟨by rfl,rfl⟩) (by assumption) ?_)
    (try simp only [nz])
    first
     |(refine tq 33 57 rfl (by kernel_rfl) (fun _ _ _ h=>h) rfl ‹_› (by intro w h;go_simp <;>with_reducible rfl) ?_)
     |(refine wpAnyH_take (i:=33) (oi:=⟨some 57,_,_,_,_,_⟩) (v:=undef) rfl (by kernel_rfl) (by kernel_rfl) (by kernel_rfl) (fun _ _ _ h=>h) (Or.inr ⟨by rfl,rfl⟩) (by assumption) ?_)
    (try simp only [nz])
    first
     |(refine tq 34 58 rfl (by kernel_rfl) (fun _ _ _ h=>h) rfl ‹_› (by intro w h;go_simp <;>with_reducible rfl) ?_)
     |(refine wpAnyH_take (i:=34) (oi:=⟨some 58,_,_,_,_,_⟩) (v:=undef) rfl (by kernel_rfl) (by kernel_rfl) (by kernel_rfl) (fun _ _ _ h=>h) (Or.inr ⟨by rfl,rfl⟩) (by assumption) ?_)
    (try simp only [nz])
    first
     |(refine tq 35 59 rfl (by kernel_rfl) (fun _ _ _ h=>h) rfl ‹_› (by intro w h;go_simp <;>with_reducible rfl) ?_)
     |(refine wpAnyH_take (i:=35) (oi:=⟨some 59,_,_,_,_,_⟩) (v:=undef) rfl (by kernel_rfl) (by kernel_rfl) (by kernel_rfl) (fun _ _ _ h=>h) (Or.inr ⟨by rfl,rfl⟩) (by assumption) ?_)
    (try simp only [nz]);refine rsq 30 54 (by kernel_rfl) rfl (fun K hK=>?_)
    first
     |(rw [if_neg (by rw [Bool.not_eq_true];rfl)]
       refine hK.out _ _ hHeld (fun hHeld=>?_);clear hK K)
     |(go_simp
       refine(HU2.out _).mono ?_;rintro e w' ⟨rfl,hw9⟩;rw [hw9];clear hw9 w';refine hK.out _ _ HTT.out (fun hHeld=>?_);clear hK K)
    (try simp only [nz])
    first
     |(refine tq 31 55 rfl (by kernel_rfl) (fun _ _ _ h=>h) rfl ‹_› (by intro w h;go_simp <;>with_reducible rfl) ?_)
     |(refine wpAnyH_take (i:=31) (oi:=⟨some 55,_,_,_,_,_⟩) (v:=undef) rfl (by kernel_rfl) (by kernel_rfl) (by kernel_rfl) (fun _ _ _ h=>h) (Or.inr ⟨by rfl,rfl⟩) (by assumption) ?_)
    (try simp only [nz]);refine rsq 36 60 (by kernel_rfl) rfl (fun K hK=>?_)
    first
     |(rw [if_neg (by rw [Bool.not_eq_true];rfl)]
       refine hK.out _ _ hHeld (fun hHeld=>?_);clear hK K)
     |(go_simp
       refine(HU2.out _).mono ?_;rintro e w' ⟨rfl,hw9⟩;rw [hw9];clear hw9 w';refine hK.out _ _ HTT.out (fun hHeld=>?_);clear hK K)
    (try simp only [nz])
    first
     |(refine tq 37 61 rfl (by kernel_rfl) (fun _ _ _ h=>h) rfl ‹_› (by intro w h;go_simp <;>with_reducible rfl) ?_)
     |(refine wpAnyH_take (i:=37) (oi:=⟨some 61,_,_,_,_,_⟩) (v:=undef) rfl (by kernel_rfl) (by kernel_rfl) (by kernel_rfl) (fun _ _ _ h=>h) (Or.inr ⟨by rfl,rfl⟩) (by assumption) ?_)
    (try simp only [nz])
    first
     |(refine tq 38 62 rfl (by kernel_rfl) (fun _ _ _ h=>h) rfl ‹_› (by intro w h;go_simp <;>with_reducible rfl) ?_)
     |(refine wpAnyH_take (i:=38) (oi:=⟨some 62,_,_,_,_,_⟩) (v:=undef) rfl (by kernel_rfl) (by kernel_rfl) (by kernel_rfl) (fun _ _ _ h=>h) (Or.inr ⟨by rfl,rfl⟩) (by assumption) ?_)
    (try simp only [nz])
    first
     |(refine tq 39 63 rfl (by kernel_rfl) (fun _ _ _ h=>h) rfl ‹_› (by intro w h;go_simp <;>with_reducible rfl) ?_)
     |(refine wpAnyH_take (i:=39) (oi:=⟨some 63,_,_,_,_,_⟩) (v:=undef) rfl (by kernel_rfl) (by kernel_rfl) (by kernel_rfl) (fun _ _ _ h=>h) (Or.inr ⟨by rfl,rfl⟩) (by assumption) ?_)
    (try simp only [nz])
    first
     |(refine tq 40 64 rfl (by kernel_rfl) (fun _ _ _ h=>h) rfl ‹_› (by intro w h;go_simp <;>with_reducible rfl) ?_)
     |(refine wpAnyH_take (i:=40) (oi:=⟨some 64,_,_,_,_,_⟩) (v:=undef) rfl (by kernel_rfl) (by kernel_rfl) (by kernel_rfl) (fun _ _ _ h=>h) (Or.inr ⟨by rfl,rfl⟩) (by assumption) ?_)
    (try simp only [nz])
    first
     |(refine tq 41 65 rfl (by kernel_rfl) (fun _ _ _ h=>h) rfl ‹_› (by intro w h;go_simp <;>with_reducible rfl) ?_)
     |(refine wpAnyH_take (i:=41) (oi:=⟨some 65,_,_,_,_,_⟩) (v:=undef) rfl (by kernel_rfl) (by kernel_rfl) (by kernel_rfl) (fun _ _ _ h=>h) (Or.inr ⟨by rfl,rfl⟩) (by assumption) ?_)
    (try simp only [nz])
    first
     |(refine tq 42 66 rfl (by kernel_rfl) (fun _ _ _ h=>h) rfl ‹_› (by intro w h;go_simp <;>with_reducible rfl) ?_)
     |(refine wpAnyH_take (i:=42) (oi:=⟨some 66,_,_,_,_,_⟩) (v:=undef) rfl (by kernel_rfl) (by kernel_rfl) (by kernel_rfl) (fun _ _ _ h=>h) (Or.inr ⟨by rfl,rfl⟩) (by assumption) ?_)
    (try simp only [nz])
    first
     |(refine tq 43 67 rfl (by kernel_rfl) (fun _ _ _ h=>h) rfl ‹_› (by intro w h;go_simp <;>with_reducible rfl) ?_)
     |(refine wpAnyH_take (i:=43) (oi:=⟨some 67,_,_,_,_,_⟩) (v:=undef) rfl (by kernel_rfl) (by kernel_rfl) (by kernel_rfl) (fun _ _ _ h=>h) (Or.inr ⟨by rfl,rfl⟩) (by assumption) ?_)
    (try simp only [nz])
    first
     |(refine tq 44 68 rfl (by kernel_rfl) (fun _ _ _ h=>h) rfl ‹_› (by intro w h;go_simp <;>with_reducible rfl) ?_)
     |(refine wpAnyH_take (i:=44) (oi:=⟨some 68,_,_,_,_,_⟩) (v:=undef) rfl (by kernel_rfl) (by kernel_rfl) (by kernel_rfl) (fun _ _ _ h=>h) (Or.inr ⟨by rfl,rfl⟩) (by assumption) ?_)
    (try simp only [nz])
    first
     |(refine tq 45 69 rfl (by kernel_rfl) (fun _ _ _ h=>h) rfl ‹_› (by intro w h;go_simp <;>with_reducible rfl) ?_)
     |(refine wpAnyH_take (i:=45) (oi:=⟨some 69,_,_,_,_,_⟩) (v:=undef) rfl (by kernel_rfl) (by kernel_rfl) (by kernel_rfl) (fun _ _ _ h=>h) (Or.inr ⟨by rfl,rfl⟩) (by assumption) ?_)
    (try simp only [nz])
    first
     |(refine tq 46 70 rfl (by kernel_rfl) (fun _ _ _ h=>h) rfl ‹_› (by intro w h;go_simp <;>with_reducible rfl) ?_)
     |(refine wpAnyH_take (i:=46) (oi:=⟨some 70,_,_,_,_,_⟩) (v:=undef) rfl (by kernel_rfl) (by kernel_rfl) (by kernel_rfl) (fun _ _ _ h=>h) (Or.inr ⟨by rfl,rfl⟩) (by assumption) ?_)
    (try simp only [nz])
    first
     |(refine tq 47 71 rfl (by kernel_rfl) (fun _ _ _ h=>h) rfl ‹_› (by intro w h;go_simp <;>with_reducible rfl) ?_)
     |(refine wpAnyH_take (i:=47) (oi:=⟨some 71,_,_,_,_,_⟩) (v:=undef) rfl (by kernel_rfl) (by kernel_rfl) (by kernel_rfl) (fun _ _ _ h=>h) (Or.inr ⟨by rfl,rfl⟩) (by assumption) ?_)
    (try simp only [nz])
    first
     |(refine tq 48 72 rfl (by kernel_rfl) (fun _ _ _ h=>h) rfl ‹_› (by intro w h;go_simp <;>with_reducible rfl) ?_)
     |(refine wpAnyH_take (i:=48) (oi:=⟨some 72,_,_,_,_,_⟩) (v:=undef) rfl (by kernel_rfl) (by kernel_rfl) (by kernel_rfl) (fun _ _ _ h=>h) (Or.inr ⟨by rfl,rfl⟩) (by assumption) ?_)
    (try simp only [nz])
    first
     |(refine tq 49 73 rfl (by kernel_rfl) (fun _ _ _ h=>h) rfl ‹_› (by intro w h;go_simp <;>with_reducible rfl) ?_)
     |(refine wpAnyH_take (i:=49) (oi:=⟨some 73,_,_,_,_,_⟩) (v:=undef) rfl (by kernel_rfl) (by kernel_rfl) (by kernel_rfl) (fun _ _ _ h=>h) (Or.inr ⟨by rfl,rfl⟩) (by assumption) ?_)
    (try simp only [nz])
    first
     |(refine tq 50 74 rfl (by kernel_rfl) (fun _ _ _ h=>h) rfl ‹_› (by intro w h;go_simp <;>with_reducible rfl) ?_)
     |(refine wpAnyH_take (i:=50) (oi:=⟨some 74,_,_,_,_,_⟩) (v:=undef) rfl (by kernel_rfl) (by kernel_rfl) (by kernel_rfl) (fun _ _ _ h=>h) (Or.inr ⟨by rfl,rfl⟩) (by assumption) ?_)
    (try simp only [nz])
    first
     |(refine tq 51 75 rfl (by kernel_rfl) (fun _ _ _ h=>h) rfl ‹_› (by intro w h;go_simp <;>with_reducible rfl) ?_)
     |(refine wpAnyH_take (i:=51) (oi:=⟨some 75,_,_,_,_,_⟩) (v:=undef) rfl (by kernel_rfl) (by kernel_rfl) (by kernel_rfl) (fun _ _ _ h=>h) (Or.inr ⟨by rfl,rfl⟩) (by assumption) ?_)
    (try simp only [nz]);refine wpAnyH_done (by kernel_rfl) ?_ _
    clear hHeld HTT HU1 HU2 t1 t2 t3 t4 w1 w2 w3 w4 u1 u1b u2 u2b
   ·have hf:fx=false:=by rw [HFV.out];rw [show(xs==net)=false from by simpa [bne] using h1];simp
    have HN:=aa (HNO.out hf);clear HNO HY1 HY2 HY3 HRJ HFV hf;go_wp2_with fail
    go_roundw
    case rel=>exact⟨k+1,bi,by omega,rfl,by go_num,HN,kz⟩
    case measure=>simp [intOf];omega
   ·have hf:fx=false:=by rw [HFV.out];rw [show(xn== !xn)=false from by(cases xn <;>rfl)];simp
    have HN:=aa (HNO.out hf);clear HNO HY1 HY2 HY3 HRJ HFV hf;go_wp2_with fail
    go_roundw
    case rel=>exact⟨k+1,bi,by omega,rfl,by go_num,HN,kz⟩
    case measure=>simp [intOf];omega
   ·have hf:fx=false:=by rw [HFV.out];rw [show(A1==A2)=false from by simpa [bne] using h3];simp
    have HN:=aa (HNO.out hf);clear HNO HY1 HY2 HY3 HRJ HFV hf;go_wp2_with fail
    go_roundw
    case rel=>exact⟨k+1,bi,by omega,rfl,by go_num,HN,kz⟩
    case measure=>simp [intOf];omega
   ·have hf:fx=false:=by rw [HFV.out];rw [show(B1==B2)=false from by simpa [bne] using h4];simp
    have HN:=aa (HNO.out hf);clear HNO HY1 HY2 HY3 HRJ HFV hf;go_wp2_with fail
    go_roundw
    case rel=>exact⟨k+1,bi,by omega,rfl,by go_num,HN,kz⟩
    case measure=>simp [intOf];omega
   ·have hf:fx=false:=by rw [HFV.out];rw [show(xo== -1|| o==xo)=false from by(simp [bne]at h6;simp;omega)];simp
    have HN:=aa (HNO.out hf);clear HNO HY1 HY2 HY3 HRJ HFV hf;go_wp2_with fail
    go_roundw
    case rel=>exact⟨k+1,bi,by omega,rfl,by go_num,HN,kz⟩
    case measure=>simp [intOf];omega
   all_goals
    have hf:fx=true:=by
     rw [HFV.out,show(xs==net)=true from by simpa [bne] using h1,show(inn==inn)=true from by simp,show(A1==A2)=true from by simpa [bne] using h3,show(B1==B2)=true from by simpa [bne] using h4]
     first |(rw [show(xo== -1)=true from by simp;omega];simp) |(rw [show(o==xo)=true from by simp [bne]at h6;simp;omega];simp)
    have p0:=HBX.out.cell 1 _ rfl;have m2:=HB1.out.cell 2 _ rfl;rcases HAB.out with⟨rfl,hb⟩ |⟨j,hj,rfl,hb⟩
    ·have HN:=aa (HY1.out hf hb);clear HNO HY1 HY2 HY3 HRJ HFV hf hb HAB;go_upto_region 7 with fail
     have hD:Below V.heap.size V V.drew:=(Below.refl _ _).drew;replace p0:=zC p0 hD;replace m2:=zC m2 hD;replace kz:=kz.trans (hD.mono kz.size);clear hD;refine wp_region_held_drew (S:=(fun w'=>w'.cell? ⟨wr.heap.size,1,none⟩=some (.int .i64 xp)∧w'.cell? ⟨w.heap.size,2,none⟩=some (.slice (some ⟨bb,off,none⟩) A.length a2))) (by kernel_rfl) ⟨p0,m2⟩ (fun hHeld=>?_);generalize V.drew=V7 at*
     first
      |(refine tq 0 76 rfl (by kernel_rfl) (fun _ _ _ h=>h) rfl ‹_› (by intro w h;go_simp <;>with_reducible rfl) ?_)
      |(refine wpAnyH_take (i:=0) (oi:=⟨some 76,_,_,_,_,_⟩) (v:=undef) rfl (by kernel_rfl) (by kernel_rfl) (by kernel_rfl) (fun _ _ _ h=>h) (Or.inr ⟨by rfl,rfl⟩) (by assumption) ?_)
     (try simp only [nz])
     first
      |(refine tq 1 77 rfl (by kernel_rfl) (fun _ _ _ h=>h) rfl ‹_› (by intro w h;go_simp <;>with_reducible rfl) ?_)
      |(refine wpAnyH_take (i:=1) (oi:=⟨some 77,_,_,_,_,_⟩) (v:=undef) rfl (by kernel_rfl) (by kernel_rfl) (by kernel_rfl) (fun _ _ _ h=>h) (Or.inr ⟨by rfl,rfl⟩) (by assumption) ?_)
     (try simp only [nz])
     first
      |(refine tq 2 78 rfl (by kernel_rfl) (fun _ _ _ h=>h) rfl ‹_› (by intro w h;go_simp <;>with_reducible rfl) ?_)
      |(refine wpAnyH_take (i:=2) (oi:=⟨some 78,_,_,_,_,_⟩) (v:=undef) rfl (by kernel_rfl) (by kernel_rfl) (by kernel_rfl) (fun _ _ _ h=>h) (Or.inr ⟨by rfl,rfl⟩) (by assumption) ?_)
     (try simp only [nz])
     first
      |(refine tq 3 79 rfl (by kernel_rfl) (fun _ _ _ h=>h) rfl ‹_› (by intro w h;go_simp <;>with_reducible rfl) ?_)
      |(refine wpAnyH_take (i:=3) (oi:=⟨some 79,_,_,_,_,_⟩) (v:=undef) rfl (by kernel_rfl) (by kernel_rfl) (by kernel_rfl) (fun _ _ _ h=>h) (Or.inr ⟨by rfl,rfl⟩) (by assumption) ?_)
     (try simp only [nz])
     first
      |(refine tq 4 80 rfl (by kernel_rfl) (fun _ _ _ h=>h) rfl ‹_› (by intro w h;go_simp <;>with_reducible rfl) ?_)
      |(refine wpAnyH_take (i:=4) (oi:=⟨some 80,_,_,_,_,_⟩) (v:=undef) rfl (by kernel_rfl) (by kernel_rfl) (by kernel_rfl) (fun _ _ _ h=>h) (Or.inr ⟨by rfl,rfl⟩) (by assumption) ?_)
     (try simp only [nz])
     first
      |(refine tq 5 81 rfl (by kernel_rfl) (fun _ _ _ h=>h) rfl ‹_› (by intro w h;go_simp <;>with_reducible rfl) ?_)
      |(refine wpAnyH_take (i:=5) (oi:=⟨some 81,_,_,_,_,_⟩) (v:=undef) rfl (by kernel_rfl) (by kernel_rfl) (by kernel_rfl) (fun _ _ _ h=>h) (Or.inr ⟨by rfl,rfl⟩) (by assumption) ?_)
     (try simp only [nz])
     first
      |(refine tq 6 82 rfl (by kernel_rfl) (fun _ _ _ h=>h) rfl ‹_› (by intro w h;go_simp <;>with_reducible rfl) ?_)
      |(refine wpAnyH_take (i:=6) (oi:=⟨some 82,_,_,_,_,_⟩) (v:=undef) rfl (by kernel_rfl) (by kernel_rfl) (by kernel_rfl) (fun _ _ _ h=>h) (Or.inr ⟨by rfl,rfl⟩) (by assumption) ?_)
     (try simp only [nz])
     first
      |(refine tq 7 83 rfl (by kernel_rfl) (fun _ _ _ h=>h) rfl ‹_› (by intro w h;go_simp <;>with_reducible rfl) ?_)
      |(refine wpAnyH_take (i:=7) (oi:=⟨some 83,_,_,_,_,_⟩) (v:=undef) rfl (by kernel_rfl) (by kernel_rfl) (by kernel_rfl) (fun _ _ _ h=>h) (Or.inr ⟨by rfl,rfl⟩) (by assumption) ?_)
     (try simp only [nz])
     first
      |(refine tq 8 84 rfl (by kernel_rfl) (fun _ _ _ h=>h) rfl ‹_› (by intro w h;go_simp <;>with_reducible rfl) ?_)
      |(refine wpAnyH_take (i:=8) (oi:=⟨some 84,_,_,_,_,_⟩) (v:=undef) rfl (by kernel_rfl) (by kernel_rfl) (by kernel_rfl) (fun _ _ _ h=>h) (Or.inr ⟨by rfl,rfl⟩) (by assumption) ?_)
     (try simp only [nz])
     first
      |(refine tq 9 85 rfl (by kernel_rfl) (fun _ _ _ h=>h) rfl ‹_› (by intro w h;go_simp <;>with_reducible rfl) ?_)
      |(refine wpAnyH_take (i:=9) (oi:=⟨some 85,_,_,_,_,_⟩) (v:=undef) rfl (by kernel_rfl) (by kernel_rfl) (by kernel_rfl) (fun _ _ _ h=>h) (Or.inr ⟨by rfl,rfl⟩) (by assumption) ?_)
     (try simp only [nz])
     first
      |(refine tq 10 86 rfl (by kernel_rfl) (fun _ _ _ h=>h) rfl ‹_› (by intro w h;go_simp <;>with_reducible rfl) ?_)
      |(refine wpAnyH_take (i:=10) (oi:=⟨some 86,_,_,_,_,_⟩) (v:=undef) rfl (by kernel_rfl) (by kernel_rfl) (by kernel_rfl) (fun _ _ _ h=>h) (Or.inr ⟨by rfl,rfl⟩) (by assumption) ?_)
     (try simp only [nz])
     first
      |(refine tq 11 87 rfl (by kernel_rfl) (fun _ _ _ h=>h) rfl ‹_› (by intro w h;go_simp <;>with_reducible rfl) ?_)
      |(refine wpAnyH_take (i:=11) (oi:=⟨some 87,_,_,_,_,_⟩) (v:=undef) rfl (by kernel_rfl) (by kernel_rfl) (by kernel_rfl) (fun _ _ _ h=>h) (Or.inr ⟨by rfl,rfl⟩) (by assumption) ?_)
     (try simp only [nz])
     first
      |(refine tq 12 88 rfl (by kernel_rfl) (fun _ _ _ h=>h) rfl ‹_› (by intro w h;go_simp <;>with_reducible rfl) ?_)
      |(refine wpAnyH_take (i:=12) (oi:=⟨some 88,_,_,_,_,_⟩) (v:=undef) rfl (by kernel_rfl) (by kernel_rfl) (by kernel_rfl) (fun _ _ _ h=>h) (Or.inr ⟨by rfl,rfl⟩) (by assumption) ?_)
     (try simp only [nz]);refine wpAnyH_done (by kernel_rfl) ?_ _
     clear hHeld;go_wp2_with fail
     go_roundw
     case rel=>exact⟨k+1,k,by omega,rfl,by go_num,HN,kz⟩
     case measure=>simp [intOf];omega
    ·have p1:=HRJ.out V HKV.out j (by omega) 1 _ rfl;have j0:(0:Int)≤(j:Int):=(by omega);have j2:¬((j:Int)<0):=(by omega);have j1:(j:Int)<(A.length:Int):=(by omega);have HM:=aa (HY2.out hf j hb);have HS:=aa (HY3.out hf j hj hb);clear HNO HY1 HY2 HY3 HRJ HFV hf hb HAB;generalize (A.getD j ac0).p=jp at*;change V.cell? ⟨bb,off+j*9+1,none⟩=some (.int .i64 jp)at p1;go_upto_region 7 with fail
     by_cases hp:jp<xp
     ·have HN:=aa (HM.out hp);clear HM HS;have hD:Below V.heap.size V V.drew:=(Below.refl _ _).drew;replace⟨p0,m2,p1⟩:=ep p0 m2 p1 hD;replace kz:=kz.trans (hD.mono kz.size);clear hD;refine wp_region_held_drew (S:=(fun w'=>w'.cell? ⟨wr.heap.size,1,none⟩=some (.int .i64 xp)∧w'.cell? ⟨w.heap.size,2,none⟩=some (.slice (some ⟨bb,off,none⟩) A.length a2)∧w'.cell? ⟨bb,off+j*9+1,none⟩=some (.int .i64 jp))) (by kernel_rfl) ⟨p0,m2,p1⟩ (fun hHeld=>?_);generalize V.drew=V7 at*
      first
       |(refine tq 0 76 rfl (by kernel_rfl) (fun _ _ _ h=>h) rfl ‹_› (by intro w h;go_simp <;>with_reducible rfl) ?_)
       |(refine wpAnyH_take (i:=0) (oi:=⟨some 76,_,_,_,_,_⟩) (v:=undef) rfl (by kernel_rfl) (by kernel_rfl) (by kernel_rfl) (fun _ _ _ h=>h) (Or.inr ⟨by rfl,rfl⟩) (by assumption) ?_)
      (try simp only [nz])
      first
       |(refine tq 1 77 rfl (by kernel_rfl) (fun _ _ _ h=>h) rfl ‹_› (by intro w h;go_simp <;>with_reducible rfl) ?_)
       |(refine wpAnyH_take (i:=1) (oi:=⟨some 77,_,_,_,_,_⟩) (v:=undef) rfl (by kernel_rfl) (by kernel_rfl) (by kernel_rfl) (fun _ _ _ h=>h) (Or.inr ⟨by rfl,rfl⟩) (by assumption) ?_)
      (try simp only [nz])
      first
       |(refine tq 2 78 rfl (by kernel_rfl) (fun _ _ _ h=>h) rfl ‹_› (by intro w h;go_simp <;>with_reducible rfl) ?_)
       |(refine wpAnyH_take (i:=2) (oi:=⟨some 78,_,_,_,_,_⟩) (v:=undef) rfl (by kernel_rfl) (by kernel_rfl) (by kernel_rfl) (fun _ _ _ h=>h) (Or.inr ⟨by rfl,rfl⟩) (by assumption) ?_)
      (try simp only [nz])
      first
       |(refine tq 3 79 rfl (by kernel_rfl) (fun _ _ _ h=>h) rfl ‹_› (by intro w h;go_simp <;>with_reducible rfl) ?_)
       |(refine wpAnyH_take (i:=3) (oi:=⟨some 79,_,_,_,_,_⟩) (v:=undef) rfl (by kernel_rfl) (by kernel_rfl) (by kernel_rfl) (fun _ _ _ h=>h) (Or.inr ⟨by rfl,rfl⟩) (by assumption) ?_)
      (try simp only [nz])
      first
       |(refine tq 4 80 rfl (by kernel_rfl) (fun _ _ _ h=>h) rfl ‹_› (by intro w h;go_simp <;>with_reducible rfl) ?_)
       |(refine wpAnyH_take (i:=4) (oi:=⟨some 80,_,_,_,_,_⟩) (v:=undef) rfl (by kernel_rfl) (by kernel_rfl) (by kernel_rfl) (fun _ _ _ h=>h) (Or.inr ⟨by rfl,rfl⟩) (by assumption) ?_)
      (try simp only [nz])
      first
       |(refine tq 5 81 rfl (by kernel_rfl) (fun _ _ _ h=>h) rfl ‹_› (by intro w h;go_simp <;>with_reducible rfl) ?_)
       |(refine wpAnyH_take (i:=5) (oi:=⟨some 81,_,_,_,_,_⟩) (v:=undef) rfl (by kernel_rfl) (by kernel_rfl) (by kernel_rfl) (fun _ _ _ h=>h) (Or.inr ⟨by rfl,rfl⟩) (by assumption) ?_)
      (try simp only [nz])
      first
       |(refine tq 6 82 rfl (by kernel_rfl) (fun _ _ _ h=>h) rfl ‹_› (by intro w h;go_simp <;>with_reducible rfl) ?_)
       |(refine wpAnyH_take (i:=6) (oi:=⟨some 82,_,_,_,_,_⟩) (v:=undef) rfl (by kernel_rfl) (by kernel_rfl) (by kernel_rfl) (fun _ _ _ h=>h) (Or.inr ⟨by rfl,rfl⟩) (by assumption) ?_)
      (try simp only [nz])
      first
       |(refine tq 7 83 rfl (by kernel_rfl) (fun _ _ _ h=>h) rfl ‹_› (by intro w h;go_simp <;>with_reducible rfl) ?_)
       |(refine wpAnyH_take (i:=7) (oi:=⟨some 83,_,_,_,_,_⟩) (v:=undef) rfl (by kernel_rfl) (by kernel_rfl) (by kernel_rfl) (fun _ _ _ h=>h) (Or.inr ⟨by rfl,rfl⟩) (by assumption) ?_)
      (try simp only [nz])
      first
       |(refine tq 8 84 rfl (by kernel_rfl) (fun _ _ _ h=>h) rfl ‹_› (by intro w h;go_simp <;>with_reducible rfl) ?_)
       |(refine wpAnyH_take (i:=8) (oi:=⟨some 84,_,_,_,_,_⟩) (v:=undef) rfl (by kernel_rfl) (by kernel_rfl) (by kernel_rfl) (fun _ _ _ h=>h) (Or.inr ⟨by rfl,rfl⟩) (by assumption) ?_)
      (try simp only [nz])
      first
       |(refine tq 9 85 rfl (by kernel_rfl) (fun _ _ _ h=>h) rfl ‹_› (by intro w h;go_simp <;>with_reducible rfl) ?_)
       |(refine wpAnyH_take (i:=9) (oi:=⟨some 85,_,_,_,_,_⟩) (v:=undef) rfl (by kernel_rfl) (by kernel_rfl) (by kernel_rfl) (fun _ _ _ h=>h) (Or.inr ⟨by rfl,rfl⟩) (by assumption) ?_)
      (try simp only [nz])
      first
       |(refine tq 10 86 rfl (by kernel_rfl) (fun _ _ _ h=>h) rfl ‹_› (by intro w h;go_simp <;>with_reducible rfl) ?_)
       |(refine wpAnyH_take (i:=10) (oi:=⟨some 86,_,_,_,_,_⟩) (v:=undef) rfl (by kernel_rfl) (by kernel_rfl) (by kernel_rfl) (fun _ _ _ h=>h) (Or.inr ⟨by rfl,rfl⟩) (by assumption) ?_)
      (try simp only [nz])
      first
       |(refine tq 11 87 rfl (by kernel_rfl) (fun _ _ _ h=>h) rfl ‹_› (by intro w h;go_simp <;>with_reducible rfl) ?_)
       |(refine wpAnyH_take (i:=11) (oi:=⟨some 87,_,_,_,_,_⟩) (v:=undef) rfl (by kernel_rfl) (by kernel_rfl) (by kernel_rfl) (fun _ _ _ h=>h) (Or.inr ⟨by rfl,rfl⟩) (by assumption) ?_)
      (try simp only [nz])
      first
       |(refine tq 12 88 rfl (by kernel_rfl) (fun _ _ _ h=>h) rfl ‹_› (by intro w h;go_simp <;>with_reducible rfl) ?_)
       |(refine wpAnyH_take (i:=12) (oi:=⟨some 88,_,_,_,_,_⟩) (v:=undef) rfl (by kernel_rfl) (by kernel_rfl) (by kernel_rfl) (fun _ _ _ h=>h) (Or.inr ⟨by rfl,rfl⟩) (by assumption) ?_)
      (try simp only [nz]);refine wpAnyH_done (by kernel_rfl) ?_ _
      clear hHeld;go_wp2_with fail
      go_roundw
      case rel=>exact⟨k+1,k,by omega,rfl,by go_num,HN,kz⟩
      case measure=>simp [intOf];omega
     ·have HN:=aa (HS.out hp);clear HM HS;have hD:Below V.heap.size V V.drew:=(Below.refl _ _).drew;replace⟨p0,m2,p1⟩:=ep p0 m2 p1 hD;replace kz:=kz.trans (hD.mono kz.size);clear hD;refine wp_region_held_drew (S:=(fun w'=>w'.cell? ⟨wr.heap.size,1,none⟩=some (.int .i64 xp)∧w'.cell? ⟨w.heap.size,2,none⟩=some (.slice (some ⟨bb,off,none⟩) A.length a2)∧w'.cell? ⟨bb,off+j*9+1,none⟩=some (.int .i64 jp))) (by kernel_rfl) ⟨p0,m2,p1⟩ (fun hHeld=>?_);generalize V.drew=V7 at*
      first
       |(refine tq 0 76 rfl (by kernel_rfl) (fun _ _ _ h=>h) rfl ‹_› (by intro w h;go_simp <;>with_reducible rfl) ?_)
       |(refine wpAnyH_take (i:=0) (oi:=⟨some 76,_,_,_,_,_⟩) (v:=undef) rfl (by kernel_rfl) (by kernel_rfl) (by kernel_rfl) (fun _ _ _ h=>h) (Or.inr ⟨by rfl,rfl⟩) (by assumption) ?_)
      (try simp only [nz])
      first
       |(refine tq 1 77 rfl (by kernel_rfl) (fun _ _ _ h=>h) rfl ‹_› (by intro w h;go_simp <;>with_reducible rfl) ?_)
       |(refine wpAnyH_take (i:=1) (oi:=⟨some 77,_,_,_,_,_⟩) (v:=undef) rfl (by kernel_rfl) (by kernel_rfl) (by kernel_rfl) (fun _ _ _ h=>h) (Or.inr ⟨by rfl,rfl⟩) (by assumption) ?_)
      (try simp only [nz])
      first
       |(refine tq 2 78 rfl (by kernel_rfl) (fun _ _ _ h=>h) rfl ‹_› (by intro w h;go_simp <;>with_reducible rfl) ?_)
       |(refine wpAnyH_take (i:=2) (oi:=⟨some 78,_,_,_,_,_⟩) (v:=undef) rfl (by kernel_rfl) (by kernel_rfl) (by kernel_rfl) (fun _ _ _ h=>h) (Or.inr ⟨by rfl,rfl⟩) (by assumption) ?_)
      (try simp only [nz])
      first
       |(refine tq 3 79 rfl (by kernel_rfl) (fun _ _ _ h=>h) rfl ‹_› (by intro w h;go_simp <;>with_reducible rfl) ?_)
       |(refine wpAnyH_take (i:=3) (oi:=⟨some 79,_,_,_,_,_⟩) (v:=undef) rfl (by kernel_rfl) (by kernel_rfl) (by kernel_rfl) (fun _ _ _ h=>h) (Or.inr ⟨by rfl,rfl⟩) (by assumption) ?_)
      (try simp only [nz])
      first
       |(refine tq 4 80 rfl (by kernel_rfl) (fun _ _ _ h=>h) rfl ‹_› (by intro w h;go_simp <;>with_reducible rfl) ?_)
       |(refine wpAnyH_take (i:=4) (oi:=⟨some 80,_,_,_,_,_⟩) (v:=undef) rfl (by kernel_rfl) (by kernel_rfl) (by kernel_rfl) (fun _ _ _ h=>h) (Or.inr ⟨by rfl,rfl⟩) (by assumption) ?_)
      (try simp only [nz])
      first
       |(refine tq 5 81 rfl (by kernel_rfl) (fun _ _ _ h=>h) rfl ‹_› (by intro w h;go_simp <;>with_reducible rfl) ?_)
       |(refine wpAnyH_take (i:=5) (oi:=⟨some 81,_,_,_,_,_⟩) (v:=undef) rfl (by kernel_rfl) (by kernel_rfl) (by kernel_rfl) (fun _ _ _ h=>h) (Or.inr ⟨by rfl,rfl⟩) (by assumption) ?_)
      (try simp only [nz])
      first
       |(refine tq 6 82 rfl (by kernel_rfl) (fun _ _ _ h=>h) rfl ‹_› (by intro w h;go_simp <;>with_reducible rfl) ?_)
       |(refine wpAnyH_take (i:=6) (oi:=⟨some 82,_,_,_,_,_⟩) (v:=undef) rfl (by kernel_rfl) (by kernel_rfl) (by kernel_rfl) (fun _ _ _ h=>h) (Or.inr ⟨by rfl,rfl⟩) (by assumption) ?_)
      (try simp only [nz])
      first
       |(refine tq 7 83 rfl (by kernel_rfl) (fun _ _ _ h=>h) rfl ‹_› (by intro w h;go_simp <;>with_reducible rfl) ?_)
       |(refine wpAnyH_take (i:=7) (oi:=⟨some 83,_,_,_,_,_⟩) (v:=undef) rfl (by kernel_rfl) (by kernel_rfl) (by kernel_rfl) (fun _ _ _ h=>h) (Or.inr ⟨by rfl,rfl⟩) (by assumption) ?_)
      (try simp only [nz])
      first
       |(refine tq 8 84 rfl (by kernel_rfl) (fun _ _ _ h=>h) rfl ‹_› (by intro w h;go_simp <;>with_reducible rfl) ?_)
       |(refine wpAnyH_take (i:=8) (oi:=⟨some 84,_,_,_,_,_⟩) (v:=undef) rfl (by kernel_rfl) (by kernel_rfl) (by kernel_rfl) (fun _ _ _ h=>h) (Or.inr ⟨by rfl,rfl⟩) (by assumption) ?_)
      (try simp only [nz])
      first
       |(refine tq 9 85 rfl (by kernel_rfl) (fun _ _ _ h=>h) rfl ‹_› (by intro w h;go_simp <;>with_reducible rfl) ?_)
       |(refine wpAnyH_take (i:=9) (oi:=⟨some 85,_,_,_,_,_⟩) (v:=undef) rfl (by kernel_rfl) (by kernel_rfl) (by kernel_rfl) (fun _ _ _ h=>h) (Or.inr ⟨by rfl,rfl⟩) (by assumption) ?_)
      (try simp only [nz])
      first
       |(refine tq 10 86 rfl (by kernel_rfl) (fun _ _ _ h=>h) rfl ‹_› (by intro w h;go_simp <;>with_reducible rfl) ?_)
       |(refine wpAnyH_take (i:=10) (oi:=⟨some 86,_,_,_,_,_⟩) (v:=undef) rfl (by kernel_rfl) (by kernel_rfl) (by kernel_rfl) (fun _ _ _ h=>h) (Or.inr ⟨by rfl,rfl⟩) (by assumption) ?_)
      (try simp only [nz])
      first
       |(refine tq 11 87 rfl (by kernel_rfl) (fun _ _ _ h=>h) rfl ‹_› (by intro w h;go_simp <;>with_reducible rfl) ?_)
       |(refine wpAnyH_take (i:=11) (oi:=⟨some 87,_,_,_,_,_⟩) (v:=undef) rfl (by kernel_rfl) (by kernel_rfl) (by kernel_rfl) (fun _ _ _ h=>h) (Or.inr ⟨by rfl,rfl⟩) (by assumption) ?_)
      (try simp only [nz])
      first
       |(refine tq 12 88 rfl (by kernel_rfl) (fun _ _ _ h=>h) rfl ‹_› (by intro w h;go_simp <;>with_reducible rfl) ?_)
       |(refine wpAnyH_take (i:=12) (oi:=⟨some 88,_,_,_,_,_⟩) (v:=undef) rfl (by kernel_rfl) (by kernel_rfl) (by kernel_rfl) (fun _ _ _ h=>h) (Or.inr ⟨by rfl,rfl⟩) (by assumption) ?_)
      (try simp only [nz]);refine wpAnyH_done (by kernel_rfl) ?_ _
      clear hHeld;go_wp2_with fail
      go_roundw
      case rel=>exact⟨k+1,j,by omega,rfl,by go_num,HN,kz⟩
      case measure=>simp [intOf];omega
  ·obtain rfl:k=A.length:=(by omega);have HAB2:=HAB.out;unfold alB at HAB2;rw [List.take_length]at HAB2;rcases HAB2 with⟨rfl,hb⟩ |⟨j,hj,rfl,hb⟩
   ·have HE:Hid (true=R):=aa (by rw [HAF.out,hb]);clear HAB;go_wp2_with fail
    go_ret;exact⟨aq HE.out,kb.trans (kz.mono kb.size)⟩
   ·obtain⟨bb,off,cap,e1,hcap,hR⟩:=dF ac0 HC.out.2.2 hj;simp only [Value.slice.injEq,true_and]at e1;obtain⟨rfl,rfl⟩:=e1;have p1:=hR 8 _ rfl;clear hR;have j0:(0:Int)≤(j:Int):=(by omega);have j2:¬((j:Int)<0):=(by omega);have j1:(j:Int)<(A.length:Int):=(by omega);have HE:Hid ((!(A.getD j ac0).d)=R):=aa (by rw [HAF.out,hb]);clear HAB hb;generalize (A.getD j ac0).d=yy at*;change wr.cell? ⟨bb,off+j*9+8,none⟩=some (.bool yy)at p1;go_wp2_with fail
    go_ret;exact⟨aq HE.out,kb.trans (kz.mono kb.size)⟩
theorem A8:(Tryz.prog.info? 97).map (·.size)=some 10:=by kernel_rfl
theorem kk:(Tryz.prog.info? 51).map (·.size)=some 5:=by kernel_rfl
theorem uU (sv pv av:Value) (S:List Sw) (P:List Pr) (A:List Ac) (ch gn gu f0 f1 f2 f3 f4 f5 f6:Int) (body:ByteArray) (w:World) (hC:CfAt w sv pv av S P A) (hm:may S P A=true) (h3:0≤f3∧f3≤65535) (h4:0≤f4∧f4≤65535):
  Calls Tryz.prog 36 #[.agg #[sv,pv,av],.int .i64 ch,.agg #[.int .i64 gn,.int .i64 gu,.int .i64 f0,.int .i64 f1,.int .i64 f2,.int .i64 f3,.int .i64 f4,.int .i64 f5,.int .i64 f6,.string body]] w fun e w'=>e= .returned (.bool ((P.any (fun q=>q.i==gu)&&((pof P gu).c==ch&&(pof P gu).s==gn))&&(f2==2|| bN A gn false f3 f4 f6)))∧Below w.heap.size w w':=by
 have hpl:=(iN hm).2.1;have HPO:=aa (fun W hC=>iW sv pv av S P A gu W hC (by omega));have HAL:=aa (fun W hC=>mQ sv pv av S P A gn false f0 f1 f2 f3 f4 f5 f6 body W hC (aR hm).2.2 h3 h4);clear hm h3 h4;obtain⟨s1,s2,rfl⟩:=hC.1.slice;obtain⟨p1,p2,rfl⟩:=hC.2.1.slice;obtain⟨a1,a2,rfl⟩:=hC.2.2.slice;have HC:=aa hC;clear hC;generalize bN A gn false f3 f4 f6=R at*;generalize P.any (fun q=>q.i==gu)=T at*;generalize pof P gu=x at*;obtain⟨x0,x1,x2,x3,x4⟩:=x;simp only at HPO⊢;have kb:=Below.refl w.heap.size w;obtain⟨W0,hW0⟩:∃W0,W0=w.alloc (.cells #[.slice s1 S.length s2,.slice p1 P.length p2,.slice a1 A.length a2] 26):=⟨_,rfl⟩;have bW0:Below w.heap.size w W0:=by rw [hW0];exact(Below.refl _ _).alloc zr _
 have HB1:Hid (Box W0 w.heap.size [.slice s1 S.length s2,.slice p1 P.length p2,.slice a1 A.length a2]):=by rw [hW0];exact aa (Box.new w [.slice s1 S.length s2,.slice p1 P.length p2,.slice a1 A.length a2] 26)
 replace HC:=aa (HC.out.below bW0 zr);replace kb:=kb.trans (bW0.mono kb.size);have HW0:Hid (w.alloc (.cells #[.slice s1 S.length s2,.slice p1 P.length p2,.slice a1 A.length a2] 26)=W0):=hW0.symm;clear hW0 bW0;obtain⟨W1,hW1⟩:∃W1,W1=W0.alloc (.cells #[.int .i64 gn,.int .i64 gu,.int .i64 f0,.int .i64 f1,.int .i64 f2,.int .i64 f3,.int .i64 f4,.int .i64 f5,.int .i64 f6,.string body] 97):=⟨_,rfl⟩;have bW1:Below W0.heap.size W0 W1:=by rw [hW1];exact(Below.refl _ _).alloc zr _
 have HB2:Hid (Box W1 W0.heap.size [.int .i64 gn,.int .i64 gu,.int .i64 f0,.int .i64 f1,.int .i64 f2,.int .i64 f3,.int .i64 f4,.int .i64 f5,.int .i64 f6,.string body]):=by rw [hW1];exact aa (Box.new W0 [.int .i64 gn,.int .i64 gu,.int .i64 f0,.int .i64 f1,.int .i64 f2,.int .i64 f3,.int .i64 f4,.int .i64 f5,.int .i64 f6,.string body] 97)
 replace HB1:=aa (HB1.out.below bW1);replace HC:=aa (HC.out.below bW1 zr);replace kb:=kb.trans (bW1.mono kb.size);have HW1:Hid (W0.alloc (.cells #[.int .i64 gn,.int .i64 gu,.int .i64 f0,.int .i64 f1,.int .i64 f2,.int .i64 f3,.int .i64 f4,.int .i64 f5,.int .i64 f6,.string body] 97)=W1):=hW1.symm;clear hW1 bW1;go_enter Tryz.func36,Tryz.ntmps36;have gu1:=HB2.out.cell 1 _ rfl;go_wp2_with (first | rw [HW1.out] | rw [HW0.out] |(refine wpList_load_mid rfl 26 (.tmp 3) rfl w.heap.size 0 rfl _ _ HB1.out.range Tryz.underlying26 rfl dx ?_))
 clear HW1 HW0;clear gu1;refine(HPO.out _ HC.out).mono ?_;rintro e W2 ⟨rfl,hbW2⟩;clear HPO;replace HB1:=aa (HB1.out.below hbW2);replace HB2:=aa (HB2.out.below hbW2);replace HC:=aa (HC.out.below hbW2 zr);replace kb:=kb.trans (hbW2.mono kb.size);clear hbW2;obtain⟨W3,hW3⟩:∃W3,W3=W2.alloc (.cells #[.int .i64 x0,.int .i64 x1,.int .i64 x2,.int .i64 x3,.int .i64 x4] 51):=⟨_,rfl⟩;have bW3:Below W2.heap.size W2 W3:=by rw [hW3];exact(Below.refl _ _).alloc zr _
 have HB3:Hid (Box W3 W2.heap.size [.int .i64 x0,.int .i64 x1,.int .i64 x2,.int .i64 x3,.int .i64 x4]):=by rw [hW3];exact aa (Box.new W2 [.int .i64 x0,.int .i64 x1,.int .i64 x2,.int .i64 x3,.int .i64 x4] 51)
 replace HB1:=aa (HB1.out.below bW3);replace HB2:=aa (HB2.out.below bW3);replace HC:=aa (HC.out.below bW3 zr);replace kb:=kb.trans (bW3.mono kb.size);have HW3:Hid (W2.alloc (.cells #[.int .i64 x0,.int .i64 x1,.int .i64 x2,.int .i64 x3,.int .i64 x4] 51)=W3):=hW3.symm;clear hW3 bW3;have c1:=HB3.out.cell 1 _ rfl;have c4:=HB3.out.cell 4 _ rfl;have g0:=HB2.out.cell 0 _ rfl;have g4:=HB2.out.cell 4 _ rfl;have FR3:Hid (W3.rangeAt W0.heap.size 2 [.int .i64 f0,.int .i64 f1,.int .i64 f2,.int .i64 f3,.int .i64 f4,.int .i64 f5,.int .i64 f6,.string body]):=aa (fun j v hj=>by have:=HB2.out.range (j+2) v (by match j,hj with | 0,h=>exact h | 1,h=>exact h | 2,h=>exact h | 3,h=>exact h | 4,h=>exact h | 5,h=>exact h | 6,h=>exact h | 7,h=>exact h);rwa [Nat.zero_add,Nat.add_comm]at this);have b0:=HB1.out.cell 0 _ rfl;have b1:=HB1.out.cell 1 _ rfl;have b2:=HB1.out.cell 2 _ rfl;have k0:=HB2.out.cell 2 _ rfl;have k1:=HB2.out.cell 3 _ rfl;have k3:=HB2.out.cell 5 _ rfl;have k4:=HB2.out.cell 6 _ rfl;have k5:=HB2.out.cell 7 _ rfl;have k6:=HB2.out.cell 8 _ rfl;have k7:=HB2.out.cell 9 _ rfl;have hc:T=false∨T=true∧((x4 != ch)=true∨(x4 != ch)=false∧((x1 != gn)=true∨(x1 != gn)=false∧((f2==2)=true∨(f2==2)=false))):=by cases T <;>cases (x4 != ch) <;>cases (x1 != gn) <;>cases (f2==2) <;>simp
 rcases hc with rfl |⟨rfl,h1 |⟨h1,h2 |⟨h2,h3 | h3⟩⟩⟩
 ·go_wp2_with (rw [HW3.out])
  go_ret;exact⟨aq (by simp),kb⟩
 ·go_wp2_with (rw [HW3.out])
  go_ret;exact⟨aq (by rw [show(x4==ch)=false from by simpa [bne] using h1];simp),kb⟩
 ·go_wp2_with (rw [HW3.out])
  go_ret;exact⟨aq (by rw [show(x1==gn)=false from by simpa [bne] using h2];simp),kb⟩
 ·go_wp2_with (rw [HW3.out])
  go_ret;exact⟨aq (by rw [show(x4==ch)=true from by simpa [bne] using h1,show(x1==gn)=true from by simpa [bne] using h2,h3];simp),kb⟩
 ·go_wp2_with (rw [HW3.out])
  refine(HAL.out _ HC.out).mono ?_;rintro e W4 ⟨rfl,hb⟩;go_wp2_with fail
  go_ret;exact⟨aq (by rw [show(x4==ch)=true from by simpa [bne] using h1,show(x1==gn)=true from by simpa [bne] using h2,h3];simp),kb.trans (hb.mono kb.size)⟩
theorem AU:(Tryz.prog.info? 97).map (fun i=>(i.zero,i.size,i.bytes))=some (some (.agg #[.int .i64 0,.int .i64 0,.int .i64 0,.int .i64 0,.int .i64 0,.int .i64 0,.int .i64 0,.int .i64 0,.int .i64 0,.string ByteArray.empty]),10,88):=by kernel_rfl
def glC (body:ByteArray) (g:Gl):List Value:=[.int .i64 g.n,.int .i64 g.u,.int .i64 (g.f.getD 0 0),.int .i64 (g.f.getD 1 0),.int .i64 (g.f.getD 2 0),.int .i64 (g.f.getD 3 0),.int .i64 (g.f.getD 4 0),.int .i64 (g.f.getD 5 0),.int .i64 (g.f.getD 6 0),.string body]
theorem Box.put {w:World} {b:Nat} {cs:List Value} (h:Box w b cs) (i:Nat) (v:Value):Box (w.setCell ⟨b,i,none⟩ v) b (cs.set i v):=
 ⟨⟨by have:=h.lt;simpa using this,fun j u hj=>by
  rw [Nat.zero_add];by_cases e:i=j
  ·subst e;have hl:i<cs.length:=by
    have:=(List.getElem?_eq_some_iff.1 hj).1;simpa using this
   rw [List.getElem?_set_self hl]at hj;cases hj;exact World.cell?_setCell_same _ _ _ (h.cell i _ (List.getElem?_eq_getElem hl))
  ·rw [List.getElem?_set_ne e]at hj;rw [World.cell?_setCell_other _ _ _ _ (by intro h;simp only [Addr.mk.injEq]at h;exact e h.2.1)];exact h.cell j u hj⟩,fun j hj=>by
  rw [List.length_set]at hj;have:=h.2 j hj;simpa using this⟩
theorem tX {α:Type} {p:α→Bool} (d:α):∀{l:List α} {k:Nat},k<l.length→(∀j,j<k→p (l.getD j d)=false)→p (l.getD k d)=true→l.find? p=some (l.getD k d)
 | [],k,hk,_,_=>by simp at hk
 | x::r,0,_,_,h=>by rw [List.find?_cons_of_pos (by simpa using h)];rfl
 | x::r,k+1,hk,h0,h=>by
  have hx:p x=false:=h0 0 (by omega);rw [List.find?_cons_of_neg (by simp [hx])];exact tX d (l:=r) (k:=k) (by simpa using hk) (fun j hj=>h0 (j+1) (by omega)) h
theorem xA {α:Type} {p:α→Bool} (d:α) {l:List α} (h:∀j,j<l.length→p (l.getD j d)=false):l.find? p=none:=by
 rw [List.find?_eq_none];intro x hx;obtain⟨j,hj,rfl⟩:=List.getElem_of_mem hx;have:=h j hj;rw [List.getD_eq_getElem?_getD,List.getElem?_eq_getElem hj]at this;simpa using this
theorem vi {body:ByteArray} (h:body.size=0):body=⟨#[]⟩:=by
 obtain⟨a⟩:=body;have:a.size=0:=h;rw [Array.eq_empty_of_size_eq_zero this]
def g1 (Y:Sw) (d s a b t o:Int) (q:Pr):Gl:=⟨Y.i,q.i,q.c,[d,s,3,a,b,t,o]⟩
def g2 (Z:Sw) (a b t o:Int) (q:Pr):Gl:=⟨Z.i,q.i,q.c,[q.m,60000+Z.i,3,a,b,t-1,o]⟩
theorem wQ {S:List Sw} {Y:Sw} {id d s a b t o:Int} {q:Pr} (h:q.c<0):jU S Y id d s a b t o q= []:=by unfold jU;rw [if_pos h]
theorem yq {S:List Sw} {Y:Sw} {id d s a b t o:Int} {q:Pr} (h:¬q.c<0):jU S Y id d s a b t o q=(if dBr Y id d q=true then [g1 Y d s a b t o q]else [])++(if dRt S Y d b t q=true then [g2 (sof S q.s) a b t o q]else []):=by unfold jU;rw [if_neg h];rfl
theorem vm {S:List Sw} {P:List Pr} {Y:Sw} {id d s a b t o:Int} {k:Nat} (h:k<P.length):(P.take (k+1)).flatMap (jU S Y id d s a b t o)=(P.take k).flatMap (jU S Y id d s a b t o)++jU S Y id d s a b t o (P.getD k pr0):=by
 rw [eq pr0 h,List.flatMap_append];simp
theorem yP {S:List Sw} {Y:Sw} {id d s a b t o:Int} (q:Pr):(jU S Y id d s a b t o q).length≤2:=by
 unfold jU;split
 ·simp
 ·rw [List.length_append];split <;>split <;>simp
theorem mZ {S:List Sw} {Y:Sw} {id d s a b t o:Int}:∀P:List Pr,(P.flatMap (jU S Y id d s a b t o)).length≤2*P.length
 | []=>Nat.le_refl _
 | x::r=>by
  have h1:=mZ (S:=S) (Y:=Y) (id:=id) (d:=d) (s:=s) (a:=a) (b:=b) (t:=t) (o:=o) r;have h2:=yP (S:=S) (Y:=Y) (id:=id) (d:=d) (s:=s) (a:=a) (b:=b) (t:=t) (o:=o) x;rw [List.flatMap_cons,List.length_append,List.length_cons];omega
theorem lR (body:ByteArray) (GL:List Gl) (g:Gl):(GL++ [g]).length=GL.length+1∧(GL++ [g]).flatMap (glC body)=GL.flatMap (glC body)++glC body g:=by simp
end Go.Proofs.YtjiajblbpokfgaaGreat
