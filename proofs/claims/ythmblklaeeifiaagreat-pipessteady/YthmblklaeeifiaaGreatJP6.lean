/- Texts joined: Ca, Cm, Mf, Mb, Qh, Fd, Qm, Qn, Ym, Fk, Fk2, Ef, Cia, Cap, Cd, Cy, Ch, Ch2, Cap2. -/
import Derived.Laws.StructEq
import Derived.Deep.RegionLaw
import Derived.Deep.RegionHeld3
import Derived.Lib.SliceRun
import Derived.Sort.WalkB12
import Derived.Laws.AppendOwnNone
import Derived.Deep.QuietTactic
import Derived.BigQuiet
import Derived.Deep.AppendLies
import Derived.Maps.AppendAt
import Derived.Deep.MidRow
import Derived.Test.YthmblklaeeifiaaGreatJP5
namespace Go.Proofs.YthmblklaeeifiaaGreat
open Go.RowKit
set_option linter.unusedVariables false
set_option maxRecDepth 100000
set_option maxHeartbeats 16000000
def cG (n b:Int):Bool:=n%(65536/2 ^ b.toNat)==0
theorem oC (a b:Nat) (ha:a≤65535) (hb:b≤65535):bits .and .i64 (a:Int) (b:Int)=((a&&& b:Nat):Int):=by
 have e:∀c:Nat,c≤65535→(BitVec.ofInt 64 (c:Int)).toNat=c:=fun c hc=>by simp;omega
 show IntKind.i64.wrap ((BitVec.ofInt 64 (a:Int)&&& BitVec.ofInt 64 (b:Int)).toNat:Int)=_;rw [BitVec.toNat_and,e a ha,e b hb];have:a&&& b≤a:=Nat.and_le_left;generalize a&&& b=n at*;simp [IntKind.wrap,IntKind.bits,IntKind.signed];split <;>omega
theorem fI (n b:Int) (w:World) (hn:inB n 0 65535=true) (hb:inB b 0 16=true):
  Calls Tryz.prog 129 #[.int .i64 n,.int .i64 b] w fun e w'=>e= .returned (.bool (cG n b))∧w'=w:=by
 simp [inB]at hn hb;obtain⟨m,rfl⟩:=Int.eq_ofNat_of_zero_le hn.1;obtain⟨c,rfl⟩:=Int.eq_ofNat_of_zero_le hb.1;have hc:c=0∨c=1∨c=2∨c=3∨c=4∨c=5∨c=6∨c=7∨c=8∨c=9∨c=10∨c=11∨c=12∨c=13∨c=14∨c=15∨c=16:=by omega
 go_enter Tryz.func129,Tryz.ntmps129;go_wp2;go_ret;refine⟨aC ?_,rfl⟩;have key:∀n,n≤16→(bits .and .i64 (m:Int) ((2 ^ n-1:Nat):Int)==0)=((m:Int)%((2 ^ n:Nat):Int)==0):=fun n hn16=>by
  have h2:2 ^ n≤2 ^ 16:=Nat.pow_le_pow_right (by omega) hn16;rw [oC m _ (by omega) (by omega),Nat.and_two_pow_sub_one_eq_mod, ←Int.natCast_emod]
 unfold cG;rcases hc with rfl | rfl | rfl | rfl | rfl | rfl | rfl | rfl | rfl | rfl | rfl | rfl | rfl | rfl | rfl | rfl | rfl
 ·exact key 16 (by omega)
 ·exact key 15 (by omega)
 ·exact key 14 (by omega)
 ·exact key 13 (by omega)
 ·exact key 12 (by omega)
 ·exact key 11 (by omega)
 ·exact key 10 (by omega)
 ·exact key 9 (by omega)
 ·exact key 8 (by omega)
 ·exact key 7 (by omega)
 ·exact key 6 (by omega)
 ·exact key 5 (by omega)
 ·exact key 4 (by omega)
 ·exact key 3 (by omega)
 ·exact key 2 (by omega)
 ·exact key 1 (by omega)
 ·exact key 0 (by omega)
def bk (S:List Sw) (A:List Ac) (x:Ac):Int:=
 if dP x=false then 2 else if(cG x.src x.sb&&cG x.dst x.db)=false then 4 else if S.any (fun s=>s.i==x.s)=false then 6 else if 40≤A.length then 1 else 0
theorem gn (sv pv av:Value) (S:List Sw) (P:List Pr) (A:List Ac) (x:Ac) (w:World) (hC:CfAt w sv pv av S P A) (h1:S.length*24≤140737488355328):
  Calls Tryz.prog 84 #[.agg #[sv,pv,av],.agg #[.int .i64 x.s,.int .i64 x.p,.bool x.n,.int .i64 x.src,.int .i64 x.sb,.int .i64 x.dst,.int .i64 x.db,.int .i64 x.o,.bool x.d]] w fun e w'=>e= .returned (.int .i64 (bk S A x))∧Below w.heap.size w w':=by
 obtain⟨xs,xp,xn,xf,xb,xd,xe,xo,xy⟩:=x;have HB:=aa (fun W=>iy xs xp xn xf xb xd xe xo xy W);have HI:Hid (∀(W:World) (b:Nat),Below w.heap.size w W→W.cell? ⟨b,0,none⟩=some (.int .i64 xs)→Calls Tryz.prog 121 #[.agg #[sv,pv,av],.func (.func 149) #[] #[.pointer (some ⟨b,0,none⟩)]] W fun e w'=>e= .returned (.bool (S.any (fun s=>s.i==xs)))∧Below W.heap.size W w'):=
  fun W b hW a=>eW sv pv av S _ _ W (RowAt.below hC.1 hW zr) (cj hC.2.1) (cj hC.2.2) (nF a) h1
 have HR:Hid (bk S A ⟨xs,xp,xn,xf,xb,xd,xe,xo,xy⟩=if dP ⟨xs,xp,xn,xf,xb,xd,xe,xo,xy⟩=false then 2 else if(cG xf xb&&cG xd xe)=false then 4 else if S.any (fun s=>s.i==xs)=false then 6 else if 40≤A.length then 1 else 0):=rfl;have HQ:Hid (dP ⟨xs,xp,xn,xf,xb,xd,xe,xo,xy⟩=true→inB xf 0 65535=true∧inB xb 0 16=true∧inB xd 0 65535=true∧inB xe 0 16=true):=fun h=>by
  unfold dP at h;simp only [Bool.and_eq_true]at h;exact⟨h.1.1.1.1.2,h.1.1.2,h.1.1.1.2,h.1.2⟩
 generalize bk S A ⟨xs,xp,xn,xf,xb,xd,xe,xo,xy⟩=R at*;generalize S.any (fun s=>s.i==xs)=R1 at*;generalize dP ⟨xs,xp,xn,xf,xb,xd,xe,xo,xy⟩=R0 at*;obtain⟨s1,s2,rfl⟩:=hC.1.slice;obtain⟨p1,p2,rfl⟩:=hC.2.1.slice;obtain⟨a1,a2,rfl⟩:=hC.2.2.slice;clear hC;simp only;go_enter Tryz.func84,Tryz.ntmps84;go_wp2_with fail
 obtain⟨W0,hW0⟩:∃W0,W0=(w.alloc (.cells #[.slice s1 S.length s2,.slice p1 P.length p2,.slice a1 A.length a2] 29)).alloc (.cells #[.int .i64 xs,.int .i64 xp,.bool xn,.int .i64 xf,.int .i64 xb,.int .i64 xd,.int .i64 xe,.int .i64 xo,.bool xy] 58):=⟨_,rfl⟩;have hb0:Below w.heap.size w W0:=by rw [hW0];exact((Below.refl _ _).alloc zr _).alloc (by simp) _
 have d0:W0.cell? ⟨w.heap.size,0,none⟩=some (.slice s1 S.length s2):=by rw [hW0];exact aq (aj w _ rfl _ _ _ _ rfl) _
 have d1:W0.cell? ⟨w.heap.size,1,none⟩=some (.slice p1 P.length p2):=by rw [hW0];exact aq (aj w _ rfl _ _ _ _ rfl) _
 have d2:W0.cell? ⟨w.heap.size,2,none⟩=some (.slice a1 A.length a2):=by rw [hW0];exact aq (aj w _ rfl _ _ _ _ rfl) _
 have d3:W0.cell? ⟨w.heap.size+1,0,none⟩=some (.int .i64 xs):=by rw [hW0];exact aj _ _ (by simp) _ _ _ _ rfl
 have d4:W0.cell? ⟨w.heap.size+1,1,none⟩=some (.int .i64 xp):=by rw [hW0];exact aj _ _ (by simp) _ _ _ _ rfl
 have d5:W0.cell? ⟨w.heap.size+1,2,none⟩=some (.bool xn):=by rw [hW0];exact aj _ _ (by simp) _ _ _ _ rfl
 have d6:W0.cell? ⟨w.heap.size+1,3,none⟩=some (.int .i64 xf):=by rw [hW0];exact aj _ _ (by simp) _ _ _ _ rfl
 have d7:W0.cell? ⟨w.heap.size+1,4,none⟩=some (.int .i64 xb):=by rw [hW0];exact aj _ _ (by simp) _ _ _ _ rfl
 have d8:W0.cell? ⟨w.heap.size+1,5,none⟩=some (.int .i64 xd):=by rw [hW0];exact aj _ _ (by simp) _ _ _ _ rfl
 have d9:W0.cell? ⟨w.heap.size+1,6,none⟩=some (.int .i64 xe):=by rw [hW0];exact aj _ _ (by simp) _ _ _ _ rfl
 have d10:W0.cell? ⟨w.heap.size+1,7,none⟩=some (.int .i64 xo):=by rw [hW0];exact aj _ _ (by simp) _ _ _ _ rfl
 have d11:W0.cell? ⟨w.heap.size+1,8,none⟩=some (.bool xy):=by rw [hW0];exact aj _ _ (by simp) _ _ _ _ rfl
 rw [←hW0];clear hW0;refine(ae HB _).mono ?_;rintro e W1 ⟨rfl,hB1⟩;have q0:=zC d0 hB1;have q1:=zC d1 hB1;have q2:=zC d2 hB1;have q3:=zC d3 hB1;have q4:=zC d4 hB1;have q5:=zC d5 hB1;have q6:=zC d6 hB1;have q7:=zC d7 hB1;have q8:=zC d8 hB1;have q9:=zC d9 hB1;have q10:=zC d10 hB1;have q11:=zC d11 hB1;have hb1:=hb0.trans (hB1.mono hb0.size);clear HB hB1 hb0 d0 d1 d2 d3 d4 d5 d6 d7 d8 d9 d10 d11;cases R0
 ·clear HI HQ;go_wp2_with fail
  go_ret;exact⟨ap (by rw [HR.out];simp),hb1⟩
 ·obtain⟨g1,g2,g3,g4⟩:=HQ.out rfl;have HH:=aa (fun W=>fI xf xb W g1 g2);have HJ:=aa (fun W=>fI xd xe W g3 g4);clear HQ g1 g2 g3 g4;generalize cG xf xb=B1 at*;generalize cG xd xe=B2 at*;go_wp2_with fail
  refine(ae HH _).mono ?_;rintro e w' ⟨rfl,rfl⟩;cases B1
  ·clear HI HJ HH;go_wp2_with fail
   go_ret;exact⟨ap (by rw [HR.out];simp),hb1⟩
  ·go_wp2_with fail
   refine(ae HJ _).mono ?_;rintro e w' ⟨rfl,rfl⟩;cases B2
   ·clear HI HJ HH;go_wp2_with fail
    go_ret;exact⟨ap (by rw [HR.out];simp),hb1⟩
   ·clear HH HJ q4 q5 q6 q7 q8 q9 q10 q11
    rename World=>W1
    go_wp2_with fail
    go_region_held3 (fun w'=>w'.cell? ⟨w.heap.size,0,none⟩=some (.slice s1 S.length s2)∧w'.cell? ⟨w.heap.size,1,none⟩=some (.slice p1 P.length p2)∧w'.cell? ⟨w.heap.size,2,none⟩=some (.slice a1 A.length a2)∧w'.cell? ⟨w.heap.size+1,0,none⟩=some (.int .i64 xs)) (go_keep)
     (first |(go_at_call 122;refine(dd _ _).mono ?_;rintro e w1 ⟨bi,rfl,hbi,hc1⟩;have g1:Below W1.heap.size W1 w1:=((Below.refl _ W1).drew).trans hc1;have k1:Below w.heap.size w w1:=hb1.trans (g1.mono hb1.size);have y0:=zC q0 g1;have y1:=zC q1 g1;have y2:=zC q2 g1;have y3:=zC q3 g1) |(go_at_call 121;refine(ae HI _ _ k1 hbi).mono ?_;rintro e w2 ⟨rfl,hc2⟩;have g2:Below W1.heap.size W1 w2:=g1.trans (hc2.mono g1.size);have k2:Below w.heap.size w w2:=hb1.trans (g2.mono hb1.size);have z0:=zC q0 g2;have z1:=zC q1 g2;have z2:=zC q2 g2;have z3:=zC q3 g2))
    clear HI q0 q1 q2 q3 y0 y1 y2 y3 hb1 hbi hc1 hc2 g1 g2 k1;cases R1
    ·go_wp2_with fail
     go_ret;exact⟨ap (by rw [HR.out];simp),k2⟩
    ·by_cases h40:40≤A.length
     ·have h40i:(40:Int)≤(A.length:Int):=(by omega);go_wp2_with fail
      go_ret;exact⟨ap (by rw [HR.out];simp [h40]),k2⟩
     ·have h40i:(A.length:Int)<40:=(by omega);go_wp2_with fail
      go_ret;exact⟨ap (by rw [HR.out];simp [h40]),k2⟩
def cI (S:List Sw):Bool:=(List.range S.length).all fun k=>aT (S.take k) [] (S.getD k sw0)==0
def bD (S:List Sw) (P:List Pr):Bool:=(List.range P.length).all fun k=>ba S (P.take k) (P.getD k pr0)==0
def bV (S:List Sw) (A:List Ac):Bool:=(List.range A.length).all fun k=>bk S (A.take k) (A.getD k ac0)==0
theorem ie {n:Nat} {f:Nat→Bool} (h:∀j,j<n→f j=true):(List.range n).all f=true:=by
 rw [List.all_eq_true];intro x hx;exact h x (List.mem_range.1 hx)
theorem jx {n:Nat} {f:Nat→Bool} {k:Nat} (hk:k<n) (h:f k=false):(List.range n).all f=false:=by
 rw [List.all_eq_false];exact⟨k,List.mem_range.2 hk,by simp [h]⟩
theorem jS {α:Type} {l:List α} (k c:Nat) (h:l.length*c≤140737488355328):(l.take k).length*c≤140737488355328:=Nat.le_trans (Nat.mul_le_mul_right _ (by rw [List.length_take];exact Nat.min_le_right _ _)) h
theorem gh (sv pv av:Value) (S:List Sw) (P:List Pr) (A:List Ac) (w:World) (hC:CfAt w sv pv av S P A) (h1:S.length*24≤140737488355328):
  Calls Tryz.prog 41 #[.agg #[sv,pv,av]] w fun e w'=>e= .returned (.bool (cI S))∧Below w.heap.size w w':=by
 have HC:=aa hC;have HY:Hid ((∀j,j<S.length→(aT (S.take j) [] (S.getD j sw0)==0)=true)→cI S=true):=fun h=>ie h;have HNO:Hid (∀k,k<S.length→(aT (S.take k) [] (S.getD k sw0)==0)=false→cI S=false):=fun k hk h=>jx hk h;generalize cI S=R at*;obtain⟨s1,s2,rfl⟩:=hC.1.slice;obtain⟨p1,p2,rfl⟩:=hC.2.1.slice;obtain⟨a1,a2,rfl⟩:=hC.2.2.slice;clear hC;go_enter Tryz.func41,Tryz.ntmps41;go_wp2_with fail
 obtain⟨W0,hW0⟩:∃W0,W0=w.alloc (.cells #[.slice s1 S.length s2,.slice p1 P.length p2,.slice a1 A.length a2] 29):=⟨_,rfl⟩;have hb0:Below w.heap.size w W0:=by rw [hW0];exact(Below.refl _ _).alloc zr _
 have d0:W0.cell? ⟨w.heap.size,0,none⟩=some (.slice s1 S.length s2):=zN1 hW0 rfl;have d1:W0.cell? ⟨w.heap.size,1,none⟩=some (.slice p1 P.length p2):=zN1 hW0 rfl;have d2:W0.cell? ⟨w.heap.size,2,none⟩=some (.slice a1 A.length a2):=zN1 hW0 rfl;have hz0:w.heap.size<W0.heap.size:=am d0;rw [←hW0];clear hW0;go_loopw [8] (fun i wr=>∃k:Nat,k≤S.length∧i= .int .i64 k∧Hid (∀j,j<k→(aT (S.take j) [] (S.getD j sw0)==0)=true)∧Below W0.heap.size W0 wr) (fun i _=>S.length-(intOf i).toNat)
 case atStart=>exact⟨0,by omega,rfl,aa (fun j h=>absurd h (by omega)),Below.refl _ _⟩
 case round=>
  obtain⟨k,hk,rfl,HALL,hbr⟩:=hrel;have hbw:=hb0.trans (hbr.mono hb0.size);have q0:=zC d0 hbr;have q1:=zC d1 hbr;have q2:=zC d2 hbr;by_cases hlt:k<S.length
  ·obtain⟨b,off,cap',e1,hcap,hb,g0,g1,g2⟩:=iu (RowAt.below HC.out.1 hbw zr) hlt;have HK:Hid (∀W:World,Below w.heap.size w W→Calls Tryz.prog 82 #[.agg #[.slice s1 k s2,.slice none 0 0,.slice none 0 0],.agg #[.int .i64 (S.getD k sw0).i,.int .i64 (S.getD k sw0).t,.int .i64 (S.getD k sw0).g]] W fun e w'=>e= .returned (.int .i64 (aT (S.take k) [] (S.getD k sw0)))∧Below W.heap.size W w'):=fun W hW=>eY _ _ _ (S.take k) [] [] (S.getD k sw0) W ⟨RowAt.take (RowAt.below HC.out.1 hW zr) k hlt,RowAt.nil _ _ _,RowAt.nil _ _ _⟩ (jS k 24 h1) (by simp);simp only [Value.slice.injEq,true_and]at e1;obtain⟨rfl,rfl⟩:=e1;have HN1:=aa (HNO.out k hlt);have HNX:Hid ((aT (S.take k) [] (S.getD k sw0)==0)=true→∀j,j<k+1→(aT (S.take j) [] (S.getD j sw0)==0)=true):=fun h j hj=>by
    by_cases e:j=k
    ·subst e;exact h
    ·exact HALL.out j (by omega)
   have HRS:=aa hlt;clear HALL d0 d1 d2;generalize aT (S.take k) [] (S.getD k sw0)=G at HK HN1 HNX;generalize (S.getD k sw0).i=x0 at*;generalize (S.getD k sw0).t=x1 at*;generalize (S.getD k sw0).g=x2 at*;have q3:(0:Int)≤(k:Int):=(by omega);have q4:(k:Int)<(S.length:Int):=(by omega);have q5:(k:Int)≤(s2:Int):=(by omega);go_wp2_with fail
   obtain⟨W1,hW1⟩:∃W1,W1=wr.alloc (.cells #[.int .i64 x0,.int .i64 x1,.int .i64 x2] 54):=⟨_,rfl⟩;obtain⟨B,hB⟩:∃B,B=wr.heap.size:=⟨_,rfl⟩;have hb1:Below wr.heap.size wr W1:=by rw [hW1];exact(Below.refl _ _).alloc zr _
   have y0:W1.cell? ⟨B,0,none⟩=some (.int .i64 x0):=zN2 hW1 hB rfl;have y1:W1.cell? ⟨B,1,none⟩=some (.int .i64 x1):=zN2 hW1 hB rfl;have y2:W1.cell? ⟨B,2,none⟩=some (.int .i64 x2):=zN2 hW1 hB rfl;have r0:=zC q0 hb1;have r1:=zC q1 hb1;have r2:=zC q2 hb1;have hk1:Below w.heap.size w W1:=hbw.trans (hb1.mono hbw.size);have hr1:Below W0.heap.size W0 W1:=hbr.trans (hb1.mono hbr.size);rw [←hW1, ←hB];clear hW1 hB hb1 q0 q1 q2 hbw hbr g0 g1 g2;go_region_held3 (fun w'=>w'.cell? ⟨w.heap.size,0,none⟩=some (.slice (some ⟨b,off,none⟩) S.length s2)∧w'.cell? ⟨w.heap.size,1,none⟩=some (.slice p1 P.length p2)∧w'.cell? ⟨w.heap.size,2,none⟩=some (.slice a1 A.length a2)∧w'.cell? ⟨B,0,none⟩=some (.int .i64 x0)∧w'.cell? ⟨B,1,none⟩=some (.int .i64 x1)∧w'.cell? ⟨B,2,none⟩=some (.int .i64 x2)) (go_keep)
    (first |(go_at_call 82;refine(ae HK _ hk1.drew).mono ?_;rintro e w2 ⟨rfl,hc2⟩;have g2:Below W1.heap.size W1 w2:=((Below.refl _ W1).drew).trans hc2;have v0:=zC r0 g2;have v1:=zC r1 g2;have v2:=zC r2 g2;have u0:=zC y0 g2;have u1:=zC y1 g2;have u2:=zC y2 g2))
   have HB2:Hid (Below W0.heap.size W0 w2):=hr1.trans (g2.mono hr1.size);clear hr1 hk1 g2 hc2 r0 r1 r2 v0 v1 v2 HK y0 u0 y1 u1 y2 u2;by_cases hG:G=0
   ·subst hG;have HN:=aa (HNX.out rfl);clear HNX HN1;go_wp2_with fail
    go_roundw
    case rel=>exact⟨k+1,by omega,by go_num,HN,HB2.out⟩
    case measure=>simp [intOf];omega
   ·have HN:=aa (HN1.out (by simpa using hG));clear HNX HN1;go_wp2_with fail
    go_ret;exact⟨aC HN.out.symm,hb0.trans (HB2.out.mono hb0.size)⟩
  ·have HN:=aa (HY.out fun j hj=>HALL.out j (by omega));clear HALL q0 q1 q2 d0 d1 d2;go_wp2_with fail
   go_ret;exact⟨aC HN.out.symm,hbw⟩
theorem iT (sv pv av:Value) (S:List Sw) (P:List Pr) (A:List Ac) (w:World) (hC:CfAt w sv pv av S P A) (h1:S.length*24≤140737488355328) (h2:P.length*40≤140737488355328):
  Calls Tryz.prog 42 #[.agg #[sv,pv,av]] w fun e w'=>e= .returned (.bool (bD S P))∧Below w.heap.size w w':=by
 have HC:=aa hC;have HY:Hid ((∀j,j<P.length→(ba S (P.take j) (P.getD j pr0)==0)=true)→bD S P=true):=fun h=>ie h;have HNO:Hid (∀k,k<P.length→(ba S (P.take k) (P.getD k pr0)==0)=false→bD S P=false):=fun k hk h=>jx hk h;generalize bD S P=R at*;obtain⟨s1,s2,rfl⟩:=hC.1.slice;obtain⟨p1,p2,rfl⟩:=hC.2.1.slice;obtain⟨a1,a2,rfl⟩:=hC.2.2.slice;clear hC;go_enter Tryz.func42,Tryz.ntmps42;go_wp2_with fail
 obtain⟨W0,hW0⟩:∃W0,W0=w.alloc (.cells #[.slice s1 S.length s2,.slice p1 P.length p2,.slice a1 A.length a2] 29):=⟨_,rfl⟩;have hb0:Below w.heap.size w W0:=by rw [hW0];exact(Below.refl _ _).alloc zr _
 have d0:W0.cell? ⟨w.heap.size,0,none⟩=some (.slice s1 S.length s2):=zN1 hW0 rfl;have d1:W0.cell? ⟨w.heap.size,1,none⟩=some (.slice p1 P.length p2):=zN1 hW0 rfl;have d2:W0.cell? ⟨w.heap.size,2,none⟩=some (.slice a1 A.length a2):=zN1 hW0 rfl;have hz0:w.heap.size<W0.heap.size:=am d0;rw [←hW0];clear hW0;go_loopw [8] (fun i wr=>∃k:Nat,k≤P.length∧i= .int .i64 k∧Hid (∀j,j<k→(ba S (P.take j) (P.getD j pr0)==0)=true)∧Below W0.heap.size W0 wr) (fun i _=>P.length-(intOf i).toNat)
 case atStart=>exact⟨0,by omega,rfl,aa (fun j h=>absurd h (by omega)),Below.refl _ _⟩
 case round=>
  obtain⟨k,hk,rfl,HALL,hbr⟩:=hrel;have hbw:=hb0.trans (hbr.mono hb0.size);have q0:=zC d0 hbr;have q1:=zC d1 hbr;have q2:=zC d2 hbr;by_cases hlt:k<P.length
  ·obtain⟨b,off,cap',e1,hcap,hb,g0,g1,g2,g3,g4⟩:=eZ (RowAt.below HC.out.2.1 hbw zr) hlt;have HK:Hid (∀W:World,Below w.heap.size w W→Calls Tryz.prog 83 #[.agg #[.slice s1 S.length s2,.slice p1 k p2,.slice none 0 0],.agg #[.int .i64 (P.getD k pr0).i,.int .i64 (P.getD k pr0).s,.int .i64 (P.getD k pr0).m,.int .i64 (P.getD k pr0).p,.int .i64 (P.getD k pr0).c]] W fun e w'=>e= .returned (.int .i64 (ba S (P.take k) (P.getD k pr0)))∧Below W.heap.size W w'):=fun W hW=>fF _ _ _ S (P.take k) [] (P.getD k pr0) W ⟨RowAt.below HC.out.1 hW zr,RowAt.take (RowAt.below HC.out.2.1 hW zr) k hlt,RowAt.nil _ _ _⟩ h1 (jS k 40 h2);simp only [Value.slice.injEq,true_and]at e1;obtain⟨rfl,rfl⟩:=e1;have HN1:=aa (HNO.out k hlt);have HNX:Hid ((ba S (P.take k) (P.getD k pr0)==0)=true→∀j,j<k+1→(ba S (P.take j) (P.getD j pr0)==0)=true):=fun h j hj=>by
    by_cases e:j=k
    ·subst e;exact h
    ·exact HALL.out j (by omega)
   have HRS:=aa hlt;clear HALL d0 d1 d2;generalize ba S (P.take k) (P.getD k pr0)=G at HK HN1 HNX;generalize (P.getD k pr0).i=x0 at*;generalize (P.getD k pr0).s=x1 at*;generalize (P.getD k pr0).m=x2 at*;generalize (P.getD k pr0).p=x3 at*;generalize (P.getD k pr0).c=x4 at*;have q3:(0:Int)≤(k:Int):=(by omega);have q4:(k:Int)<(P.length:Int):=(by omega);have q5:(k:Int)≤(p2:Int):=(by omega);go_wp2_with fail
   obtain⟨W1,hW1⟩:∃W1,W1=wr.alloc (.cells #[.int .i64 x0,.int .i64 x1,.int .i64 x2,.int .i64 x3,.int .i64 x4] 56):=⟨_,rfl⟩;obtain⟨B,hB⟩:∃B,B=wr.heap.size:=⟨_,rfl⟩;have hb1:Below wr.heap.size wr W1:=by rw [hW1];exact(Below.refl _ _).alloc zr _
   have y0:W1.cell? ⟨B,0,none⟩=some (.int .i64 x0):=zN2 hW1 hB rfl;have y1:W1.cell? ⟨B,1,none⟩=some (.int .i64 x1):=zN2 hW1 hB rfl;have y2:W1.cell? ⟨B,2,none⟩=some (.int .i64 x2):=zN2 hW1 hB rfl;have y3:W1.cell? ⟨B,3,none⟩=some (.int .i64 x3):=zN2 hW1 hB rfl;have y4:W1.cell? ⟨B,4,none⟩=some (.int .i64 x4):=zN2 hW1 hB rfl;have r0:=zC q0 hb1;have r1:=zC q1 hb1;have r2:=zC q2 hb1;have hk1:Below w.heap.size w W1:=hbw.trans (hb1.mono hbw.size);have hr1:Below W0.heap.size W0 W1:=hbr.trans (hb1.mono hbr.size);rw [←hW1, ←hB];clear hW1 hB hb1 q0 q1 q2 hbw hbr g0 g1 g2 g3 g4;go_region_held3 (fun w'=>w'.cell? ⟨w.heap.size,0,none⟩=some (.slice s1 S.length s2)∧w'.cell? ⟨w.heap.size,1,none⟩=some (.slice (some ⟨b,off,none⟩) P.length p2)∧w'.cell? ⟨w.heap.size,2,none⟩=some (.slice a1 A.length a2)∧w'.cell? ⟨B,0,none⟩=some (.int .i64 x0)∧w'.cell? ⟨B,1,none⟩=some (.int .i64 x1)∧w'.cell? ⟨B,2,none⟩=some (.int .i64 x2)∧w'.cell? ⟨B,3,none⟩=some (.int .i64 x3)∧w'.cell? ⟨B,4,none⟩=some (.int .i64 x4)) (go_keep)
    (first |(go_at_call 83;refine(ae HK _ hk1.drew).mono ?_;rintro e w2 ⟨rfl,hc2⟩;have g2:Below W1.heap.size W1 w2:=((Below.refl _ W1).drew).trans hc2;have v0:=zC r0 g2;have v1:=zC r1 g2;have v2:=zC r2 g2;have u0:=zC y0 g2;have u1:=zC y1 g2;have u2:=zC y2 g2;have u3:=zC y3 g2;have u4:=zC y4 g2))
   have HB2:Hid (Below W0.heap.size W0 w2):=hr1.trans (g2.mono hr1.size);clear hr1 hk1 g2 hc2 r0 r1 r2 v0 v1 v2 HK y0 u0 y1 u1 y2 u2 y3 u3 y4 u4;by_cases hG:G=0
   ·subst hG;have HN:=aa (HNX.out rfl);clear HNX HN1;go_wp2_with fail
    go_roundw
    case rel=>exact⟨k+1,by omega,by go_num,HN,HB2.out⟩
    case measure=>simp [intOf];omega
   ·have HN:=aa (HN1.out (by simpa using hG));clear HNX HN1;go_wp2_with fail
    go_ret;exact⟨aC HN.out.symm,hb0.trans (HB2.out.mono hb0.size)⟩
  ·have HN:=aa (HY.out fun j hj=>HALL.out j (by omega));clear HALL q0 q1 q2 d0 d1 d2;go_wp2_with fail
   go_ret;exact⟨aC HN.out.symm,hbw⟩
theorem jz (sv pv av:Value) (S:List Sw) (P:List Pr) (A:List Ac) (w:World) (hC:CfAt w sv pv av S P A) (h1:S.length*24≤140737488355328) (h3:A.length*72≤140737488355328):
  Calls Tryz.prog 43 #[.agg #[sv,pv,av]] w fun e w'=>e= .returned (.bool (bV S A))∧Below w.heap.size w w':=by
 have HC:=aa hC;have HY:Hid ((∀j,j<A.length→(bk S (A.take j) (A.getD j ac0)==0)=true)→bV S A=true):=fun h=>ie h;have HNO:Hid (∀k,k<A.length→(bk S (A.take k) (A.getD k ac0)==0)=false→bV S A=false):=fun k hk h=>jx hk h;generalize bV S A=R at*;obtain⟨s1,s2,rfl⟩:=hC.1.slice;obtain⟨p1,p2,rfl⟩:=hC.2.1.slice;obtain⟨a1,a2,rfl⟩:=hC.2.2.slice;clear hC;go_enter Tryz.func43,Tryz.ntmps43;go_wp2_with fail
 obtain⟨W0,hW0⟩:∃W0,W0=w.alloc (.cells #[.slice s1 S.length s2,.slice p1 P.length p2,.slice a1 A.length a2] 29):=⟨_,rfl⟩;have hb0:Below w.heap.size w W0:=by rw [hW0];exact(Below.refl _ _).alloc zr _
 have d0:W0.cell? ⟨w.heap.size,0,none⟩=some (.slice s1 S.length s2):=zN1 hW0 rfl;have d1:W0.cell? ⟨w.heap.size,1,none⟩=some (.slice p1 P.length p2):=zN1 hW0 rfl;have d2:W0.cell? ⟨w.heap.size,2,none⟩=some (.slice a1 A.length a2):=zN1 hW0 rfl;have hz0:w.heap.size<W0.heap.size:=am d0;rw [←hW0];clear hW0;go_loopw [8] (fun i wr=>∃k:Nat,k≤A.length∧i= .int .i64 k∧Hid (∀j,j<k→(bk S (A.take j) (A.getD j ac0)==0)=true)∧Below W0.heap.size W0 wr) (fun i _=>A.length-(intOf i).toNat)
 case atStart=>exact⟨0,by omega,rfl,aa (fun j h=>absurd h (by omega)),Below.refl _ _⟩
 case round=>
  obtain⟨k,hk,rfl,HALL,hbr⟩:=hrel;have hbw:=hb0.trans (hbr.mono hb0.size);have q0:=zC d0 hbr;have q1:=zC d1 hbr;have q2:=zC d2 hbr;by_cases hlt:k<A.length
  ·obtain⟨b,off,cap',e1,hcap,hb,g0,g1,g2,g3,g4,g5,g6,g7,g8⟩:=qr (RowAt.below HC.out.2.2 hbw zr) hlt;have HK:Hid (∀W:World,Below w.heap.size w W→Calls Tryz.prog 84 #[.agg #[.slice s1 S.length s2,.slice p1 P.length p2,.slice a1 k a2],.agg #[.int .i64 (A.getD k ac0).s,.int .i64 (A.getD k ac0).p,.bool (A.getD k ac0).n,.int .i64 (A.getD k ac0).src,.int .i64 (A.getD k ac0).sb,.int .i64 (A.getD k ac0).dst,.int .i64 (A.getD k ac0).db,.int .i64 (A.getD k ac0).o,.bool (A.getD k ac0).d]] W fun e w'=>e= .returned (.int .i64 (bk S (A.take k) (A.getD k ac0)))∧Below W.heap.size W w'):=fun W hW=>gn _ _ _ S P (A.take k) (A.getD k ac0) W ⟨RowAt.below HC.out.1 hW zr,RowAt.below HC.out.2.1 hW zr,RowAt.take (RowAt.below HC.out.2.2 hW zr) k hlt⟩ h1;simp only [Value.slice.injEq,true_and]at e1;obtain⟨rfl,rfl⟩:=e1;have HN1:=aa (HNO.out k hlt);have HNX:Hid ((bk S (A.take k) (A.getD k ac0)==0)=true→∀j,j<k+1→(bk S (A.take j) (A.getD j ac0)==0)=true):=fun h j hj=>by
    by_cases e:j=k
    ·subst e;exact h
    ·exact HALL.out j (by omega)
   have HRS:=aa hlt;clear HALL d0 d1 d2;generalize bk S (A.take k) (A.getD k ac0)=G at HK HN1 HNX;generalize (A.getD k ac0).s=x0 at*;generalize (A.getD k ac0).p=x1 at*;generalize (A.getD k ac0).n=x2 at*;generalize (A.getD k ac0).src=x3 at*;generalize (A.getD k ac0).sb=x4 at*;generalize (A.getD k ac0).dst=x5 at*;generalize (A.getD k ac0).db=x6 at*;generalize (A.getD k ac0).o=x7 at*;generalize (A.getD k ac0).d=x8 at*;have q3:(0:Int)≤(k:Int):=(by omega);have q4:(k:Int)<(A.length:Int):=(by omega);have q5:(k:Int)≤(a2:Int):=(by omega);go_wp2_with fail
   obtain⟨W1,hW1⟩:∃W1,W1=wr.alloc (.cells #[.int .i64 x0,.int .i64 x1,.bool x2,.int .i64 x3,.int .i64 x4,.int .i64 x5,.int .i64 x6,.int .i64 x7,.bool x8] 58):=⟨_,rfl⟩;obtain⟨B,hB⟩:∃B,B=wr.heap.size:=⟨_,rfl⟩;have hb1:Below wr.heap.size wr W1:=by rw [hW1];exact(Below.refl _ _).alloc zr _
   have y0:W1.cell? ⟨B,0,none⟩=some (.int .i64 x0):=zN2 hW1 hB rfl;have y1:W1.cell? ⟨B,1,none⟩=some (.int .i64 x1):=zN2 hW1 hB rfl;have y2:W1.cell? ⟨B,2,none⟩=some (.bool x2):=zN2 hW1 hB rfl;have y3:W1.cell? ⟨B,3,none⟩=some (.int .i64 x3):=zN2 hW1 hB rfl;have y4:W1.cell? ⟨B,4,none⟩=some (.int .i64 x4):=zN2 hW1 hB rfl;have y5:W1.cell? ⟨B,5,none⟩=some (.int .i64 x5):=zN2 hW1 hB rfl;have y6:W1.cell? ⟨B,6,none⟩=some (.int .i64 x6):=zN2 hW1 hB rfl;have y7:W1.cell? ⟨B,7,none⟩=some (.int .i64 x7):=zN2 hW1 hB rfl;have y8:W1.cell? ⟨B,8,none⟩=some (.bool x8):=zN2 hW1 hB rfl;have r0:=zC q0 hb1;have r1:=zC q1 hb1;have r2:=zC q2 hb1;have hk1:Below w.heap.size w W1:=hbw.trans (hb1.mono hbw.size);have hr1:Below W0.heap.size W0 W1:=hbr.trans (hb1.mono hbr.size);rw [←hW1, ←hB];clear hW1 hB hb1 q0 q1 q2 hbw hbr g0 g1 g2 g3 g4 g5 g6 g7 g8;go_region_held3 (fun w'=>w'.cell? ⟨w.heap.size,0,none⟩=some (.slice s1 S.length s2)∧w'.cell? ⟨w.heap.size,1,none⟩=some (.slice p1 P.length p2)∧w'.cell? ⟨w.heap.size,2,none⟩=some (.slice (some ⟨b,off,none⟩) A.length a2)∧w'.cell? ⟨B,0,none⟩=some (.int .i64 x0)∧w'.cell? ⟨B,1,none⟩=some (.int .i64 x1)∧w'.cell? ⟨B,2,none⟩=some (.bool x2)∧w'.cell? ⟨B,3,none⟩=some (.int .i64 x3)∧w'.cell? ⟨B,4,none⟩=some (.int .i64 x4)∧w'.cell? ⟨B,5,none⟩=some (.int .i64 x5)∧w'.cell? ⟨B,6,none⟩=some (.int .i64 x6)∧w'.cell? ⟨B,7,none⟩=some (.int .i64 x7)∧w'.cell? ⟨B,8,none⟩=some (.bool x8)) (go_keep)
    (first |(go_at_call 84;refine(ae HK _ hk1.drew).mono ?_;rintro e w2 ⟨rfl,hc2⟩;have g2:Below W1.heap.size W1 w2:=((Below.refl _ W1).drew).trans hc2;have v0:=zC r0 g2;have v1:=zC r1 g2;have v2:=zC r2 g2;have u0:=zC y0 g2;have u1:=zC y1 g2;have u2:=zC y2 g2;have u3:=zC y3 g2;have u4:=zC y4 g2;have u5:=zC y5 g2;have u6:=zC y6 g2;have u7:=zC y7 g2;have u8:=zC y8 g2))
   have HB2:Hid (Below W0.heap.size W0 w2):=hr1.trans (g2.mono hr1.size);clear hr1 hk1 g2 hc2 r0 r1 r2 v0 v1 v2 HK y0 u0 y1 u1 y2 u2 y3 u3 y4 u4 y5 u5 y6 u6 y7 u7 y8 u8;by_cases hG:G=0
   ·subst hG;have HN:=aa (HNX.out rfl);clear HNX HN1;go_wp2_with fail
    go_roundw
    case rel=>exact⟨k+1,by omega,by go_num,HN,HB2.out⟩
    case measure=>simp [intOf];omega
   ·have HN:=aa (HN1.out (by simpa using hG));clear HNX HN1;go_wp2_with fail
    go_ret;exact⟨aC HN.out.symm,hb0.trans (HB2.out.mono hb0.size)⟩
  ·have HN:=aa (HY.out fun j hj=>HALL.out j (by omega));clear HALL q0 q1 q2 d0 d1 d2;go_wp2_with fail
   go_ret;exact⟨aC HN.out.symm,hbw⟩
def may (S:List Sw) (P:List Pr) (A:List Ac):Bool:=cI S&&bD S P&&bV S A
theorem fJ (sv pv av:Value) (S:List Sw) (P:List Pr) (A:List Ac) (w:World) (hC:CfAt w sv pv av S P A) (h1:S.length*24≤140737488355328) (h2:P.length*40≤140737488355328) (h3:A.length*72≤140737488355328):
  Calls Tryz.prog 15 #[.agg #[sv,pv,av]] w fun e w'=>e= .returned (.int .i64 (if may S P A=true then 0 else 8))∧Below w.heap.size w w':=by
 have H1:Hid (∀W:World,Below w.heap.size w W→Calls Tryz.prog 41 #[.agg #[sv,pv,av]] W fun e w'=>e= .returned (.bool (cI S))∧Below W.heap.size W w'):=fun W hW=>gh sv pv av S P A W (hC.below hW zr) h1;have H2:Hid (∀W:World,Below w.heap.size w W→Calls Tryz.prog 42 #[.agg #[sv,pv,av]] W fun e w'=>e= .returned (.bool (bD S P))∧Below W.heap.size W w'):=fun W hW=>iT sv pv av S P A W (hC.below hW zr) h1 h2;have H3:Hid (∀W:World,Below w.heap.size w W→Calls Tryz.prog 43 #[.agg #[sv,pv,av]] W fun e w'=>e= .returned (.bool (bV S A))∧Below W.heap.size W w'):=fun W hW=>jz sv pv av S P A W (hC.below hW zr) h1 h3;have HR:Hid ((if may S P A=true then(0:Int)else 8)=if(cI S&&bD S P&&bV S A)=true then 0 else 8):=rfl;generalize (if may S P A=true then(0:Int)else 8)=R at*;generalize cI S=R1 at*;generalize bD S P=R2 at*;generalize bV S A=R3 at*;obtain⟨s1,s2,rfl⟩:=hC.1.slice;obtain⟨p1,p2,rfl⟩:=hC.2.1.slice;obtain⟨a1,a2,rfl⟩:=hC.2.2.slice;clear hC;go_enter Tryz.func15,Tryz.ntmps15;go_wp2_with fail
 obtain⟨W0,hW0⟩:∃W0,W0=w.alloc (.cells #[.slice s1 S.length s2,.slice p1 P.length p2,.slice a1 A.length a2] 29):=⟨_,rfl⟩;have hb0:Below w.heap.size w W0:=by rw [hW0];exact(Below.refl _ _).alloc zr _
 have d0:W0.cell? ⟨w.heap.size,0,none⟩=some (.slice s1 S.length s2):=zN1 hW0 rfl;have d1:W0.cell? ⟨w.heap.size,1,none⟩=some (.slice p1 P.length p2):=zN1 hW0 rfl;have d2:W0.cell? ⟨w.heap.size,2,none⟩=some (.slice a1 A.length a2):=zN1 hW0 rfl;rw [←hW0];clear hW0;refine(ae H1 _ hb0).mono ?_;rintro e w1 ⟨rfl,hc1⟩;have k1:=hb0.trans (hc1.mono hb0.size);have q0:=zC d0 hc1;have q1:=zC d1 hc1;have q2:=zC d2 hc1;clear d0 d1 d2 hb0 hc1 H1;cases R1
 ·clear H2 H3;go_wp2_with fail
  go_ret;exact⟨ap (by rw [HR.out];simp),k1⟩
 ·go_wp2_with fail
  refine(ae H2 _ k1).mono ?_;rintro e w2 ⟨rfl,hc2⟩;have k2:=k1.trans (hc2.mono k1.size);have d0:=zC q0 hc2;have d1:=zC q1 hc2;have d2:=zC q2 hc2;clear q0 q1 q2 k1 hc2 H2;cases R2
  ·clear H3;go_wp2_with fail
   go_ret;exact⟨ap (by rw [HR.out];simp),k2⟩
  ·go_wp2_with fail
   refine(ae H3 _ k2).mono ?_;rintro e w3 ⟨rfl,hc3⟩;have k3:=k2.trans (hc3.mono k2.size);clear d0 d1 d2 k2 hc3 H3;cases R3
   ·go_wp2_with fail
    go_ret;exact⟨ap (by rw [HR.out];simp),k3⟩
   ·go_wp2_with fail
    go_ret;exact⟨ap (by rw [HR.out];simp),k3⟩
theorem py {S:List Sw} {P:List Pr} {x:Pr} (h:ba S P x=0):P.length<40:=by
 unfold ba at h;split at h
 ·omega
 ·split at h
  ·omega
  ·split at h
   ·omega
   ·split at h
    ·omega
    ·split at h
     ·omega
     ·omega
theorem pe {S:List Sw} {A:List Ac} {x:Ac} (h:bk S A x=0):A.length<40:=by
 unfold bk at h;split at h
 ·omega
 ·split at h
  ·omega
  ·split at h
   ·omega
   ·split at h
    ·omega
    ·omega
theorem qw {S:List Sw} {P:List Pr} {x:Sw} (h:aT S P x=0):S.length<12:=by
 unfold aT at h;split at h
 ·omega
 ·split at h
  ·omega
  ·split at h
   ·omega
   ·omega
theorem dN {S:List Sw} {P:List Pr} {A:List Ac} (h:may S P A=true):cI S=true∧bD S P=true∧bV S A=true:=by
 unfold may at h;simp only [Bool.and_eq_true]at h;exact⟨h.1.1,h.1.2,h.2⟩
theorem gv {S:List Sw} {P:List Pr} {A:List Ac} (h:may S P A=true):S.length≤12∧P.length≤40∧A.length≤40:=by
 obtain⟨h1,h2,h3⟩:=dN h;refine⟨?_,?_,?_⟩
 ·rcases Nat.lt_or_ge 12 S.length with h' | h'
  ·unfold cI at h1;rw [List.all_eq_true]at h1;have:=h1 12 (List.mem_range.2 h');have:=qw (by simpa using this);rw [List.length_take]at this;omega
  ·exact h'
 ·rcases Nat.lt_or_ge 40 P.length with h' | h'
  ·unfold bD at h2;rw [List.all_eq_true]at h2;have:=h2 40 (List.mem_range.2 h');have:=py (by simpa using this);rw [List.length_take]at this;omega
  ·exact h'
 ·rcases Nat.lt_or_ge 40 A.length with h' | h'
  ·unfold bV at h3;rw [List.all_eq_true]at h3;have:=h3 40 (List.mem_range.2 h');have:=pe (by simpa using this);rw [List.length_take]at this;omega
  ·exact h'
theorem ir {S:List Sw} {P:List Pr} {x:Sw} (h:aT S P x=0):
  (inB x.i 1 500=true∧inB x.t 1 9=true∧inB x.g 0 65535=true)∧(S.any (fun s=>s.i==x.i)=false∧(x.g != 0&&bI S P x.t x.g)=false)∧S.length<12:=by
 unfold aT at h;by_cases h0:(inB x.i 1 500&&inB x.t 1 9&&inB x.g 0 65535)=false
 ·rw [if_pos h0]at h;omega
 ·rw [if_neg h0]at h;by_cases h1:(S.any (fun s=>s.i==x.i)|| (x.g != 0&&bI S P x.t x.g))=true
  ·rw [if_pos h1]at h;omega
  ·rw [if_neg h1]at h;by_cases h2:12≤S.length
   ·rw [if_pos h2]at h;omega
   ·have h0':=Bool.not_eq_false _ |>.mp h0
    have h1':=Bool.not_eq_true _ |>.mp h1;simp only [Bool.and_eq_true]at h0';rw [Bool.or_eq_false_iff]at h1';exact⟨⟨h0'.1.1,h0'.1.2,h0'.2⟩,h1',by omega⟩
theorem fV {α:Type} (f:List α→α→Int) (d:α) (l:List α):(List.range l.length).all (fun k=>f (l.take k) (l.getD k d)==0)=true↔∀L x R,l=L++x::R→f L x=0:=by
 rw [List.all_eq_true];constructor
 ·rintro h L x R rfl;have:=h L.length (List.mem_range.2 (by simp));simpa using this
 ·intro h k hk;rw [List.mem_range]at hk;have e:l=l.take k++l[k]::l.drop (k+1):=by
   conv=>lhs;rw [←List.take_append_drop k l]
   rw [List.drop_eq_getElem_cons hk]
  have h1:=h _ _ _ e;have hg:l.getD k d=l[k]:=(by simp [List.getD,List.getElem?_eq_getElem hk]);rw [hg,h1];rfl
theorem mA (S:List Sw):cI S=true↔∀L x R,S=L++x::R→aT L [] x=0:=fV (fun L x=>aT L [] x) sw0 S
theorem dU (S:List Sw) (P:List Pr):bD S P=true↔∀L x R,P=L++x::R→ba S L x=0:=fV (fun L x=>ba S L x) pr0 P
theorem gz (S:List Sw) (A:List Ac):bV S A=true↔∀L x R,A=L++x::R→bk S L x=0:=fV (fun L x=>bk S L x) ac0 A
theorem fj {α:Type} {l L R:List α} {y x:α} (h:l++ [y]=L++x::R):(L=l∧x=y)∨∃R',l=L++x::R':=by
 rw [List.append_eq_append_iff]at h;rcases h with⟨a,h1,h2⟩ |⟨a,h1,h2⟩
 ·cases a with
  | nil=>
   simp at h1 h2;exact .inl ⟨h1,h2.1.symm⟩
  | cons b c=>
   simp at h2
 ·cases a with
  | nil=>
   simp at h1 h2;exact .inl ⟨h1.symm,h2.1⟩
  | cons b c=>
   simp at h2;obtain⟨rfl,rfl⟩:=h2;exact .inr ⟨c,h1⟩
def tn (S:List Sw) (id:Int):Int:=(S.getD (idx (fun s=>s.i==id) S).toNat sw0).t
theorem fN (S:List Sw) (P:List Pr) (x:Pr):ba S P x=0↔es x=true∧0≤idx (fun s=>s.i==x.s) S∧P.any (fun y=>y.i==x.i|| y.s==x.s&&y.m==x.m)=false∧bI S P (tn S x.s) x.p=false∧P.length<40:=by
 unfold ba;show(if es x=false then(2:Int)else if idx (fun s=>s.i==x.s) S<0 then 6 else if P.any (fun y=>y.i==x.i|| y.s==x.s&&y.m==x.m)=true then 7 else if bI S P (tn S x.s) x.p=true then 7 else if 40≤P.length then 1 else 0)=0↔_;generalize idx (fun s:Sw=>s.i==x.s) S=I;generalize bI S P (tn S x.s) x.p=B;generalize P.any (fun y=>y.i==x.i|| y.s==x.s&&y.m==x.m)=C;generalize es x=D;cases D <;>cases C <;>cases B <;>simp <;>(repeat' split) <;>omega
theorem nL {S:List Sw} {P:List Pr} (h:bD S P=true) {x:Pr} (hx:x∈P):es x=true∧0≤idx (fun s=>s.i==x.s) S:=by
 obtain⟨L,R,rfl⟩:=List.append_of_mem hx;have:=(fN _ _ _).1 ((dU S _).1 h L x R rfl);exact⟨this.1,this.2.1⟩
theorem mN (S:List Sw) (A:List Ac) (x:Ac):bk S A x=0↔dP x=true∧(cG x.src x.sb&&cG x.dst x.db)=true∧S.any (fun s=>s.i==x.s)=true∧A.length<40:=by
 unfold bk;generalize dP x=B;generalize (cG x.src x.sb&&cG x.dst x.db)=C;generalize S.any (fun s=>s.i==x.s)=D;cases B <;>cases C <;>cases D <;>simp <;>omega
theorem gZ {α:Type} {l:List α} (h:l≠ []):l=l.dropLast++l.getLast h:: []:=(List.dropLast_concat_getLast h).symm
theorem nQ {S:List Sw} {P:List Pr} {x:Sw} (h:aT S P x=0):(1≤x.i∧x.i≤500)∧(1≤x.t∧x.t≤9)∧(0≤x.g∧x.g≤65535)∧S.any (fun y=>y.i==x.i)=false∧S.length<12:=by
 unfold aT at h;split at h
 ·omega
 ·rename_i h1;split at h
  ·omega
  ·rename_i h2;split at h
   ·omega
   ·rename_i h3;simp [inB]at h1 h2;refine⟨by omega,by omega,by omega,?_,by omega⟩;rw [List.any_eq_false];intro y hy;simpa using h2.1 y hy
theorem ii {S:List Sw} (h:cI S=true):S.length≤12∧∀x∈S,(1≤x.i∧x.i≤500)∧(1≤x.t∧x.t≤9)∧(0≤x.g∧x.g≤65535):=by
 have hf:=(mA S).1 h;refine⟨?_,fun x hx=>?_⟩
 ·by_cases he:S= []
  ·simp [he]
  ·have:=(nQ (hf _ _ _ (gZ he))).2.2.2.2;rw [List.length_dropLast]at this;omega
 ·obtain⟨L,R,e⟩:=List.append_of_mem hx;have:=nQ (hf L x R e);exact⟨this.1,this.2.1,this.2.2.1⟩
theorem gX {S:List Sw} {P:List Pr} (hs:cI S=true) (h:bD S P=true):P.length≤40∧∀p∈P,(1≤p.i∧p.i≤999)∧(1≤p.s∧p.s≤500)∧(1≤p.m∧p.m≤59999)∧(1≤p.p∧p.p≤65535)∧ -1≤p.c∧p.c≤5:=by
 have hf:=(dU S P).1 h;refine⟨?_,fun x hx=>?_⟩
 ·by_cases he:P= []
  ·simp [he]
  ·have:=((fN _ _ _).1 (hf _ _ _ (gZ he))).2.2.2.2;rw [List.length_dropLast]at this;omega
 ·obtain⟨L,R,e⟩:=List.append_of_mem hx;have:=(fN _ _ _).1 (hf L x R e);have h1:=this.1;have h2:S.any (fun s=>s.i==x.s)=true:=by rw [←dL];simpa using this.2.1
  rw [List.any_eq_true]at h2;obtain⟨s,hsS,hse⟩:=h2;have h3:=(ii hs).2 s hsS;simp at hse;simp [es,inB]at h1;refine⟨by omega,by omega,by omega,by omega,by omega⟩
theorem ik {S:List Sw} {A:List Ac} (h:bV S A=true):A.length≤40∧∀r∈A,dP r=true∧(cG r.src r.sb&&cG r.dst r.db)=true∧S.any (fun s=>s.i==r.s)=true:=by
 have hf:=(gz S A).1 h;refine⟨?_,fun x hx=>?_⟩
 ·by_cases he:A= []
  ·simp [he]
  ·have:=((mN _ _ _).1 (hf _ _ _ (gZ he))).2.2.2;rw [List.length_dropLast]at this;omega
 ·obtain⟨L,R,e⟩:=List.append_of_mem hx;have:=(mN _ _ _).1 (hf L x R e);exact⟨this.1,this.2.1,this.2.2.1⟩
theorem qT {S:List Sw} {A:List Ac} (h:bV S A=true):∀r∈A,(0≤r.sb∧r.sb≤16)∧0≤r.db∧r.db≤16:=fun r hr=>by
 have:=((ik h).2 r hr).1;simp [dP,inB]at this;omega
def cmE (S:List Sw) (P:List Pr) (A:List Ac) (ch:Int):Int:=if may S P A=true then(if 0≤ch∧ch≤5 then 0 else 2)else 8
def cmL (S:List Sw) (P:List Pr) (A:List Ac) (ch:Int):List Fl:=if cmE S P A ch=0 then srt (fe S P A ch) (fe S P A ch).length else []
def bG (P H:List Pr) (k:Nat):List Fl:=tunnelFl++(H.take k).flatMap (cH P)
def bu (S:List Sw) (P:List Pr) (A:List Ac) (ch:Int) (G:List Fl) (Z:List Sw) (k:Nat):List Fl:=G++(Z.take k).flatMap fun s=>ck S P A s ch
theorem kC {P H:List Pr} {k:Nat} (h:k<H.length):bG P H (k+1)=bG P H k++cH P (H.getD k pr0):=by
 unfold bG;rw [eS (cH P) pr0 h,List.append_assoc]
theorem eU {S:List Sw} {P:List Pr} {A:List Ac} {ch:Int} {G:List Fl} {Z:List Sw} {k:Nat} (h:k<Z.length):bu S P A ch G Z (k+1)=bu S P A ch G Z k++ck S P A (Z.getD k sw0) ch:=by
 unfold bu;rw [eS (fun s=>ck S P A s ch) sw0 h,List.append_assoc]
theorem ne (P:List Pr) (p:Pr):(cH P p).length=6:=rfl
theorem eh (P H:List Pr) (k:Nat):(bG P H k).length≤2+6*k:=by
 have h:∀l:List Pr,(l.flatMap (cH P)).length=6*l.length:=fun l=>by
  induction l with
  | nil=>rfl
  | cons x r ih=>rw [List.flatMap_cons,List.length_append,ih,ne,List.length_cons];omega
 unfold bG;rw [List.length_append,h,List.length_take];have:tunnelFl.length=2:=rfl;omega
theorem dE (S:List Sw) (P:List Pr) (A:List Ac) (s:Sw) (ch:Int):0<(ck S P A s ch).length∧(ck S P A s ch).length≤3*P.length+2*A.length+4:=by
 have h1:=nV P s ch;have h2:=jr P s;have h3:=j9 S P s;have h4:=fy A s.i true;have h5:=fy A s.i false;unfold ck;rw [List.length_append,List.length_append,List.length_append,List.length_append,gp,gp,dQ,dQ];omega
theorem cr (S:List Sw) (P:List Pr) (A:List Ac) (ch:Int) (G:List Fl) (Z:List Sw) (hP:P.length≤40) (hA:A.length≤40):∀k,k≤Z.length→(bu S P A ch G Z k).length≤G.length+204*k
 | 0,_=>by simp [bu]
 | k+1,hk=>by
  rw [eU (by omega),List.length_append];have:=cr S P A ch G Z hP hA k (by omega);have:=(dE S P A (Z.getD k sw0) ch).2;omega
theorem iQ (S:List Sw) (P:List Pr) (A:List Ac) (ch:Int):fe S P A ch=bu S P A ch (bG P (P.filter (cl ch)) (P.filter (cl ch)).length) (S.filter fun s=>(P.filter (cl ch)).any (cn s.i)) (S.filter fun s=>(P.filter (cl ch)).any (cn s.i)).length:=by
 unfold fe bu bG;rw [List.take_length,List.take_length]
def rl (f:Fl):Prop:=f.ms.length≤2000000∧f.ds.length≤2000000
theorem im (S:List Sw) (P:List Pr) (A:List Ac) (s1 p1 a1:Option Addr) (s2 p2 a2:Nat) (ch:Int) (w:World) (hC:CfAt w (.slice s1 S.length s2) (.slice p1 P.length p2) (.slice a1 A.length a2) S P A) (h1:S.length*24≤140737488355328) (h2:P.length*40≤140737488355328) (h3:A.length*72≤140737488355328) (hSA:may S P A=true→∀s b,eM (bf A s b)) (hSM:may S P A=true→0≤ch→ch≤5→∀f∈fe S P A ch,rl f):
  Calls Tryz.prog 5 #[.agg #[.slice s1 S.length s2,.slice p1 P.length p2,.slice a1 A.length a2],.int .i64 ch] w fun e w'=>∃u,e= .returned (.tuple #[u,.int .i64 (cmE S P A ch)])∧FsAt w' u (cmL S P A ch)∧Below w.heap.size w w':=by
 have HC:=aa hC;have HCK:=aa (fun W (hW:Below w.heap.size w W)=>fJ _ _ _ S P A W (hC.below hW zr) h1 h2 h3);have HSA:=aa hSA;have HSM:=aa hSM;clear hC hSA hSM;go_enter Tryz.func5,Tryz.ntmps5;go_wp2_with fail
 obtain⟨W0,hW⟩:∃W0,W0=w.alloc (.cells #[.slice s1 S.length s2,.slice p1 P.length p2,.slice a1 A.length a2] 29):=⟨_,rfl⟩;rw [←hW];obtain⟨cb,hblk⟩:∃cb,cb=w.heap.size:=⟨_,rfl⟩;have k0:W0.cell? ⟨cb,0,none⟩=some (.slice s1 S.length s2):=zN2 hW hblk rfl;have k1:W0.cell? ⟨cb,1,none⟩=some (.slice p1 P.length p2):=zN2 hW hblk rfl;have k2:W0.cell? ⟨cb,2,none⟩=some (.slice a1 A.length a2):=zN2 hW hblk rfl;have hbN:Below w.heap.size w W0:=by rw [hW];exact ak _ _
 have hzW0:W0.heap.size=cb+1:=by rw [hW,hblk];simp
 have hcbl:w.heap.size≤cb:=by omega
 rw [←hblk];clear hW hblk;have HB:=hbN;clear hbN;obtain⟨W1,hW⟩:∃W1,W1=W0.alloc (.cells #[.int .i64 ch] 3):=⟨_,rfl⟩;rw [←hW];obtain⟨hb_,hblk⟩:∃hb_,hb_=cb+1:=⟨_,rfl⟩;have h0:W1.cell? ⟨hb_,0,none⟩=some (.int .i64 ch):=zN2 hW (hblk.trans hzW0.symm) rfl;have hbN:Below W0.heap.size W0 W1:=by rw [hW];exact ak _ _
 have hzW1:W1.heap.size=hb_+1:=by rw [hW,hblk];simp [hzW0]
 have hhb_l:cb<hb_:=by omega
 rw [←hblk];clear hW hblk hzW0;replace⟨k0,k1,k2⟩:=aR k0 k1 k2 hbN;replace HB:=zT HB hbN;clear hbN hzW1;refine(ae HCK _ HB).mono ?_;rintro e V1 ⟨rfl,hb1⟩;have hs2:=hb1.size;replace⟨k0,k1,k2,h0⟩:=oj k0 k1 k2 h0 hb1;replace HB:=zT HB hb1;clear hb1;by_cases hm:may S P A=true
 ·by_cases hcr:0≤ch∧ch≤5
  ·obtain⟨hsw,hpr,hac⟩:=dN hm;have hPl:=(gX hsw hpr).1;have hAl:=(ik hac).1;have hSl:=(ii hsw).1;have HPB:Hid (∀p∈P,0≤p.s∧p.s≤100000):=aa (fun p hp=>by have:=((gX hsw hpr).2 p hp).2.1;omega);have HSB:Hid (∀s∈S,0≤s.i∧s.i≤100000):=aa (fun s hs=>by have:=((ii hsw).2 s hs).1;omega);have HAB:=aa (qT hac);have HE:Hid (cmE S P A ch=0):=by
    refine aa ?_;unfold cmE;rw [if_pos hm,if_pos (by omega)]
   have HLz:Hid (cmL S P A ch=srt (fe S P A ch) (fe S P A ch).length):=by
    refine aa ?_;unfold cmL;rw [if_pos HE.out]
   replace HSM:=aa (HSM.out hm);replace HSA:=aa (HSA.out hm);have hc0:¬ch<0:=(by omega);have hc1:¬ch≥6:=(by omega);rw [if_pos hm];clear hm hsw hpr hac;have HCT:=aa (iQ S P A ch);obtain⟨H,hH⟩:∃H,H=P.filter (cl ch):=⟨_,rfl⟩;rw [←hH]at HCT;have HHL:H.length≤40:=by rw [hH];exact Nat.le_trans (List.length_filter_le _ _) hPl
   have HH:=aa hH;clear hH;obtain⟨Z,hZ⟩:∃Z,Z=S.filter fun s=>H.any (cn s.i):=⟨_,rfl⟩;rw [←hZ]at HCT;have HZL:Z.length≤12:=by rw [hZ];exact Nat.le_trans (List.length_filter_le _ _) hSl
   have HZB:Hid (∀s∈Z,0≤s.i∧s.i≤100000):=aa (fun s hs=>HSB.out s (by rw [hZ]at hs;exact(List.mem_filter.1 hs).1));have HZ:=aa hZ;clear hZ;go_wp2_with fail
   refine(cz P (cl ch) _ _ _ _ (HC.out.below HB zr).2.1 (m9 h0) pM (by omega)).mono ?_;rintro e V3 ⟨u,rfl,hor,hb3⟩;have hs4:=hb3.size;replace⟨k0,k1,k2,h0⟩:=oj k0 k1 k2 h0 hb3;replace HB:=zT HB hb3;rw [←HH.out]at hor;obtain⟨o,c,rfl⟩:=aF hor;have HRH:=aa hor;clear hor;clear hb3;go_wp2_with fail
   obtain⟨V5,hV⟩:∃V5,V5=V3.alloc (.cells #[.slice o H.length c] 26):=⟨_,rfl⟩;rw [←hV];obtain⟨g5,hg'⟩:∃g5,g5=V3.heap.size:=⟨_,rfl⟩;have hg:g5=V3.heap.size:=hg';rw [←hg'];have hbN:=zB hV;have hg5:V3.heap.size≤g5:=(by omega);have hl5:=zL hV hg;have hzV5:V5.heap.size=g5+1:=by rw [hV,hg];simp
   have t0:V5.cell? ⟨g5,0,none⟩=some (.slice o H.length c):=zN2 hV hg rfl;have hs6:=hbN.size;replace⟨k0,k1,k2,h0⟩:=oj k0 k1 k2 h0 hbN;replace HRH:=zO HRH hbN;replace HB:=zT HB hbN;clear hV hg hg' hbN;clear hzV5;have hcbV:=am k0;have hhbV:=am h0;have hghV:=am t0;refine(iE _).mono ?_;rintro e V50 ⟨u,rfl,hfr,hbT⟩;obtain⟨vo0,vc0,rfl⟩:=hfr.slc;have HF0:Hid (FR V50 V5.heap.size (.slice vo0 tunnelFl.length vc0) (bG P H 0)):=(by simpa [bG] using aa hfr);have t0v:=zC t0 hbT;have hsp:=HB.size;clear hfr;have HBp:Hid (Below w.heap.size w V5):=aa HB;clear HB;generalize tunnelFl.length=n0 at*;go_wp2_with fail
   clear t0v;go_loopw [8,31] (fun v i wr=>∃k:Nat,k≤H.length∧i= .int .i64 k∧Hid (FR wr V5.heap.size v (bG P H k))∧Below V5.heap.size V5 wr) (fun _ i _=>H.length-(intOf i).toNat)
   case atStart=>exact⟨0,by omega,rfl,HF0,hbT⟩
   case round=>
    clear HF0 hbT;obtain⟨k,hk,rfl,HF,hbr⟩:=hrel;have hgs:V5.heap.size≤wr.heap.size:=hbr.size;by_cases hlt:k<H.length
    ·obtain⟨b,off,cap,e1,hcap, -,g0,g1,g2,g3,g4⟩:=eZ (RowAt.below (RowAt.of_own bp (by decide) HRH.out) hbr zr) hlt;simp only [Value.slice.injEq,true_and]at e1;obtain⟨rfl,rfl⟩:=e1;have HNX:=aa (kC (P:=P) hlt);have hln:=eh P H k;have HET:Hid (H.getD k pr0=⟨(H.getD k pr0).i,(H.getD k pr0).s,(H.getD k pr0).m,(H.getD k pr0).p,(H.getD k pr0).c⟩):=rfl;rw [HET.out]at HNX;clear HET;generalize (H.getD k pr0).i=y0 at*;generalize (H.getD k pr0).s=y1 at*;generalize (H.getD k pr0).m=y2 at*;generalize (H.getD k pr0).p=y3 at*;generalize (H.getD k pr0).c=y4 at*;generalize hFK:bG P H k=FK at*;have HFK:=aa hFK;clear hFK;obtain⟨vo,vc,rfl⟩:=HF.out.slc;obtain⟨NF,hNF⟩:∃NF,NF=FK.length:=⟨_,rfl⟩;rw [←hNF]at HF hln⊢;have HNN:=aa hNF;clear hNF;have q1:(0:Int)≤(k:Int):=(by omega);have q2:(k:Int)<(H.length:Int):=(by omega);have HUB:=aa HF.out.lt;have vk0:=zC k0 hbr;have vk1:=zC k1 hbr;have vk2:=zC k2 hbr;have vh0:=zC h0 hbr;have vt0:=zC t0 hbr;have HBw0:=HBp.out.trans (hbr.mono hsp);have hcb:=am vk0;have hcb2:¬cb=wr.heap.size:=(by omega);have hhb:=am vh0;have hhb2:¬hb_=wr.heap.size:=(by omega);go_wp2_with fail
     clear hcb2 hhb2;obtain⟨W9,hW9⟩:∃W9,W9=wr.alloc (.cells #[.int .i64 y0,.int .i64 y1,.int .i64 y2,.int .i64 y3,.int .i64 y4] 56):=⟨_,rfl⟩;rw [←hW9];have hbW:Below wr.heap.size wr W9:=by rw [hW9];exact ak _ _
     clear hW9 g0 g1 g2 g3 g4;have HBw:=HBw0.trans (hbW.mono HBw0.size);have hsW:=hbW.size;refine(jK S P A s1 p1 a1 s2 p2 a2 ⟨y0,y1,y2,y3,y4⟩ W9 (HC.out.below HBw zr) (by omega)).mono ?_;rintro e w1 ⟨u2,rfl,hf2,hb2⟩;obtain⟨lo2,hm2,ho2,hk2⟩:=hf2;have hl2:lo2.length=(cH P ⟨y0,y1,y2,y3,y4⟩).length:=(by rw [←hm2,List.length_map]);obtain⟨g9,c9,rfl,hg90,hg91⟩:=aP ho2 (by rw [hl2];exact(show 0<6 by decide));have hsw2:=hb2.size;have hb12:=hbW.trans (hb2.mono hbW.size);have HF2:=aa (HF.out.below hb12 zr);have HCS:=aa (ho2.cells rfl);have HK2:Hid (∀y∈lo2,FvIn w1 V5.heap.size (.slice vo NF vc) y):=aa (fun y hy=>((hk2 y hy).far (fun g e=>Nat.lt_of_lt_of_le (HUB.out g e) hsW)).less (by omega));have HM2:=aa hm2;have hl3:lo2.length≤1000:=by rw [hl2];exact(show 6≤1000 by decide)
     have hl4:0<lo2.length:=(by rw [hl2];exact(show 0<6 by decide));obtain⟨n2,hn2⟩:∃n2,n2=lo2.length:=⟨_,rfl⟩;rw [←hn2]at hl3 hl4⊢;have HN2:=aa hn2;clear hn2 hl2 ho2 hk2 hm2;go_wp2_with (at_builtin;refine cX rfl _ _ rfl V5.heap.size (.slice vo NF vc) FK rfl (ae HF2) ⟨g9,0,none⟩ n2 c9 lo2 rfl HN2.out.symm (ae HCS) (ae HK2) hl4 (by rw [←HNN.out];omega) (by omega) ?_)
     intro gq cq wq hfq hgq haq;have HE2:Hid (FR wq V5.heap.size (.slice (some ⟨gq,0,none⟩) (FK.length+n2) cq) (bG P H (k+1))):=by rw [HNX.out, ←HM2.out];exact aa hfq
     have hb3:Below V5.heap.size V5 wq:=(hbr.trans (hb12.mono hbr.size)).grown hgq (by omega) HF2.out.ge;clear hfq hgq haq HF2 HCS HK2 HUB HNX HF;rw [←HNN.out]at HE2⊢;go_wp2_with fail
     go_roundw
     case rel=>exact⟨k+1,by omega,by go_num,HE2,hb3⟩
     case measure=>simp [intOf];omega
    ·obtain rfl:k=H.length:=(by omega);have hln:=eh P H H.length;have HBk:Hid (Below w.heap.size w wr):=aa (HBp.out.trans (hbr.mono hsp));replace⟨k0,k1,k2,h0,t0⟩:=bM k0 k1 k2 h0 t0 hbr;have HRHw:=aa (aA HRH.out (hbr.mono zr));have hnz:0<(bG P H H.length).length:=by unfold bG;rw [List.length_append];have:tunnelFl.length=2:=rfl;omega
     obtain⟨lof,hmf,hof,hkf⟩:=HF.out;have hlf:lof.length=(bG P H H.length).length:=(by rw [←hmf,List.length_map]);obtain⟨gF,cF,rfl,hgF0,hgF1⟩:=aP hof (by omega);rw [hlf]at HF⊢;clear hmf hof hkf hlf hnz;generalize hG:bG P H H.length=G at*;have HG:=aa hG;clear hG;have HBc:=HBk;clear hbr;obtain⟨NG,hNG⟩:∃NG,NG=G.length:=⟨_,rfl⟩;rw [←hNG]at HF hln⊢;have HNG:=aa hNG;clear hNG;go_wp2_with fail
     have HB:=HBc.out;clear HBc;refine(kX S (fun s=>H.any (cn s.i)) _ _ _ _ (HC.out.below HB zr).1 (nj t0 (RowAt.of_own bp (by decide) HRHw.out) (by omega)) ri (by omega)).mono ?_;rintro e V201 ⟨u,rfl,hor,hb201⟩;have hs202:=hb201.size;replace⟨k0,k1,k2,h0,t0⟩:=bM k0 k1 k2 h0 t0 hb201;replace HRHw:=zO HRHw hb201;replace HF:=aa (HF.out.below hb201 zr);replace HB:=zT HB hb201;rw [←HZ.out]at hor;obtain⟨zo,zc,rfl⟩:=aF hor;have HRN:Hid (∀m g,(Value.slice zo m zc).ownBlock=some g→gF<g):=aa (fun m g e=>by have:=aB hor g (by cases zo <;>exact e);omega);have HRZ:=aa hor;clear hor;clear hb201;have HBz:Hid (Below w.heap.size w V201):=aa HB;have hsz:=HB.size;have hgw:w.heap.size≤gF:=(by omega);have hgv:gF<V201.heap.size:=(by omega);clear HB;go_wp2_with fail
     go_loopw [8,46] (fun v i wq=>∃k:Nat,k≤Z.length∧i= .int .i64 k∧Hid (FR wq V5.heap.size v (bu S P A ch G Z k))∧Hid (∀g,v.ownBlock=some g→g=gF∨V201.heap.size≤g)∧Hid (V201.grownBy wq (some gF))) (fun _ i _=>Z.length-(intOf i).toNat)
     case atStart=>exact⟨0,by omega,rfl,by simpa [bu] using HF,aa (by simp [Value.ownBlock]),aa ⟨rfl,rfl,rfl,Nat.le_refl _,fun _ _ _=>rfl⟩⟩
     case round=>
      clear HF;obtain⟨k,hk,rfl,HF,HVB,HGR⟩:=hrel;have hgs2:V201.heap.size≤wr.heap.size:=HGR.out.size;by_cases hlt:k<Z.length
      ·have HR1:=aa (HRZ.out.kept HGR.out (.inr (fun e=>absurd (HRN.out _ _ e) (by omega))));obtain⟨b,off,cap,e1,hcap, -,g0,g1,g2⟩:=iu (RowAt.of_own dg (by decide) HR1.out) hlt;simp only [Value.slice.injEq,true_and]at e1;obtain⟨rfl,rfl⟩:=e1;have hyb:=HZB.out (Z.getD k sw0) (by rw [List.getD_eq_getElem?_getD,List.getElem?_eq_getElem hlt];exact List.getElem_mem _);have HNX:=aa (eU (S:=S) (P:=P) (A:=A) (ch:=ch) (G:=G) hlt);have hln2:=cr S P A ch G Z (by omega) (by omega) k (by omega);have HET:Hid (Z.getD k sw0=⟨(Z.getD k sw0).i,(Z.getD k sw0).t,(Z.getD k sw0).g⟩):=rfl;rw [HET.out]at HNX;rw [←HNG.out]at hln2;clear HET HR1;generalize (Z.getD k sw0).i=y0 at*;generalize (Z.getD k sw0).t=y1 at*;generalize (Z.getD k sw0).g=y2 at*;obtain⟨hy0,hy1⟩:=hyb;generalize hFK:bu S P A ch G Z k=FK at*;have HFK:=aa hFK;clear hFK;obtain⟨vo,vc,rfl⟩:=HF.out.slc;obtain⟨NF,hNF⟩:∃NF,NF=FK.length:=⟨_,rfl⟩;rw [←hNF]at HF hln2 HVB⊢;have HNN:=aa hNF;clear hNF;have q1:(0:Int)≤(k:Int):=(by omega);have q2:(k:Int)<(Z.length:Int):=(by omega);have HUB:=aa HF.out.lt;have vk0:=aK HGR.out k0 (by omega);have vk1:=aK HGR.out k1 (by omega);have vk2:=aK HGR.out k2 (by omega);have vh0:=aK HGR.out h0 (by omega);have vt0:=aK HGR.out t0 (by omega);have HBw0:=HBz.out.grown HGR.out hsz (fun k e=>by cases e;omega);have hcb:=am vk0;have hcb2:¬cb=wr.heap.size:=(by omega);have hhb:=am vh0;have hhb2:¬hb_=wr.heap.size:=(by omega);go_wp2_with fail
       clear hcb2 hhb2;obtain⟨W9,hW9⟩:∃W9,W9=wr.alloc (.cells #[.int .i64 y0,.int .i64 y1,.int .i64 y2] 54):=⟨_,rfl⟩;rw [←hW9];have hbW:Below wr.heap.size wr W9:=by rw [hW9];exact ak _ _
       clear hW9 g0 g1 g2;have HBw:=HBw0.trans (hbW.mono HBw0.size);have hsW:=hbW.size;refine(iG S P A s1 p1 a1 s2 p2 a2 ⟨y0,y1,y2⟩ ch W9 (HC.out.below HBw zr) (by omega) (by omega) (by omega) hy0 hy1 HPB.out HAB.out (HSA.out _ _) (HSA.out _ _)).mono ?_;rintro e w1 ⟨u2,rfl,hf2,hb2⟩;obtain⟨lo2,hm2,ho2,hk2⟩:=hf2;have hl2:lo2.length=(ck S P A ⟨y0,y1,y2⟩ ch).length:=(by rw [←hm2,List.length_map]);obtain⟨g9,c9,rfl,hg90,hg91⟩:=aP ho2 (by rw [hl2];exact(dE _ _ _ _ _).1);have hsw2:=hb2.size;have hb12:=hbW.trans (hb2.mono hbW.size);have HF2:=aa (HF.out.below hb12 zr);have HCS:=aa (ho2.cells rfl);have HK2:Hid (∀y∈lo2,FvIn w1 V5.heap.size (.slice vo NF vc) y):=aa (fun y hy=>((hk2 y hy).far (fun g e=>Nat.lt_of_lt_of_le (HUB.out g e) hsW)).less (by omega));have HM2:=aa hm2;have hl3:lo2.length≤1000:=by rw [hl2];have:=(dE S P A ⟨y0,y1,y2⟩ ch).2;omega
       have hl4:0<lo2.length:=(by rw [hl2];exact(dE _ _ _ _ _).1);obtain⟨n2,hn2⟩:∃n2,n2=lo2.length:=⟨_,rfl⟩;rw [←hn2]at hl3 hl4⊢;have HN2:=aa hn2;clear hn2 hl2 ho2 hk2 hm2;go_wp2_with (at_builtin;refine cX rfl _ _ rfl V5.heap.size (.slice vo NF vc) FK rfl (ae HF2) ⟨g9,0,none⟩ n2 c9 lo2 rfl HN2.out.symm (ae HCS) (ae HK2) hl4 (by rw [←HNN.out];omega) (by omega) ?_)
       intro gq cq wq hfq hgq haq;have HE2:Hid (FR wq V5.heap.size (.slice (some ⟨gq,0,none⟩) (FK.length+n2) cq) (bu S P A ch G Z (k+1))):=by rw [HNX.out, ←HM2.out];exact aa hfq
       have HGR2:Hid (V201.grownBy wq (some gF)):=aa (kU (cu HGR.out hb12) hgq HVB.out);have HVB2:Hid (∀g,(Value.slice (some ⟨gq,0,none⟩) (FK.length+n2) cq).ownBlock=some g→g=gF∨V201.heap.size≤g):=aa (fun g e=>by
        have e2:gq=g:=(by simpa [Value.ownBlock] using e);subst e2;rcases haq with h | h
        ·exact HVB.out _ h
        ·exact .inr (by omega))
       clear hfq hgq haq HF2 HCS HK2 HUB HNX HF;rw [←HNN.out]at HE2 HVB2⊢;go_wp2_with fail
       go_roundw
       case rel=>exact⟨k+1,by omega,by go_num,HE2,HVB2,HGR2⟩
       case measure=>simp [intOf];omega
      ·obtain rfl:k=Z.length:=(by omega);have hln2:=cr S P A ch G Z (by omega) (by omega) Z.length zr;have HCE:Hid (bu S P A ch G Z Z.length=fe S P A ch):=by rw [HCT.out];exact aa rfl
       rw [←HNG.out]at hln2;rw [HCE.out]at HF hln2;have HFS:=aa HF.out.fsAt;have HBe:Hid (Below w.heap.size w wr):=aa (HBz.out.grown HGR.out hsz (fun k e=>by cases e;omega));obtain⟨fo,fc,rfl⟩:=HF.out.slc;have HST:=aa (lV _ (fe S P A ch) wr HFS.out (by omega) (HSM.out (by omega) (by omega)));rw [←HLz.out]at HST;clear HF HVB HGR HFS;generalize (fe S P A ch).length=NC at*;go_wp2_with fail
       refine(ae HST).mono ?_;rintro e wz ⟨u,rfl,hu,hbz⟩;have HU:=aa hu;have HBf:=aa (HBe.out.trans (hbz.mono HBe.out.size));obtain⟨uo,uc,hus,_,_⟩:=hu;rw [hus]at HU⊢;clear hus hbz HST;generalize (cmL S P A ch).length=NL at*;go_wp2_with fail
       go_ret2;exact⟨_,by rw [HE.out];rfl,HU.out,HBf.out⟩
  ·have HE:Hid (cmE S P A ch=2):=by
    refine aa ?_;unfold cmE;rw [if_pos hm,if_neg (by omega)]
   have HLz:Hid (cmL S P A ch= []):=by
    refine aa ?_;unfold cmL;rw [if_neg (by rw [HE.out];decide)]
   rw [if_pos hm];clear hm;go_wp2_with fail
   all_goals go_ret2
   all_goals exact⟨_,by rw [HE.out];rfl,by rw [HLz.out];exact⟨none,0,rfl,fun _=>rfl,.inl rfl⟩,HB⟩
 ·replace hm:may S P A=false:=(by simpa using hm);have HE:Hid (cmE S P A ch=8):=by
   refine aa ?_;unfold cmE;rw [if_neg (by rw [hm];simp)]
  have HLz:Hid (cmL S P A ch= []):=by
   refine aa ?_;unfold cmL;rw [if_neg (by rw [HE.out];decide)]
  rw [hm];clear hm;go_wp2_with fail
  go_ret2;exact⟨_,by rw [HE.out];rfl,by rw [HLz.out];exact⟨none,0,rfl,fun _=>rfl,.inl rfl⟩,HB⟩
def dY (kind a n table:Int) (last:Bool):Bool:=
 if kind=1 then decide (0≤a∧a≤9)&&decide (0≤n∧n≤65535)
 else if kind=2 then decide (0≤a∧a≤9)&&decide (0≤n∧n≤9)
 else if kind=3 then decide (0≤a∧a≤9)&&(n==0)
 else if kind=4 then(a==0)&&decide (table+1≤n∧n≤7)&&last
 else if kind=5 then(a==0)&&decide (0≤n∧n≤65535)
 else if kind=6 then(a==0)&&decide (0≤n∧n≤5)
 else false
def fS (n:Int):Bool:=decide (0≤n∧n≤9)
def eI (n:Int):Bool:=decide (0≤n∧n≤7)
def gb (n:Int):Bool:=decide (0≤n∧n≤2000)
def bd (m:Mt):Bool:=fS m.f&&aV m.m&&aV m.v&&(mk m.v m.m==m.v)
def doB (t:Int) (ds:List Do) (j:Nat):Bool:=dY (ds.getD j do0).k (ds.getD j do0).a (ds.getD j do0).n t ((j:Int)+1==(ds.length:Int))
def aO (f:Fl):Int:=
 if 12<f.ms.length∨100<f.ds.length then 1 else if(eI f.t&&gb f.p)=false then 2 else if f.ms.all bd=false then 4 else
  if(List.range f.ds.length).all (doB f.t f.ds)=false then 4 else 0
def dz:List Fl→Int
 | []=>0
 | f::r=>if aO f=0 then dz r else aO f
def dJ (fs:List Fl):Int:=if 5000<fs.length then 1 else dz fs
theorem ru:∀(fs:List Fl) (k:Nat),k<fs.length→(∀j,j<k→aO (fs.getD j fl0)=0)→aO (fs.getD k fl0)≠0→dz fs=aO (fs.getD k fl0)
 | [],k,h,_,_=>by simp at h
 | f::r,0,_,_,hn=>by
  simp only [dz];rw [if_neg (by simpa using hn)];rfl
 | f::r,k+1,h,ha,hn=>by
  have h0:=ha 0 (by omega);simp only [dz];rw [if_pos (by simpa using h0)];have:=ru r k (by simpa using h) (fun j hj=>by simpa using ha (j+1) (by omega)) (by simpa using hn);simpa using this
theorem m8:∀(fs:List Fl),(∀j,j<fs.length→aO (fs.getD j fl0)=0)→dz fs=0
 | [],_=>rfl
 | f::r,h=>by
  simp only [dz];rw [if_pos (by simpa using h 0 (by simp))];exact m8 r (fun j hj=>by simpa using h (j+1) (by simpa using hj))
theorem eL {f:Fl} (h:12<f.ms.length∨100<f.ds.length):aO f=1:=by unfold aO;rw [if_pos h]
theorem jD {f:Fl} (h:¬(12<f.ms.length∨100<f.ds.length)) (h2:(eI f.t&&gb f.p)=false):aO f=2:=by unfold aO;rw [if_neg h,if_pos h2]
theorem m4 {f:Fl} (h:¬(12<f.ms.length∨100<f.ds.length)) (h2:(eI f.t&&gb f.p)=true) (h3:f.ms.all bd=true) (h4:∀j,j<f.ds.length→doB f.t f.ds j=true):aO f=0:=by
 have:(List.range f.ds.length).all (doB f.t f.ds)=true:=by
  rw [List.all_eq_true];intro j hj;exact h4 j (List.mem_range.1 hj)
 unfold aO;rw [if_neg h,if_neg (by simp [h2]),if_neg (by simp [h3]),if_neg (by simp [this])]
theorem pg {n:Int} (h0:0≤n) (h1:n≤65535):mk n 65535=n:=by
 obtain⟨a,rfl⟩:=Int.eq_ofNat_of_zero_le h0;unfold mk;have e:((65535:Int).toNat)=2 ^ 16-1:=rfl;rw [e,Int.toNat_natCast,Nat.and_two_pow_sub_one_eq_mod,Nat.mod_eq_of_lt (by omega)]
theorem pS {v k:Nat} (hk:k≤16) (hv:v<2 ^ 16) (hd:v%2 ^ k=0):v&&& (2 ^ 16-2 ^ k)=v:=by
 have hp:0<2 ^ k:=Nat.two_pow_pos k;have e:2 ^ 16-2 ^ k=2 ^ 16-((2 ^ k-1)+1):=by omega
 rw [e];refine Nat.eq_of_testBit_eq fun j=>?_;have hlt:2 ^ k-1<2 ^ 16:=by
  have:=Nat.pow_le_pow_right (show 0<2 by decide) hk;omega
 rw [Nat.testBit_and,Nat.testBit_two_pow_sub_succ hlt,Nat.testBit_two_pow_sub_one];by_cases hj:j<16
 ·by_cases hjk:j<k
  ·have:v.testBit j=false:=by
    obtain⟨q,rfl⟩:=Nat.dvd_of_mod_eq_zero hd;rw [Nat.testBit_two_pow_mul];simp;omega
   simp [this]
  ·simp [hj,hjk]
 ·have:v.testBit j=false:=Nat.testBit_lt_two_pow (Nat.lt_of_lt_of_le hv (Nat.pow_le_pow_right (by decide) (by omega)));simp [this]
theorem bj {f v:Int} (h0:0≤f) (h1:f≤9) (h2:0≤v) (h3:v≤65535):bd (isM f v)=true:=by
 unfold bd isM fS aV;simp only;rw [pg h2 h3,Bool.and_eq_true,Bool.and_eq_true,Bool.and_eq_true];exact⟨⟨⟨decide_eq_true (by omega),decide_eq_true (by omega)⟩,decide_eq_true (by omega)⟩,by simp⟩
theorem pN {f v b:Int} (h0:0≤f) (h1:f≤9) (h2:0≤v) (h3:v≤65535) (h4:0≤b) (h5:b≤16) (h6:cG v b=true):bd (hiM f v b)=true:=by
 obtain⟨n,rfl⟩:=Int.eq_ofNat_of_zero_le h4;obtain⟨a,rfl⟩:=Int.eq_ofNat_of_zero_le h2;have hk:((16:Int)-(n:Int)).toNat=16-n:=by omega
 have hn:n≤16:=by omega
 have hpow:2 ^ 16=2 ^ (16-n)*2 ^ n:=by rw [←Nat.pow_add];congr 1;omega
 have hd:a%2 ^ (16-n)=0:=by
  have h:=h6;simp only [cG,Int.toNat_natCast,beq_iff_eq]at h;have e:(65536:Int)/2 ^ n=((2 ^ (16-n):Nat):Int):=by
   have:(65536:Int)=((2 ^ (16-n)*2 ^ n:Nat):Int):=by rw [←hpow];rfl
   rw [this,Int.natCast_mul];rw [show((2 ^ n:Nat):Int)=(2:Int) ^ n by simp];exact Int.mul_ediv_cancel _ (by have:(0:Int)<2 ^ n:=Int.pow_pos (by decide);omega)
  rw [e]at h
  exact_mod_cast h
 have hm:=pS (v:=a) (k:=16-n) (by omega) (by omega) hd;have hle:2 ^ (16-n)≤2 ^ 16:=Nat.pow_le_pow_right (by decide) (by omega);have hpos:0<2 ^ (16-n):=Nat.two_pow_pos _;have hmask:(65536:Int)-2 ^ (16-n)=((2 ^ 16-2 ^ (16-n):Nat):Int):=by
  rw [Int.ofNat_sub hle];simp
 simp only [bd,hiM,hk,hmask,mk,Int.toNat_natCast,hm];have:((2 ^ 16-2 ^ (16-n):Nat):Int)≤65535:=by omega
 simp [fS,aV];omega
def ix (d:Do):Prop:=∀t last,dY d.k d.a d.n t last=true
theorem dG {a n:Int} (h0:0≤a) (h1:a≤9) (h2:0≤n) (h3:n≤65535):ix ⟨1,a,n⟩:=fun t last=>by simp [dY];omega
theorem copy_any' {a n:Int} (h0:0≤a) (h1:a≤9) (h2:0≤n) (h3:n≤9):ix ⟨2,a,n⟩:=fun t last=>by simp [dY];omega
theorem qo {a:Int} (h0:0≤a) (h1:a≤9):ix ⟨3,a,0⟩:=fun t last=>by simp [dY];omega
theorem rk {n:Int} (h2:0≤n) (h3:n≤65535):ix ⟨5,0,n⟩:=fun t last=>by simp [dY];omega
theorem nI {n:Int} (h2:0≤n) (h3:n≤5):ix ⟨6,0,n⟩:=fun t last=>by simp [dY];omega
theorem cT {t:Int} {ds:List Do} (h:∀d∈ds,ix d):∀j,j<ds.length→doB t ds j=true:=fun j hj=>by
 unfold doB;refine h _ ?_ _ _;rw [List.getD_eq_getElem?_getD,List.getElem?_eq_getElem hj];exact List.getElem_mem _
theorem eD {t n:Int} {ds:List Do} (h:∀d∈ds,ix d) (h0:t<n) (h1:n≤7):∀j,j<(ds++ [aW n]).length→doB t (ds++ [aW n]) j=true:=fun j hj=>by
 rw [List.length_append,List.length_singleton]at hj;by_cases hl:j=ds.length
 ·subst hl;unfold doB;rw [show(ds++ [aW n]).getD ds.length do0=aW n by simp [List.getD]];simp [dY,aW];exact decide_eq_true (by omega)
 ·have hj':j<ds.length:=(by omega);unfold doB;rw [show(ds++ [aW n]).getD j do0=ds.getD j do0 by simp [List.getD,List.getElem?_append_left hj']];refine h _ ?_ _ _;rw [List.getD_eq_getElem?_getD,List.getElem?_eq_getElem hj'];exact List.getElem_mem _
theorem ep {t p:Int} {ms:List Mt} {ds:List Do} (ht0:0≤t) (ht1:t≤7) (hp0:0≤p) (hp1:p≤2000) (hm:ms.length≤12) (hd:ds.length≤100) (hms:∀m∈ms,bd m=true) (hds:∀j,j<ds.length→doB t ds j=true):aO ⟨t,p,ms,ds⟩=0:=by
 refine m4 ?_ ?_ ?_ hds
 ·simp only;omega
 ·simp [eI,gb];omega
 ·simp only [List.all_eq_true];exact hms
def mr (p:Pr):Prop:=(1≤p.i∧p.i≤999)∧(1≤p.s∧p.s≤500)∧(1≤p.m∧p.m≤59999)∧(1≤p.p∧p.p≤65535)∧ -1≤p.c∧p.c≤5
theorem cJ {l:List Mt} {x:Mt} {P:Mt→Prop} (h:P x) (hl:∀m∈l,P m):∀m∈x::l,P m:=fun m hm=>by
 rcases List.mem_cons.1 hm with rfl | hm
 ·exact h
 ·exact hl m hm
theorem io {a b:List Mt} {P:Mt→Prop} (ha:∀m∈a,P m) (hb:∀m∈b,P m):∀m∈a++b,P m:=fun m hm=>by
 rcases List.mem_append.1 hm with h | h
 ·exact ha m h
 ·exact hb m h
theorem cS {P:Mt→Prop}:∀m∈([]:List Mt),P m:=fun m hm=>by cases hm
theorem fC {l:List Do} {x:Do} {P:Do→Prop} (h:P x) (hl:∀m∈l,P m):∀m∈x::l,P m:=fun m hm=>by
 rcases List.mem_cons.1 hm with rfl | hm
 ·exact h
 ·exact hl m hm
theorem ew {P:Do→Prop}:∀m∈([]:List Do),P m:=fun m hm=>by cases hm
theorem sh {a b:List Do} {P:Do→Prop} (ha:∀m∈a,P m) (hb:∀m∈b,P m):∀m∈a++b,P m:=fun m hm=>by
 rcases List.mem_append.1 hm with h | h
 ·exact ha m h
 ·exact hb m h
theorem pR {v:Int} (hv:v=65280∨v=65534):bd ⟨6,v,0⟩=true:=by
 rcases hv with rfl | rfl <;>decide
theorem ko:∀m∈cv,bd m=true:=cJ (bj (by decide) (by decide) (by decide) (by decide)) (cJ (pR (.inl rfl)) cS)
theorem jY {k:Int} (h0:0≤k) (h1:k≤65535):∀m∈cP k,bd m=true:=cJ (bj (by decide) (by decide) h0 h1) (cJ (bj (by decide) (by decide) (by decide) (by decide)) (cJ (bj (by decide) (by decide) (by decide) (by decide)) cS))
theorem kp {p:Pr} (h:mr p):∀m∈bE p,bd m=true:=by
 obtain⟨⟨a0,a1⟩,⟨b0,b1⟩,⟨c0,c1⟩,⟨d0,d1⟩,e0,e1⟩:=h;exact cJ (bj (by decide) (by decide) (by omega) (by omega)) (cJ (bj (by decide) (by decide) (by decide) (by decide)) (cJ (bj (by decide) (by decide) (by decide) (by decide)) (cJ (bj (by decide) (by decide) (by omega) (by omega)) (cJ (bj (by decide) (by decide) (by omega) (by omega)) cS))))
theorem gS {p:Pr} (h:mr p) (hs:bg p=true):∀d∈aD p,ix d:=by
 obtain⟨⟨a0,a1⟩,⟨b0,b1⟩,⟨c0,c1⟩,⟨d0,d1⟩,e0,e1⟩:=h;have hs':p.c≠ -1:=by simpa [bg] using hs
 exact fC (dG (by decide) (by decide) (by omega) (by omega)) (fC (nI (by omega) (by omega)) ew)
theorem mW:∀f∈tunnelFl,aO f=0:=by
 intro f hf;simp only [tunnelFl,List.mem_cons,List.not_mem_nil,or_false]at hf;rcases hf with rfl | rfl
 ·exact ep (by decide) (by decide) (by decide) (by decide) (by decide) (by decide) (io ko (cJ (bj (by decide) (by decide) (by decide) (by decide)) cS)) (eD (ds:=[]) ew (by decide) (by decide))
 ·exact ep (by decide) (by decide) (by decide) (by decide) (by decide) (by decide) (io (jY (by decide) (by decide)) (cJ (bj (by decide) (by decide) (by decide) (by decide)) cS)) (eD (ds:=[]) ew (by decide) (by decide))
theorem lS (l:List Pr):(l.flatMap aD).length=2*l.length:=by
 induction l with
 | nil=>rfl
 | cons x r ih=>simp [aD]at ih⊢;omega
theorem pV {P:List Pr} (hP:∀p∈P,mr p) (hl:P.length≤40) {p:Pr} (hp:mr p):∀f∈cH P p,aO f=0:=by
 obtain⟨⟨a0,a1⟩,⟨b0,b1⟩,⟨c0,c1⟩,⟨d0,d1⟩,e0,e1⟩:=hp;have hp:mr p:=⟨⟨a0,a1⟩,⟨b0,b1⟩,⟨c0,c1⟩,⟨d0,d1⟩,e0,e1⟩;intro f hf;simp only [cH,List.mem_cons,List.not_mem_nil,or_false]at hf;rcases hf with rfl | rfl | rfl | rfl | rfl | rfl
 ·exact ep (by decide) (by decide) (by decide) (by decide) (by simp [bE,cv]) (by simp) (io (kp hp) ko) (eD (ds:=[_]) (fC (dG (by decide) (by decide) (by omega) (by omega)) ew) (by decide) (by decide))
 ·exact ep (by decide) (by decide) (by decide) (by decide) (by simp [bE,cP]) (by simp) (io (kp hp) (jY (by decide) (by decide))) (eD (ds:=[_]) (fC (dG (by decide) (by decide) (by omega) (by omega)) ew) (by decide) (by decide))
 ·exact ep (by decide) (by decide) (by decide) (by decide) (by simp) (by simp) (cJ (bj (by decide) (by decide) (by omega) (by omega)) (cJ (bj (by decide) (by decide) (by omega) (by omega)) cS)) (cT ew)
 ·exact ep (by decide) (by decide) (by decide) (by decide) (by simp) (by simp) (cJ (bj (by decide) (by decide) (by omega) (by omega)) (cJ (bj (by decide) (by decide) (by omega) (by omega)) cS)) (cT ew)
 ·refine ep (by decide) (by decide) (by decide) (by decide) (by simp) ?_ (cJ (bj (by decide) (by decide) (by omega) (by omega)) (cJ (bj (by decide) (by decide) (by decide) (by decide)) cS)) (cT fun d hd=>?_)
  ·rw [lS];have:=List.length_filter_le (bR p) P;omega
  ·obtain⟨q,hq,hd⟩:=List.mem_flatMap.1 hd;obtain⟨hq1,hq2⟩:=List.mem_filter.1 hq;exact gS (hP q hq1) (by simp only [bR,Bool.and_eq_true]at hq2;exact hq2.2) d hd
 ·exact ep (by decide) (by decide) (by decide) (by decide) (by simp) (by simp) (cJ (bj (by decide) (by decide) (by omega) (by omega)) (cJ (bj (by decide) (by decide) (by omega) (by omega)) cS)) (cT (fC (rk (by omega) (by omega)) ew))
theorem nR {s ip mac ch:Int} (s0:0≤s) (s1:s≤65535) (i0:0≤ip) (i1:ip≤65535) (m0:0≤mac) (m1:mac≤65535) (c0:0≤ch) (c1:ch≤5):aO (bz s ip mac ch)=0:=
 ep (by decide) (by decide) (by decide) (by decide) (by simp) (by simp [ky]) (cJ (bj (by decide) (by decide) s0 s1) (cJ (bj (by decide) (by decide) i0 i1) cS))
  (cT (fC (dG (by decide) (by decide) (by decide) (by decide)) (fC (copy_any' (by decide) (by decide) (by decide) (by decide)) (fC (dG (by decide) (by decide) m0 m1) (fC (copy_any' (by decide) (by decide) (by decide) (by decide)) (fC (dG (by decide) (by decide) i0 i1) (fC (copy_any' (by decide) (by decide) (by decide) (by decide)) (fC (nI c0 c1) ew))))))))
theorem oD {r:Ac} (h1:dP r=true) (h2:(cG r.src r.sb&&cG r.dst r.db)=true):∀m∈bl r,bd m=true:=by
 simp only [dP,inB,Bool.and_eq_true,decide_eq_true_eq]at h1 h2;obtain⟨⟨⟨⟨⟨a,b⟩,c⟩,d⟩,e⟩,f⟩:=h1;unfold bl;refine io (cJ (pN (by decide) (by decide) b.1 b.2 d.1 d.2 h2.1) (cJ (pN (by decide) (by decide) c.1 c.2 e.1 e.2 h2.2) cS)) ?_;split
 ·exact cS
 ·exact cJ (bj (by decide) (by decide) (by omega) (by omega)) cS
theorem kl {R:List Ac} (hR:∀r∈R,dP r=true∧(cG r.src r.sb&&cG r.dst r.db)=true) (hl:R.length≤40) {s t n:Int} (s0:0≤s) (s1:s≤65535) (t0:0≤t) (t1:t<n) (n1:n≤7):∀f∈cw R s t n,aO f=0:=by
 intro f hf;unfold cw at hf;have hg:=eD (ds:=[]) ew t1 n1;rcases List.mem_cons.1 hf with rfl | hf
 ·exact ep t0 (by omega) (by decide) (by decide) (by simp) (by simp) (cJ (bj (by decide) (by decide) s0 s1) cS) hg
 ·obtain⟨i,hi,rfl⟩:=List.mem_map.1 hf;rw [List.mem_range]at hi;have hr:=hR (R.getD i ac0) (by rw [List.getD_eq_getElem?_getD,List.getElem?_eq_getElem hi];exact List.getElem_mem _);unfold gV;refine ep t0 (by omega) (by omega) (by omega) ?_ ?_ (io (oD hr.1 hr.2) (cJ (bj (by decide) (by decide) s0 s1) cS)) ?_
  ·rw [List.length_append];unfold bl;split <;>simp
  ·split <;>simp
  ·split
   ·exact cT ew
   ·exact hg
theorem nu {P:List Pr} (hP:∀p∈P,mr p) {s:Sw} (s0:0≤s.i) (s1:s.i≤500):∀f∈cL P s,aO f=0:=by
 intro f hf;obtain⟨p,hp,rfl⟩:=List.mem_map.1 hf;obtain⟨hp1,hp2⟩:=List.mem_filter.1 hp;have h:=hP p hp1;obtain⟨⟨a0,a1⟩,⟨b0,b1⟩,⟨c0,c1⟩,⟨d0,d1⟩,e0,e1⟩:=h;simp only [Bool.and_eq_true]at hp2;exact ep (by decide) (by decide) (by decide) (by decide) (by simp) (by simp [aD]) (cJ (bj (by decide) (by decide) s0 (by omega)) (cJ (bj (by decide) (by decide) (by omega) (by omega)) cS)) (cT (gS (hP p hp1) hp2.2))
theorem oy {S:List Sw} {P:List Pr} (hP:∀p∈P,mr p) {s:Sw} (s0:0≤s.i) (s1:s.i≤500):∀f∈cC S P s,aO f=0:=by
 intro f hf;unfold cC at hf;have hm:∀m∈bC s,bd m=true:=cJ (bj (by decide) (by decide) s0 (by omega)) (cJ (bj (by decide) (by decide) (by omega) (by omega)) cS);split at hf
 ·cases hf
 ·rcases List.mem_cons.1 hf with rfl | hf
  ·exact ep (by decide) (by decide) (by decide) (by decide) (by simp [bC]) (by simp) (io hm (cJ (pR (.inr rfl)) cS)) (cT ew)
  ·obtain⟨p,hp,rfl⟩:=List.mem_map.1 hf;obtain⟨hp1,hp2⟩:=List.mem_filter.1 hp;have h:=hP p hp1;obtain⟨⟨a0,a1⟩,⟨b0,b1⟩,⟨c0,c1⟩,⟨d0,d1⟩,e0,e1⟩:=h;simp only [Bool.and_eq_true]at hp2;exact ep (by decide) (by decide) (by decide) (by decide) (by simp [bC]) (by simp [cV,aD]) (io hm (cJ (bj (by decide) (by decide) (by omega) (by omega)) cS)) (cT (sh (fC (dG (by decide) (by decide) (by omega) (by omega)) (fC (dG (by decide) (by decide) (by omega) (by omega)) (fC (qo (by decide) (by decide)) (fC (dG (by decide) (by decide) (by omega) (by omega)) ew)))) (gS (hP p hp1) hp2.2)))
theorem ga {S:List Sw} {P:List Pr} {A:List Ac} {ch:Int} (h:may S P A=true) (c0:0≤ch) (c1:ch≤5):∀f∈fe S P A ch,aO f=0:=by
 obtain⟨hs,hp,ha⟩:=dN h;have hP:∀p∈P,mr p:=(gX hs hp).2;have hl:=(gX hs hp).1;have hR:∀b s,∀r∈aZ (bf A s b),dP r=true∧(cG r.src r.sb&&cG r.dst r.db)=true:=fun b s r hr=>by
  have:r∈bf A s b:=by
   unfold aZ at hr;rw [kE,fA,fA, ←List.mem_append,List.take_append_drop]at hr;exact hr
  have:=(ik ha).2 r (List.mem_filter.1 this).1;exact⟨this.1,this.2.1⟩
 have hRl:∀b s,(aZ (bf A s b)).length≤40:=fun b s=>by
  have h1:(bf A s b).length≤A.length:=List.length_filter_le _ _;have h2:=(ik ha).1;unfold aZ;rw [iJ,aN,aN,List.length_take,List.length_drop];omega
 intro f hf;unfold fe at hf;rcases List.mem_append.1 hf with hf | hf
 ·rcases List.mem_append.1 hf with hf | hf
  ·exact mW f hf
  ·obtain⟨p,hp1,hf⟩:=List.mem_flatMap.1 hf;exact pV hP hl (hP p (List.mem_filter.1 hp1).1) f hf
 ·obtain⟨s,hs1,hf⟩:=List.mem_flatMap.1 hf;have hsi:=(ii hs).2 s (List.mem_filter.1 hs1).1;obtain⟨⟨i0,i1⟩,_,g0,g1⟩:=hsi;unfold ck at hf;rcases List.mem_append.1 hf with hf | hf
  ·rcases List.mem_append.1 hf with hf | hf
   ·rcases List.mem_append.1 hf with hf | hf
    ·rcases List.mem_append.1 hf with hf | hf
     ·unfold fH at hf;rcases List.mem_append.1 hf with hf | hf
      ·split at hf
       ·cases hf
       ·rw [List.mem_singleton.1 hf];exact nR (by omega) (by omega) g0 g1 (by omega) (by omega) c0 c1
      ·obtain⟨p,hp1,rfl⟩:=List.mem_map.1 hf;obtain⟨⟨a0,a1⟩,⟨b0,b1⟩,⟨x0,x1⟩,⟨d0,d1⟩,e0,e1⟩:=hP p (List.mem_filter.1 hp1).1;exact nR (by omega) (by omega) (by omega) (by omega) (by omega) (by omega) c0 c1
     ·exact kl (hR _ _) (hRl _ _) (by omega) (by omega) (by decide) (by decide) (by decide) f hf
    ·exact nu hP (by omega) i1 f hf
   ·exact oy hP (by omega) i1 f hf
  ·exact kl (hR _ _) (hRl _ _) (by omega) (by omega) (by decide) (by decide) (by decide) f hf
theorem mG {S:List Sw} {P:List Pr} {A:List Ac} {ch:Int} (h:cmE S P A ch=0):may S P A=true∧0≤ch∧ch≤5:=by
 unfold cmE at h;by_cases hm:may S P A=true
 ·rw [if_pos hm]at h;by_cases hc:0≤ch∧ch≤5
  ·exact⟨hm,hc⟩
  ·rw [if_neg hc]at h;omega
 ·rw [if_neg hm]at h;omega
theorem ph {S:List Sw} {P:List Pr} {A:List Ac} (ch:Int) (h:may S P A=true):(fe S P A ch).length≤10000:=by
 obtain⟨h1,h2,h3⟩:=dN h;have a1:=(ii h1).1;have a2:=(gX h1 h2).1;have a3:=(ik h3).1;rw [iQ];have b1:=eh P (P.filter (cl ch)) (P.filter (cl ch)).length;have b2:=List.length_filter_le (cl ch) P;have b3:=List.length_filter_le (fun s:Sw=>(P.filter (cl ch)).any (cn s.i)) S;have b4:=cr S P A ch (bG P (P.filter (cl ch)) (P.filter (cl ch)).length) (S.filter fun s=>(P.filter (cl ch)).any (cn s.i)) a2 a3 _ zr;omega
theorem jd {f:Fl} (h:aO f=0):rl f:=by
 by_cases hs:12<f.ms.length∨100<f.ds.length
 ·rw [eL hs]at h;omega
 ·exact⟨by omega,by omega⟩
theorem rU {S:List Sw} {P:List Pr} {A:List Ac} {ch:Int} (h:cmE S P A ch=0):(Srt (cmL S P A ch)∧(cmL S P A ch).length≤100000)∧Few (cmL S P A ch):=by
 obtain⟨hm,c0,c1⟩:=mG h;have hl:=ph ch hm;have hf:Few (fe S P A ch):=⟨by omega,fun f hf=>jd (ga hm c0 c1 f hf)⟩;unfold cmL;rw [if_pos h];have:=eO (fe S P A ch) (fe S P A ch).length;exact⟨⟨(iO _ _ zr).1,by omega⟩,hf.srt⟩
theorem qQ {S:List Sw} {P:List Pr} {A:List Ac} {ch:Int} (h:cmE S P A ch=0):dJ (cmL S P A ch)=0:=by
 obtain⟨hm,c0,c1⟩:=mG h;have hl:(cmL S P A ch).length≤5000:=by
  obtain⟨h1,h2,h3⟩:=dN hm;have a1:=(ii h1).1;have a2:=(gX h1 h2).1;have a3:=(ik h3).1;have b1:=eh P (P.filter (cl ch)) (P.filter (cl ch)).length;have b2:=List.length_filter_le (cl ch) P;have b3:=List.length_filter_le (fun s:Sw=>(P.filter (cl ch)).any (cn s.i)) S;have b4:=cr S P A ch (bG P (P.filter (cl ch)) (P.filter (cl ch)).length) (S.filter fun s=>(P.filter (cl ch)).any (cn s.i)) a2 a3 _ zr;have b5:=eO (fe S P A ch) (fe S P A ch).length;rw [iQ]at b5;unfold cmL;rw [if_pos h,iQ];omega
 unfold dJ;rw [if_neg (by omega)];refine m8 _ fun j hj=>ga hm c0 c1 _ ?_;have:(cmL S P A ch).getD j fl0∈cmL S P A ch:=by
  rw [List.getD_eq_getElem?_getD,List.getElem?_eq_getElem hj];exact List.getElem_mem _
 unfold cmL at this⊢;rw [if_pos h]at this⊢;exact(rF _ _).1 this
theorem pP {S:List Sw} {P:List Pr} {A:List Ac} {ch:Int} (hm:may S P A=true) (h0:0≤ch) (h1:ch≤5):cmE S P A ch=0:=by
 unfold cmE;rw [if_pos hm,if_pos ⟨h0,h1⟩]
theorem gG (n:Int) (w:World):
  Calls Tryz.prog 112 #[.int .i64 n] w fun e w'=>e= .returned (.bool (fS n))∧w'=w:=by
 go_enter Tryz.func112,Tryz.ntmps112;go_wp2
 all_goals go_ret
 all_goals refine⟨aC ?_,rfl⟩
 all_goals (unfold fS;rw [Bool.eq_iff_iff];simp_all;try omega)
theorem mZ (kind a n table:Int) (w:World):
  Calls Tryz.prog 113 #[.agg #[.int .i64 kind,.int .i64 a,.int .i64 n],.int .i64 table] w fun e w'=>e= .returned (.bool (dY kind a n table true))∧Below w.heap.size w w':=by
 have HI:=aa gG;have HJ:=aa aH;have hcase:kind=1∨kind=2∨kind=3∨kind=4∨kind=5∨kind=6∨(¬kind=1∧¬kind=2∧¬kind=3∧¬kind=4∧¬kind=5∧¬kind=6):=by omega
 rcases hcase with rfl | rfl | rfl | rfl | rfl | rfl |⟨h1,h2,h3,h4,h5,h6⟩
 all_goals
  go_enter Tryz.func113,Tryz.ntmps113;go_wp2_with (first |(go_at_call 112;refine(ae HI _ _).mono ?_;rintro e w' ⟨rfl,rfl⟩) |(go_at_call 63;refine(ae HJ _ _).mono ?_;rintro e w' ⟨rfl,rfl⟩))
  all_goals go_ret
  all_goals refine⟨aC ?_,(Below.refl _ _).alloc zr _⟩
  all_goals (unfold dY;simp_all [fS,aV];try (first |(intros;omega) |(rw [Bool.eq_iff_iff];simp;omega)))
theorem lF (x y:BitVec 64):x&&& ~~~y=0#64↔x&&& y=x:=by
 constructor
 ·intro h;apply BitVec.eq_of_getLsbD_eq;intro i hi;have:=congrArg (fun z=>BitVec.getLsbD z i) h;simp [hi]at this;simp [hi];exact this
 ·intro h;apply BitVec.eq_of_getLsbD_eq;intro i hi;have:=congrArg (fun z=>BitVec.getLsbD z i) h;simp [hi]at this;simp [hi];exact this
theorem jv (a:Nat) (h:a≤65535):(BitVec.ofInt 64 (a:Int)).toNat=a:=by
 simp;omega
theorem lO (v m:Int) (hv:aV v=true) (hm:aV m=true):(bits .andNot .i64 v m==0)=(mk v m==v):=by
 unfold aV at hv hm;simp at hv hm;obtain⟨a,rfl⟩:=Int.eq_ofNat_of_zero_le hv.1;obtain⟨b,rfl⟩:=Int.eq_ofNat_of_zero_le hm.1;have ha:=jv a (by omega);have hb:=jv b (by omega);show(IntKind.i64.wrap ((BitVec.ofInt 64 (a:Int)&&& ~~~BitVec.ofInt 64 (b:Int)).toNat:Int)==0)=_;generalize BitVec.ofInt 64 (a:Int)=X at ha⊢;generalize BitVec.ofInt 64 (b:Int)=Y at hb⊢;have hle:(X&&& ~~~Y).toNat≤a:=by rw [BitVec.toNat_and,ha];exact Nat.and_le_left
 rw [bn _ (by omega) (by omega)];have e1:(X&&& ~~~Y).toNat=0↔(X&&& Y).toNat=X.toNat:=by
  have h:=lF X Y;rw [←BitVec.toNat_inj, ←BitVec.toNat_inj]at h;simpa using h
 rw [BitVec.toNat_and (x:=X) (y:=Y),ha,hb]at e1;unfold mk;rw [Bool.eq_iff_iff,beq_iff_eq,beq_iff_eq,Int.toNat_natCast,Int.toNat_natCast];constructor
 ·intro h;rw [e1.1 (by exact_mod_cast h)]
 ·intro h;rw [e1.2 (by exact_mod_cast h)];rfl
theorem lp (f m v:Int) (w:World):
  Calls Tryz.prog 66 #[.agg #[.int .i64 f,.int .i64 m,.int .i64 v]] w fun e w'=>e= .returned (.bool (bd ⟨f,m,v⟩))∧Below w.heap.size w w':=by
 have HI:=aa gG;have HJ:=aa aH;have HR:Hid (bd ⟨f,m,v⟩=(fS f&&aV m&&aV v&&(mk v m==v))):=rfl;generalize bd ⟨f,m,v⟩=R at HR⊢;go_enter Tryz.func66,Tryz.ntmps66;go_wp2_with (first |(go_at_call 112;refine(ae HI _ _).mono ?_;rintro e w' ⟨rfl,rfl⟩) |(go_at_call 63;refine(ae HJ _ _).mono ?_;rintro e w' ⟨rfl,rfl⟩))
 all_goals go_ret
 all_goals refine⟨aC ?_,(Below.refl _ _).alloc zr _⟩
 all_goals (rw [HR.out];try simp_all)
 all_goals (apply lO <;>assumption)
theorem mo (f m v:Int) (w:World):
  Calls Tryz.prog 65 #[.agg #[.int .i64 f,.int .i64 m,.int .i64 v]] w fun e w'=>e= .returned (.bool (!bd ⟨f,m,v⟩))∧Below w.heap.size w w':=by
 have HI:=aa (lp f m v);generalize bd ⟨f,m,v⟩=R at HI⊢;go_enter Tryz.func65,Tryz.ntmps65;go_wp2_with fail
 refine(ae HI _).mono ?_;rintro e w1 ⟨rfl,hb1⟩;go_wp2_with fail
 go_ret;exact⟨rfl,by simpa using (by first | exact hb1 | exact((Below.refl _ _).alloc zr _).trans (hb1.mono (by simp)))⟩
theorem mB (v:Value) (ms:List Mt) (w:World) (hM:MsAt w v ms) (hl:ms.length≤12):
  Calls Tryz.prog 111 #[v,.func (.func 65) #[] #[]] w fun e w'=>∃r:Int,e= .returned (.int .i64 r)∧decide (0≤r)= !ms.all bd∧Below w.heap.size w w':=by
 obtain⟨a,cap,rfl,hn,hL⟩:=hM;go_enter Tryz.func111,Tryz.ntmps111;go_wp2_with fail
 go_loopw [8] (fun i wr=>∃k:Nat,k≤ms.length∧i= .int .i64 k∧(∀j,j<k→bd (ms.getD j mt0)=true)∧Below w.heap.size w wr) (fun i _=>ms.length-(intOf i).toNat)
 case atStart=>exact⟨0,by omega,rfl,fun j h=>absurd h (by omega),Below.refl _ _⟩
 case round=>
  obtain⟨k,hk,rfl,hall,hbel⟩:=hrel;have HALL:=aa hall;clear hall;by_cases hlt:k<ms.length
  ·obtain⟨b,off,rfl,hcap,hcell⟩:∃b off,a=some ⟨b,off,none⟩∧ms.length≤cap∧∀i,i<ms.length→w.cell? ⟨b,off+i*3,none⟩=some (.int .i64 (ms.getD i mt0).f)∧w.cell? ⟨b,off+i*3+1,none⟩=some (.int .i64 (ms.getD i mt0).m)∧w.cell? ⟨b,off+i*3+2,none⟩=some (.int .i64 (ms.getD i mt0).v):=by
    rcases hL with h0 | h
    ·omega
    ·exact h
   obtain⟨g0,g1,g2⟩:=hcell k hlt;have m0':=ag g0 hbel zr;have m1':=ag g1 hbel zr;have m2':=ag g2 hbel zr;have hsz:=hbel.size;have HX:Hid (bd (ms.getD k mt0)=true→∀x,x<k+1→bd (ms.getD x mt0)=true):=fun h x hx=>by
    by_cases e:x=k
    ·subst e;exact h
    ·exact HALL.out x (by omega)
   have HF:Hid (bd (ms.getD k mt0)=false→ms.all bd=false):=fun h=>by
    rw [List.all_eq_false];exact⟨ms[k],List.getElem_mem hlt,by simpa [List.getD,List.getElem?_eq_getElem hlt] using h⟩
   have HC:Hid (∀W:World,Calls Tryz.prog 65 #[.agg #[.int .i64 (ms.getD k mt0).f,.int .i64 (ms.getD k mt0).m,.int .i64 (ms.getD k mt0).v]] W fun e w'=>e= .returned (.bool (!bd (ms.getD k mt0)))∧Below W.heap.size W w'):=fun W=>mo _ _ _ W;clear g0 g1 g2 hcell hL HALL;generalize (ms.getD k mt0)=M at*;by_cases hx:bd M=true
   ·have HR:=aa (HX.out hx);rw [hx]at HC;clear HX HF hx;go_wp2_with fail
    refine(ae HC _).mono ?_;rintro e w1 ⟨rfl,hb1⟩;have hb2:=hbel.trans (hb1.mono hsz);go_wp2_with fail
    go_roundw
    case rel=>exact⟨k+1,by omega,by go_num,HR.out,hb2⟩
    case measure=>simp [intOf];omega
   ·have hx':bd M=false:=(by simpa using hx);have HR:=aa (HF.out hx');rw [hx']at HC;clear HX HF hx hx';go_wp2_with fail
    refine(ae HC _).mono ?_;rintro e w1 ⟨rfl,hb1⟩;have hb2:=hbel.trans (hb1.mono hsz);go_wp2_with fail
    go_ret;exact⟨_,rfl,by rw [HR.out];simp,hb2⟩
  ·have HR:Hid (ms.all bd=true):=by
    refine aa ?_;rw [List.all_eq_true];intro x hx;obtain⟨i,hi,rfl⟩:=List.getElem_of_mem hx;have:=HALL.out i (by omega);simpa [List.getD,List.getElem?_eq_getElem hi] using this
   clear hL HALL;go_wp2_with fail
   go_ret;exact⟨_,rfl,by rw [HR.out];simp,hbel⟩
theorem je (v:Value) (ms:List Mt) (w:World) (hM:MsAt w v ms) (hl:ms.length≤12):
  Calls Tryz.prog 64 #[v,.func (.func 65) #[] #[]] w fun e w'=>e= .returned (.bool (!ms.all bd))∧Below w.heap.size w w':=by
 have HM:=aa hM;obtain⟨a,cap,rfl,hn,hL⟩:=hM;clear hL;go_enter Tryz.func64,Tryz.ntmps64;go_wp2_with fail
 refine(mB _ ms _ HM.out hl).mono ?_;rintro e w1 ⟨r,rfl,hr,hb1⟩;have HRR:=aa hr;clear hr;go_wp2_with fail
 go_ret;exact⟨aC HRR.out,hb1⟩
theorem oJ (f:Fl) (mv v:Value) (w:World) (hD:DsAt w v f.ds) (hl:f.ds.length≤100):
  Calls Tryz.prog 67 #[.agg #[.int .i64 f.t,.int .i64 f.p,mv,v]] w fun e w'=>e= .returned (.bool ((List.range f.ds.length).all (doB f.t f.ds)))∧Below w.heap.size w w':=by
 have HDS:=aa hD;obtain⟨a,cap,rfl,hn,hL⟩:=hD;clear hL;go_enter Tryz.func67,Tryz.ntmps67;go_wp2_with fail
 obtain⟨W1,hW1⟩:∃W1,W1=w.alloc (.cells #[.int .i64 f.t,.int .i64 f.p,mv,.slice a f.ds.length cap] 77):=⟨_,rfl⟩;have q0:W1.cell? ⟨w.heap.size,0,none⟩=some (.int .i64 f.t):=by rw [hW1];simp
 have q3:W1.cell? ⟨w.heap.size,3,none⟩=some (.slice a f.ds.length cap):=by rw [hW1];simp
 have hbW:Below w.heap.size w W1:=by rw [hW1];exact(Below.refl _ _).alloc zr _
 have HD1:=aa (HDS.out.below hbW zr);have hz1:w.heap.size<W1.heap.size:=by rw [hW1];simp
 rw [←hW1];clear hW1 HDS;go_loopw [8] (fun i wr=>∃k:Nat,k≤f.ds.length∧i= .int .i64 k∧(∀j,j<k→doB f.t f.ds j=true)∧Below W1.heap.size W1 wr) (fun i _=>f.ds.length-(intOf i).toNat)
 case atStart=>exact⟨0,by omega,rfl,fun j h=>absurd h (by omega),Below.refl _ _⟩
 case round=>
  obtain⟨k,hk,rfl,hall,hbel⟩:=hrel;have HALL:=aa hall;clear hall;have hbel1:Below w.heap.size w wr:=hbW.trans (hbel.mono hbW.size);have c0:=ag q0 hbel zr;have c3:=ag q3 hbel zr;have hszr:=hbel.size;have hszw:w.heap.size<wr.heap.size:=(by omega);by_cases hlt:k<f.ds.length
  ·obtain⟨a',cap',hv,hn',hL⟩:=HD1.out;simp only [Value.slice.injEq]at hv;obtain⟨rfl,_,rfl⟩:=hv;obtain⟨b,off,rfl,hcap,hcell⟩:∃b off,a=some ⟨b,off,none⟩∧f.ds.length≤cap∧∀i,i<f.ds.length→W1.cell? ⟨b,off+i*3,none⟩=some (.int .i64 (f.ds.getD i do0).k)∧W1.cell? ⟨b,off+i*3+1,none⟩=some (.int .i64 (f.ds.getD i do0).a)∧W1.cell? ⟨b,off+i*3+2,none⟩=some (.int .i64 (f.ds.getD i do0).n):=by
    rcases hL with h0 | h
    ·omega
    ·exact h
   obtain⟨g0,g1,g2⟩:=hcell k hlt;have m0':=ag g0 hbel zr;have m1':=ag g1 hbel zr;have m2':=ag g2 hbel zr;have hbb:=bs m0';have HX:Hid (doB f.t f.ds k=true→∀x,x<k+1→doB f.t f.ds x=true):=fun h x hx=>by
    by_cases e:x=k
    ·subst e;exact h
    ·exact HALL.out x (by omega)
   have HF:Hid (doB f.t f.ds k=false→(List.range f.ds.length).all (doB f.t f.ds)=false):=fun h=>by
    rw [List.all_eq_false];exact⟨k,List.mem_range.2 hlt,by simpa using h⟩
   have HD:Hid (doB f.t f.ds k=dY (f.ds.getD k do0).k (f.ds.getD k do0).a (f.ds.getD k do0).n f.t ((k:Int)+1==(f.ds.length:Int))):=rfl;clear g0 g1 g2 hcell hL HALL HD1 hn';generalize (f.ds.getD k do0).k=dk at*;generalize (f.ds.getD k do0).a=da at*;generalize (f.ds.getD k do0).n=dn at*;have HT:Hid (∀last,dY dk da dn f.t last=(dY dk da dn f.t true&&(!(dk==4)|| last))):=fun last=>by
    unfold dY;by_cases e:dk=4
    ·subst e;simp
    ·simp [e]
   have HC:=aa (mZ dk da dn f.t);generalize dY dk da dn f.t true=R at HC HT;have hbA:Below wr.heap.size wr (wr.alloc (.cells #[.int .i64 dk,.int .i64 da,.int .i64 dn] 85)):=(Below.refl _ _).alloc zr _;have k0:(wr.alloc (.cells #[.int .i64 dk,.int .i64 da,.int .i64 dn] 85)).cell? ⟨wr.heap.size,0,none⟩=some (.int .i64 dk):=(by simp);have k3:=ag c3 hbA zr;have HK0:=aa k0;have HK3:=aa k3;clear k0 k3;have hwl:IntKind.i64.wrap ((f.ds.length:Int)-1)=(f.ds.length:Int)-1:=bn _ (by omega) (by omega);go_wp2_with fail
   refine(ae HC _).mono ?_;rintro e w1 ⟨rfl,hb1⟩;have n0:=ag HK0.out hb1 zr;have n3:=ag HK3.out hb1 zr;have hbA2:=hbA.trans (hb1.mono hbA.size);have hbN:Below W1.heap.size W1 w1:=hbel.trans (hbA2.mono hszr);have hbN1:Below w.heap.size w w1:=hbel1.trans (hbA2.mono (by omega));clear HK0 HK3 hb1 hbA hbA2 HC c0 c3 m0' m1' m2' q0 q3;by_cases hR:R=true
   ·subst hR;by_cases e4:dk=4
    ·by_cases el:k+1=f.ds.length
     ·have HRR:=aa (HX.out (by rw [HD.out,HT.out];simp;omega));have hne:((k:Int) != (f.ds.length:Int)-1)=false:=by simp;omega
      clear HX HF HD HT;go_wp2_with fail
      go_roundw
      case rel=>exact⟨k+1,by omega,by go_num,HRR.out,hbN⟩
      case measure=>simp [intOf];omega
     ·have HRR:=aa (HF.out (by rw [HD.out,HT.out];simp [e4];omega));have hne:((k:Int) != (f.ds.length:Int)-1)=true:=by simp;omega
      clear HX HF HD HT;go_wp2_with fail
      go_ret;exact⟨aC HRR.out.symm,hbN1⟩
    ·have HRR:=aa (HX.out (by rw [HD.out,HT.out];simp [e4]));clear HX HF HD HT;go_wp2_with fail
     go_roundw
     case rel=>exact⟨k+1,by omega,by go_num,HRR.out,hbN⟩
     case measure=>simp [intOf];omega
   ·have hR':R=false:=(by simpa using hR);subst hR';have HRR:=aa (HF.out (by rw [HD.out,HT.out];simp));clear HX HF HD HT hR;go_wp2_with fail
    go_ret;exact⟨aC HRR.out.symm,hbN1⟩
  ·have HR:Hid ((List.range f.ds.length).all (doB f.t f.ds)=true):=by
    refine aa ?_;rw [List.all_eq_true];intro j hj;exact HALL.out j (by have:=List.mem_range.1 hj;omega)
   clear HALL;go_wp2_with fail
   go_ret;exact⟨aC HR.out.symm,hbel1⟩
theorem jN (f:Fl) (mv dv:Value) (w:World) (hM:MsAt w mv f.ms) (hD:DsAt w dv f.ds):
  Calls Tryz.prog 27 #[.agg #[.int .i64 f.t,.int .i64 f.p,mv,dv]] w fun e w'=>e= .returned (.int .i64 (aO f))∧Below w.heap.size w w':=by
 have HMS:=aa hM;have HDS:=aa hD;obtain⟨ma,mcap,rfl,hmn,hmL⟩:=hM;obtain⟨da,dcap,rfl,hdn,hdL⟩:=hD;clear hmL hdL;have hA:∀o:Obj,Below w.heap.size w (w.alloc o):=fun o=>(Below.refl _ _).alloc zr o;by_cases s1:12<f.ms.length
 ·have HV:Hid (aO f=1):=eL (.inl s1);go_enter Tryz.func27,Tryz.ntmps27;go_wp2_with fail
  go_ret;exact⟨ap HV.out.symm,hA _⟩
 ·by_cases s2:100<f.ds.length
  ·have HV:Hid (aO f=1):=eL (.inr s2);go_enter Tryz.func27,Tryz.ntmps27;go_wp2_with fail
   go_ret;exact⟨ap HV.out.symm,hA _⟩
  ·have hns:¬(12<f.ms.length∨100<f.ds.length):=(by omega);by_cases s3:(eI f.t&&gb f.p)=true
   ·obtain⟨s4,s5⟩:eI f.t=true∧gb f.p=true:=(by simpa using s3);have t0:0≤f.t∧f.t≤7:=(by simpa [eI] using s4);have t1:0≤f.p∧f.p≤2000:=(by simpa [gb] using s5);have a1:decide (f.t<0)=false:=by simp;omega
    have a2:decide (8≤f.t)=false:=by simp;omega
    have a3:decide (f.p<0)=false:=by simp;omega
    have a4:decide (2000<f.p)=false:=by simp;omega
    clear s4 s5;have HW:Hid (∀o:Obj,MsAt (w.alloc o) (.slice ma f.ms.length mcap) f.ms):=fun o=>HMS.out.below (hA o) zr;go_enter Tryz.func27,Tryz.ntmps27;go_wp2_with fail
    obtain⟨W1,hW1⟩:∃W1,W1=w.alloc (.cells #[.int .i64 f.t,.int .i64 f.p,.slice ma f.ms.length mcap,.slice da f.ds.length dcap] 77):=⟨_,rfl⟩;have q0:W1.cell? ⟨w.heap.size,0,none⟩=some (.int .i64 f.t):=by rw [hW1];simp
    have q1:W1.cell? ⟨w.heap.size,1,none⟩=some (.int .i64 f.p):=by rw [hW1];simp
    have q2:W1.cell? ⟨w.heap.size,2,none⟩=some (.slice ma f.ms.length mcap):=by rw [hW1];simp
    have q3:W1.cell? ⟨w.heap.size,3,none⟩=some (.slice da f.ds.length dcap):=by rw [hW1];simp
    have hbW:Below w.heap.size w W1:=by rw [hW1];exact hA _
    rw [←hW1];clear hW1 HW;have HM1:=aa (HMS.out.below hbW zr);have HD1:=aa (HDS.out.below hbW zr);clear HMS HDS hA;refine(je _ f.ms _ HM1.out (by omega)).mono ?_;rintro e w1 ⟨rfl,hb1⟩;have HD2:=aa (HD1.out.below hb1 zr);have r0:=ag q0 hb1 zr;have r1:=ag q1 hb1 zr;have r2:=ag q2 hb1 zr;have r3:=ag q3 hb1 zr;have hbel:=hbW.trans (hb1.mono hbW.size);clear q0 q1 q2 q3 HM1 HD1 hb1 hbW;have hs1:=hbel.size;by_cases sm:f.ms.all bd=true
    ·rw [sm];have HC:=aa (oJ f (.slice ma f.ms.length mcap) _ w1 HD2.out (by omega));have HV:Hid (aO f=if(List.range f.ds.length).all (doB f.t f.ds)=false then 4 else 0):=by
      show _=_;unfold aO;rw [if_neg hns,if_neg (by simp [s3]),if_neg (by simp [sm])]
     clear HD2 s3 sm;generalize (List.range f.ds.length).all (doB f.t f.ds)=R at HC HV;go_wp2_with fail
     refine(ae HC).mono ?_;rintro e w2 ⟨rfl,hb2⟩;have hbel2:=hbel.trans (hb2.mono hs1);clear r0 r1 r2 r3;cases R
     ·go_wp2_with fail
      go_ret;exact⟨ap (by rw [HV.out];rfl),hbel2⟩
     ·go_wp2_with fail
      go_ret;exact⟨ap (by rw [HV.out];rfl),hbel2⟩
    ·have sm':f.ms.all bd=false:=(by simpa using sm);rw [sm'];have HV:Hid (aO f=4):=by
      show _=_;unfold aO;rw [if_neg hns,if_neg (by simp [s3]),if_pos sm']
     clear HD2 s3 sm sm';go_wp2_with fail
     go_ret;exact⟨ap HV.out.symm,hbel⟩
   ·have s3':(eI f.t&&gb f.p)=false:=(by simpa using s3);have HV:Hid (aO f=2):=jD hns s3';have hcase:f.t<0∨8≤f.t∨f.p<0∨2000<f.p:=by simp [eI,gb]at s3';omega
    go_enter Tryz.func27,Tryz.ntmps27;go_wp2_with fail
    all_goals first |(exfalso;omega) |(go_ret;exact⟨ap HV.out.symm,hA _⟩)
theorem mX (v:Value) (fs:List Fl) (w:World) (hF:FsAt w v fs) (hm:fs.length≤140737488355328):
  Calls Tryz.prog 10 #[v] w fun e w'=>e= .returned (.int .i64 (dJ fs))∧Below w.heap.size w w':=by
 obtain⟨a,cap,rfl,hn,hL⟩:=hF;by_cases h5:5000<fs.length
 ·have HR:Hid (dJ fs=1):=by show _=_;unfold dJ;rw [if_pos h5]
  clear hL;go_enter Tryz.func10,Tryz.ntmps10;go_wp2_with fail
  go_ret;exact⟨ap HR.out.symm,Below.refl _ _⟩
 ·have HR:Hid (dJ fs=dz fs):=by show _=_;unfold dJ;rw [if_neg h5]
  go_enter Tryz.func10,Tryz.ntmps10;go_wp2_with fail
  go_loopw [11] (fun i wr=>∃k:Nat,k≤fs.length∧i= .int .i64 k∧(∀j,j<k→aO (fs.getD j fl0)=0)∧Below w.heap.size w wr) (fun i _=>fs.length-(intOf i).toNat)
  case atStart=>exact⟨0,by omega,rfl,fun j h=>absurd h (by omega),Below.refl _ _⟩
  case round=>
   obtain⟨k,hk,rfl,hall,hbel⟩:=hrel;have HALL:=aa hall;clear hall;by_cases hlt:k<fs.length
   ·obtain⟨b,off,rfl,hcap,hcell⟩:∃b off,a=some ⟨b,off,none⟩∧fs.length≤cap∧∀i,i<fs.length→FlAt w b (off+i*4) (fs.getD i fl0):=by
     rcases hL with h0 | h
     ·omega
     ·exact h
    have hf:=(hcell k hlt).below hbel zr;have HA:Hid (aO (fs.getD k fl0)=0→∀j,j<k+1→aO (fs.getD j fl0)=0):=fun h j hj=>by
     by_cases e:j=k
     ·subst e;exact h
     ·exact HALL.out j (by omega)
    have HB:Hid (aO (fs.getD k fl0)≠0→dJ fs=aO (fs.getD k fl0)):=fun h=>by rw [HR.out];exact ru fs k hlt HALL.out h
    clear hL hcell HALL HR;generalize fs.getD k fl0=f at*;obtain⟨f0,f1,mv,dv,f2,f3,hms,hds⟩:=hf;have HMS:=aa hms;have HDS:=aa hds;obtain⟨ma,mcap,rfl,hmn,hmL⟩:=hms;obtain⟨da,dcap,rfl,hdn,hdL⟩:=hds;clear hmL hdL;have hsz:=hbel.size;have hA:∀o:Obj,Below wr.heap.size wr (wr.alloc o):=fun o=>(Below.refl _ _).alloc zr o;have HC:Hid (∀o:Obj,Calls Tryz.prog 27 #[.agg #[.int .i64 f.t,.int .i64 f.p,.slice ma f.ms.length mcap,.slice da f.ds.length dcap]] (wr.alloc o) fun e w'=>e= .returned (.int .i64 (aO f))∧Below wr.heap.size wr w'):=fun o=>
     (jN f _ _ (wr.alloc o) (HMS.out.below (hA o) zr) (HDS.out.below (hA o) zr)).mono fun e w' ⟨he,hb⟩=>⟨he,(hA o).trans (hb.mono (hA o).size)⟩
    clear HMS HDS hA;generalize aO f=R at*;go_wp2_with fail
    refine(ae HC _).mono ?_;rintro e w1 ⟨rfl,hb1⟩;have hbel2:=hbel.trans (hb1.mono hsz);clear HC f0 f1 f2 f3 hb1;by_cases hz:R=0
    ·have HV:=aa (HA.out hz);clear HA HB;go_wp2_with fail
     go_roundw
     case rel=>exact⟨k+1,by omega,by go_num,HV.out,hbel2⟩
     case measure=>simp [intOf];omega
    ·have HV:=aa (HB.out hz);clear HA HB;go_wp2_with fail
     go_ret;exact⟨ap HV.out.symm,hbel2⟩
   ·have HV:Hid (dJ fs=0):=by show _=_;rw [HR.out];exact m8 fs (fun j hj=>HALL.out j (by omega))
    clear HALL hL HR;go_wp2_with fail
    go_ret;exact⟨ap HV.out.symm,hbel⟩
theorem qW (a b c d e f g:Int) (s:ByteArray) (w:World):(Op.equalIn 10000 37 (.agg #[.int .i64 a,.int .i64 b,.int .i64 c,.int .i64 d,.int .i64 e,.int .i64 f,.int .i64 g,.string s]) (.agg #[.int .i64 a,.int .i64 b,.int .i64 c,.int .i64 d,.int .i64 e,.int .i64 f,.int .i64 g,.string s])).run Tryz.prog w= .ok true w:=by
 have hS:Tryz.prog.underlying 37=some (.struct (Tryz.prog.fieldsOf 37)):=by kernel_rfl
 have hp:Tryz.prog.stoodInHeld 37=false:=by kernel_rfl
 rw [show(10000:Nat)=9999+1 from rfl,run_equalIn_agg w 9999 37 _ _ hS hp];simp only [Program.fieldsOf,Tryz.underlying37];go_simp
theorem nd:Tryz.prog.eqGuardType Tryz.prog.depth 37=false:=by kernel_rfl
def qq (w:World) (b0:Nat) (p:Pr→Bool):Prop:=∀(W:World) (x:Pr),Below w.heap.size w W→Calls Tryz.prog 130 #[.agg #[.int .i64 x.i,.int .i64 x.s,.int .i64 x.m,.int .i64 x.p,.int .i64 x.c],.pointer (some ⟨b0,0,none⟩)] W fun e w'=>e= .returned (.bool (p x))∧Below W.heap.size W w'
theorem oE (l:List Pr) (p:Pr→Bool) (v:Value) (b0:Nat) (w:World) (hF:dC w v l) (hT:qq w b0 p) (hl:l.length*40≤140737488355328):
  Calls Tryz.prog 52 #[v,.func (.func 130) #[] #[.pointer (some ⟨b0,0,none⟩)]] w fun e w'=>e= .returned (.int .i64 (idx p l))∧Below w.heap.size w w':=by
 have HF:=aa hF;have HT:=aa hT;obtain⟨a,cap,rfl⟩:=hF.slice;clear hF hT;go_enter Tryz.func52,Tryz.ntmps52;go_wp2_with fail
 go_loopw [8] (fun i wr=>∃k:Nat,k≤l.length∧i= .int .i64 k∧Hid (∀j,j<k→p (l.getD j pr0)=false)∧Below w.heap.size w wr) (fun i _=>l.length-(intOf i).toNat)
 case atStart=>exact⟨0,by omega,rfl,aa (fun j h=>absurd h (by omega)),Below.refl _ _⟩
 case round=>
  obtain⟨k,hk,rfl,HALL,hbr⟩:=hrel;by_cases hlt:k<l.length
  ·obtain⟨b,off,cap',e1,hcap, -,g0,g1,g2,g3,g4⟩:=eZ (RowAt.below HF.out hbr zr) hlt;simp only [Value.slice.injEq,true_and]at e1;obtain⟨rfl,rfl⟩:=e1;have HST:Hid (∀W:World,Below w.heap.size w W→Calls Tryz.prog 130 #[.agg #[.int .i64 (l.getD k pr0).i,.int .i64 (l.getD k pr0).s,.int .i64 (l.getD k pr0).m,.int .i64 (l.getD k pr0).p,.int .i64 (l.getD k pr0).c],.pointer (some ⟨b0,0,none⟩)] W fun e w'=>e= .returned (.bool (p (l.getD k pr0)))∧Below W.heap.size W w'):=fun W hW=>HT.out W _ hW;have HNX:Hid (p (l.getD k pr0)=false→∀j,j<k+1→p (l.getD j pr0)=false):=fun h j hj=>by
    by_cases e:j=k
    ·subst e;exact h
    ·exact HALL.out j (by omega)
   have HFD:Hid (p (l.getD k pr0)=true→idx p l=k):=fun h=>fu pr0 hlt HALL.out h;generalize p (l.getD k pr0)=R at*;generalize (l.getD k pr0).i=y0 at*;generalize (l.getD k pr0).s=y1 at*;generalize (l.getD k pr0).m=y2 at*;generalize (l.getD k pr0).p=y3 at*;generalize (l.getD k pr0).c=y4 at*;have q1:(0:Int)≤(k:Int):=(by omega);have q2:(k:Int)<(l.length:Int):=(by omega);clear HALL;go_wp2_with fail
   refine(ae HST _ ?_).mono ?_
   ·first | exact hbr | exact hbr.drew | exact⟨hbr.os,hbr.tape,hbr.output,hbr.size,hbr.block⟩
   rintro e w1 ⟨rfl,hb1⟩;have HB1:Hid (Below w.heap.size w w1):=hbr.trans (hb1.mono hbr.size);clear hb1 hbr HST g0 g1 g2 g3 g4;cases R
   ·have HN:=aa (HNX.out rfl);clear HNX HFD;go_wp2_with fail
    go_roundw
    case rel=>exact⟨k+1,by omega,by go_num,HN,HB1.out⟩
    case measure=>simp [intOf];omega
   ·have HN:=aa (HFD.out rfl);clear HNX HFD;go_wp2_with fail
    go_ret;exact⟨ap HN.out.symm,HB1.out⟩
  ·have HN:Hid (idx p l= -1):=fg pr0 fun i hi=>HALL.out i (by omega);have HB1:=aa hbr;clear HALL hbr;go_wp2_with fail
   go_ret;exact⟨ap HN.out.symm,HB1.out⟩
structure Ax where
 k:Int
 si:Int
 st:Int
 sg:Int
 pi:Int
 ps:Int
 pm:Int
 pp:Int
 pc:Int
 rs:Int
 rp:Int
 rn:Bool
 rf:Int
 rb:Int
 rt:Int
 re:Int
 ro:Int
 rd:Bool
 n:Int
 m:Int
 f0:Int
 f1:Int
 f2:Int
 f3:Int
 f4:Int
 f5:Int
 f6:Int
 body:ByteArray
def Ax.s (a:Ax):Sw:=⟨a.si,a.st,a.sg⟩
def Ax.p (a:Ax):Pr:=⟨a.pi,a.ps,a.pm,a.pp,a.pc⟩
def Ax.r (a:Ax):Ac:=⟨a.rs,a.rp,a.rn,a.rf,a.rb,a.rt,a.re,a.ro,a.rd⟩
abbrev dw (a:Ax):Value:=.agg #[.int .i64 a.k,.int .i64 a.si,.int .i64 a.st,.int .i64 a.sg,.int .i64 a.pi,.int .i64 a.ps,.int .i64 a.pm,.int .i64 a.pp,.int .i64 a.pc,.int .i64 a.rs,.int .i64 a.rp,.bool a.rn,.int .i64 a.rf,.int .i64 a.rb,.int .i64 a.rt,.int .i64 a.re,.int .i64 a.ro,.bool a.rd,.int .i64 a.n,.int .i64 a.m,.int .i64 a.f0,.int .i64 a.f1,.int .i64 a.f2,.int .i64 a.f3,.int .i64 a.f4,.int .i64 a.f5,.int .i64 a.f6,.string a.body]
theorem qt (x:Pr) (id:Int) (b:Nat) (w:World) (h:w.cell? ⟨b,0,none⟩=some (.int .i64 id)):
  Calls Tryz.prog 130 #[.agg #[.int .i64 x.i,.int .i64 x.s,.int .i64 x.m,.int .i64 x.p,.int .i64 x.c],.pointer (some ⟨b,0,none⟩)] w fun e w'=>e= .returned (.bool (x.i==id))∧Below w.heap.size w w':=by
 have hlt:=am h;have hne:b≠w.heap.size:=by omega
 go_enter Tryz.func130,Tryz.ntmps130;go_wp2
 all_goals go_ret
 all_goals exact⟨aC (by rw [Bool.eq_iff_iff] <;>simp),(Below.refl _ _).alloc zr _⟩
theorem rK {w:World} {b:Nat} {id:Int} (h:w.cell? ⟨b,0,none⟩=some (.int .i64 id)):qq w b (fun x=>x.i==id):=fun W x hW=>qt x id b W (zC h hW)
def pat (P:List Pr) (id:Int):Int:=idx (fun x=>x.i==id) P
theorem fM (sv pv av:Value) (S:List Sw) (P:List Pr) (A:List Ac) (id:Int) (w:World) (hC:CfAt w sv pv av S P A) (h2:P.length*40≤140737488355328):
  Calls Tryz.prog 86 #[.agg #[sv,pv,av],.int .i64 id] w fun e w'=>e= .returned (.int .i64 (pat P id))∧Below w.heap.size w w':=by
 have HI:Hid (∀(W:World) (b:Nat),Below w.heap.size w W→W.cell? ⟨b,0,none⟩=some (.int .i64 id)→Calls Tryz.prog 52 #[pv,.func (.func 130) #[] #[.pointer (some ⟨b,0,none⟩)]] W fun e w'=>e= .returned (.int .i64 (pat P id))∧Below W.heap.size W w'):=
  fun W b hW a=>oE P _ pv _ W (RowAt.below hC.2.1 hW zr) (rK a) h2
 obtain⟨s1,s2,rfl⟩:=hC.1.slice;obtain⟨p1,p2,rfl⟩:=hC.2.1.slice;obtain⟨a1,a2,rfl⟩:=hC.2.2.slice;clear hC;generalize pat P id=R at*;go_enter Tryz.func86,Tryz.ntmps86;go_wp2_with fail
 refine(ae HI _ _ (((Below.refl _ _).alloc zr _).alloc (by simp) _) (by first | exact aj _ _ (by simp) _ _ _ _ rfl | exact aq (aj w _ rfl _ _ _ _ rfl) _)).mono ?_;rintro e w1 ⟨rfl,hb1⟩;have hb:Below w.heap.size w w1:=(((Below.refl _ w).alloc zr _).alloc (by simp) _).trans (hb1.mono (by simp;omega));clear hb1 HI;go_wp2_with fail
 go_ret;exact⟨rfl,hb⟩
theorem dX (place many:Int) (w:World) (h0:0≤many) (h1:many≤1000000000000000):
  Calls Tryz.prog 85 #[.int .i64 place,.int .i64 many] w fun e w'=>e= .returned (.int .i64 (if inB place 0 (many-1)=true then 0 else 6))∧w'=w:=by
 have HW:=aa (fun W=>bY place 0 (many-1) W);have hw:IntKind.i64.wrap (many-1)=many-1:=by
  simp [IntKind.wrap,IntKind.bits,IntKind.signed];split <;>omega
 generalize inB place 0 (many-1)=R at*;go_enter Tryz.func85,Tryz.ntmps85;go_wp2_with fail
 refine(ae HW _).mono ?_;rintro e w' ⟨rfl,rfl⟩;cases R
 ·go_wp2_with fail
  go_ret;exact⟨rfl,rfl⟩
 ·go_wp2_with fail
  go_ret;exact⟨rfl,rfl⟩
theorem jL (sv pv av:Value) (S:List Sw) (P:List Pr) (A:List Ac) (id m:Int) (w:World) (hC:CfAt w sv pv av S P A) (h2:P.length*40≤140737488355328):
  Calls Tryz.prog 87 #[.agg #[sv,pv,av],.int .i64 id,.int .i64 m] w fun e w'=>e= .returned (.int .i64 (if inB (pat P id) 0 (P.length-1)=true then(if inB m (-1) 5=true then 0 else 2)else 6))∧Below w.heap.size w w':=by
 have HI:Hid (∀(W:World),Below w.heap.size w W→Calls Tryz.prog 86 #[.agg #[sv,pv,av],.int .i64 id] W fun e w'=>e= .returned (.int .i64 (pat P id))∧Below W.heap.size W w'):=fun W hW=>fM sv pv av S P A id W (hC.below hW zr) h2;have HT:=aa (fun W=>dX (pat P id) (P.length:Int) W (by omega) (by omega));have HB:=aa (fun W=>fG m W);obtain⟨s1,s2,rfl⟩:=hC.1.slice;obtain⟨p1,p2,rfl⟩:=hC.2.1.slice;obtain⟨a1,a2,rfl⟩:=hC.2.2.slice;clear hC;obtain⟨E,hE⟩:∃E:Int,E=if inB (pat P id) 0 ((P.length:Int)-1)=true then 0 else 6:=⟨_,rfl⟩;rw [←hE]at HT;have HE:=aa hE;clear hE;generalize inB (pat P id) 0 ((P.length:Int)-1)=R at*;generalize pat P id=I at*;generalize inB m (-1) 5=Q at*;have hb0:Below w.heap.size w (w.alloc (.cells #[.slice s1 S.length s2,.slice p1 P.length p2,.slice a1 A.length a2] 29)):=(Below.refl _ _).alloc zr _;go_enter Tryz.func87,Tryz.ntmps87;go_wp2_with fail
 obtain⟨W0,hW0⟩:∃W0,W0=w.alloc (.cells #[.slice s1 S.length s2,.slice p1 P.length p2,.slice a1 A.length a2] 29):=⟨_,rfl⟩;have c0:W0.cell? ⟨w.heap.size,0,none⟩=some (.slice s1 S.length s2):=zN1 hW0 rfl;have c1:W0.cell? ⟨w.heap.size,1,none⟩=some (.slice p1 P.length p2):=zN1 hW0 rfl;have c2:W0.cell? ⟨w.heap.size,2,none⟩=some (.slice a1 A.length a2):=zN1 hW0 rfl;rw [←hW0]at hb0⊢;clear hW0;go_region_held3 (fun w'=>w'.cell? ⟨w.heap.size,0,none⟩=some (.slice s1 S.length s2)∧w'.cell? ⟨w.heap.size,1,none⟩=some (.slice p1 P.length p2)∧w'.cell? ⟨w.heap.size,2,none⟩=some (.slice a1 A.length a2)) (go_keep)
  (first |(go_at_call 86;refine(ae HI _ hb0.drew).mono ?_;rintro e w1 ⟨rfl,hc1⟩;have g1:Below W0.heap.size W0 w1:=((Below.refl _ W0).drew).trans hc1;have hb:Below w.heap.size w w1:=hb0.trans (g1.mono hb0.size);have z0:=zC c0 g1;have z1:=zC c1 g1;have z2:=zC c2 g1) |(go_at_call 85;refine(ae HT _).mono ?_;rintro e w2 ⟨rfl,rfl⟩))
 clear c0 c1 c2 z0 z1 z2 g1 hc1 hb0 HI HT;cases R
 ·obtain rfl:E=6:=HE.out;go_wp2_with fail
  go_ret;exact⟨rfl,hb⟩
 ·obtain rfl:E=0:=HE.out;go_wp2_with fail
  refine(ae HB _).mono ?_;rintro e w2 ⟨rfl,rfl⟩;cases Q
  ·go_wp2_with fail
   go_ret;exact⟨rfl,hb⟩
  ·go_wp2_with fail
   go_ret;exact⟨rfl,hb⟩
def bq (S:List Sw) (P:List Pr) (A:List Ac) (a:Ax):Int:=
 if a.k=1 then aT S P a.s else if a.k=2 then ba S P a.p else if a.k=3 then bk S A a.r else if a.k=4 then(if inB (pat P a.n) 0 (P.length-1)=true then 0 else 6)else
 if a.k=6 then(if inB (pat P a.n) 0 (P.length-1)=true then(if inB a.m (-1) 5=true then 0 else 2)else 6)else if a.k=5 then(if inB a.n 0 (A.length-1)=true then 0 else 6)else 3
theorem kN (sv pv av:Value) (S:List Sw) (P:List Pr) (A:List Ac) (a:Ax) (w:World) (hC:CfAt w sv pv av S P A) (h1:S.length*24≤140737488355328) (h2:P.length*40≤140737488355328) (h3:A.length*72≤140737488355328):
  Calls Tryz.prog 38 #[.agg #[sv,pv,av],dw a] w fun e w'=>e= .returned (.int .i64 (bq S P A a))∧Below w.heap.size w w':=by
 have H1:=aa (fun W (hW:Below w.heap.size w W)=>eY sv pv av S P A a.s W (hC.below hW zr) h1 h2);have H2:=aa (fun W (hW:Below w.heap.size w W)=>fF sv pv av S P A a.p W (hC.below hW zr) h1 h2);have H3:=aa (fun W (hW:Below w.heap.size w W)=>gn sv pv av S P A a.r W (hC.below hW zr) h1);have H4:=aa (fun W (hW:Below w.heap.size w W)=>fM sv pv av S P A a.n W (hC.below hW zr) h2);have H5:=aa (fun W=>dX (pat P a.n) (P.length:Int) W (by omega) (by omega));have H6:=aa (fun W (hW:Below w.heap.size w W)=>jL sv pv av S P A a.n a.m W (hC.below hW zr) h2);have H7:=aa (fun W=>dX a.n (A.length:Int) W (by omega) (by omega));obtain⟨s1,s2,rfl⟩:=hC.1.slice;obtain⟨p1,p2,rfl⟩:=hC.2.1.slice;obtain⟨a1,a2,rfl⟩:=hC.2.2.slice;clear hC;obtain⟨k,si,st,sg,pi,ps,pm,pp,pc,rs,rp,rn,rf,rb,rt,re,ro,rd,n,m,f0,f1,f2,f3,f4,f5,f6,body⟩:=a;have hcase:k=1∨k=2∨k=3∨k=4∨k=5∨k=6∨(¬k=1∧¬k=2∧¬k=3∧¬k=4∧¬k=5∧¬k=6):=by omega
 have HR:Hid (bq S P A ⟨k,si,st,sg,pi,ps,pm,pp,pc,rs,rp,rn,rf,rb,rt,re,ro,rd,n,m,f0,f1,f2,f3,f4,f5,f6,body⟩=if k=1 then aT S P ⟨si,st,sg⟩else if k=2 then ba S P ⟨pi,ps,pm,pp,pc⟩else if k=3 then bk S A ⟨rs,rp,rn,rf,rb,rt,re,ro,rd⟩else if k=4 then(if inB (pat P n) 0 (P.length-1)=true then 0 else 6)else
  if k=6 then(if inB (pat P n) 0 (P.length-1)=true then(if inB m (-1) 5=true then 0 else 2)else 6)else if k=5 then(if inB n 0 (A.length-1)=true then 0 else 6)else 3):=rfl
 generalize bq S P A ⟨k,si,st,sg,pi,ps,pm,pp,pc,rs,rp,rn,rf,rb,rt,re,ro,rd,n,m,f0,f1,f2,f3,f4,f5,f6,body⟩=R at*;simp only [Ax.s,Ax.p,Ax.r]at H1 H2 H3 H4 H5 H6 H7⊢;generalize aT S P ⟨si,st,sg⟩=E1 at*;generalize ba S P ⟨pi,ps,pm,pp,pc⟩=E2 at*;generalize bk S A ⟨rs,rp,rn,rf,rb,rt,re,ro,rd⟩=E3 at*;generalize (if inB (pat P n) 0 ((P.length:Int)-1)=true then(if inB m (-1) 5=true then(0:Int)else 2)else 6)=E6 at*;generalize (if inB (pat P n) 0 ((P.length:Int)-1)=true then(0:Int)else 6)=E4 at*;generalize (if inB n 0 ((A.length:Int)-1)=true then(0:Int)else 6)=E5 at*;generalize pat P n=I at*;have hb0:Below w.heap.size w ((w.alloc (.cells #[.slice s1 S.length s2,.slice p1 P.length p2,.slice a1 A.length a2] 29)).alloc (.cells #[.int .i64 k,.int .i64 si,.int .i64 st,.int .i64 sg,.int .i64 pi,.int .i64 ps,.int .i64 pm,.int .i64 pp,.int .i64 pc,.int .i64 rs,.int .i64 rp,.bool rn,.int .i64 rf,.int .i64 rb,.int .i64 rt,.int .i64 re,.int .i64 ro,.bool rd,.int .i64 n,.int .i64 m,.int .i64 f0,.int .i64 f1,.int .i64 f2,.int .i64 f3,.int .i64 f4,.int .i64 f5,.int .i64 f6,.string body] 60)):=((Below.refl _ _).alloc zr _).alloc (by simp) _;go_enter Tryz.func38,Tryz.ntmps38;rcases hcase with rfl | rfl | rfl | rfl | rfl | rfl |⟨k1,k2,k3,k4,k5,k6⟩
 ·go_wp2_with fail
  refine(ae H1 _ hb0).mono ?_;rintro e w1 ⟨rfl,hb1⟩;have hb:=hb0.trans (hb1.mono hb0.size);clear hb0 hb1 H1 H2 H3 H4 H5 H6 H7;go_wp2_with fail
  go_ret;exact⟨ap (by rw [HR.out];simp),hb⟩
 ·go_wp2_with fail
  refine(ae H2 _ hb0).mono ?_;rintro e w1 ⟨rfl,hb1⟩;have hb:=hb0.trans (hb1.mono hb0.size);clear hb0 hb1 H1 H2 H3 H4 H5 H6 H7;go_wp2_with fail
  go_ret;exact⟨ap (by rw [HR.out];simp),hb⟩
 ·go_wp2_with fail
  refine(ae H3 _ hb0).mono ?_;rintro e w1 ⟨rfl,hb1⟩;have hb:=hb0.trans (hb1.mono hb0.size);clear hb0 hb1 H1 H2 H3 H4 H5 H6 H7;go_wp2_with fail
  go_ret;exact⟨ap (by rw [HR.out];simp),hb⟩
 ·go_wp2_with fail
  obtain⟨W0,hW0⟩:∃W0,W0=(w.alloc (.cells #[.slice s1 S.length s2,.slice p1 P.length p2,.slice a1 A.length a2] 29)).alloc (.cells #[.int .i64 4,.int .i64 si,.int .i64 st,.int .i64 sg,.int .i64 pi,.int .i64 ps,.int .i64 pm,.int .i64 pp,.int .i64 pc,.int .i64 rs,.int .i64 rp,.bool rn,.int .i64 rf,.int .i64 rb,.int .i64 rt,.int .i64 re,.int .i64 ro,.bool rd,.int .i64 n,.int .i64 m,.int .i64 f0,.int .i64 f1,.int .i64 f2,.int .i64 f3,.int .i64 f4,.int .i64 f5,.int .i64 f6,.string body] 60):=⟨_,rfl⟩;have c0:W0.cell? ⟨w.heap.size,0,none⟩=some (.slice s1 S.length s2):=by rw [hW0];exact aq (aj w _ rfl _ _ _ _ rfl) _
  have c1:W0.cell? ⟨w.heap.size,1,none⟩=some (.slice p1 P.length p2):=by rw [hW0];exact aq (aj w _ rfl _ _ _ _ rfl) _
  have c2:W0.cell? ⟨w.heap.size,2,none⟩=some (.slice a1 A.length a2):=by rw [hW0];exact aq (aj w _ rfl _ _ _ _ rfl) _
  have c3:W0.cell? ⟨w.heap.size+1,18,none⟩=some (.int .i64 n):=by rw [hW0];exact aj _ _ (by simp) _ _ _ _ rfl
  rw [←hW0]at hb0⊢;clear hW0 H1 H2 H3 H6 H7;go_region_held3 (fun w'=>w'.cell? ⟨w.heap.size,0,none⟩=some (.slice s1 S.length s2)∧w'.cell? ⟨w.heap.size,1,none⟩=some (.slice p1 P.length p2)∧w'.cell? ⟨w.heap.size,2,none⟩=some (.slice a1 A.length a2)∧w'.cell? ⟨w.heap.size+1,18,none⟩=some (.int .i64 n)) (go_keep)
   (first |(go_at_call 86;refine(ae H4 _ hb0.drew).mono ?_;rintro e w1 ⟨rfl,hc1⟩;have g1:Below W0.heap.size W0 w1:=((Below.refl _ W0).drew).trans hc1;have hb:Below w.heap.size w w1:=hb0.trans (g1.mono hb0.size);have z0:=zC c0 g1;have z1:=zC c1 g1;have z2:=zC c2 g1;have z3:=zC c3 g1) |(go_at_call 85;refine(ae H5 _).mono ?_;rintro e w2 ⟨rfl,rfl⟩))
  clear c0 c1 c2 c3 z0 z1 z2 z3 g1 hc1 hb0 H4 H5;go_wp2_with fail
  go_ret;exact⟨ap (by rw [HR.out];simp),hb⟩
 ·clear H1 H2 H3 H4 H5 H6;go_wp2_with fail
  refine(ae H7 _).mono ?_;rintro e w2 ⟨rfl,rfl⟩;go_wp2_with fail
  go_ret;exact⟨ap (by rw [HR.out];simp),hb0⟩
 ·go_wp2_with fail
  refine(ae H6 _ hb0).mono ?_;rintro e w1 ⟨rfl,hb1⟩;have hb:=hb0.trans (hb1.mono hb0.size);clear hb0 hb1 H1 H2 H3 H4 H5 H6 H7;go_wp2_with fail
  go_ret;exact⟨ap (by rw [HR.out];simp),hb⟩
 ·clear H1 H2 H3 H4 H5 H6 H7;go_wp2_with fail
  go_ret;exact⟨ap (by rw [HR.out];simp_all),hb0⟩
theorem ni {w:World} {g j:Nat} {v:Value} {cur:Array Value} {e:TypeId} (h:w.heap[g]? =some (.cells cur e (0,0))):(w.setCell ⟨g,j,none⟩ v).heap[g]? =some (.cells (cur.setIfInBounds j v) e (0,0)):=by
 rw [Go.Sort.setCell_eq];unfold Go.Sort.mapBlock;simp only [Array.getElem?_modify,if_true];rw [h];rfl
theorem gQ {w:World} {B e size n cap g:Nat} {xs:List Value} (h:w.ownsRow B e size (.slice (some ⟨g,0,none⟩) n cap) n xs) (j:Nat) (v:Value):(w.setCell ⟨g,j,none⟩ v).ownsRow B e size (.slice (some ⟨g,0,none⟩) n cap) n (xs.set j v):=by
 obtain⟨hlen,⟨h,_⟩ |⟨g',cap',cur,hv,hB,hheap,hnc,hcm,hcs,htk⟩⟩:=h
 ·simp at h
 simp only [Value.slice.injEq,Option.some.injEq,Addr.mk.injEq]at hv;obtain⟨⟨rfl,_⟩,_,rfl⟩:=hv;refine⟨by simpa using hlen,.inr ⟨g,cap,_,rfl,hB,ni hheap,hnc,hcm,by simpa using hcs,?_⟩⟩;rw [←htk,Array.toList_setIfInBounds];refine List.ext_getElem? fun i=>?_;simp only [List.getElem?_take,List.getElem?_set,List.length_take];by_cases hi:i<n*size
 ·simp only [hi,if_true];by_cases hji:j=i
  ·subst hji;simp only [if_true];have:(j<min (n*size) cur.toList.length)↔j<cur.toList.length:=(by omega);simp only [this]
  ·simp [hji]
 ·simp only [hi,if_false];by_cases hji:j=i
  ·subst hji;simp;omega
  ·simp [hji]
theorem oL {xs:List Value} {j:Nat} {v:Value} (h:xs.length≤j):xs.set j v=xs:=List.set_eq_of_length_le h
theorem gf {w:World} {B e size n m cap g:Nat} {xs:List Value} (h:w.ownsRow B e size (.slice (some ⟨g,0,none⟩) n cap) n xs) (hm:m≤n):w.ownsRow B e size (.slice (some ⟨g,0,none⟩) m cap) m (xs.take (m*size)):=by
 obtain⟨hlen,⟨h,_⟩ |⟨g',cap',cur,hv,hB,hheap,hnc,hcm,hcs,htk⟩⟩:=h
 ·simp at h
 simp only [Value.slice.injEq,Option.some.injEq,Addr.mk.injEq]at hv;obtain⟨⟨rfl,_⟩,_,rfl⟩:=hv;have hmn:m*size≤n*size:=Nat.mul_le_mul_right _ hm;refine⟨by rw [List.length_take,hlen];omega,.inr ⟨g,cap,cur,rfl,hB,hheap,by omega,hcm,hcs,?_⟩⟩;rw [←htk,List.take_take,Nat.min_eq_left hmn]
theorem ek {w w':World} {g j:Nat} {v:Value} (h:w.grownBy w' (some g)):w.grownBy (w'.setCell ⟨g,j,none⟩ v) (some g):=
 ⟨h.os,h.tape,h.output,by simpa using h.size,fun k hk hne=>(Below.heap_setCell w' _ _ k (fun e=>hne (by rw [e]))).trans (h.block k hk hne)⟩
theorem eQ (w:World) (row:Option Nat):w.grownBy w row:=⟨rfl,rfl,rfl,Nat.le_refl _,fun _ _ _=>rfl⟩
theorem dR {B e size n cap g:Nat} {xs:List Value}:∀(vs:List Value) (o:Nat) (w:World),w.ownsRow B e size (.slice (some ⟨g,0,none⟩) n cap) n xs→n*size≤o→(w.setCells g o vs).ownsRow B e size (.slice (some ⟨g,0,none⟩) n cap) n xs
 | [],_,_,h,_=>h
 | v::r,o,w,h,ho=>by
  have h1:=gQ h o v;rw [oL (by rw [h.1];exact ho)]at h1;exact dR r (o+1) _ h1 (by omega)
theorem bT {g:Nat} {w:World}:∀(vs:List Value) (o:Nat) (w':World),w.grownBy w' (some g)→w.grownBy (w'.setCells g o vs) (some g)
 | [],_,_,h=>h
 | v::r,o,w',h=>bT r (o+1) _ (ek h)
def ovr:List Value→Nat→List Value→List Value
 | xs,_,[]=>xs
 | xs,o,v::r=>ovr (xs.set o v) (o+1) r
theorem kJ {B e size n cap g:Nat}:∀(vs:List Value) (xs:List Value) (o:Nat) (w:World),w.ownsRow B e size (.slice (some ⟨g,0,none⟩) n cap) n xs→(w.setCells g o vs).ownsRow B e size (.slice (some ⟨g,0,none⟩) n cap) n (ovr xs o vs)
 | [],_,_,_,h=>h
 | v::r,xs,o,w,h=>kJ r (xs.set o v) (o+1) _ (gQ h o v)
theorem qj:∀(vs:List Value) (xs:List Value) (o:Nat),o+vs.length≤xs.length→ovr xs o vs=xs.take o++vs++xs.drop (o+vs.length)
 | [],xs,o,_=>by simp [ovr]
 | v::r,xs,o,h=>by
  simp only [List.length_cons]at h;simp only [ovr];rw [qj r (xs.set o v) (o+1) (by simp;omega)];have h1:(xs.set o v).take (o+1)=xs.take o++ [v]:=by
   rw [List.take_succ_eq_append_getElem (by simp;omega),List.take_set_of_le zr];simp
  have h2:(xs.set o v).drop (o+1+r.length)=xs.drop (o+(v::r).length):=by
   rw [List.drop_set_of_lt (by omega)];simp only [List.length_cons];congr 1;omega
  rw [h1,h2];simp
theorem kg {α:Type} {C:α→List Value} {sz:Nat} (hC:∀x,(C x).length=sz):∀(l:List α) (k:Nat),(l.flatMap C).take (k*sz)=(l.take k).flatMap C
 | [],k=>by simp
 | x::r,0=>by simp
 | x::r,k+1=>by
  have ih:=kg hC r k;rw [List.flatMap_cons,List.take_succ_cons,List.flatMap_cons, ←ih,List.take_append,hC];have e:(k+1)*sz-sz=k*sz:=by rw [Nat.add_mul];omega
  rw [e,List.take_of_length_le (by rw [hC,Nat.add_mul];omega)]
theorem ig {α:Type} {C:α→List Value} {sz:Nat} (hC:∀x,(C x).length=sz):∀(l:List α) (k:Nat),(l.flatMap C).drop (k*sz)=(l.drop k).flatMap C
 | [],k=>by simp
 | x::r,0=>by simp
 | x::r,k+1=>by
  have ih:=ig hC r k;rw [List.flatMap_cons,List.drop_succ_cons, ←ih,List.drop_append,hC];have e:(k+1)*sz-sz=k*sz:=by rw [Nat.add_mul];omega
  rw [e,List.drop_of_length_le (by rw [hC,Nat.add_mul];omega)];simp
theorem l9 {α:Type} {C:α→List Value} {sz:Nat} (hC:∀x,(C x).length=sz) (l:List α) (k:Nat) (hk:k<l.length):(ovr (l.flatMap C) (k*sz) ((l.drop (k+1)).flatMap C)).take ((l.length-1)*sz)=(l.eraseIdx k).flatMap C:=by
 have hl:=bL hC l;have hd:=bL hC (l.drop (k+1));rw [List.length_drop]at hd;have hle:k*sz+(l.length-(k+1))*sz=(l.length-1)*sz:=by rw [←Nat.add_mul];congr 1;omega
 have hle2:(l.length-1)*sz≤l.length*sz:=Nat.mul_le_mul_right _ (by omega);rw [qj _ _ _ (by rw [hl,hd];omega),kg hC,List.take_append_of_le_length]
 ·rw [List.take_of_length_le]
  ·rw [List.eraseIdx_eq_take_drop_succ,List.flatMap_append]
  ·rw [List.length_append,bL hC,hd,List.length_take];have:min k l.length=k:=(by omega);rw [this];omega
 ·rw [List.length_append,bL hC,hd,List.length_take];have:min k l.length=k:=(by omega);rw [this];omega
theorem qE (w:World) (b o c:Nat) (hc:∀j,j<5→(w.cell? ⟨b,o+j,none⟩).isSome=true) (hf:∀j,j<5→w.frozen? ⟨b,o+j,none⟩=false):
  ∃vs,∀ty,(Builtin.clear_ #[26] ty #[.slice (some ⟨b,o,none⟩) 1 c]).run Tryz.prog w= .ok (.tuple #[]) (w.setCells b o vs):=by
 have hv:∀w,(zeroValue 56).run Tryz.prog w= .ok (.agg #[.int .i64 0,.int .i64 0,.int .i64 0,.int .i64 0,.int .i64 0]) w:=fun w=>by kernel_rfl
 refine⟨(Builtin.zeroCells #[.int .i64 0,.int .i64 0,.int .i64 0,.int .i64 0,.int .i64 0] 1).toList,fun ty=>?_⟩;have hlen:(Builtin.zeroCells #[Value.int .i64 0,.int .i64 0,.int .i64 0,.int .i64 0,.int .i64 0] 1).toList.length=5:=by simp [Builtin.zeroCells]
 have hone:∀v∈(Builtin.zeroCells #[Value.int .i64 0,.int .i64 0,.int .i64 0,.int .i64 0,.int .i64 0] 1).toList,v.oneCell'=true:=dH (by kernel_rfl);have hst:=run_storeCells_cells (P:=Tryz.prog) b o (Builtin.zeroCells #[.int .i64 0,.int .i64 0,.int .i64 0,.int .i64 0,.int .i64 0] 1).toList 0 w (by rw [hlen];simpa using hc) (by rw [hlen];simpa using hf) hone;simp only [Nat.add_zero]at hst;simp [Builtin.clear_,run_underlying Tryz.underlying26,hv,hst,Value.cells]
theorem kY (l:List Pr) (B g cap k:Nat) (w:World) (hown:w.ownsRow B 56 5 (.slice (some ⟨g,0,none⟩) l.length cap) l.length (l.flatMap prC)) (hk:k<l.length) (hl:l.length≤1000):
  Calls Tryz.prog 88 #[.slice (some ⟨g,0,none⟩) l.length cap,.int .i64 k,.int .i64 (k+1)] w fun e w'=>e= .returned (.slice (some ⟨g,0,none⟩) (l.length-1) cap)∧
   w'.ownsRow B 56 5 (.slice (some ⟨g,0,none⟩) (l.length-1) cap) (l.length-1) ((l.eraseIdx k).flatMap prC)∧w.grownBy w' (some g):=by
 obtain⟨i0,hi,hz0,hz1,hz2⟩:=info_parts kW;have HO:=aa hown;have hcap:l.length≤cap∧cap≤maxLen:=by
  obtain⟨_,⟨h,_⟩ |⟨g',cap',cur,hv,_,_,hnc,hm,_⟩⟩:=hown
  ·simp at h
  ·simp only [Value.slice.injEq]at hv;obtain⟨_,_,rfl⟩:=hv;exact⟨hnc,hm⟩
 obtain⟨hcap,hcm⟩:=hcap;unfold maxLen at hcm;have hcells:∀j,j<l.length*5→w.cell? ⟨g,j,none⟩=(l.flatMap prC)[j]?:=fun j hj=>hown.cellAt j hj;have hfz:∀j,w.frozen? ⟨g,j,none⟩=false:=fun j=>hown.frozenAt j;clear hown;obtain⟨news,hnews⟩:∃news,news=(l.drop (k+1)).flatMap prC:=⟨_,rfl⟩;have hlen:news.length=(l.length-(k+1))*5:=by rw [hnews,bL bp,List.length_drop]
 have hfl:=bL bp l;have hget:∀t u,news[t]? =some u→w.cell? ⟨g,(k+1)*5+t,none⟩=some u:=fun t u hu=>by
  have ht:t<news.length:=(List.getElem?_eq_some_iff.1 hu).1;rw [hcells _ (by rw [hlen]at ht;omega)];rw [hnews, ←ig bp,List.getElem?_drop]at hu;exact hu
 have s1:Hid (news.length=(l.length-(k+1))*5):=hlen;have s2:Hid (∀u∈news,u.oneCell'=true):=by rw [hnews];exact nS _
 have s3:Hid (∀t,t<news.length→(w.drew.cell? ⟨g,0+k*5+t,none⟩).isSome=true∧w.drew.frozen? ⟨g,0+k*5+t,none⟩=false):=by
  intro t ht;refine⟨?_,hfz _⟩;show(w.cell? _).isSome=true;have hjl:0+k*5+t<l.length*5:=by rw [hlen]at ht;omega
  rw [hcells _ hjl,List.getElem?_eq_getElem (by rw [hfl];exact hjl)];rfl
 obtain⟨A,hA,hsrc⟩:∃A:Addr,(if cap=k+1 then some (⟨g,0,none⟩:Addr)else some ⟨g,(k+1)*5,none⟩)=some A∧Hid (∀t u,news[t]? =some u→w.drew.cell? (A.add t)=some u):=by
  by_cases h:cap=k+1
  ·refine⟨⟨g,0,none⟩,by simp [h],fun t u hu=>?_⟩;have h0:news.length=0:=(by rw [hlen,(show l.length-(k+1)=0 by omega),Nat.zero_mul]);rw [List.length_eq_zero_iff.1 h0]at hu;simp at hu
  ·refine⟨⟨g,(k+1)*5,none⟩,by simp [h],fun t u hu=>?_⟩;rw [eP];exact hget t u hu
 obtain⟨W1,hW1⟩:∃W1,W1=w.drew.setCells g (0+k*5) news:=⟨_,rfl⟩;have HW:Hid (W1=w.drew.setCells g (0+k*5) news):=hW1;have HO1:Hid (W1.ownsRow B 56 5 (.slice (some ⟨g,0,none⟩) l.length cap) l.length (ovr (l.flatMap prC) (k*5) news)):=by
  show World.ownsRow _ _ _ _ _ _ _;rw [hW1,Nat.zero_add];exact kJ news _ _ _ HO.out.drew
 have HG1:Hid (w.grownBy W1 (some g)):=by
  show World.grownBy _ _ _;rw [hW1];exact bT news _ _ ⟨rfl,rfl,rfl,Nat.le_refl _,fun _ _ _=>rfl⟩
 obtain⟨vs,hclr⟩:=qE W1 g ((l.length-1)*5) (cap-(l.length-1)) (fun j hj=>by
  have:=HO1.out.cellAt ((l.length-1)*5+j) (by omega);rw [this,List.getElem?_eq_getElem (by rw [HO1.out.1];omega)];rfl) (fun j hj=>HO1.out.frozenAt _)
 have HP1:Hid (W1.ownsRow B 56 5 (.slice (some ⟨g,0,none⟩) (l.length-1) cap) (l.length-1) ((l.eraseIdx k).flatMap prC)):=by
  show World.ownsRow _ _ _ _ _ _ _;rw [←l9 bp l k hk, ←hnews];exact gf HO1.out (by omega)
 have HP2:=aa (dR vs ((l.length-1)*5) W1 HP1.out zr);have HG2:=aa (bT vs ((l.length-1)*5) W1 HG1.out);clear hW1 hcells hfz hget hlen hfl hnews HO1 HP1 HG1 HO;have hic:k≤cap:=by omega
 have hjc:k+1≤cap:=by omega
 have hq1:(0:Int)≤(k:Int)+1:=by omega
 have hq2:(k:Int)+1≤(l.length:Int):=by omega
 have hq3:k+(l.length-(k+1))=l.length-1:=by omega
 have hq4:l.length-(l.length-1)=1:=by omega
 go_enter Tryz.func88,Tryz.ntmps88;go_wp2_with fail
 go_region_law (refine step_append_room rfl (.tmp 22) (.tmp 25) 26 rfl 56 i0 5 Tryz.underlying26 hi hz1 g 0 k cap (by simp [Act.eval,Act.put]) A (l.length-(k+1)) (cap-(k+1)) news (by simp [Act.eval,Act.put]) s1.out hsrc.out s2.out (by omega) s3.out ?_;rw [←HW.out]);have hr1:((l.length-1:Nat):Int)≤(l.length:Int):=by omega
 have hr2:(l.length:Int)≤(cap:Int):=by omega
 have hr3:¬cap=l.length-1:=by omega
 have hr4:(0:Int)≤((l.length-1:Nat):Int):=by omega
 generalize hq:l.length-1=q at*;clear s1 s2 s3 hsrc hA HW;go_wp2_with (simp only [hclr])
 go_ret;subst hq;exact⟨rfl,HP2.out,HG2.out⟩
theorem qI (w:World) (b o c:Nat) (hc:∀j,j<9→(w.cell? ⟨b,o+j,none⟩).isSome=true) (hf:∀j,j<9→w.frozen? ⟨b,o+j,none⟩=false):
  ∃vs,∀ty,(Builtin.clear_ #[27] ty #[.slice (some ⟨b,o,none⟩) 1 c]).run Tryz.prog w= .ok (.tuple #[]) (w.setCells b o vs):=by
 have hv:∀w,(zeroValue 58).run Tryz.prog w= .ok (.agg #[.int .i64 0,.int .i64 0,.bool false,.int .i64 0,.int .i64 0,.int .i64 0,.int .i64 0,.int .i64 0,.bool false]) w:=fun w=>by kernel_rfl
 refine⟨(Builtin.zeroCells #[.int .i64 0,.int .i64 0,.bool false,.int .i64 0,.int .i64 0,.int .i64 0,.int .i64 0,.int .i64 0,.bool false] 1).toList,fun ty=>?_⟩;have hlen:(Builtin.zeroCells #[Value.int .i64 0,.int .i64 0,.bool false,.int .i64 0,.int .i64 0,.int .i64 0,.int .i64 0,.int .i64 0,.bool false] 1).toList.length=9:=by simp [Builtin.zeroCells]
 have hone:∀v∈(Builtin.zeroCells #[Value.int .i64 0,.int .i64 0,.bool false,.int .i64 0,.int .i64 0,.int .i64 0,.int .i64 0,.int .i64 0,.bool false] 1).toList,v.oneCell'=true:=dH (by kernel_rfl);have hst:=run_storeCells_cells (P:=Tryz.prog) b o (Builtin.zeroCells #[.int .i64 0,.int .i64 0,.bool false,.int .i64 0,.int .i64 0,.int .i64 0,.int .i64 0,.int .i64 0,.bool false] 1).toList 0 w (by rw [hlen];simpa using hc) (by rw [hlen];simpa using hf) hone;simp only [Nat.add_zero]at hst;simp [Builtin.clear_,run_underlying Tryz.underlying27,hv,hst,Value.cells]
theorem kv (l:List Ac) (B g cap k:Nat) (w:World) (hown:w.ownsRow B 58 9 (.slice (some ⟨g,0,none⟩) l.length cap) l.length (l.flatMap acC)) (hk:k<l.length) (hl:l.length≤1000):
  Calls Tryz.prog 89 #[.slice (some ⟨g,0,none⟩) l.length cap,.int .i64 k,.int .i64 (k+1)] w fun e w'=>e= .returned (.slice (some ⟨g,0,none⟩) (l.length-1) cap)∧
   w'.ownsRow B 58 9 (.slice (some ⟨g,0,none⟩) (l.length-1) cap) (l.length-1) ((l.eraseIdx k).flatMap acC)∧w.grownBy w' (some g):=by
 obtain⟨i0,hi,hz0,hz1,hz2⟩:=info_parts kq;have HO:=aa hown;have hcap:l.length≤cap∧cap≤maxLen:=by
  obtain⟨_,⟨h,_⟩ |⟨g',cap',cur,hv,_,_,hnc,hm,_⟩⟩:=hown
  ·simp at h
  ·simp only [Value.slice.injEq]at hv;obtain⟨_,_,rfl⟩:=hv;exact⟨hnc,hm⟩
 obtain⟨hcap,hcm⟩:=hcap;unfold maxLen at hcm;have hcells:∀j,j<l.length*9→w.cell? ⟨g,j,none⟩=(l.flatMap acC)[j]?:=fun j hj=>hown.cellAt j hj;have hfz:∀j,w.frozen? ⟨g,j,none⟩=false:=fun j=>hown.frozenAt j;clear hown;obtain⟨news,hnews⟩:∃news,news=(l.drop (k+1)).flatMap acC:=⟨_,rfl⟩;have hlen:news.length=(l.length-(k+1))*9:=by rw [hnews,bL bO,List.length_drop]
 have hfl:=bL bO l;have hget:∀t u,news[t]? =some u→w.cell? ⟨g,(k+1)*9+t,none⟩=some u:=fun t u hu=>by
  have ht:t<news.length:=(List.getElem?_eq_some_iff.1 hu).1;rw [hcells _ (by rw [hlen]at ht;omega)];rw [hnews, ←ig bO,List.getElem?_drop]at hu;exact hu
 have s1:Hid (news.length=(l.length-(k+1))*9):=hlen;have s2:Hid (∀u∈news,u.oneCell'=true):=by rw [hnews];exact nU _
 have s3:Hid (∀t,t<news.length→(w.drew.cell? ⟨g,0+k*9+t,none⟩).isSome=true∧w.drew.frozen? ⟨g,0+k*9+t,none⟩=false):=by
  intro t ht;refine⟨?_,hfz _⟩;show(w.cell? _).isSome=true;have hjl:0+k*9+t<l.length*9:=by rw [hlen]at ht;omega
  rw [hcells _ hjl,List.getElem?_eq_getElem (by rw [hfl];exact hjl)];rfl
 obtain⟨A,hA,hsrc⟩:∃A:Addr,(if cap=k+1 then some (⟨g,0,none⟩:Addr)else some ⟨g,(k+1)*9,none⟩)=some A∧Hid (∀t u,news[t]? =some u→w.drew.cell? (A.add t)=some u):=by
  by_cases h:cap=k+1
  ·refine⟨⟨g,0,none⟩,by simp [h],fun t u hu=>?_⟩;have h0:news.length=0:=(by rw [hlen,(show l.length-(k+1)=0 by omega),Nat.zero_mul]);rw [List.length_eq_zero_iff.1 h0]at hu;simp at hu
  ·refine⟨⟨g,(k+1)*9,none⟩,by simp [h],fun t u hu=>?_⟩;rw [eP];exact hget t u hu
 obtain⟨W1,hW1⟩:∃W1,W1=w.drew.setCells g (0+k*9) news:=⟨_,rfl⟩;have HW:Hid (W1=w.drew.setCells g (0+k*9) news):=hW1;have HO1:Hid (W1.ownsRow B 58 9 (.slice (some ⟨g,0,none⟩) l.length cap) l.length (ovr (l.flatMap acC) (k*9) news)):=by
  show World.ownsRow _ _ _ _ _ _ _;rw [hW1,Nat.zero_add];exact kJ news _ _ _ HO.out.drew
 have HG1:Hid (w.grownBy W1 (some g)):=by
  show World.grownBy _ _ _;rw [hW1];exact bT news _ _ ⟨rfl,rfl,rfl,Nat.le_refl _,fun _ _ _=>rfl⟩
 obtain⟨vs,hclr⟩:=qI W1 g ((l.length-1)*9) (cap-(l.length-1)) (fun j hj=>by
  have:=HO1.out.cellAt ((l.length-1)*9+j) (by omega);rw [this,List.getElem?_eq_getElem (by rw [HO1.out.1];omega)];rfl) (fun j hj=>HO1.out.frozenAt _)
 have HP1:Hid (W1.ownsRow B 58 9 (.slice (some ⟨g,0,none⟩) (l.length-1) cap) (l.length-1) ((l.eraseIdx k).flatMap acC)):=by
  show World.ownsRow _ _ _ _ _ _ _;rw [←l9 bO l k hk, ←hnews];exact gf HO1.out (by omega)
 have HP2:=aa (dR vs ((l.length-1)*9) W1 HP1.out zr);have HG2:=aa (bT vs ((l.length-1)*9) W1 HG1.out);clear hW1 hcells hfz hget hlen hfl hnews HO1 HP1 HG1 HO;have hic:k≤cap:=by omega
 have hjc:k+1≤cap:=by omega
 have hq1:(0:Int)≤(k:Int)+1:=by omega
 have hq2:(k:Int)+1≤(l.length:Int):=by omega
 have hq3:k+(l.length-(k+1))=l.length-1:=by omega
 have hq4:l.length-(l.length-1)=1:=by omega
 go_enter Tryz.func89,Tryz.ntmps89;go_wp2_with fail
 go_region_law (refine step_append_room rfl (.tmp 22) (.tmp 25) 27 rfl 58 i0 9 Tryz.underlying27 hi hz1 g 0 k cap (by simp [Act.eval,Act.put]) A (l.length-(k+1)) (cap-(k+1)) news (by simp [Act.eval,Act.put]) s1.out hsrc.out s2.out (by omega) s3.out ?_;rw [←HW.out]);have hr1:((l.length-1:Nat):Int)≤(l.length:Int):=by omega
 have hr2:(l.length:Int)≤(cap:Int):=by omega
 have hr3:¬cap=l.length-1:=by omega
 have hr4:(0:Int)≤((l.length-1:Nat):Int):=by omega
 generalize hq:l.length-1=q at*;clear s1 s2 s3 hsrc hA HW;go_wp2_with (simp only [hclr])
 go_ret;subst hq;exact⟨rfl,HP2.out,HG2.out⟩
theorem lR (v:Value) (l:List Sw) (w:World) (hM:cZ w v l) (hl:l.length*24≤140737488355328):
  Calls Tryz.prog 90 #[v] w fun e w'=>∃u,e= .returned u∧w'.ownsRow w.heap.size 54 3 u l.length (l.flatMap swC)∧Below w.heap.size w w':=by
 obtain⟨i0,hi,hz0,hz1,hz2⟩:=info_parts nt;have HM:=aa hM;obtain⟨a,cap,rfl,hn,hL⟩:=hM;cases a with
 | none=>
  obtain rfl:=hn rfl;have h0:l.length=0:=by
   rcases hL with h |⟨_,_,h,_⟩
   ·exact h
   ·simp at h
  obtain rfl:l= []:=List.eq_nil_of_length_eq_zero h0;clear hL hn HM h0 hl;go_enter Tryz.func90,Tryz.ntmps90;go_wp2;go_ret;exact⟨_,rfl,World.ownsRow_nil _ _ _ _,Below.refl _ _⟩
 | some ad=>
  have HN:=aa (RowAt.news dg HM.out);have H1:=aa (rh l);clear hL hn;go_enter Tryz.func90,Tryz.ntmps90;go_wp2_with (at_builtin;refine wpList_append_own _ rfl _ _ 25 rfl w.heap.size 54 i0 _ 3 24 Tryz.underlying25 hi hz0 hz1 hz2 rfl (by decide) _ _ _ rfl (World.ownsRow_nil w w.heap.size 54 3) ad l.length cap (l.flatMap swC) rfl ?a0 HN.out H1.out ?a1 ?a2 ?a3 ?_)
  case a0=>rw [bL dg]
  case a1=>unfold maxLen;omega
  case a2=>omega
  case a3=>exact Nat.le_refl _
  intro v1 w1 ho1 hg1 _;have hb1:Below w.heap.size w w1:=(Below.refl _ w).grown hg1 (by simp) (aB (World.ownsRow_nil w w.heap.size 54 3));have HO:Hid (w1.ownsRow w.heap.size 54 3 v1 l.length (l.flatMap swC)):=aa ho1;clear ho1 hg1;go_wp2;go_ret;exact⟨v1,rfl,HO.out,hb1⟩
theorem lH (v:Value) (l:List Pr) (w:World) (hM:dC w v l) (hl:l.length*40≤140737488355328):
  Calls Tryz.prog 91 #[v] w fun e w'=>∃u,e= .returned u∧w'.ownsRow w.heap.size 56 5 u l.length (l.flatMap prC)∧Below w.heap.size w w':=by
 obtain⟨i0,hi,hz0,hz1,hz2⟩:=info_parts kW;have HM:=aa hM;obtain⟨a,cap,rfl,hn,hL⟩:=hM;cases a with
 | none=>
  obtain rfl:=hn rfl;have h0:l.length=0:=by
   rcases hL with h |⟨_,_,h,_⟩
   ·exact h
   ·simp at h
  obtain rfl:l= []:=List.eq_nil_of_length_eq_zero h0;clear hL hn HM h0 hl;go_enter Tryz.func91,Tryz.ntmps91;go_wp2;go_ret;exact⟨_,rfl,World.ownsRow_nil _ _ _ _,Below.refl _ _⟩
 | some ad=>
  have HN:=aa (RowAt.news bp HM.out);have H1:=aa (nS l);clear hL hn;go_enter Tryz.func91,Tryz.ntmps91;go_wp2_with (at_builtin;refine wpList_append_own _ rfl _ _ 26 rfl w.heap.size 56 i0 _ 5 40 Tryz.underlying26 hi hz0 hz1 hz2 rfl (by decide) _ _ _ rfl (World.ownsRow_nil w w.heap.size 56 5) ad l.length cap (l.flatMap prC) rfl ?a0 HN.out H1.out ?a1 ?a2 ?a3 ?_)
  case a0=>rw [bL bp]
  case a1=>unfold maxLen;omega
  case a2=>omega
  case a3=>exact Nat.le_refl _
  intro v1 w1 ho1 hg1 _;have hb1:Below w.heap.size w w1:=(Below.refl _ w).grown hg1 (by simp) (aB (World.ownsRow_nil w w.heap.size 56 5));have HO:Hid (w1.ownsRow w.heap.size 56 5 v1 l.length (l.flatMap prC)):=aa ho1;clear ho1 hg1;go_wp2;go_ret;exact⟨v1,rfl,HO.out,hb1⟩
theorem mm (v:Value) (l:List Ac) (w:World) (hM:nT w v l) (hl:l.length*72≤140737488355328):
  Calls Tryz.prog 92 #[v] w fun e w'=>∃u,e= .returned u∧w'.ownsRow w.heap.size 58 9 u l.length (l.flatMap acC)∧Below w.heap.size w w':=by
 obtain⟨i0,hi,hz0,hz1,hz2⟩:=info_parts kq;have HM:=aa hM;obtain⟨a,cap,rfl,hn,hL⟩:=hM;cases a with
 | none=>
  obtain rfl:=hn rfl;have h0:l.length=0:=by
   rcases hL with h |⟨_,_,h,_⟩
   ·exact h
   ·simp at h
  obtain rfl:l= []:=List.eq_nil_of_length_eq_zero h0;clear hL hn HM h0 hl;go_enter Tryz.func92,Tryz.ntmps92;go_wp2;go_ret;exact⟨_,rfl,World.ownsRow_nil _ _ _ _,Below.refl _ _⟩
 | some ad=>
  have HN:=aa (RowAt.news bO HM.out);have H1:=aa (nU l);clear hL hn;go_enter Tryz.func92,Tryz.ntmps92;go_wp2_with (at_builtin;refine wpList_append_own _ rfl _ _ 27 rfl w.heap.size 58 i0 _ 9 72 Tryz.underlying27 hi hz0 hz1 hz2 rfl (by decide) _ _ _ rfl (World.ownsRow_nil w w.heap.size 58 9) ad l.length cap (l.flatMap acC) rfl ?a0 HN.out H1.out ?a1 ?a2 ?a3 ?_)
  case a0=>rw [bL bO]
  case a1=>unfold maxLen;omega
  case a2=>omega
  case a3=>exact Nat.le_refl _
  intro v1 w1 ho1 hg1 _;have hb1:Below w.heap.size w w1:=(Below.refl _ w).grown hg1 (by simp) (aB (World.ownsRow_nil w w.heap.size 58 9));have HO:Hid (w1.ownsRow w.heap.size 58 9 v1 l.length (l.flatMap acC)):=aa ho1;clear ho1 hg1;go_wp2;go_ret;exact⟨v1,rfl,HO.out,hb1⟩
structure Own3 (w:World) (B:Nat) (sv pv av:Value) (S:List Sw) (P:List Pr) (A:List Ac):Prop where
 s:w.ownsRow B 54 3 sv S.length (S.flatMap swC)
 p:w.ownsRow B 56 5 pv P.length (P.flatMap prC)
 a:w.ownsRow B 58 9 av A.length (A.flatMap acC)
 sp:sv.ownBlock=none∨sv.ownBlock≠pv.ownBlock
 sa:sv.ownBlock=none∨sv.ownBlock≠av.ownBlock
 pa:pv.ownBlock=none∨pv.ownBlock≠av.ownBlock
theorem Own3.cf {w:World} {B:Nat} {sv pv av:Value} {S:List Sw} {P:List Pr} {A:List Ac} (h:Own3 w B sv pv av S P A):CfAt w sv pv av S P A:=
 ⟨RowAt.of_own dg (by omega) h.s,RowAt.of_own bp (by omega) h.p,RowAt.of_own bO (by omega) h.a⟩
theorem pG (sv pv av:Value) (S:List Sw) (P:List Pr) (A:List Ac) (w:World) (hC:CfAt w sv pv av S P A) (h1:S.length*24≤140737488355328) (h2:P.length*40≤140737488355328) (h3:A.length*72≤140737488355328):
  Calls Tryz.prog 40 #[.agg #[sv,pv,av]] w fun e w'=>∃su pu au,e= .returned (.agg #[su,pu,au])∧Own3 w' w.heap.size su pu au S P A∧Below w.heap.size w w':=by
 have HC:=aa hC;have HS:Hid (∀W:World,Below w.heap.size w W→Calls Tryz.prog 90 #[sv] W fun e w'=>∃u,e= .returned u∧w'.ownsRow W.heap.size 54 3 u S.length (S.flatMap swC)∧Below W.heap.size W w'):=fun W hW=>lR sv S W (RowAt.below HC.out.1 hW zr) h1;have HP:Hid (∀W:World,Below w.heap.size w W→Calls Tryz.prog 91 #[pv] W fun e w'=>∃u,e= .returned u∧w'.ownsRow W.heap.size 56 5 u P.length (P.flatMap prC)∧Below W.heap.size W w'):=fun W hW=>lH pv P W (RowAt.below HC.out.2.1 hW zr) h2;have HA:Hid (∀W:World,Below w.heap.size w W→Calls Tryz.prog 92 #[av] W fun e w'=>∃u,e= .returned u∧w'.ownsRow W.heap.size 58 9 u A.length (A.flatMap acC)∧Below W.heap.size W w'):=fun W hW=>mm av A W (RowAt.below HC.out.2.2 hW zr) h3;obtain⟨s1,s2,rfl⟩:=hC.1.slice;obtain⟨p1,p2,rfl⟩:=hC.2.1.slice;obtain⟨a1,a2,rfl⟩:=hC.2.2.slice;clear hC HC;go_enter Tryz.func40,Tryz.ntmps40;go_wp2_with fail
 obtain⟨W0,hW0⟩:∃W0,W0=(w.alloc (.cells #[.slice s1 S.length s2,.slice p1 P.length p2,.slice a1 A.length a2] 29)).alloc (.cells #[.slice none 0 0,.slice none 0 0,.slice none 0 0] 29):=⟨_,rfl⟩;have hb0:Below w.heap.size w W0:=by rw [hW0];exact((Below.refl _ _).alloc zr _).alloc (by simp) _
 have hz0:w.heap.size+2≤W0.heap.size:=by rw [hW0];simp
 have c0:W0.cell? ⟨w.heap.size,0,none⟩=some (.slice s1 S.length s2):=by rw [hW0];simp
 have c1:W0.cell? ⟨w.heap.size,1,none⟩=some (.slice p1 P.length p2):=by rw [hW0];simp
 have c2:W0.cell? ⟨w.heap.size,2,none⟩=some (.slice a1 A.length a2):=by rw [hW0];simp
 have r0:W0.cell? ⟨w.heap.size+1,0,none⟩=some (.slice none 0 0):=by rw [hW0];simp
 have r1:W0.cell? ⟨w.heap.size+1,1,none⟩=some (.slice none 0 0):=by rw [hW0];simp
 have r2:W0.cell? ⟨w.heap.size+1,2,none⟩=some (.slice none 0 0):=by rw [hW0];simp
 have f0:W0.frozen? ⟨w.heap.size+1,0,none⟩=false:=by rw [hW0];simp
 have f1:W0.frozen? ⟨w.heap.size+1,1,none⟩=false:=by rw [hW0];simp
 have f2:W0.frozen? ⟨w.heap.size+1,2,none⟩=false:=by rw [hW0];simp
 rw [←hW0];clear hW0 h1 h2 h3;have e0:Below (w.heap.size+2) W0 W0.drew:=(Below.refl _ _).drew;go_region_held3 (fun w'=>w'.cell? ⟨w.heap.size,0,none⟩=some (.slice s1 S.length s2)∧w'.cell? ⟨w.heap.size,1,none⟩=some (.slice p1 P.length p2)∧w'.cell? ⟨w.heap.size,2,none⟩=some (.slice a1 A.length a2)) (go_keep)
  (first |(go_at_call 90;refine(ae HS _ hb0.drew).mono ?_;rintro e w1 ⟨u1,rfl,ho1,hb1⟩;obtain⟨o1,m1,rfl⟩:=aF ho1;have HO1:=aa ho1;clear ho1;have g1:Below (w.heap.size+2) W0 w1:=e0.trans (hb1.mono hz0);have k1:Below w.heap.size w w1:=hb0.trans (g1.mono (by omega));have y0:=(g1.cell (p:=⟨w.heap.size,0,none⟩) (by simp)).trans c0;have y1:=(g1.cell (p:=⟨w.heap.size,1,none⟩) (by simp)).trans c1;have y2:=(g1.cell (p:=⟨w.heap.size,2,none⟩) (by simp)).trans c2)
               |(go_at_call 91;refine(ae HP _ k1).mono ?_;rintro e w2 ⟨u2,rfl,ho2,hb2⟩;obtain⟨o2,m2,rfl⟩:=aF ho2;have HO2:=aa ho2;clear ho2;have g2:Below (w.heap.size+2) W0 w2:=g1.trans (hb2.mono (Nat.le_trans hz0 g1.size));have k2:Below w.heap.size w w2:=hb0.trans (g2.mono (by omega));have x0:=(g2.cell (p:=⟨w.heap.size,0,none⟩) (by simp)).trans c0;have x1:=(g2.cell (p:=⟨w.heap.size,1,none⟩) (by simp)).trans c1;have x2:=(g2.cell (p:=⟨w.heap.size,2,none⟩) (by simp)).trans c2)
               |(go_at_call 92;refine(ae HA _ k2).mono ?_;rintro e w3 ⟨u3,rfl,ho3,hb3⟩;obtain⟨o3,m3,rfl⟩:=aF ho3;have HO3:=aa ho3;clear ho3;have g3:Below (w.heap.size+2) W0 w3:=g2.trans (hb3.mono (Nat.le_trans hz0 g2.size));have k3:Below w.heap.size w w3:=hb0.trans (g3.mono (by omega));have v0:=(g3.cell (p:=⟨w.heap.size,0,none⟩) (by simp)).trans c0;have v1:=(g3.cell (p:=⟨w.heap.size,1,none⟩) (by simp)).trans c1;have v2:=(g3.cell (p:=⟨w.heap.size,2,none⟩) (by simp)).trans c2;have t0:=(g3.cell (p:=⟨w.heap.size+1,0,none⟩) (by simp)).trans r0;have t1:=(g3.cell (p:=⟨w.heap.size+1,1,none⟩) (by simp)).trans r1;have t2:=(g3.cell (p:=⟨w.heap.size+1,2,none⟩) (by simp)).trans r2;have l0:=(g3.frozen (p:=⟨w.heap.size+1,0,none⟩) (by simp)).trans f0;have l1:=(g3.frozen (p:=⟨w.heap.size+1,1,none⟩) (by simp)).trans f1;have l2:=(g3.frozen (p:=⟨w.heap.size+1,2,none⟩) (by simp)).trans f2))
 have N1:w.heap.size+1<W0.drew.heap.size:=by have:=hz0;simp;omega
 have N2:w.heap.size+1<w1.heap.size:=Nat.lt_of_lt_of_le N1 hb1.size;have N3:w.heap.size+1<w2.heap.size:=Nat.lt_of_lt_of_le N2 hb2.size;have O1:=aa (aA (aA HO1.out hb2) hb3);have O2:=aa (aA HO2.out hb3);have A12:=aa (hJ HO1.out HO2.out zr);have A13:=aa (hJ (aA HO1.out hb2) HO3.out zr);have A23:=aa (hJ HO2.out HO3.out zr);clear HO1 HO2 y0 y1 y2 x0 x1 x2 v0 v1 v2 g1 g2 g3 k1 k2 l0 l1 l2 hb2 hb3 hb1 c0 c1 c2 r0 r1 r2 f0 f1 f2 e0 HS HP HA;obtain⟨q0,q1,q2⟩:=qh t0 t1 t2 (.slice o1 S.length m1) (.slice o2 P.length m2) (.slice o3 A.length m3);have HB:Hid (Below w.heap.size w (((w3.setCell ⟨w.heap.size+1,0,none⟩ (.slice o1 S.length m1)).setCell ⟨w.heap.size+1,1,none⟩ (.slice o2 P.length m2)).setCell ⟨w.heap.size+1,2,none⟩ (.slice o3 A.length m3))):=((k3.setCell (Nat.le_succ _) _).setCell (Nat.le_succ _) _).setCell (Nat.le_succ _) _;have R1:=aa (aE (ownsRow_setCell_below (ownsRow_setCell_below (ownsRow_setCell_below O1.out (a:=⟨w.heap.size+1,0,none⟩) N1 (.slice o1 S.length m1)) (a:=⟨w.heap.size+1,1,none⟩) N1 (.slice o2 P.length m2)) (a:=⟨w.heap.size+1,2,none⟩) N1 (.slice o3 A.length m3)) (show w.heap.size≤W0.drew.heap.size by omega));have R2:=aa (aE (ownsRow_setCell_below (ownsRow_setCell_below (ownsRow_setCell_below O2.out (a:=⟨w.heap.size+1,0,none⟩) N2 (.slice o1 S.length m1)) (a:=⟨w.heap.size+1,1,none⟩) N2 (.slice o2 P.length m2)) (a:=⟨w.heap.size+1,2,none⟩) N2 (.slice o3 A.length m3)) (show w.heap.size≤w1.heap.size by omega));have R3:=aa (aE (ownsRow_setCell_below (ownsRow_setCell_below (ownsRow_setCell_below HO3.out (a:=⟨w.heap.size+1,0,none⟩) N3 (.slice o1 S.length m1)) (a:=⟨w.heap.size+1,1,none⟩) N3 (.slice o2 P.length m2)) (a:=⟨w.heap.size+1,2,none⟩) N3 (.slice o3 A.length m3)) (show w.heap.size≤w2.heap.size by omega));clear O1 O2 HO3 k3 t0 t1 t2 N1 N2 N3;generalize (((w3.setCell ⟨w.heap.size+1,0,none⟩ (.slice o1 S.length m1)).setCell ⟨w.heap.size+1,1,none⟩ (.slice o2 P.length m2)).setCell ⟨w.heap.size+1,2,none⟩ (.slice o3 A.length m3))=W at*;go_wp2_with fail
 refine bodyPost_ret (v:=.agg #[.slice o1 S.length m1,.slice o2 P.length m2,.slice o3 A.length m3]) ?_ rfl ⟨_,_,_,rfl,⟨R1.out,R2.out,R3.out,A12.out,A13.out,A23.out⟩,HB.out⟩;simp [results,Tryz.results40,go_sem,q0,q1,q2]
def nxS (S:List Sw) (a:Ax):List Sw:=if a.k=1 then S++ [a.s]else S
def nxP (P:List Pr) (a:Ax):List Pr:=if a.k=2 then P++ [a.p]else if a.k=4 then P.eraseIdx (pat P a.n).toNat else if a.k=6 then P.set (pat P a.n).toNat ⟨(P.getD (pat P a.n).toNat pr0).i,(P.getD (pat P a.n).toNat pr0).s,(P.getD (pat P a.n).toNat pr0).m,(P.getD (pat P a.n).toNat pr0).p,a.m⟩else P
def nxA (A:List Ac) (a:Ax):List Ac:=if a.k=3 then A++ [a.r]else if a.k=5 then A.eraseIdx a.n.toNat else A
theorem RowAt.set_far {α:Type} {C:α→List Value} {sz:Nat} {w:World} {v:Value} {l:List α} (h:RowAt C sz w v l) {b:Nat} (hne:v.ownBlock≠some b) (o:Nat) (x:Value):RowAt C sz (w.setCell ⟨b,o,none⟩ x) v l:=by
 obtain⟨a,cap,rfl,hn,h0 |⟨b',off,rfl,hc,hL⟩⟩:=h
 ·exact⟨a,cap,rfl,hn,.inl h0⟩
 ·refine⟨_,cap,rfl,hn,.inr ⟨b',off,rfl,hc,fun i y hy j u hu=>?_⟩⟩;rw [World.cell?_setCell_other _ _ _ _ (fun e=>hne (by simp only [Addr.mk.injEq]at e;simp [Value.ownBlock,e.1]))];exact hL i y hy j u hu
theorem CfAt.set_far {w:World} {sv pv av:Value} {S:List Sw} {P:List Pr} {A:List Ac} (h:CfAt w sv pv av S P A) {b:Nat} (h1:sv.ownBlock≠some b) (h2:pv.ownBlock≠some b) (h3:av.ownBlock≠some b) (o:Nat) (x:Value):CfAt (w.setCell ⟨b,o,none⟩ x) sv pv av S P A:=
 ⟨RowAt.set_far h.1 h1 o x,RowAt.set_far h.2.1 h2 o x,RowAt.set_far h.2.2 h3 o x⟩
theorem gP {u v:Value} (h:u.ownBlock=none∨u.ownBlock≠v.ownBlock):v.ownBlock=none∨v.ownBlock≠u.ownBlock:=by
 rcases h with h | h
 ·rw [h];cases v.ownBlock
  ·exact .inl rfl
  ·exact .inr (by simp)
 ·exact .inr fun e=>h e.symm
theorem eR {w:World} {B e size n:Nat} {v:Value} {xs:List Value} (h:w.ownsRow B e size v n xs) {b:Nat} (hb:w.heap.size≤b):v.ownBlock≠some b:=fun e=>by
 have:=bB h e;omega
theorem qK {w w':World} {row:Option Nat} (hg:w.grownBy w' row) {b o:Nat} (hb:b<w.heap.size) (h:w.frozen? ⟨b,o,none⟩=false) (hne:some b≠row):w'.frozen? ⟨b,o,none⟩=false:=
 (World.frozen?_of_block (w:=w) (hg.block b hb hne)).trans h
theorem gY {α:Type} (C:α→List Value) (l:List α) (x:α):l.flatMap C++C x=(l++ [x]).flatMap C:=by simp
theorem lB:∀(l:List Pr) (k:Nat) (m:Int),k<l.length→(l.flatMap prC).set (k*5+4) (.int .i64 m)=(l.set k ⟨(l.getD k pr0).i,(l.getD k pr0).s,(l.getD k pr0).m,(l.getD k pr0).p,m⟩).flatMap prC
 | [],k,m,h=>by simp at h
 | y::r,0,m,_=>by simp [prC]
 | y::r,k+1,m,h=>by
  have ih:=lB r k m (by simpa using h);have e:(k+1)*5+4=(k*5+4)+5:=(by omega);simp only [List.flatMap_cons,List.set_cons_succ,List.getD_cons_succ]at ih⊢;rw [e, ←ih];simp [prC]
def Hi3 (B:Nat) (x y z:Value):Prop:=(∀g,x.ownBlock=some g→B≤g)∧(∀g,y.ownBlock=some g→B≤g)∧(∀g,z.ownBlock=some g→B≤g)
theorem Box.grownC {w w':World} {b:Nat} {cs:List Value} {row:Option Nat} (h:Box w b cs) (hg:w.grownBy w' row) (hne:some b≠row):Box w' b cs:=
 ⟨⟨Nat.lt_of_lt_of_le h.1.1 hg.size,fun j v hj=>hg.cell (h.1.2 j v hj) hne⟩,fun j hj=>qK hg h.1.1 (h.2 j hj) hne⟩
theorem ic:(Tryz.prog.info? 29).map (·.size)=some 3:=by kernel_rfl
def Th (w W:World) (s p a:Value):Prop:=Box W w.heap.size [s,p,a]∧Box W (w.heap.size+1+1) [.slice none 0 0,.slice none 0 0,.slice none 0 0]
theorem Th.new (w:World) (s p a:Value) (x:Obj):Th w (((w.alloc (.cells #[s,p,a] 29)).alloc x).alloc (.cells #[.slice none 0 0,.slice none 0 0,.slice none 0 0] 29)) s p a:=by
 have h:=Box.new ((w.alloc (.cells #[s,p,a] 29)).alloc x) [.slice none 0 0,.slice none 0 0,.slice none 0 0] 29;rw [show((w.alloc (.cells #[s,p,a] 29)).alloc x).heap.size=w.heap.size+1+1 by simp]at h;exact⟨((Box.new w [s,p,a] 29).alloc x).alloc _,h⟩
theorem Th.below {w W V:World} {s p a:Value} (h:Th w W s p a) (hb:Below W.heap.size W V):Th w V s p a:=⟨h.1.below hb,h.2.below hb⟩
theorem Th.alloc {w W:World} {s p a:Value} (h:Th w W s p a) (x:Obj):Th w (W.alloc x) s p a:=⟨h.1.alloc x,h.2.alloc x⟩
theorem Th.grown {w W V:World} {s p a:Value} {row:Option Nat} (h:Th w W s p a) (hg:W.grownBy V row) (hn:∀b,w.heap.size≤b→some b≠row):Th w V s p a:=⟨h.1.grownC hg (hn _ zr),h.2.grownC hg (hn _ (by omega))⟩
theorem Th.get {w W:World} {s p a:Value} (h:Th w W s p a):W.cell? ⟨w.heap.size,0,none⟩=some s∧W.cell? ⟨w.heap.size,1,none⟩=some p∧W.cell? ⟨w.heap.size,2,none⟩=some a∧
  W.cell? ⟨w.heap.size+1+1,0,none⟩=some (.slice none 0 0)∧W.cell? ⟨w.heap.size+1+1,1,none⟩=some (.slice none 0 0)∧W.cell? ⟨w.heap.size+1+1,2,none⟩=some (.slice none 0 0)∧
  W.frozen? ⟨w.heap.size,0,none⟩=false∧W.frozen? ⟨w.heap.size,1,none⟩=false∧W.frozen? ⟨w.heap.size,2,none⟩=false∧
  W.frozen? ⟨w.heap.size+1+1,0,none⟩=false∧W.frozen? ⟨w.heap.size+1+1,1,none⟩=false∧W.frozen? ⟨w.heap.size+1+1,2,none⟩=false:=
 ⟨h.1.cell 0 _ rfl,h.1.cell 1 _ rfl,h.1.cell 2 _ rfl,h.2.cell 0 _ rfl,h.2.cell 1 _ rfl,h.2.cell 2 _ rfl,h.1.2 0 (by simp),h.1.2 1 (by simp),h.1.2 2 (by simp),h.2.2 0 (by simp),h.2.2 1 (by simp),h.2.2 2 (by simp)⟩
def Nwb (w:World) (x:Value):Prop:=∀b,w.heap.size≤b→b<w.heap.size+1+1+1+1→x.ownBlock≠some b
def r9 (w:World) (B:Nat) (x y z:Value) (S:List Sw) (P:List Pr) (A:List Ac) (V:World):Prop:=V.rangeAt (w.heap.size+1+1) 0 [x,y,z]∧CfAt V x y z S P A∧Below B w V
theorem sx {w W:World} {B:Nat} {x y z t u v:Value} {S:List Sw} {P:List Pr} {A:List Ac} (hB:B≤w.heap.size) (hC:CfAt W x y z S P A) (hL:Below B w W) (hx:Nwb w x) (hy:Nwb w y) (hz:Nwb w z)
  (t0:W.cell? ⟨w.heap.size+1+1,0,none⟩=some t) (t1:W.cell? ⟨w.heap.size+1+1,1,none⟩=some u) (t2:W.cell? ⟨w.heap.size+1+1,2,none⟩=some v):
  r9 w B x y z S P A (((W.setCell ⟨w.heap.size+1+1,0,none⟩ x).setCell ⟨w.heap.size+1+1,1,none⟩ y).setCell ⟨w.heap.size+1+1,2,none⟩ z):=by
 obtain⟨u0,u1,u2⟩:=qh t0 t1 t2 x y z;have hx':=hx (w.heap.size+1+1) (by omega) (by omega);have hy':=hy (w.heap.size+1+1) (by omega) (by omega);have hz':=hz (w.heap.size+1+1) (by omega) (by omega);have hB':B≤w.heap.size+1+1:=by omega
 refine⟨fun j v hj=>?_,((hC.set_far hx' hy' hz' 0 x).set_far hx' hy' hz' 1 y).set_far hx' hy' hz' 2 z,((hL.setCell (p:=⟨w.heap.size+1+1,0,none⟩) hB' x).setCell (p:=⟨w.heap.size+1+1,1,none⟩) hB' y).setCell (p:=⟨w.heap.size+1+1,2,none⟩) hB' z⟩;have h3:j<3:=by
  have:=(List.getElem?_eq_some_iff.1 hj).1;simpa using this
 rw [Nat.zero_add];rcases(by omega:j=0∨j=1∨j=2)with rfl | rfl | rfl
 ·exact u0.trans hj
 ·exact u1.trans hj
 ·exact u2.trans hj
theorem pC {w W:World} {B:Nat} {s p a x y z:Value} {S:List Sw} {P:List Pr} {A:List Ac} (hT:Th w W s p a) (hB:B≤w.heap.size) (hC:CfAt W x y z S P A) (hL:Below B w W) (hx:Nwb w x) (hy:Nwb w y) (hz:Nwb w z) (i:Nat) (v:Value):
  r9 w B x y z S P A ((((W.setCell ⟨w.heap.size,i,none⟩ v).setCell ⟨w.heap.size+1+1,0,none⟩ x).setCell ⟨w.heap.size+1+1,1,none⟩ y).setCell ⟨w.heap.size+1+1,2,none⟩ z):=by
 obtain⟨-, -, -,q0,q1,q2, -⟩:=hT.get;refine sx hB (hC.set_far (hx _ zr (by omega)) (hy _ zr (by omega)) (hz _ zr (by omega)) i v) (hL.setCell (p:=⟨w.heap.size,i,none⟩) hB v) hx hy hz ((World.cell?_setCell_other _ _ _ _ ?_).trans q0) ((World.cell?_setCell_other _ _ _ _ ?_).trans q1) ((World.cell?_setCell_other _ _ _ _ ?_).trans q2)
 all_goals
  intro h;simp at h <;>omega
theorem lQ (B:Nat) (sv pv av:Value) (S:List Sw) (P:List Pr) (A:List Ac) (a:Ax) (w:World) (ho:Own3 w B sv pv av S P A) (hB:B≤w.heap.size) (l1:S.length≤12) (l2:P.length≤40) (l3:A.length≤40)
  (hp:a.k=4∨a.k=6→0≤pat P a.n) (hn:a.k=5→0≤a.n∧a.n<A.length):
  Calls Tryz.prog 39 #[.agg #[sv,pv,av],dw a] w fun e w'=>∃su pu au,e= .returned (.agg #[su,pu,au])∧CfAt w' su pu au (nxS S a) (nxP P a) (nxA A a)∧Below B w w'∧Hi3 B su pu au:=by
 obtain⟨iS,hiS,zS0,zS1,zS2⟩:=info_parts nt;obtain⟨iP,hiP,zP0,zP1,zP2⟩:=info_parts kW;obtain⟨iA,hiA,zA0,zA1,zA2⟩:=info_parts kq;have HO:=aa ho;obtain⟨s1,s2,rfl⟩:=aF ho.s;obtain⟨p1,p2,rfl⟩:=aF ho.p;obtain⟨a1,a2,rfl⟩:=aF ho.a;clear ho;have HAT:=aa (fun W (hW:Below w.heap.size w W)=>fM _ _ _ S P A a.n W (HO.out.cf.below hW zr) (by omega));have HNS:Hid (Nwb w (.slice s1 S.length s2)):=fun b hb _=>eR HO.out.s hb;have HNP:Hid (Nwb w (.slice p1 P.length p2)):=fun b hb _=>eR HO.out.p hb;have HNA:Hid (Nwb w (.slice a1 A.length a2)):=fun b hb _=>eR HO.out.a hb;obtain⟨k,si,st,sg,pi,ps,pm,pp,pc,rs,rp,rn,rf,rb,rt,re,ro,rd,n,m,f0,f1,f2,f3,f4,f5,f6,body⟩:=a;simp only at hp hn HAT⊢;have hcase:k=1∨k=2∨k=3∨k=4∨k=5∨k=6∨(¬k=1∧¬k=2∧¬k=3∧¬k=4∧¬k=5∧¬k=6):=by omega
 have nn1:w.heap.size≠w.heap.size+1+1:=by omega
 go_enter Tryz.func39,Tryz.ntmps39;rcases hcase with rfl | rfl | rfl | rfl | rfl | rfl |⟨k1,k2,k3,k4,k5,k6⟩
 ·go_wp2_with (at_builtin;refine wpList_append_own_at _ rfl _ _ 25 rfl B 54 iS _ 3 24 Tryz.underlying25 hiS zS0 zS1 zS2 rfl (by decide) _ _ _ rfl ((((HO.out.s.alloc _).alloc _).alloc _).alloc _) ⟨w.heap.size+1+1+1,0,none⟩ 1 1 [.int .i64 si,.int .i64 st,.int .i64 sg] rfl rfl ?a2 (dH rfl) ?a3 ?a4 ?a5 ?_)
  case a2=>
   intro j u hj;rw [eP,Nat.zero_add];exact aj _ _ (by simp) #[.int .i64 si,.int .i64 st,.int .i64 sg] _ j u (by simpa using hj)
  case a3=>unfold maxLen;omega
  case a4=>omega
  case a5=>simp;omega
  intro v1 w1 ho1 hg1 _ hat;have HT:=aa (((Th.new w _ _ _ _).alloc _).grown hg1 (fun b hb e=>eR HO.out.s hb e.symm));have Kp:=aa (World.ownsRow.kept ((((HO.out.p.alloc _).alloc _).alloc _).alloc _) hg1 (gP HO.out.sp));have Ka:=aa (World.ownsRow.kept ((((HO.out.a.alloc _).alloc _).alloc _).alloc _) hg1 (gP HO.out.sa));have Ks:Hid (w1.ownsRow B 54 3 v1 (S++ [(⟨si,st,sg⟩:Sw)]).length ((S++ [(⟨si,st,sg⟩:Sw)]).flatMap swC)):=by
   show World.ownsRow _ _ _ _ _ _ _;rw [List.length_append, ←gY];exact ho1
  have HN:Hid (Nwb w v1):=fun b hb hb2 e=>by
   rcases hat with h | h
   ·exact eR HO.out.s hb (h.symm.trans e)
   ·rw [h]at e;simp at e;omega
  obtain⟨o1,m1,rfl⟩:=aF ho1;have HCF:=aa (show CfAt w1 _ _ _ _ _ _ from⟨RowAt.of_own dg (by omega) Ks.out,RowAt.of_own bp (by omega) Kp.out,RowAt.of_own bO (by omega) Ka.out⟩);have HI3:=aa (And.intro (aB Ks.out) (And.intro (aB Kp.out) (aB Ka.out)));have HBE:=aa ((((((Below.refl _ w).alloc hB _).alloc (by simp;omega) _).alloc (by simp;omega) _).alloc (by simp;omega) _).grown hg1 (by simp;omega) (aB HO.out.s));clear hat ho1 hg1 HAT Ks Kp Ka;obtain⟨d0,d1,d2,q0,q1,q2,y0,y1,y2,f0,f1,f2⟩:=HT.out.get;go_wp2_with fail
  have F:=aa (pC HT.out hB HCF.out HBE.out HN.out HNP.out HNA.out 0 (.slice o1 (S.length+1) m1));refine bodyPost_ret (v:=.agg #[.slice o1 (S.length+1) m1,.slice p1 P.length p2,.slice a1 A.length a2]) (cR (cs:=[.slice o1 (S.length+1) m1,.slice p1 P.length p2,.slice a1 A.length a2]) Tryz.results39 rfl F.out.1 Tryz.underlying29 rfl ic) rfl ⟨_,_,_,rfl,by simpa [nxS,nxP,nxA,Ax.s,Ax.p,Ax.r] using F.out.2.1,F.out.2.2,HI3.out⟩
 ·go_wp2_with (at_builtin;refine wpList_append_own_at _ rfl _ _ 26 rfl B 56 iP _ 5 40 Tryz.underlying26 hiP zP0 zP1 zP2 rfl (by decide) _ _ _ rfl ((((HO.out.p.alloc _).alloc _).alloc _).alloc _) ⟨w.heap.size+1+1+1,0,none⟩ 1 1 [.int .i64 pi,.int .i64 ps,.int .i64 pm,.int .i64 pp,.int .i64 pc] rfl rfl ?a2 (dH rfl) ?a3 ?a4 ?a5 ?_)
  case a2=>
   intro j u hj;rw [eP,Nat.zero_add];exact aj _ _ (by simp) #[.int .i64 pi,.int .i64 ps,.int .i64 pm,.int .i64 pp,.int .i64 pc] _ j u (by simpa using hj)
  case a3=>unfold maxLen;omega
  case a4=>omega
  case a5=>simp;omega
  intro v1 w1 ho1 hg1 _ hat;have HT:=aa (((Th.new w _ _ _ _).alloc _).grown hg1 (fun b hb e=>eR HO.out.p hb e.symm));have Ks:=aa (World.ownsRow.kept ((((HO.out.s.alloc _).alloc _).alloc _).alloc _) hg1 HO.out.sp);have Ka:=aa (World.ownsRow.kept ((((HO.out.a.alloc _).alloc _).alloc _).alloc _) hg1 (gP HO.out.pa));have Kp:Hid (w1.ownsRow B 56 5 v1 (P++ [(⟨pi,ps,pm,pp,pc⟩:Pr)]).length ((P++ [(⟨pi,ps,pm,pp,pc⟩:Pr)]).flatMap prC)):=by
   show World.ownsRow _ _ _ _ _ _ _;rw [List.length_append, ←gY];exact ho1
  have HN:Hid (Nwb w v1):=fun b hb hb2 e=>by
   rcases hat with h | h
   ·exact eR HO.out.p hb (h.symm.trans e)
   ·rw [h]at e;simp at e;omega
  obtain⟨o1,m1,rfl⟩:=aF ho1;have HCF:=aa (show CfAt w1 _ _ _ _ _ _ from⟨RowAt.of_own dg (by omega) Ks.out,RowAt.of_own bp (by omega) Kp.out,RowAt.of_own bO (by omega) Ka.out⟩);have HI3:=aa (And.intro (aB Ks.out) (And.intro (aB Kp.out) (aB Ka.out)));have HBE:=aa ((((((Below.refl _ w).alloc hB _).alloc (by simp;omega) _).alloc (by simp;omega) _).alloc (by simp;omega) _).grown hg1 (by simp;omega) (aB HO.out.p));clear hat ho1 hg1 HAT Ks Kp Ka;obtain⟨d0,d1,d2,q0,q1,q2,y0,y1,y2,f0,f1,f2⟩:=HT.out.get;go_wp2_with fail
  have F:=aa (pC HT.out hB HCF.out HBE.out HNS.out HN.out HNA.out 1 (.slice o1 (P.length+1) m1));refine bodyPost_ret (v:=.agg #[.slice s1 S.length s2,.slice o1 (P.length+1) m1,.slice a1 A.length a2]) (cR (cs:=[.slice s1 S.length s2,.slice o1 (P.length+1) m1,.slice a1 A.length a2]) Tryz.results39 rfl F.out.1 Tryz.underlying29 rfl ic) rfl ⟨_,_,_,rfl,by simpa [nxS,nxP,nxA,Ax.s,Ax.p,Ax.r] using F.out.2.1,F.out.2.2,HI3.out⟩
 ·go_wp2_with (at_builtin;refine wpList_append_own_at _ rfl _ _ 27 rfl B 58 iA _ 9 72 Tryz.underlying27 hiA zA0 zA1 zA2 rfl (by decide) _ _ _ rfl ((((HO.out.a.alloc _).alloc _).alloc _).alloc _) ⟨w.heap.size+1+1+1,0,none⟩ 1 1 [.int .i64 rs,.int .i64 rp,.bool rn,.int .i64 rf,.int .i64 rb,.int .i64 rt,.int .i64 re,.int .i64 ro,.bool rd] rfl rfl ?a2 (dH rfl) ?a3 ?a4 ?a5 ?_)
  case a2=>
   intro j u hj;rw [eP,Nat.zero_add];exact aj _ _ (by simp) #[.int .i64 rs,.int .i64 rp,.bool rn,.int .i64 rf,.int .i64 rb,.int .i64 rt,.int .i64 re,.int .i64 ro,.bool rd] _ j u (by simpa using hj)
  case a3=>unfold maxLen;omega
  case a4=>omega
  case a5=>simp;omega
  intro v1 w1 ho1 hg1 _ hat;have HT:=aa (((Th.new w _ _ _ _).alloc _).grown hg1 (fun b hb e=>eR HO.out.a hb e.symm));have Ks:=aa (World.ownsRow.kept ((((HO.out.s.alloc _).alloc _).alloc _).alloc _) hg1 HO.out.sa);have Kp:=aa (World.ownsRow.kept ((((HO.out.p.alloc _).alloc _).alloc _).alloc _) hg1 HO.out.pa);have Ka:Hid (w1.ownsRow B 58 9 v1 (A++ [(⟨rs,rp,rn,rf,rb,rt,re,ro,rd⟩:Ac)]).length ((A++ [(⟨rs,rp,rn,rf,rb,rt,re,ro,rd⟩:Ac)]).flatMap acC)):=by
   show World.ownsRow _ _ _ _ _ _ _;rw [List.length_append, ←gY];exact ho1
  have HN:Hid (Nwb w v1):=fun b hb hb2 e=>by
   rcases hat with h | h
   ·exact eR HO.out.a hb (h.symm.trans e)
   ·rw [h]at e;simp at e;omega
  obtain⟨o1,m1,rfl⟩:=aF ho1;have HCF:=aa (show CfAt w1 _ _ _ _ _ _ from⟨RowAt.of_own dg (by omega) Ks.out,RowAt.of_own bp (by omega) Kp.out,RowAt.of_own bO (by omega) Ka.out⟩);have HI3:=aa (And.intro (aB Ks.out) (And.intro (aB Kp.out) (aB Ka.out)));have HBE:=aa ((((((Below.refl _ w).alloc hB _).alloc (by simp;omega) _).alloc (by simp;omega) _).alloc (by simp;omega) _).grown hg1 (by simp;omega) (aB HO.out.a));clear hat ho1 hg1 HAT Ks Kp Ka;obtain⟨d0,d1,d2,q0,q1,q2,y0,y1,y2,f0,f1,f2⟩:=HT.out.get;go_wp2_with fail
  have F:=aa (pC HT.out hB HCF.out HBE.out HNS.out HNP.out HN.out 2 (.slice o1 (A.length+1) m1));refine bodyPost_ret (v:=.agg #[.slice s1 S.length s2,.slice p1 P.length p2,.slice o1 (A.length+1) m1]) (cR (cs:=[.slice s1 S.length s2,.slice p1 P.length p2,.slice o1 (A.length+1) m1]) Tryz.results39 rfl F.out.1 Tryz.underlying29 rfl ic) rfl ⟨_,_,_,rfl,by simpa [nxS,nxP,nxA,Ax.s,Ax.p,Ax.r] using F.out.2.1,F.out.2.2,HI3.out⟩
 ·have hpp:=hp (.inl rfl);have hbd:=kP (fun x:Pr=>x.i==n) P;obtain⟨kk,hkk⟩:∃kk:Nat,pat P n=(kk:Int):=⟨(pat P n).toNat,by omega⟩;have hkl:kk<P.length:=by have:pat P n<P.length:=hbd.2;omega
  rw [hkk]at HAT;have HKK:=aa hkk;clear hkk hbd hpp hp hn;obtain⟨g,cap,hform, -, -⟩:=HO.out.p.form (by omega);simp only [Value.slice.injEq,true_and]at hform;obtain⟨rfl,rfl⟩:=hform;have hgw:g<w.heap.size:=bB HO.out.p rfl;go_wp2_with fail
  obtain⟨W0,hW0⟩:∃W0,W0=(((w.alloc (.cells #[.slice s1 S.length s2,.slice (some ⟨g,0,none⟩) P.length p2,.slice a1 A.length a2] 29)).alloc (.cells #[.int .i64 4,.int .i64 si,.int .i64 st,.int .i64 sg,.int .i64 pi,.int .i64 ps,.int .i64 pm,.int .i64 pp,.int .i64 pc,.int .i64 rs,.int .i64 rp,.bool rn,.int .i64 rf,.int .i64 rb,.int .i64 rt,.int .i64 re,.int .i64 ro,.bool rd,.int .i64 n,.int .i64 m,.int .i64 f0,.int .i64 f1,.int .i64 f2,.int .i64 f3,.int .i64 f4,.int .i64 f5,.int .i64 f6,.string body] 60)).alloc (.cells #[.slice none 0 0,.slice none 0 0,.slice none 0 0] 29)):=⟨_,rfl⟩;have hb0:Below w.heap.size w W0:=by rw [hW0];exact(((Below.refl _ w).alloc zr _).alloc (by simp) _).alloc (by simp;omega) _
  have hz0:W0.heap.size=w.heap.size+3:=by rw [hW0];simp
  have HT:Hid (Th w W0 (.slice s1 S.length s2) (.slice (some ⟨g,0,none⟩) P.length p2) (.slice a1 A.length a2)):=by rw [hW0];exact Th.new w _ _ _ _
  rw [←hW0];clear hW0;refine(ae HAT _ hb0).mono ?_;rintro e w1 ⟨rfl,hb1⟩;have k1:=hb0.trans (hb1.mono hb0.size);replace HT:=aa (HT.out.below hb1);obtain⟨d0,d1,d2,q0,q1,q2,y0,y1,y2,f0,f1,f2⟩:=HT.out.get;have Os:=aa (aA HO.out.s k1);have Op:=aa (aA HO.out.p k1);have Oa:=aa (aA HO.out.a k1);clear HAT hb0 hb1;go_wp2_with fail
  clear d0 d1 d2 q0 q1 q2 y0 y1 y2 f0 f1 f2;refine(kY P B g p2 kk w1 Op.out hkl (by omega)).mono ?_;rintro e w2 ⟨rfl,ho2,hg2⟩;replace HT:=aa (HT.out.grown hg2 (fun b hb e=>by simp at e;omega));have Ks:=aa (World.ownsRow.kept Os.out hg2 HO.out.sp);have Ka:=aa (World.ownsRow.kept Oa.out hg2 (gP HO.out.pa));have HCF:Hid (CfAt w2 (.slice s1 S.length s2) (.slice (some ⟨g,0,none⟩) (P.length-1) p2) (.slice a1 A.length a2) S (P.eraseIdx kk) A):=⟨RowAt.of_own dg (by omega) Ks.out,RowAt.of_own bp (by omega) (by rw [List.length_eraseIdx_of_lt hkl];exact ho2),RowAt.of_own bO (by omega) Ka.out⟩;have HI3:=aa (And.intro (aB Ks.out) (And.intro (aB ho2) (aB Ka.out)));have HBE:Hid (Below B w w2):=(k1.mono hB).grown hg2 (Nat.le_trans hB k1.size) (fun b e=>by simp at e;subst e;exact aB HO.out.p _ rfl);clear ho2 hg2 Ks Ka Os Op Oa k1;obtain⟨d0,d1,d2,q0,q1,q2,y0,y1,y2,f0,f1,f2⟩:=HT.out.get;go_wp2_with fail
  have F:=aa (pC HT.out hB HCF.out HBE.out HNS.out HNP.out HNA.out 1 (.slice (some ⟨g,0,none⟩) (P.length-1) p2));refine bodyPost_ret (v:=.agg #[.slice s1 S.length s2,.slice (some ⟨g,0,none⟩) (P.length-1) p2,.slice a1 A.length a2]) (cR (cs:=[.slice s1 S.length s2,.slice (some ⟨g,0,none⟩) (P.length-1) p2,.slice a1 A.length a2]) Tryz.results39 rfl F.out.1 Tryz.underlying29 rfl ic) rfl ⟨_,_,_,rfl,by simpa [nxS,nxP,nxA,HKK.out] using F.out.2.1,F.out.2.2,HI3.out⟩
 ·obtain⟨hn0,hn1⟩:=hn rfl;obtain⟨kk,rfl⟩:=Int.eq_ofNat_of_zero_le hn0;have hkl:kk<A.length:=(by omega);clear hn0 hn1 hp hn HAT;obtain⟨g,cap,hform, -, -⟩:=HO.out.a.form (by omega);simp only [Value.slice.injEq,true_and]at hform;obtain⟨rfl,rfl⟩:=hform;have hgw:g<w.heap.size:=bB HO.out.a rfl;go_wp2_with fail
  obtain⟨W0,hW0⟩:∃W0,W0=(((w.alloc (.cells #[.slice s1 S.length s2,.slice p1 P.length p2,.slice (some ⟨g,0,none⟩) A.length a2] 29)).alloc (.cells #[.int .i64 5,.int .i64 si,.int .i64 st,.int .i64 sg,.int .i64 pi,.int .i64 ps,.int .i64 pm,.int .i64 pp,.int .i64 pc,.int .i64 rs,.int .i64 rp,.bool rn,.int .i64 rf,.int .i64 rb,.int .i64 rt,.int .i64 re,.int .i64 ro,.bool rd,.int .i64 (kk:Int),.int .i64 m,.int .i64 f0,.int .i64 f1,.int .i64 f2,.int .i64 f3,.int .i64 f4,.int .i64 f5,.int .i64 f6,.string body] 60)).alloc (.cells #[.slice none 0 0,.slice none 0 0,.slice none 0 0] 29)):=⟨_,rfl⟩;have hb0:Below w.heap.size w W0:=by rw [hW0];exact(((Below.refl _ w).alloc zr _).alloc (by simp) _).alloc (by simp;omega) _
  have hz0:W0.heap.size=w.heap.size+3:=by rw [hW0];simp
  have HT:Hid (Th w W0 (.slice s1 S.length s2) (.slice p1 P.length p2) (.slice (some ⟨g,0,none⟩) A.length a2)):=by rw [hW0];exact Th.new w _ _ _ _
  rw [←hW0];clear hW0;have k1:=hb0;have Os:=aa (aA HO.out.s k1);have Op:=aa (aA HO.out.p k1);have Oa:=aa (aA HO.out.a k1);clear hb0;refine(kv A B g a2 kk W0 Oa.out hkl (by omega)).mono ?_;rintro e w2 ⟨rfl,ho2,hg2⟩;replace HT:=aa (HT.out.grown hg2 (fun b hb e=>by simp at e;omega));have Ks:=aa (World.ownsRow.kept Os.out hg2 HO.out.sa);have Kp:=aa (World.ownsRow.kept Op.out hg2 HO.out.pa);have HCF:Hid (CfAt w2 (.slice s1 S.length s2) (.slice p1 P.length p2) (.slice (some ⟨g,0,none⟩) (A.length-1) a2) S P (A.eraseIdx kk)):=⟨RowAt.of_own dg (by omega) Ks.out,RowAt.of_own bp (by omega) Kp.out,RowAt.of_own bO (by omega) (by rw [List.length_eraseIdx_of_lt hkl];exact ho2)⟩;have HI3:=aa (And.intro (aB Ks.out) (And.intro (aB Kp.out) (aB ho2)));have HBE:Hid (Below B w w2):=(k1.mono hB).grown hg2 (Nat.le_trans hB k1.size) (fun b e=>by simp at e;subst e;exact aB HO.out.a _ rfl);clear ho2 hg2 Ks Kp Os Op Oa k1;obtain⟨d0,d1,d2,q0,q1,q2,y0,y1,y2,f0,f1,f2⟩:=HT.out.get;go_wp2_with fail
  have F:=aa (pC HT.out hB HCF.out HBE.out HNS.out HNP.out HNA.out 2 (.slice (some ⟨g,0,none⟩) (A.length-1) a2));refine bodyPost_ret (v:=.agg #[.slice s1 S.length s2,.slice p1 P.length p2,.slice (some ⟨g,0,none⟩) (A.length-1) a2]) (cR (cs:=[.slice s1 S.length s2,.slice p1 P.length p2,.slice (some ⟨g,0,none⟩) (A.length-1) a2]) Tryz.results39 rfl F.out.1 Tryz.underlying29 rfl ic) rfl ⟨_,_,_,rfl,by simpa [nxS,nxP,nxA,Int.toNat_natCast] using F.out.2.1,F.out.2.2,HI3.out⟩
 ·have hpp:=hp (.inr rfl);have hbd:=kP (fun x:Pr=>x.i==n) P;obtain⟨kk,hkk⟩:∃kk:Nat,pat P n=(kk:Int):=⟨(pat P n).toNat,by omega⟩;have hkl:kk<P.length:=by have:pat P n<P.length:=hbd.2;omega
  rw [hkk]at HAT;have HKK:=aa hkk;clear hkk hbd hpp hp hn;obtain⟨g,cap,hform, -, -⟩:=HO.out.p.form (by omega);simp only [Value.slice.injEq,true_and]at hform;obtain⟨rfl,rfl⟩:=hform;have hgw:g<w.heap.size:=bB HO.out.p rfl;have q3:(0:Int)≤(kk:Int):=(by omega);have q4:(kk:Int)<(P.length:Int):=(by omega);go_wp2_with fail
  obtain⟨W0,hW0⟩:∃W0,W0=(((w.alloc (.cells #[.slice s1 S.length s2,.slice (some ⟨g,0,none⟩) P.length p2,.slice a1 A.length a2] 29)).alloc (.cells #[.int .i64 6,.int .i64 si,.int .i64 st,.int .i64 sg,.int .i64 pi,.int .i64 ps,.int .i64 pm,.int .i64 pp,.int .i64 pc,.int .i64 rs,.int .i64 rp,.bool rn,.int .i64 rf,.int .i64 rb,.int .i64 rt,.int .i64 re,.int .i64 ro,.bool rd,.int .i64 n,.int .i64 m,.int .i64 f0,.int .i64 f1,.int .i64 f2,.int .i64 f3,.int .i64 f4,.int .i64 f5,.int .i64 f6,.string body] 60)).alloc (.cells #[.slice none 0 0,.slice none 0 0,.slice none 0 0] 29)):=⟨_,rfl⟩;have hb0:Below w.heap.size w W0:=by rw [hW0];exact(((Below.refl _ w).alloc zr _).alloc (by simp) _).alloc (by simp;omega) _
  have hz0:W0.heap.size=w.heap.size+3:=by rw [hW0];simp
  have HT:Hid (Th w W0 (.slice s1 S.length s2) (.slice (some ⟨g,0,none⟩) P.length p2) (.slice a1 A.length a2)):=by rw [hW0];exact Th.new w _ _ _ _
  have xn:W0.cell? ⟨w.heap.size+1,18,none⟩=some (.int .i64 n):=by rw [hW0];exact aq (aj _ _ (by simp) _ _ _ _ rfl) _
  have xm:W0.cell? ⟨w.heap.size+1,19,none⟩=some (.int .i64 m):=by rw [hW0];exact aq (aj _ _ (by simp) _ _ _ _ rfl) _
  rw [←hW0];clear hW0;obtain⟨c0,c1,c2, -⟩:=HT.out.get;have O1:=aa (aA HO.out.p hb0);have hrow:=(O1.out.cellAt (kk*5+4) (by omega)).trans (kF bp P kk _ (bF pr0 hkl) 4 _ rfl);have hrf:=O1.out.frozenAt (kk*5+4);have hg1:g≠w.heap.size:=(by omega);have hg2:g≠w.heap.size+1:=(by omega);have hgW:g<W0.heap.size:=(by omega);go_region_held3 (fun w'=>w'.cell? ⟨w.heap.size,0,none⟩=some (.slice s1 S.length s2)∧w'.cell? ⟨w.heap.size,1,none⟩=some (.slice (some ⟨g,0,none⟩) P.length p2)∧w'.cell? ⟨w.heap.size,2,none⟩=some (.slice a1 A.length a2)∧w'.cell? ⟨w.heap.size+1,18,none⟩=some (.int .i64 n)∧w'.cell? ⟨w.heap.size+1,19,none⟩=some (.int .i64 m)) (go_keep)
   (first |(go_at_call 86;refine(ae HAT _ hb0.drew).mono ?_;rintro e w1 ⟨rfl,hc1⟩;have g1:Below W0.heap.size W0 w1:=((Below.refl _ W0).drew).trans hc1;have v0:=zC c0 g1;have v1:=zC c1 g1;have v2:=zC c2 g1;have v3:=zC xn g1;have v4:=zC xm g1;have vr:=zC hrow g1;have vf:=(g1.frozen (p:=⟨g,kk*5+4,none⟩) hgW).trans hrf))
  have k1:=hb0.trans (g1.mono hb0.size);replace HT:=aa ((HT.out.below g1).grown (ek (j:=kk*5+4) (v:=.int .i64 m) (eQ w1 (some g))) (fun b hb e=>by simp at e;omega));have K1:=gQ (aA HO.out.p k1) (kk*5+4) (.int .i64 m);rw [lB P kk m hkl]at K1;have K0:=World.ownsRow.kept (aA HO.out.s k1) (ek (j:=kk*5+4) (v:=.int .i64 m) (eQ w1 (some g))) HO.out.sp;have K2:=World.ownsRow.kept (aA HO.out.a k1) (ek (j:=kk*5+4) (v:=.int .i64 m) (eQ w1 (some g))) (gP HO.out.pa);have HCF:Hid (CfAt (w1.setCell ⟨g,kk*5+4,none⟩ (.int .i64 m)) (.slice s1 S.length s2) (.slice (some ⟨g,0,none⟩) P.length p2) (.slice a1 A.length a2) S (P.set kk ⟨(P.getD kk pr0).i,(P.getD kk pr0).s,(P.getD kk pr0).m,(P.getD kk pr0).p,m⟩) A):=⟨RowAt.of_own dg (by omega) K0,RowAt.of_own bp (by omega) (by rw [List.length_set];exact K1),RowAt.of_own bO (by omega) K2⟩;have HI3:=aa (And.intro (aB (K0)) (And.intro (aB (K1)) (aB (K2))));have HBE:Hid (Below B w (w1.setCell ⟨g,kk*5+4,none⟩ (.int .i64 m))):=(k1.mono hB).setCell (p:=⟨g,kk*5+4,none⟩) (aB HO.out.p _ rfl) _;clear K0 K1 K2 O1 k1 g1 hc1 hb0 v0 v1 v2 v3 v4 vr vf hrow hrf HAT c0 c1 c2 xn xm;generalize (w1.setCell ⟨g,kk*5+4,none⟩ (.int .i64 m))=w2 at*;obtain⟨d0,d1,d2,q0,q1,q2, -, -, -,f0,f1,f2⟩:=HT.out.get;go_wp2_with fail
  have F:=aa (sx hB HCF.out HBE.out HNS.out HNP.out HNA.out q0 q1 q2);refine bodyPost_ret (v:=.agg #[.slice s1 S.length s2,.slice (some ⟨g,0,none⟩) P.length p2,.slice a1 A.length a2]) (cR (cs:=[.slice s1 S.length s2,.slice (some ⟨g,0,none⟩) P.length p2,.slice a1 A.length a2]) Tryz.results39 rfl F.out.1 Tryz.underlying29 rfl ic) rfl ⟨_,_,_,rfl,by simpa [nxS,nxP,nxA,HKK.out] using F.out.2.1,F.out.2.2,HI3.out⟩
 ·clear HAT;obtain⟨W0,hW0⟩:∃W0,W0=(((w.alloc (.cells #[.slice s1 S.length s2,.slice p1 P.length p2,.slice a1 A.length a2] 29)).alloc (.cells #[.int .i64 k,.int .i64 si,.int .i64 st,.int .i64 sg,.int .i64 pi,.int .i64 ps,.int .i64 pm,.int .i64 pp,.int .i64 pc,.int .i64 rs,.int .i64 rp,.bool rn,.int .i64 rf,.int .i64 rb,.int .i64 rt,.int .i64 re,.int .i64 ro,.bool rd,.int .i64 n,.int .i64 m,.int .i64 f0,.int .i64 f1,.int .i64 f2,.int .i64 f3,.int .i64 f4,.int .i64 f5,.int .i64 f6,.string body] 60)).alloc (.cells #[.slice s1 S.length s2,.slice p1 P.length p2,.slice a1 A.length a2] 29)):=⟨_,rfl⟩;have hb0:Below w.heap.size w W0:=by rw [hW0];exact(((Below.refl _ w).alloc zr _).alloc (by simp) _).alloc (by simp;omega) _
  have q0:W0.cell? ⟨w.heap.size+1+1,0,none⟩=some (.slice s1 S.length s2):=by rw [hW0];exact aj _ _ (by simp) _ _ _ _ rfl
  have q1:W0.cell? ⟨w.heap.size+1+1,1,none⟩=some (.slice p1 P.length p2):=by rw [hW0];exact aj _ _ (by simp) _ _ _ _ rfl
  have q2:W0.cell? ⟨w.heap.size+1+1,2,none⟩=some (.slice a1 A.length a2):=by rw [hW0];exact aj _ _ (by simp) _ _ _ _ rfl
  have HCF:=aa (HO.out.cf.below hb0 zr);have HI3:=aa (And.intro (aB HO.out.s) (And.intro (aB HO.out.p) (aB HO.out.a)));have HBE:=aa (hb0.mono hB);go_wp2_with fail
  rw [←hW0];clear hW0;refine bodyPost_ret (v:=.agg #[.slice s1 S.length s2,.slice p1 P.length p2,.slice a1 A.length a2]) ?_ rfl ⟨_,_,_,rfl,by simpa [nxS,nxP,nxA,k1,k2,k3,k4,k5,k6] using HCF.out,HBE.out,HI3.out⟩;simp [results,Tryz.results39,go_sem,q0,q1,q2]
def rA:Value→Bool
 | .slice _ _ _=>false
 | _=>true
theorem RowAt.set_box {α:Type} {C:α→List Value} {sz:Nat} (hC:∀x,(C x).all rA=true) {w:World} {v:Value} {l:List α} (h:RowAt C sz w v l) {b o:Nat} {x:Option Addr} {y z:Nat} (hp:w.cell? ⟨b,o,none⟩=some (.slice x y z)) (u:Value):RowAt C sz (w.setCell ⟨b,o,none⟩ u) v l:=by
 obtain⟨a,cap,rfl,hn,h0 |⟨b',off,rfl,hc,hL⟩⟩:=h
 ·exact⟨a,cap,rfl,hn,.inl h0⟩
 ·refine⟨_,cap,rfl,hn,.inr ⟨b',off,rfl,hc,fun i r hr j q hq=>?_⟩⟩;have h1:=hL i r hr j q hq;rw [World.cell?_setCell_other _ _ _ _ (fun e=>?_)]
  ·exact h1
  ·rw [←e,hp]at h1;simp at h1;have:=List.all_eq_true.1 (hC r) q (List.mem_of_getElem? hq);rw [←h1]at this;simp [rA]at this
theorem CfAt.set_box {w:World} {sv pv av:Value} {S:List Sw} {P:List Pr} {A:List Ac} (h:CfAt w sv pv av S P A) {b o:Nat} {x:Option Addr} {y z:Nat} (hp:w.cell? ⟨b,o,none⟩=some (.slice x y z)) (u:Value):CfAt (w.setCell ⟨b,o,none⟩ u) sv pv av S P A:=
 ⟨RowAt.set_box (fun _=>rfl) h.1 hp u,RowAt.set_box (fun _=>rfl) h.2.1 hp u,RowAt.set_box (fun _=>rfl) h.2.2 hp u⟩
theorem dq {w w':World} {B b o:Nat} {cs:List Value} (h:w.rangeAt b o cs) (hb:Below B w w') (hB:w.heap.size≤B):w'.rangeAt b o cs:=fun j v hv=>cW (h j v hv) hb hB
theorem fi {w:World} {b o b' o':Nat} {cs:List Value} {x:Value} (h:w.rangeAt b o cs) (hne:b'≠b):(w.setCell ⟨b',o',none⟩ x).rangeAt b o cs:=fun j v hv=>
 (World.cell?_setCell_other _ _ _ _ (fun e=>hne (by simpa using congrArg Addr.block e))).trans (h j v hv)
theorem cO:(Tryz.prog.info? 60).map (·.size)=some 28:=by kernel_rfl
def et (S:List Sw) (P:List Pr) (A:List Ac) (a:Ax):Int:=if may S P A=true then bq S P A a else 8
def apS (S:List Sw) (P:List Pr) (A:List Ac) (a:Ax):List Sw:=if et S P A a=0 then nxS S a else []
def apP (S:List Sw) (P:List Pr) (A:List Ac) (a:Ax):List Pr:=if et S P A a=0 then nxP P a else []
def apA (S:List Sw) (P:List Pr) (A:List Ac) (a:Ax):List Ac:=if et S P A a=0 then nxA A a else []
theorem pU {S:List Sw} {P:List Pr} {A:List Ac} {a:Ax} (h:bq S P A a=0) (hk:a.k=4∨a.k=6):0≤pat P a.n:=by
 unfold bq at h;by_cases hb:inB (pat P a.n) 0 ((P.length:Int)-1)=true
 ·simp [inB]at hb;omega
 ·rcases hk with hk | hk
  ·rw [if_neg (by omega),if_neg (by omega),if_neg (by omega),if_pos hk,if_neg hb]at h;omega
  ·rw [if_neg (by omega),if_neg (by omega),if_neg (by omega),if_neg (by omega),if_pos hk,if_neg hb]at h;omega
theorem qN {S:List Sw} {P:List Pr} {A:List Ac} {a:Ax} (h:bq S P A a=0) (hk:a.k=5):0≤a.n∧a.n<A.length:=by
 unfold bq at h;rw [if_neg (by omega),if_neg (by omega),if_neg (by omega),if_neg (by omega),if_neg (by omega),if_pos hk]at h;by_cases hb:inB a.n 0 ((A.length:Int)-1)=true
 ·simp [inB]at hb;omega
 ·rw [if_neg hb]at h;omega
theorem Hi3.none (B:Nat):Hi3 B (.slice none 0 0) (.slice none 0 0) (.slice none 0 0):=⟨fun g h=>by simp [Value.ownBlock]at h,fun g h=>by simp [Value.ownBlock]at h,fun g h=>by simp [Value.ownBlock]at h⟩
theorem Hi3.mono {B B':Nat} {x y z:Value} (h:Hi3 B x y z) (hb:B'≤B):Hi3 B' x y z:=⟨fun g e=>Nat.le_trans hb (h.1 g e),fun g e=>Nat.le_trans hb (h.2.1 g e),fun g e=>Nat.le_trans hb (h.2.2 g e)⟩
theorem ow (sv pv av:Value) (S:List Sw) (P:List Pr) (A:List Ac) (a:Ax) (w:World) (hC:CfAt w sv pv av S P A) (h1:S.length*24≤140737488355328) (h2:P.length*40≤140737488355328) (h3:A.length*72≤140737488355328):
  Calls Tryz.prog 13 #[.agg #[sv,pv,av],dw a] w fun e w'=>∃su pu au,e= .returned (.tuple #[.agg #[su,pu,au],.int .i64 (et S P A a)])∧CfAt w' su pu au (apS S P A a) (apP S P A a) (apA S P A a)∧Below w.heap.size w w'∧Hi3 w.heap.size su pu au:=by
 have HCK:=aa (fun W (hW:Below w.heap.size w W)=>fJ sv pv av S P A W (hC.below hW zr) h1 h2 h3);have HCA:=aa (fun W (hW:Below w.heap.size w W)=>kN sv pv av S P A a W (hC.below hW zr) h1 h2 h3);have HCY:=aa (fun W (hW:Below w.heap.size w W)=>pG sv pv av S P A W (hC.below hW zr) h1 h2 h3);have HCH:Hid (∀(W:World) (B:Nat) (x y z:Value),may S P A=true→bq S P A a=0→Own3 W B x y z S P A→B≤W.heap.size→Calls Tryz.prog 39 #[.agg #[x,y,z],dw a] W fun e w'=>∃su pu au,e= .returned (.agg #[su,pu,au])∧CfAt w' su pu au (nxS S a) (nxP P a) (nxA A a)∧Below B W w'∧Hi3 B su pu au):=fun W B x y z hm hf ho hB=>
  lQ B x y z S P A a W ho hB (gv hm).1 (gv hm).2.1 (gv hm).2.2 (pU hf) (qN hf)
 have HE0:Hid (may S P A=false→et S P A a=8∧apS S P A a= []∧apP S P A a= []∧apA S P A a= []):=fun h=>by
  have e:et S P A a=8:=by unfold et;rw [h];rfl
  exact⟨e,by unfold apS;rw [e];rfl,by unfold apP;rw [e];rfl,by unfold apA;rw [e];rfl⟩
 have HE1:Hid (may S P A=true→bq S P A a≠0→et S P A a=bq S P A a∧apS S P A a= []∧apP S P A a= []∧apA S P A a= []):=fun h hn=>by
  have e:et S P A a=bq S P A a:=by unfold et;rw [if_pos h]
  exact⟨e,by unfold apS;rw [e,if_neg hn],by unfold apP;rw [e,if_neg hn],by unfold apA;rw [e,if_neg hn]⟩
 have HE2:Hid (may S P A=true→bq S P A a=0→et S P A a=0∧apS S P A a=nxS S a∧apP S P A a=nxP P a∧apA S P A a=nxA A a):=fun h hn=>by
  have e:et S P A a=0:=by unfold et;rw [if_pos h,hn]
  exact⟨e,by unfold apS;rw [if_pos e],by unfold apP;rw [if_pos e],by unfold apA;rw [if_pos e]⟩
 obtain⟨E,hE⟩:∃E:Int,E=if may S P A=true then 0 else 8:=⟨_,rfl⟩;rw [←hE]at HCK;have HE:=aa hE;clear hE;generalize may S P A=M at*;generalize bq S P A a=G at*;generalize et S P A a=EE at*;generalize apS S P A a=LS at*;generalize apP S P A a=LP at*;generalize apA S P A a=LA at*;generalize nxS S a=NS at*;generalize nxP P a=NP at*;generalize nxA A a=NA at*;obtain⟨s1,s2,rfl⟩:=hC.1.slice;obtain⟨p1,p2,rfl⟩:=hC.2.1.slice;obtain⟨a1,a2,rfl⟩:=hC.2.2.slice;clear hC;obtain⟨k,si,st,sg,pi,ps,pm,pp,pc,rs,rp,rn,rf,rb,rt,re,ro,rd,n,m,f0,f1,f2,f3,f4,f5,f6,body⟩:=a;go_enter Tryz.func13,Tryz.ntmps13;go_wp2_with fail
 obtain⟨W0,hW0⟩:∃W0,W0=((w.alloc (.cells #[.slice s1 S.length s2,.slice p1 P.length p2,.slice a1 A.length a2] 29)).alloc (.cells #[.int .i64 k,.int .i64 si,.int .i64 st,.int .i64 sg,.int .i64 pi,.int .i64 ps,.int .i64 pm,.int .i64 pp,.int .i64 pc,.int .i64 rs,.int .i64 rp,.bool rn,.int .i64 rf,.int .i64 rb,.int .i64 rt,.int .i64 re,.int .i64 ro,.bool rd,.int .i64 n,.int .i64 m,.int .i64 f0,.int .i64 f1,.int .i64 f2,.int .i64 f3,.int .i64 f4,.int .i64 f5,.int .i64 f6,.string body] 60)).alloc (.cells #[.slice none 0 0,.slice none 0 0,.slice none 0 0] 29):=⟨_,rfl⟩;have hb0:Below w.heap.size w W0:=by rw [hW0];exact(((Below.refl _ w).alloc zr _).alloc (by simp) _).alloc (by simp;omega) _
 have hz0:W0.heap.size=w.heap.size+3:=by rw [hW0];simp
 have c0:W0.cell? ⟨w.heap.size,0,none⟩=some (.slice s1 S.length s2):=by rw [hW0];exact aq (aq (aj w _ rfl _ _ _ _ rfl) _) _
 have c1:W0.cell? ⟨w.heap.size,1,none⟩=some (.slice p1 P.length p2):=by rw [hW0];exact aq (aq (aj w _ rfl _ _ _ _ rfl) _) _
 have c2:W0.cell? ⟨w.heap.size,2,none⟩=some (.slice a1 A.length a2):=by rw [hW0];exact aq (aq (aj w _ rfl _ _ _ _ rfl) _) _
 have X:Hid (W0.rangeAt (w.heap.size+1) 0 [Value.int .i64 k,.int .i64 si,.int .i64 st,.int .i64 sg,.int .i64 pi,.int .i64 ps,.int .i64 pm,.int .i64 pp,.int .i64 pc,.int .i64 rs,.int .i64 rp,.bool rn,.int .i64 rf,.int .i64 rb,.int .i64 rt,.int .i64 re,.int .i64 ro,.bool rd,.int .i64 n,.int .i64 m,.int .i64 f0,.int .i64 f1,.int .i64 f2,.int .i64 f3,.int .i64 f4,.int .i64 f5,.int .i64 f6,.string body]):=by
  rw [hW0];intro j v hj;rw [Nat.zero_add];exact aq (aj _ _ (by simp) #[.int .i64 k,.int .i64 si,.int .i64 st,.int .i64 sg,.int .i64 pi,.int .i64 ps,.int .i64 pm,.int .i64 pp,.int .i64 pc,.int .i64 rs,.int .i64 rp,.bool rn,.int .i64 rf,.int .i64 rb,.int .i64 rt,.int .i64 re,.int .i64 ro,.bool rd,.int .i64 n,.int .i64 m,.int .i64 f0,.int .i64 f1,.int .i64 f2,.int .i64 f3,.int .i64 f4,.int .i64 f5,.int .i64 f6,.string body] _ j v (by simpa using hj)) _
 have r0:W0.cell? ⟨w.heap.size+1+1,0,none⟩=some (.slice none 0 0):=by rw [hW0];exact aj _ _ (by simp) _ _ _ _ rfl
 have r1:W0.cell? ⟨w.heap.size+1+1,1,none⟩=some (.slice none 0 0):=by rw [hW0];exact aj _ _ (by simp) _ _ _ _ rfl
 have r2:W0.cell? ⟨w.heap.size+1+1,2,none⟩=some (.slice none 0 0):=by rw [hW0];exact aj _ _ (by simp) _ _ _ _ rfl
 have z0:W0.frozen? ⟨w.heap.size+1+1,0,none⟩=false:=by rw [hW0];exact bZ _ _ (by simp) _ _ _
 have z1:W0.frozen? ⟨w.heap.size+1+1,1,none⟩=false:=by rw [hW0];exact bZ _ _ (by simp) _ _ _
 have z2:W0.frozen? ⟨w.heap.size+1+1,2,none⟩=false:=by rw [hW0];exact bZ _ _ (by simp) _ _ _
 have hRlt:w.heap.size+1+1<W0.heap.size:=by omega
 rw [←hW0];clear hW0 hz0;refine(ae HCK _ hb0).mono ?_;rintro e w1 ⟨rfl,hb1⟩;have k1:=hb0.trans (hb1.mono hb0.size);have ac0:=zC c0 hb1;have ac1:=zC c1 hb1;have ac2:=zC c2 hb1;have aX:=aa (dq X.out hb1 zr);have ar0:=zC r0 hb1;have ar1:=zC r1 hb1;have ar2:=zC r2 hb1;have az0:=(hb1.frozen (p:=⟨w.heap.size+1+1,0,none⟩) (by show _<W0.heap.size;exact hRlt)).trans z0;have az1:=(hb1.frozen (p:=⟨w.heap.size+1+1,1,none⟩) (by show _<W0.heap.size;exact hRlt)).trans z1;have az2:=(hb1.frozen (p:=⟨w.heap.size+1+1,2,none⟩) (by show _<W0.heap.size;exact hRlt)).trans z2;clear c0 c1 c2 r0 r1 r2 z0 z1 z2 X;have hR1:w.heap.size+1+1<w1.heap.size:=Nat.lt_of_lt_of_le hRlt hb1.size;clear hb0 hb1 HCK hRlt;cases M
 ·obtain rfl:E=8:=HE.out;obtain⟨rfl,rfl,rfl,rfl⟩:=HE0.out rfl;clear HCA HCY HCH HE HE0 HE1 HE2 ac0 ac1 ac2 aX;go_wp2_with fail
  obtain⟨u0,u1,u2⟩:=qh ar0 ar1 ar2 (.slice none 0 0) (.slice none 0 0) (.slice none 0 0);have HBE:=aa ((((k1).setCell (p:=⟨w.heap.size+1+1,0,none⟩) (by show w.heap.size≤w.heap.size+1+1;omega) (.slice none 0 0)).setCell (p:=⟨w.heap.size+1+1,1,none⟩) (by show w.heap.size≤w.heap.size+1+1;omega) (.slice none 0 0)).setCell (p:=⟨w.heap.size+1+1,2,none⟩) (by show w.heap.size≤w.heap.size+1+1;omega) (.slice none 0 0));have HCF:=aa ((⟨RowAt.nil _ _ _,RowAt.nil _ _ _,RowAt.nil _ _ _⟩:CfAt (((w1.setCell ⟨w.heap.size+1+1,0,none⟩ (.slice none 0 0)).setCell ⟨w.heap.size+1+1,1,none⟩ (.slice none 0 0)).setCell ⟨w.heap.size+1+1,2,none⟩ (.slice none 0 0)) (.slice none 0 0) (.slice none 0 0) (.slice none 0 0) [] [] []));refine bodyPost_ret (v:=.tuple #[.agg #[.slice none 0 0,.slice none 0 0,.slice none 0 0],.int .i64 8]) ?_ rfl ⟨_,_,_,rfl,HCF.out,HBE.out,Hi3.none _⟩;clear HCF HBE ar0 az0 ar1 az1 ar2 az2;generalize (((w1.setCell ⟨w.heap.size+1+1,0,none⟩ (.slice none 0 0)).setCell ⟨w.heap.size+1+1,1,none⟩ (.slice none 0 0)).setCell ⟨w.heap.size+1+1,2,none⟩ (.slice none 0 0))=W at*;simp [results,Tryz.results13,go_sem,u0,u1,u2]
 ·obtain rfl:E=0:=HE.out;have HF1:=aa (HE1.out rfl);have HF2:=aa (HE2.out rfl);have HCH1:=aa (fun W B x y z=>HCH.out W B x y z rfl);clear HE HE0 HE1 HE2 HCH;go_wp2_with (refine wpList_load_mid rfl 60 (.tmp 3) rfl (w.heap.size+1) 0 rfl [Value.int .i64 k,.int .i64 si,.int .i64 st,.int .i64 sg,.int .i64 pi,.int .i64 ps,.int .i64 pm,.int .i64 pp,.int .i64 pc,.int .i64 rs,.int .i64 rp,.bool rn,.int .i64 rf,.int .i64 rb,.int .i64 rt,.int .i64 re,.int .i64 ro,.bool rd,.int .i64 n,.int .i64 m,.int .i64 f0,.int .i64 f1,.int .i64 f2,.int .i64 f3,.int .i64 f4,.int .i64 f5,.int .i64 f6,.string body] _ aX.out Tryz.underlying60 rfl cO ?_)
  refine(ae HCA _ k1).mono ?_;rintro e w2 ⟨rfl,hb2⟩;have k2:=k1.trans (hb2.mono k1.size);have bc0:=zC ac0 hb2;have bc1:=zC ac1 hb2;have bc2:=zC ac2 hb2;have bX:=aa (dq aX.out hb2 zr);have br0:=zC ar0 hb2;have br1:=zC ar1 hb2;have br2:=zC ar2 hb2;have bz0:=(hb2.frozen (p:=⟨w.heap.size+1+1,0,none⟩) (by show _<w1.heap.size;exact hR1)).trans az0;have bz1:=(hb2.frozen (p:=⟨w.heap.size+1+1,1,none⟩) (by show _<w1.heap.size;exact hR1)).trans az1;have bz2:=(hb2.frozen (p:=⟨w.heap.size+1+1,2,none⟩) (by show _<w1.heap.size;exact hR1)).trans az2;clear ac0 ac1 ac2 ar0 ar1 ar2 az0 az1 az2 aX;have hR2:w.heap.size+1+1<w2.heap.size:=Nat.lt_of_lt_of_le hR1 hb2.size;clear k1 hb2 HCA hR1;by_cases hG:G=0
  ·subst hG;obtain⟨rfl,rfl,rfl,rfl⟩:=HF2.out rfl;have HCH2:=aa (fun W B x y z=>HCH1.out W B x y z rfl);clear HF1 HF2 HCH1;go_wp2_with fail
   refine wp_region_held_drew (S:=(fun w'=>w'.cell? ⟨w.heap.size,0,none⟩=some (.slice s1 S.length s2)∧w'.cell? ⟨w.heap.size,1,none⟩=some (.slice p1 P.length p2)∧w'.cell? ⟨w.heap.size,2,none⟩=some (.slice a1 A.length a2)∧w'.rangeAt (w.heap.size+1) 0 [Value.int .i64 k,.int .i64 si,.int .i64 st,.int .i64 sg,.int .i64 pi,.int .i64 ps,.int .i64 pm,.int .i64 pp,.int .i64 pc,.int .i64 rs,.int .i64 rp,.bool rn,.int .i64 rf,.int .i64 rb,.int .i64 rt,.int .i64 re,.int .i64 ro,.bool rd,.int .i64 n,.int .i64 m,.int .i64 f0,.int .i64 f1,.int .i64 f2,.int .i64 f3,.int .i64 f4,.int .i64 f5,.int .i64 f6,.string body])) (by kernel_rfl) ⟨bc0,bc1,bc2,bX.out⟩ (fun hHeld=>?_);refine tq 0 21 rfl (by kernel_rfl) (fun _ _ _ h=>h) rfl ‹_› (by intro w h;go_simp <;>with_reducible rfl) ?_;simp only [nz];refine wpAnyH_take (i:=2) (oi:=⟨some 23,_,_,_,_,_⟩) (v:=.agg #[.int .i64 k,.int .i64 si,.int .i64 st,.int .i64 sg,.int .i64 pi,.int .i64 ps,.int .i64 pm,.int .i64 pp,.int .i64 pc,.int .i64 rs,.int .i64 rp,.bool rn,.int .i64 rf,.int .i64 rb,.int .i64 rt,.int .i64 re,.int .i64 ro,.bool rd,.int .i64 n,.int .i64 m,.int .i64 f0,.int .i64 f1,.int .i64 f2,.int .i64 f3,.int .i64 f4,.int .i64 f5,.int .i64 f6,.string body]) rfl (by kernel_rfl) (by kernel_rfl) (by kernel_rfl) (fun _ _ _ h=>h) (yieldsIf_load_mid (by rfl) 60 (.tmp 3) rfl (w.heap.size+1) 0 rfl [Value.int .i64 k,.int .i64 si,.int .i64 st,.int .i64 sg,.int .i64 pi,.int .i64 ps,.int .i64 pm,.int .i64 pp,.int .i64 pc,.int .i64 rs,.int .i64 rp,.bool rn,.int .i64 rf,.int .i64 rb,.int .i64 rt,.int .i64 re,.int .i64 ro,.bool rd,.int .i64 n,.int .i64 m,.int .i64 f0,.int .i64 f1,.int .i64 f2,.int .i64 f3,.int .i64 f4,.int .i64 f5,.int .i64 f6,.string body] _ (fun w h=>h.2.2.2) Tryz.underlying60 rfl cO) (by assumption) ?_;(try simp only [nz]);refine Go.Proofs.YthmblklaeeifiaaGreat.rs 1 22 (by kernel_rfl) rfl (fun K hK=>?_);go_simp;refine(ae HCY _ k2.drew).mono ?_;rintro e w3 ⟨y1,y2,y3,rfl,ho3,hb3⟩;obtain⟨o1,m1,hv1⟩:=aF ho3.s;obtain⟨o2,m2,hv2⟩:=aF ho3.p;obtain⟨o3,m3,hv3⟩:=aF ho3.a;subst hv1 hv2 hv3;have HO3:=aa ho3;clear ho3;have g3:Below w2.heap.size w2 w3:=((Below.refl _ w2).drew).trans hb3;have k3:=k2.trans (g3.mono k2.size);go_wp2_with fail
   refine hK.out _ _ ⟨zC bc0 g3,zC bc1 g3,zC bc2 g3,dq bX.out g3 zr⟩ (fun hHeld=>?_);clear hK K;(try simp only [nz]);refine Go.Proofs.YthmblklaeeifiaaGreat.rs 3 24 (by kernel_rfl) rfl (fun K hK=>?_);go_simp;refine(ae HCH2 _ _ _ _ _ HO3.out (show w2.drew.heap.size≤w3.heap.size from g3.size)).mono ?_;rintro e w4 ⟨z1,z2,z3,rfl,hcf4,hb4,hi4⟩;have HI4:=aa hi4;clear hi4;have HC4:=aa hcf4;obtain⟨v1,n1,hv1⟩:=hcf4.1.slice;obtain⟨v2,n2,hv2⟩:=hcf4.2.1.slice;obtain⟨v3,n3,hv3⟩:=hcf4.2.2.slice;subst hv1 hv2 hv3;clear hcf4;have g4:Below w2.heap.size w2 w4:=g3.trans hb4;have HI5:=aa (HI4.out.mono (show w.heap.size≤w2.drew.heap.size from k2.size));clear HI4;have k4:=k2.trans (g4.mono k2.size);go_wp2_with fail
   refine hK.out _ _ ⟨zC bc0 g4,zC bc1 g4,zC bc2 g4,dq bX.out g4 zr⟩ (fun hHeld=>?_);clear hK K;(try simp only [nz]);have dr0:=zC br0 g4;have dr1:=zC br1 g4;have dr2:=zC br2 g4;have dz0:=(g4.frozen (p:=⟨w.heap.size+1+1,0,none⟩) hR2).trans bz0;have dz1:=(g4.frozen (p:=⟨w.heap.size+1+1,1,none⟩) hR2).trans bz1;have dz2:=(g4.frozen (p:=⟨w.heap.size+1+1,2,none⟩) hR2).trans bz2;have e0:=zC bc0 g4;have e1:=zC bc1 g4;have e2:=zC bc2 g4;have HXX:=aa (dq bX.out g4 zr);refine Go.Proofs.YthmblklaeeifiaaGreat.rn 4 (by kernel_rfl) rfl (fun K hK=>?_);go_simp;refine hK.out _ _ ⟨(World.cell?_setCell_other _ _ _ _ (by simp <;>omega)).trans ((World.cell?_setCell_other _ _ _ _ (by simp <;>omega)).trans ((World.cell?_setCell_other _ _ _ _ (by simp <;>omega)).trans e0)),(World.cell?_setCell_other _ _ _ _ (by simp <;>omega)).trans ((World.cell?_setCell_other _ _ _ _ (by simp <;>omega)).trans ((World.cell?_setCell_other _ _ _ _ (by simp <;>omega)).trans e1)),(World.cell?_setCell_other _ _ _ _ (by simp <;>omega)).trans ((World.cell?_setCell_other _ _ _ _ (by simp <;>omega)).trans ((World.cell?_setCell_other _ _ _ _ (by simp <;>omega)).trans e2)),fi (fi (fi HXX.out (by omega)) (by omega)) (by omega)⟩ (fun hHeld=>?_);clear hK K;(try simp only [nz]);refine tq 5 5 rfl (by kernel_rfl) (fun _ _ _ h=>h) rfl ‹_› (by intro w h;go_simp <;>with_reducible rfl) ?_;simp only [nz];refine wpAnyH_done (by kernel_rfl) ?_ _;clear hHeld bc0 bc1 bc2 br0 br1 br2 bz0 bz1 bz2 bX e0 e1 e2 HXX HCY HCH2 HO3 hb3 hb4 g3 k3;obtain⟨u0,u1,u2⟩:=qh dr0 dr1 dr2 (.slice v1 LS.length n1) (.slice v2 LP.length n2) (.slice v3 LA.length n3);have HCF:=aa (((HC4.out.set_box dr0 (.slice v1 LS.length n1)).set_box ((World.cell?_setCell_other _ _ _ _ (by simp)).trans dr1) (.slice v2 LP.length n2)).set_box ((World.cell?_setCell_other _ _ _ _ (by simp)).trans ((World.cell?_setCell_other _ _ _ _ (by simp)).trans dr2)) (.slice v3 LA.length n3));have HBE:=aa ((((k4).setCell (p:=⟨w.heap.size+1+1,0,none⟩) (by show w.heap.size≤w.heap.size+1+1;omega) (.slice v1 LS.length n1)).setCell (p:=⟨w.heap.size+1+1,1,none⟩) (by show w.heap.size≤w.heap.size+1+1;omega) (.slice v2 LP.length n2)).setCell (p:=⟨w.heap.size+1+1,2,none⟩) (by show w.heap.size≤w.heap.size+1+1;omega) (.slice v3 LA.length n3));clear HC4 k4 g4 dr0 dr1 dr2 dz0 dz1 dz2;generalize (((w4.setCell ⟨w.heap.size+1+1,0,none⟩ (.slice v1 LS.length n1)).setCell ⟨w.heap.size+1+1,1,none⟩ (.slice v2 LP.length n2)).setCell ⟨w.heap.size+1+1,2,none⟩ (.slice v3 LA.length n3))=W at*;go_wp2_with fail
   refine bodyPost_ret (v:=.tuple #[.agg #[.slice v1 LS.length n1,.slice v2 LP.length n2,.slice v3 LA.length n3],.int .i64 0]) ?_ rfl ⟨_,_,_,rfl,HCF.out,HBE.out,HI5.out⟩;clear HCF HBE;simp [results,Tryz.results13,go_sem,u0,u1,u2]
  ·obtain⟨rfl,rfl,rfl,rfl⟩:=HF1.out hG;clear HF1 HF2 HCH1 HCY bc0 bc1 bc2 bX;go_wp2_with fail
   obtain⟨u0,u1,u2⟩:=qh br0 br1 br2 (.slice none 0 0) (.slice none 0 0) (.slice none 0 0);have HBE:=aa ((((k2).setCell (p:=⟨w.heap.size+1+1,0,none⟩) (by show w.heap.size≤w.heap.size+1+1;omega) (.slice none 0 0)).setCell (p:=⟨w.heap.size+1+1,1,none⟩) (by show w.heap.size≤w.heap.size+1+1;omega) (.slice none 0 0)).setCell (p:=⟨w.heap.size+1+1,2,none⟩) (by show w.heap.size≤w.heap.size+1+1;omega) (.slice none 0 0));have HCF:=aa ((⟨RowAt.nil _ _ _,RowAt.nil _ _ _,RowAt.nil _ _ _⟩:CfAt (((w2.setCell ⟨w.heap.size+1+1,0,none⟩ (.slice none 0 0)).setCell ⟨w.heap.size+1+1,1,none⟩ (.slice none 0 0)).setCell ⟨w.heap.size+1+1,2,none⟩ (.slice none 0 0)) (.slice none 0 0) (.slice none 0 0) (.slice none 0 0) [] [] []));refine bodyPost_ret (v:=.tuple #[.agg #[.slice none 0 0,.slice none 0 0,.slice none 0 0],.int .i64 EE]) ?_ rfl ⟨_,_,_,rfl,HCF.out,HBE.out,Hi3.none _⟩;clear HCF HBE br0 bz0 br1 bz1 br2 bz2;generalize (((w2.setCell ⟨w.heap.size+1+1,0,none⟩ (.slice none 0 0)).setCell ⟨w.heap.size+1+1,1,none⟩ (.slice none 0 0)).setCell ⟨w.heap.size+1+1,2,none⟩ (.slice none 0 0))=W at*;simp [results,Tryz.results13,go_sem,u0,u1,u2]
theorem oW (sv pv av:Value) (S:List Sw) (P:List Pr) (A:List Ac) (a:Ax) (w:World) (hC:CfAt w sv pv av S P A) (h1:S.length*24≤140737488355328) (h2:P.length*40≤140737488355328) (h3:A.length*72≤140737488355328):
  Calls Tryz.prog 13 #[.agg #[sv,pv,av],dw a] w fun e w'=>∃su pu au,e= .returned (.tuple #[.agg #[su,pu,au],.int .i64 (et S P A a)])∧CfAt w' su pu au (apS S P A a) (apP S P A a) (apA S P A a)∧Below w.heap.size w w':=
 (ow sv pv av S P A a w hC h1 h2 h3).mono fun e w' h=>by
  obtain⟨su,pu,au,he,hc,hb,_⟩:=h;exact⟨su,pu,au,he,hc,hb⟩
end Go.Proofs.YthmblklaeeifiaaGreat
