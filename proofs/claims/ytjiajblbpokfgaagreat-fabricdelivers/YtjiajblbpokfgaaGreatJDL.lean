/- Texts joined: Dld. -/
import Derived.Deep.Light
import Derived.Maps.AppendAt
import Derived.Deep.DeepCutAuto
import Derived.Test.YtjiajblbpokfgaaGreatJDA
namespace Go.Proofs.YtjiajblbpokfgaaGreat
open Go.RowKit
set_option linter.unusedVariables false
set_option maxRecDepth 100000
set_option maxHeartbeats 40000000
theorem vD (sv pv av:Value) (S:List Sw) (P:List Pr) (A:List Ac) (ch id d s kd a b t o:Int) (body:ByteArray) (w:World) (hC:CfAt w sv pv av S P A) (hm:may S P A=true) (hf:aQ d s kd a b t o body.size=0):
  Calls Tryz.prog 35 #[.agg #[sv,pv,av],.int .i64 ch,.int .i64 id,fr d s kd a b t o body] w fun e w'=>∃u,e= .returned u∧w'.ownsRow w.heap.size 97 10 u (dj S P A ch id d s kd a b t o).length ((dj S P A ch id d s kd a b t o).flatMap (glC body))∧Below w.heap.size w w':=by
 obtain⟨iG,hiG,zG0,zG1,zG2⟩:=info_parts AU;obtain⟨n1,n2,n3⟩:=iN hm;obtain⟨f1,f2,f3,f4⟩:=dI hf;have hft:Hid (0≤t∧t≤255):=aa f2.2.2.2.2.2;obtain⟨hS,hP,hA⟩:=aR hm;have HSW:=aa (dE hS).2;have HPO:=aa (fun W hC=>iW sv pv av S P A id W hC (by omega));have HSO:=aa (fun i W hC=>dW sv pv av S P A i W hC (by omega));have HAL:=aa (fun n W hC=>mQ sv pv av S P A n true d s kd a b t o body W hC hA f2.2.2.1 f2.2.2.2.1);have hin:=fun(h:P.any (fun q=>q.i==id)=true)=>jm hS hP (jf h).1;clear hm hf hA;have HDL:Hid (dj S P A ch id d s kd a b t o=if P.any (fun q=>q.i==id)=true∧(pof P id).c=ch∧s=(pof P id).m∧a=(pof P id).p then(if kd=1 then sy P (sof S (pof P id).s) id ch (pof P id).m (pof P id).p b else if kd=3∧bN A (sof S (pof P id).s).i true a b o=true then xH S P (sof S (pof P id).s) id d s a b t o else [])else []):=rfl;generalize dj S P A ch id d s kd a b t o=DL at*;obtain⟨s1,s2,rfl⟩:=hC.1.slice;obtain⟨p1,p2,rfl⟩:=hC.2.1.slice;obtain⟨a1,a2,rfl⟩:=hC.2.2.slice;have HC:=aa hC;clear hC;generalize P.any (fun q=>q.i==id)=T at*;generalize pof P id=x at*;obtain⟨x0,x1,x2,x3,x4⟩:=x;simp only at HPO HDL hin;have HSX:=HSO.out x1;have HIN:=aa hin;clear hin;have kb:=Below.refl w.heap.size w;obtain⟨W0,hW0⟩:∃W0,W0=w.alloc (.cells #[.slice s1 S.length s2,.slice p1 P.length p2,.slice a1 A.length a2] 26):=⟨_,rfl⟩;have bW0:Below w.heap.size w W0:=by rw [hW0];exact(Below.refl _ _).alloc zr _
 have HB1:Hid (Box W0 w.heap.size [.slice s1 S.length s2,.slice p1 P.length p2,.slice a1 A.length a2]):=by rw [hW0];exact aa (Box.new w [.slice s1 S.length s2,.slice p1 P.length p2,.slice a1 A.length a2] 26)
 replace HC:=aa (HC.out.below bW0 zr);replace kb:=kb.trans (bW0.mono kb.size);have HW0:Hid (w.alloc (.cells #[.slice s1 S.length s2,.slice p1 P.length p2,.slice a1 A.length a2] 26)=W0):=hW0.symm;clear hW0 bW0;obtain⟨W1,hW1⟩:∃W1,W1=W0.alloc (.cells #[.int .i64 d,.int .i64 s,.int .i64 kd,.int .i64 a,.int .i64 b,.int .i64 t,.int .i64 o,.string body] 28):=⟨_,rfl⟩;have bW1:Below W0.heap.size W0 W1:=by rw [hW1];exact(Below.refl _ _).alloc zr _
 have HB2:Hid (Box W1 W0.heap.size [.int .i64 d,.int .i64 s,.int .i64 kd,.int .i64 a,.int .i64 b,.int .i64 t,.int .i64 o,.string body]):=by rw [hW1];exact aa (Box.new W0 [.int .i64 d,.int .i64 s,.int .i64 kd,.int .i64 a,.int .i64 b,.int .i64 t,.int .i64 o,.string body] 28)
 replace HB1:=aa (HB1.out.below bW1);replace HC:=aa (HC.out.below bW1 zr);replace kb:=kb.trans (bW1.mono kb.size);have HW1:Hid (W0.alloc (.cells #[.int .i64 d,.int .i64 s,.int .i64 kd,.int .i64 a,.int .i64 b,.int .i64 t,.int .i64 o,.string body] 28)=W1):=hW1.symm;clear hW1 bW1;go_enter Tryz.func35,Tryz.ntmps35;go_wp2_with (first | rw [HW1.out] | rw [HW0.out] |(refine wpList_load_mid rfl 26 (.tmp 4) rfl w.heap.size 0 rfl _ _ HB1.out.range Tryz.underlying26 rfl dx ?_))
 clear HW1 HW0;refine(HPO.out _ HC.out).mono ?_;rintro e W2 ⟨rfl,hbW2⟩;clear HPO;replace HB1:=aa (HB1.out.below hbW2);replace HB2:=aa (HB2.out.below hbW2);replace HC:=aa (HC.out.below hbW2 zr);replace kb:=kb.trans (hbW2.mono kb.size);clear hbW2;obtain⟨W3,hW3⟩:∃W3,W3=W2.alloc (.cells #[.int .i64 x0,.int .i64 x1,.int .i64 x2,.int .i64 x3,.int .i64 x4] 51):=⟨_,rfl⟩;have bW3:Below W2.heap.size W2 W3:=by rw [hW3];exact(Below.refl _ _).alloc zr _
 have HB3:Hid (Box W3 W2.heap.size [.int .i64 x0,.int .i64 x1,.int .i64 x2,.int .i64 x3,.int .i64 x4]):=by rw [hW3];exact aa (Box.new W2 [.int .i64 x0,.int .i64 x1,.int .i64 x2,.int .i64 x3,.int .i64 x4] 51)
 replace HB1:=aa (HB1.out.below bW3);replace HB2:=aa (HB2.out.below bW3);replace HC:=aa (HC.out.below bW3 zr);replace kb:=kb.trans (bW3.mono kb.size);have HW3:Hid (W2.alloc (.cells #[.int .i64 x0,.int .i64 x1,.int .i64 x2,.int .i64 x3,.int .i64 x4] 51)=W3):=hW3.symm;clear hW3 bW3;have u1:=HB3.out.cell 1 _ rfl;have u2:=HB3.out.cell 2 _ rfl;have u3:=HB3.out.cell 3 _ rfl;have u4:=HB3.out.cell 4 _ rfl;have v1:=HB2.out.cell 1 _ rfl;have v3:=HB2.out.cell 3 _ rfl;have v2:=HB2.out.cell 2 _ rfl;have hc:T=false∨T=true∧((x4 != ch)=true∨(x4 != ch)=false∧((s != x2)=true∨(s != x2)=false∧((a != x3)=true∨(a != x3)=false))):=by cases T <;>cases (x4 != ch) <;>cases (s != x2) <;>cases (a != x3) <;>simp
 rcases hc with rfl |⟨rfl,h1 |⟨h1,h2 |⟨h2,h3 | h3⟩⟩⟩
 ·clear HSO HSX HAL HSW HIN;go_wp2_with (rw [HW3.out])
  go_ret;exact⟨_,rfl,by rw [HDL.out,if_neg (fun h=>absurd h.1 (by simp))];exact World.ownsRow_nil _ _ _ _,kb⟩
 ·clear HSO HSX HAL HSW HIN;go_wp2_with (rw [HW3.out])
  go_ret;exact⟨_,rfl,by rw [HDL.out,if_neg (fun h=>absurd h.2.1 (by simpa [bne] using h1))];exact World.ownsRow_nil _ _ _ _,kb⟩
 ·clear HSO HSX HAL HSW HIN;go_wp2_with (rw [HW3.out])
  go_ret;exact⟨_,rfl,by rw [HDL.out,if_neg (fun h=>absurd h.2.2.1 (by simpa [bne] using h2))];exact World.ownsRow_nil _ _ _ _,kb⟩
 ·clear HSO HSX HAL HSW HIN;go_wp2_with (rw [HW3.out])
  go_ret;exact⟨_,rfl,by rw [HDL.out,if_neg (fun h=>absurd h.2.2.2 (by simpa [bne] using h3))];exact World.ownsRow_nil _ _ _ _,kb⟩
 ·rw [if_pos ⟨rfl,by simpa [bne] using h1,by simpa [bne] using h2,by simpa [bne] using h3⟩]at HDL;obtain⟨-,hso,hsi⟩:=HIN.out rfl;have hsy:=HSW.out _ hso;clear HIN HSW hso;go_wp2_with (first | rw [HW3.out] |(refine wpList_load_mid rfl 26 (.tmp 4) rfl w.heap.size 0 rfl _ _ HB1.out.range Tryz.underlying26 rfl dx ?_))
  clear HW3 u1 u2 u3 u4 v1 v2 v3 h1 h2 h3;obtain⟨Y,hY⟩:∃Y,Y=sof S x1:=⟨_,rfl⟩;rw [←hY]at HDL HSX hsi hsy;clear hY;have HYA:=HAL.out Y.i;obtain⟨y0,y1,y2⟩:=Y;simp only at HSX hsi hsy HYA;subst hsi;refine(HSX _ HC.out).mono ?_;rintro e W4 ⟨rfl,hbW4⟩;clear HSX;replace HB1:=aa (HB1.out.below hbW4);replace HB2:=aa (HB2.out.below hbW4);replace HB3:=aa (HB3.out.below hbW4);replace HC:=aa (HC.out.below hbW4 zr);replace kb:=kb.trans (hbW4.mono kb.size);clear hbW4;obtain⟨W5,hW5⟩:∃W5,W5=W4.alloc (.cells #[.int .i64 y0,.int .i64 y1,.int .i64 y2] 60):=⟨_,rfl⟩;have bW5:Below W4.heap.size W4 W5:=by rw [hW5];exact(Below.refl _ _).alloc zr _
  have HB4:Hid (Box W5 W4.heap.size [.int .i64 y0,.int .i64 y1,.int .i64 y2]):=by rw [hW5];exact aa (Box.new W4 [.int .i64 y0,.int .i64 y1,.int .i64 y2] 60)
  replace HB1:=aa (HB1.out.below bW5);replace HB2:=aa (HB2.out.below bW5);replace HB3:=aa (HB3.out.below bW5);replace HC:=aa (HC.out.below bW5 zr);replace kb:=kb.trans (bW5.mono kb.size);have HW5:Hid (W4.alloc (.cells #[.int .i64 y0,.int .i64 y1,.int .i64 y2] 60)=W5):=hW5.symm;clear hW5 bW5;have v2:=HB2.out.cell 2 _ rfl;by_cases hk:kd=1;go_upto_region 5 with(rw [HW5.out])
  ·subst hk;obtain⟨rfl,rfl,hb0⟩:=f4 (by omega);obtain rfl:=vi hb0;rw [if_pos rfl]at HDL;have w2:=HB3.out.cell 2 _ rfl;have w3:=HB3.out.cell 3 _ rfl;have w4:=HB2.out.cell 4 _ rfl;have lw5:w.heap.size≤W5.heap.size:=kb.size;have hb45:W4.heap.size<W5.heap.size:=HB4.out.lt;obtain⟨W6,hW6⟩:∃W6,W6=W5.alloc (.cells #[.int .i64 x2,.int .i64 0,.int .i64 2,.int .i64 b,.int .i64 x3,.int .i64 0,.int .i64 0,.string ⟨#[]⟩] 28):=⟨_,rfl⟩;have bW6:Below W5.heap.size W5 W6:=by rw [hW6];exact(Below.refl _ _).alloc zr _
   have HB5:Hid (Box W6 W5.heap.size [.int .i64 x2,.int .i64 0,.int .i64 2,.int .i64 b,.int .i64 x3,.int .i64 0,.int .i64 0,.string ⟨#[]⟩]):=by rw [hW6];exact aa (Box.new W5 [.int .i64 x2,.int .i64 0,.int .i64 2,.int .i64 b,.int .i64 x3,.int .i64 0,.int .i64 0,.string ⟨#[]⟩] 28)
   replace HB1:=aa (HB1.out.below bW6);replace HB2:=aa (HB2.out.below bW6);replace HB3:=aa (HB3.out.below bW6);replace HB4:=aa (HB4.out.below bW6);replace HC:=aa (HC.out.below bW6 zr);replace kb:=kb.trans (bW6.mono kb.size);have HW6:Hid (W5.alloc (.cells #[.int .i64 x2,.int .i64 0,.int .i64 2,.int .i64 b,.int .i64 x3,.int .i64 0,.int .i64 0,.string ⟨#[]⟩] 28)=W6):=hW6.symm;clear hW6 bW6;have y2c:=HB4.out.cell 2 _ rfl;have y0c:=HB4.out.cell 0 _ rfl;have wr0:IntKind.i64.wrap (60000+y0)=60000+y0:=gG _ (by omega) (by omega);have w4b:=HB2.out.cell 4 _ rfl;by_cases hg:0<y2∧y2=b
   ·obtain⟨hg1,hg2⟩:=hg;have sc5:=HB5.out.cell 1 _ rfl;have sf5:=HB5.out.2 1 (by simp);have hgb:(y2==b)=true:=(by simpa using hg2);have HPV:Hid (Box (W6.setCell ⟨W5.heap.size,1,none⟩ (.int .i64 (60000+y0))) W5.heap.size [.int .i64 x2,.int .i64 (60000+y0),.int .i64 2,.int .i64 b,.int .i64 x3,.int .i64 0,.int .i64 0,.string ⟨#[]⟩]):=aa (HB5.out.put 1 _);obtain⟨V,hV⟩:∃V,V=W6.setCell ⟨W5.heap.size,1,none⟩ (.int .i64 (60000+y0)):=⟨_,rfl⟩;rw [←hV]at HPV;have kv:Below w.heap.size w V:=by rw [hV];exact kb.setCell (p:=⟨W5.heap.size,1,none⟩) lw5 _
    have HB4V:Hid (Box V W4.heap.size [.int .i64 y0,.int .i64 y1,.int .i64 y2]):=by rw [hV];exact aa (HB4.out.set_far (by omega) 1 [_])
    have HVV:=aa hV.symm;clear hV;have y0v:=HB4V.out.cell 0 _ rfl;go_upto_region 9 with(rw [HW6.out])
    rw [HVV.out];clear sc5 sf5;obtain⟨VG,hVG⟩:∃VG,VG=V.alloc (.cells #[.int .i64 y0,.int .i64 id,.int .i64 x2,.int .i64 (60000+y0),.int .i64 2,.int .i64 b,.int .i64 x3,.int .i64 0,.int .i64 0,.string ⟨#[]⟩] 97):=⟨_,rfl⟩;have HR:Hid (VG.ownsRow w.heap.size 97 10 (.slice (some ⟨V.heap.size,0,none⟩) 1 1) 1 [.int .i64 y0,.int .i64 id,.int .i64 x2,.int .i64 (60000+y0),.int .i64 2,.int .i64 b,.int .i64 x3,.int .i64 0,.int .i64 0,.string ⟨#[]⟩]):=by rw [hVG];exact aa (World.ownsRow_lit V _ 1 kv.size (by decide) rfl)
    have kx:Below w.heap.size w VG:=by rw [hVG];exact kv.alloc kv.size _
    have HVG:=aa hVG.symm;clear hVG;go_wp2_with (first | rw [HVG.out] |(refine wpList_load_mid rfl 28 (.tmp 13) rfl W5.heap.size 0 rfl _ _ HPV.out.range Tryz.underlying28 rfl dR ?_))
    go_ret;exact⟨_,rfl,by rw [HDL.out];unfold sy;rw [if_pos ⟨hg1,hg2⟩];exact HR.out,kx⟩
   ·have hgc:(0<y2)∧(y2==b)=false∨¬0<y2:=by by_cases h:0<y2;exact .inl ⟨h,by simpa using fun e=>hg ⟨h,e⟩⟩;exact .inr h
    have HDM:Hid (DL=match P.find? (otB ⟨y0,y1,y2⟩ id b)with | none=>[] | some q=>[⟨y0,id,ch,[x2,q.m,2,b,x3,0,0]⟩]):=by rw [HDL.out];unfold sy;rw [if_neg hg];exact aa rfl
    clear HDL hg;rcases hgc with⟨hg1,hg2⟩ | hg1
    all_goals
     go_upto_region 10 with(rw [HW6.out])
    all_goals
     clear HW6 w2 w3 w4 w4b y2c y0c;go_wp2_with fail
     go_loopw [14] (fun i wr=>∃k:Nat,k≤P.length∧i= .int .i64 k∧Hid (∀j,j<k→otB ⟨y0,y1,y2⟩ id b (P.getD j pr0)=false)∧Below W6.heap.size W6 wr) (fun i _=>P.length-(intOf i).toNat)
     case atStart=>exact⟨0,by omega,rfl,aa (fun j h=>absurd h (by omega)),Below.refl _ _⟩
     case round=>
      obtain⟨k,hk,rfl,HALL,kz⟩:=hrel;replace HB1:=aa (HB1.out.below kz);replace HB2:=aa (HB2.out.below kz);replace HB4:=aa (HB4.out.below kz);replace HB5:=aa (HB5.out.below kz);replace HC:=aa (HC.out.below kz zr);have c1c:=HB1.out.cell 1 _ rfl;by_cases hlt:k<P.length
      ·obtain⟨bb,off,cap,e1,hcap,hR⟩:=dF pr0 HC.out.2.1 hlt;simp only [Value.slice.injEq,true_and]at e1;obtain⟨rfl,rfl⟩:=e1;have HXC:Hid (prC (P.getD k pr0)= [.int .i64 (P.getD k pr0).i,.int .i64 (P.getD k pr0).s,.int .i64 (P.getD k pr0).m,.int .i64 (P.getD k pr0).p,.int .i64 (P.getD k pr0).c]):=rfl;have R0:=aa hR;rw [HXC.out]at R0;clear hR HXC;have HFD:=aa (fun h=>tX pr0 hlt HALL.out h);have HNX:Hid (otB ⟨y0,y1,y2⟩ id b (P.getD k pr0)=false→∀j,j<k+1→otB ⟨y0,y1,y2⟩ id b (P.getD j pr0)=false):=aa (fun h j hj=>by
        by_cases e:j=k
        ·rw [e];exact h
        ·exact HALL.out j (by omega))
       generalize P.getD k pr0=q at*;obtain⟨q0,q1,q2,q3,q4⟩:=q;simp only at R0;have r0:(0:Int)≤(k:Int):=(by omega);have r1:(k:Int)<(P.length:Int):=(by omega);clear HALL;have HOT:Hid (otB ⟨y0,y1,y2⟩ id b ⟨q0,q1,q2,q3,q4⟩=(q1==y0&&(!(q0==id)&&q3==b))):=rfl;obtain⟨V1,hV1⟩:∃V1,V1=wr.alloc (.cells #[.int .i64 q0,.int .i64 q1,.int .i64 q2,.int .i64 q3,.int .i64 q4] 51):=⟨_,rfl⟩;have bV1:Below wr.heap.size wr V1:=by rw [hV1];exact(Below.refl _ _).alloc zr _
       have HB6:Hid (Box V1 wr.heap.size [.int .i64 q0,.int .i64 q1,.int .i64 q2,.int .i64 q3,.int .i64 q4]):=by rw [hV1];exact aa (Box.new wr [.int .i64 q0,.int .i64 q1,.int .i64 q2,.int .i64 q3,.int .i64 q4] 51)
       replace HB1:=aa (HB1.out.below bV1);replace HB2:=aa (HB2.out.below bV1);replace HB4:=aa (HB4.out.below bV1);replace HB5:=aa (HB5.out.below bV1);replace HC:=aa (HC.out.below bV1 zr);replace kz:=kz.trans (bV1.mono kz.size);have HV1:Hid (wr.alloc (.cells #[.int .i64 q0,.int .i64 q1,.int .i64 q2,.int .i64 q3,.int .i64 q4] 51)=V1):=hV1.symm;clear hV1 bV1;have m0:=HB6.out.cell 0 _ rfl;have m1:=HB6.out.cell 1 _ rfl;have m2:=HB6.out.cell 2 _ rfl;have m3:=HB6.out.cell 3 _ rfl;have y0c:=HB4.out.cell 0 _ rfl;have w4b:=HB2.out.cell 4 _ rfl;have hc:(q1==y0)=false∨(q1==y0)=true∧((q3==b)=false∨(q3==b)=true∧((q0 != id)=false∨(q0 != id)=true)):=by cases (q1==y0) <;>cases (q3==b) <;>cases (q0 != id) <;>simp
       rcases hc with h1 |⟨h1,h2 |⟨h2,h3 | h3⟩⟩
       ·have hf:otB ⟨y0,y1,y2⟩ id b ⟨q0,q1,q2,q3,q4⟩=false:=by rw [HOT.out];rw [h1];rfl
        have HN:=aa (HNX.out hf);clear HNX HFD hf;go_wp2_with (first | rw [HV1.out] |(refine wpList_load_mid rfl 51 (.tmp 97) rfl bb (off+k*5) rfl _ _ R0.out Tryz.underlying51 rfl kk ?_))
        go_roundw
        case rel=>exact⟨k+1,by omega,by go_num,HN,kz⟩
        case measure=>simp [intOf];omega
       ·have hf:otB ⟨y0,y1,y2⟩ id b ⟨q0,q1,q2,q3,q4⟩=false:=by rw [HOT.out];rw [h2];simp
        have HN:=aa (HNX.out hf);clear HNX HFD hf;go_wp2_with (first | rw [HV1.out] |(refine wpList_load_mid rfl 51 (.tmp 97) rfl bb (off+k*5) rfl _ _ R0.out Tryz.underlying51 rfl kk ?_))
        go_roundw
        case rel=>exact⟨k+1,by omega,by go_num,HN,kz⟩
        case measure=>simp [intOf];omega
       ·have hf:otB ⟨y0,y1,y2⟩ id b ⟨q0,q1,q2,q3,q4⟩=false:=by rw [HOT.out];rw [show(q0==id)=true from by simpa [bne] using h3];simp
        have HN:=aa (HNX.out hf);clear HNX HFD hf;go_wp2_with (first | rw [HV1.out] |(refine wpList_load_mid rfl 51 (.tmp 97) rfl bb (off+k*5) rfl _ _ R0.out Tryz.underlying51 rfl kk ?_))
        go_roundw
        case rel=>exact⟨k+1,by omega,by go_num,HN,kz⟩
        case measure=>simp [intOf];omega
       ·have sc5:=HB5.out.cell 1 _ rfl;have sf5:=HB5.out.2 1 (by simp);have hf:=HFD.out (by rw [HOT.out,h1,h2,show(q0==id)=false from by simpa [bne] using h3];rfl);clear HNX HFD;have HPV:Hid (Box (V1.setCell ⟨W5.heap.size,1,none⟩ (.int .i64 q2)) W5.heap.size [.int .i64 x2,.int .i64 q2,.int .i64 2,.int .i64 b,.int .i64 x3,.int .i64 0,.int .i64 0,.string ⟨#[]⟩]):=aa (HB5.out.put 1 _);obtain⟨V,hV⟩:∃V,V=V1.setCell ⟨W5.heap.size,1,none⟩ (.int .i64 q2):=⟨_,rfl⟩;rw [←hV]at HPV;have kv:Below w.heap.size w V:=by rw [hV];exact(kb.trans (kz.mono kb.size)).setCell (p:=⟨W5.heap.size,1,none⟩) lw5 _
        have HB4V:Hid (Box V W4.heap.size [.int .i64 y0,.int .i64 y1,.int .i64 y2]):=by rw [hV];exact aa (HB4.out.set_far (by omega) 1 [_])
        have HVV:=aa hV.symm;clear hV;have y0v:=HB4V.out.cell 0 _ rfl;go_upto_region 14 with(first | rw [HV1.out] |(refine wpList_load_mid rfl 51 (.tmp 97) rfl bb (off+k*5) rfl _ _ R0.out Tryz.underlying51 rfl kk ?_))
        clear HV1 R0;go_upto_region 16 with fail
        rw [HVV.out];clear sc5 sf5;obtain⟨VG,hVG⟩:∃VG,VG=V.alloc (.cells #[.int .i64 y0,.int .i64 id,.int .i64 x2,.int .i64 q2,.int .i64 2,.int .i64 b,.int .i64 x3,.int .i64 0,.int .i64 0,.string ⟨#[]⟩] 97):=⟨_,rfl⟩;have HR:Hid (VG.ownsRow w.heap.size 97 10 (.slice (some ⟨V.heap.size,0,none⟩) 1 1) 1 [.int .i64 y0,.int .i64 id,.int .i64 x2,.int .i64 q2,.int .i64 2,.int .i64 b,.int .i64 x3,.int .i64 0,.int .i64 0,.string ⟨#[]⟩]):=by rw [hVG];exact aa (World.ownsRow_lit V _ 1 kv.size (by decide) rfl)
        have kx:Below w.heap.size w VG:=by rw [hVG];exact kv.alloc kv.size _
        have HVG:=aa hVG.symm;clear hVG;go_wp2_with (first | rw [HVG.out] |(refine wpList_load_mid rfl 28 (.tmp 13) rfl W5.heap.size 0 rfl _ _ HPV.out.range Tryz.underlying28 rfl dR ?_))
        go_ret;exact⟨_,rfl,by rw [HDM.out,hf];exact HR.out,kx⟩
      ·obtain rfl:k=P.length:=(by omega);have hf:=xA pr0 HALL.out;clear HALL;go_wp2_with fail
       go_ret;exact⟨_,rfl,by rw [HDM.out,hf];exact World.ownsRow_nil _ _ _ _,kb.trans (kz.mono kb.size)⟩
  ·rw [if_neg hk]at HDL;have hk1:(kd==1)=false:=(by simpa using hk);by_cases hk3:kd=3
   ·subst hk3;generalize bN A y0 true a b o=R at*;have b0:=HB1.out.cell 0 _ rfl;have b1:=HB1.out.cell 1 _ rfl;have b2:=HB1.out.cell 2 _ rfl;have y0c:=HB4.out.cell 0 _ rfl;have l0:=HB2.out.cell 0 _ rfl;have l1:=HB2.out.cell 1 _ rfl;have l2:=HB2.out.cell 2 _ rfl;have l3:=HB2.out.cell 3 _ rfl;have l4:=HB2.out.cell 4 _ rfl;have l5:=HB2.out.cell 5 _ rfl;have l6:=HB2.out.cell 6 _ rfl;have l7:=HB2.out.cell 7 _ rfl;go_wp2_with fail
    clear b0 b1 b2 l0 l1 l2 l3 l4 l5 l6 l7 y0c v2 hk1;refine(HYA _ HC.out).mono ?_;rintro e X1 ⟨rfl,hbX1⟩;clear HYA;replace HB1:=aa (HB1.out.below hbX1);replace HB2:=aa (HB2.out.below hbX1);replace HB3:=aa (HB3.out.below hbX1);replace HB4:=aa (HB4.out.below hbX1);replace HC:=aa (HC.out.below hbX1 zr);replace kb:=kb.trans (hbX1.mono kb.size);clear hbX1;cases R
    ·rw [if_neg (fun h=>absurd h.2 (by simp))]at HDL;clear HSO HAL;go_wp2_with fail
     go_ret;exact⟨_,rfl,by rw [HDL.out];exact World.ownsRow_nil _ _ _ _,kb⟩
    ·rw [if_pos (by simp)]at HDL;clear HAL;obtain⟨D1,hD1⟩:∃D1,D1=jU S ⟨y0,y1,y2⟩ id d s a b t o:=⟨_,rfl⟩;have HD1:=aa hD1;have HDD:Hid (DL=P.flatMap D1):=by rw [HDL.out,hD1];exact aa rfl
     have HD0:=aa (fun q h=>wQ (S:=S) (Y:=⟨y0,y1,y2⟩) (id:=id) (d:=d) (s:=s) (a:=a) (b:=b) (t:=t) (o:=o) (q:=q) h);have HDS:=aa (fun q h=>yq (S:=S) (Y:=⟨y0,y1,y2⟩) (id:=id) (d:=d) (s:=s) (a:=a) (b:=b) (t:=t) (o:=o) (q:=q) h);have HNX:=aa (fun k h=>vm (S:=S) (P:=P) (Y:=⟨y0,y1,y2⟩) (id:=id) (d:=d) (s:=s) (a:=a) (b:=b) (t:=t) (o:=o) (k:=k) h);have HFW:=aa (mZ (S:=S) (Y:=⟨y0,y1,y2⟩) (id:=id) (d:=d) (s:=s) (a:=a) (b:=b) (t:=t) (o:=o));rw [←hD1]at HD0 HDS HNX HFW;clear HDL hD1;have XB1:=HB1;have XB2:=HB2;have XB4:=HB4;have XC:=HC;go_wp2_with fail
     go_loopw [16,17] (fun u i wr=>∃k:Nat,k≤P.length∧i= .int .i64 k∧Hid (wr.ownsRow X1.heap.size 97 10 u ((P.take k).flatMap D1).length (((P.take k).flatMap D1).flatMap (glC body)))∧Below X1.heap.size X1 wr) (fun _ i _=>P.length-(intOf i).toNat)
     case atStart=>exact⟨0,by omega,rfl,aa (World.ownsRow_nil X1 X1.heap.size 97 10),Below.refl _ _⟩
     case round=>
      obtain⟨k,hk9,rfl,HO,kz⟩:=hrel;replace HB1:=aa (HB1.out.below kz);replace HB2:=aa (HB2.out.below kz);replace HB4:=aa (HB4.out.below kz);replace HC:=aa (HC.out.below kz zr);have HIN:=aa (fun g h=>dD HO.out (g:=g) h);have s1r:X1.heap.size≤wr.heap.size:=kz.size;have c1c:=HB1.out.cell 1 _ rfl;obtain⟨o1,o2,rfl⟩:=az HO.out;by_cases hlt:k<P.length
      ·have hfw:=HFW.out (P.take k);rw [List.length_take]at hfw;have hfw2:((P.take k).flatMap D1).length≤80:=(by omega);clear hfw;have HN1:=aa (HNX.out k hlt);obtain⟨GL,hGL⟩:∃GL,GL=(P.take k).flatMap D1:=⟨_,rfl⟩;rw [←hGL]at HO HN1 hfw2 HIN⊢;clear hGL;obtain⟨bb,off,cap,e1,hcap,hR⟩:=dF pr0 HC.out.2.1 hlt;simp only [Value.slice.injEq,true_and]at e1;obtain⟨rfl,rfl⟩:=e1;have HXC:Hid (prC (P.getD k pr0)= [.int .i64 (P.getD k pr0).i,.int .i64 (P.getD k pr0).s,.int .i64 (P.getD k pr0).m,.int .i64 (P.getD k pr0).p,.int .i64 (P.getD k pr0).c]):=rfl;have R0:=aa hR;rw [HXC.out]at R0;have HSQ:=HSO.out (P.getD k pr0).s;have HQ0:=aa (HD0.out (P.getD k pr0));have HQS:=aa (HDS.out (P.getD k pr0));have hq9:=(bI hS hP).2 _ (fL (d:=pr0) hlt);have hsz:=jm hS hP (fL (d:=pr0) hlt);have hsz2:=(dE hS).2 _ hsz.2.1;clear hR HXC HD0 HDS HNX HFW;generalize P.getD k pr0=qq at*;obtain⟨q0,q1,q2,q3,q4⟩:=qq;simp only at R0 HSQ HQ0 HQS hq9 hsz hsz2;have HRT:Hid (dRt S ⟨y0,y1,y2⟩ d b t ⟨q0,q1,q2,q3,q4⟩=(decide (0<y2)&&(d==60000+y0&&(decide (1<t)&&((sof S q1).t==y1&&(decide (0<(sof S q1).g)&&q3==b)))))):=rfl;have HBR:Hid (dBr ⟨y0,y1,y2⟩ id d ⟨q0,q1,q2,q3,q4⟩=((q1==y0&& !(q0==id))&&(d==65535|| d==q2))):=rfl;generalize sof S q1=Z at*;obtain⟨z0,z1,z2⟩:=Z;simp only at HSQ HRT hsz2;clear hsz;have r0:(0:Int)≤(k:Int):=(by omega);have r1:(k:Int)<(P.length:Int):=(by omega);have HOW:Hid (∀(v5:Value) (W:World),W.ownsRow X1.heap.size 97 10 v5 (GL++D1 ⟨q0,q1,q2,q3,q4⟩).length ((GL++D1 ⟨q0,q1,q2,q3,q4⟩).flatMap (glC body))→Hid (W.ownsRow X1.heap.size 97 10 v5 ((P.take (k+1)).flatMap D1).length (((P.take (k+1)).flatMap D1).flatMap (glC body)))):=aa (fun v5 W h=>by rw [HN1.out];exact aa h);clear HN1;obtain⟨V1,hV1⟩:∃V1,V1=wr.alloc (.cells #[.int .i64 q0,.int .i64 q1,.int .i64 q2,.int .i64 q3,.int .i64 q4] 51):=⟨_,rfl⟩;have bV1:Below wr.heap.size wr V1:=by rw [hV1];exact(Below.refl _ _).alloc zr _
       have HB6:Hid (Box V1 wr.heap.size [.int .i64 q0,.int .i64 q1,.int .i64 q2,.int .i64 q3,.int .i64 q4]):=by rw [hV1];exact aa (Box.new wr [.int .i64 q0,.int .i64 q1,.int .i64 q2,.int .i64 q3,.int .i64 q4] 51)
       replace HB1:=aa (HB1.out.below bV1);replace HB2:=aa (HB2.out.below bV1);replace HB4:=aa (HB4.out.below bV1);replace HC:=aa (HC.out.below bV1 zr);replace HO:=zO HO bV1;replace kz:=kz.trans (bV1.mono kz.size);have HV1:Hid (wr.alloc (.cells #[.int .i64 q0,.int .i64 q1,.int .i64 q2,.int .i64 q3,.int .i64 q4] 51)=V1):=hV1.symm;clear hV1 bV1;have m1:=HB6.out.cell 1 _ rfl;go_wp2_with (first | rw [HV1.out] |(refine wpList_load_mid rfl 51 (.tmp 147) rfl bb (off+k*5) rfl _ _ R0.out Tryz.underlying51 rfl kk ?_) |(refine wpList_load_mid rfl 26 (.tmp 4) rfl w.heap.size 0 rfl _ _ HB1.out.range Tryz.underlying26 rfl dx ?_))
       clear HV1 R0 m1 c1c;refine(HSQ _ HC.out).mono ?_;rintro e V2 ⟨rfl,hbV2⟩;clear HSQ;replace HB1:=aa (HB1.out.below hbV2);replace HB2:=aa (HB2.out.below hbV2);replace HB4:=aa (HB4.out.below hbV2);replace HB6:=aa (HB6.out.below hbV2);replace HC:=aa (HC.out.below hbV2 zr);replace HO:=zO HO hbV2;replace kz:=kz.trans (hbV2.mono kz.size);clear hbV2;have HSZ:Hid (wr.heap.size≤V2.heap.size):=aa (by have h1:=HB6.out.lt;omega);obtain⟨V3,hV3⟩:∃V3,V3=V2.alloc (.cells #[.int .i64 z0,.int .i64 z1,.int .i64 z2] 60):=⟨_,rfl⟩;have bV3:Below V2.heap.size V2 V3:=by rw [hV3];exact(Below.refl _ _).alloc zr _
       have HB7:Hid (Box V3 V2.heap.size [.int .i64 z0,.int .i64 z1,.int .i64 z2]):=by rw [hV3];exact aa (Box.new V2 [.int .i64 z0,.int .i64 z1,.int .i64 z2] 60)
       replace HB1:=aa (HB1.out.below bV3);replace HB2:=aa (HB2.out.below bV3);replace HB4:=aa (HB4.out.below bV3);replace HB6:=aa (HB6.out.below bV3);replace HC:=aa (HC.out.below bV3 zr);replace HO:=zO HO bV3;replace kz:=kz.trans (bV3.mono kz.size);have HV3:Hid (V2.alloc (.cells #[.int .i64 z0,.int .i64 z1,.int .i64 z2] 60)=V3):=hV3.symm;clear hV3 bV3;have m4:=HB6.out.cell 4 _ rfl;by_cases hneg:q4<0
       ·rw [HQ0.out (by omega),List.append_nil]at HOW;have HN:=HOW.out _ _ HO.out;clear HQ0 HQS HOW HRT HBR HO;go_wp2_with (rw [HV3.out])
        go_roundw
        case rel=>exact⟨k+1,by omega,by go_num,HN,kz⟩
        case measure=>simp [intOf];omega
       ·rw [HQS.out (by omega)]at HOW;clear HQ0 HQS;have m0:=HB6.out.cell 0 _ rfl;have m1:=HB6.out.cell 1 _ rfl;have m2:=HB6.out.cell 2 _ rfl;have m3:=HB6.out.cell 3 _ rfl;have l0:=HB2.out.cell 0 _ rfl;have y0c:=HB4.out.cell 0 _ rfl;go_upto_region 27 with(rw [HV3.out])
        clear HV3;obtain⟨TB,hTB⟩:∃TB,TB=dBr ⟨y0,y1,y2⟩ id d ⟨q0,q1,q2,q3,q4⟩:=⟨_,rfl⟩;rw [←hTB]at HOW HBR;clear hTB;obtain⟨LA,hLA⟩:∃LA,LA=(if TB=true then [g1 ⟨y0,y1,y2⟩ d s a b t o ⟨q0,q1,q2,q3,q4⟩]else []):=⟨_,rfl⟩;rw [←hLA]at HOW;have hla:LA.length≤1:=by rw [hLA];split <;>simp
        have HLA:=aa hLA;clear hLA;have hc:((q1==y0)=false∨(q1==y0)=true∧((q0 != id)=false∨(q0 != id)=true∧((d==65535)=false∧(d==q2)=false)))∨((q1==y0)=true∧(q0 != id)=true∧((d==65535)=true∨(d==65535)=false∧(d==q2)=true)):=by cases (q1==y0) <;>cases (q0 != id) <;>cases (d==65535) <;>cases (d==q2) <;>simp
        go_cut [181] (fun tv wx=>tv= .bool TB∧V3=wx)
        case first=>
         rcases hc with(h1 |⟨h1,h2 |⟨h2,h3,h4⟩⟩) |⟨h1,h2,h3 |⟨h3,h4⟩⟩
         ·go_wp2_with fail
          go_meet;exact⟨by rw [HBR.out,h1];simp,rfl⟩
         ·go_wp2_with fail
          go_meet;exact⟨by rw [HBR.out,show(q0==id)=true from by simpa [bne] using h2];simp,rfl⟩
         ·go_wp2_with fail
          go_meet;exact⟨by rw [HBR.out,h3,h4];simp,rfl⟩
         ·go_wp2_with fail
          go_meet;exact⟨by rw [HBR.out,h1,show(q0==id)=false from by simpa [bne] using h2,h3];simp,rfl⟩
         ·go_wp2_with fail
          go_meet;exact⟨by rw [HBR.out,h1,show(q0==id)=false from by simpa [bne] using h2,h3,h4];simp,rfl⟩
        case rest=>
         obtain⟨rfl,rfl⟩:=hcut;clear hc HBR;rw [←List.append_assoc]at HOW;go_upto_if 181 with fail;go_cut [16] (fun u wx=>∃(o3:Option Addr) (o4:Nat),u= .slice o3 (GL++LA).length o4∧Hid (wx.ownsRow X1.heap.size 97 10 (.slice o3 (GL++LA).length o4) (GL++LA).length ((GL++LA).flatMap (glC body)))∧Hid (Box wx wr.heap.size [.int .i64 q0,.int .i64 q1,.int .i64 q2,.int .i64 q3,.int .i64 q4])∧Hid (Box wx V2.heap.size [.int .i64 z0,.int .i64 z1,.int .i64 z2])∧Below X1.heap.size X1 wx)
         case first=>
          cases TB
          ·have hf:LA= []:=by rw [HLA.out];rfl
           have HOA:Hid (V3.ownsRow X1.heap.size 97 10 (.slice o1 (GL++LA).length o2) (GL++LA).length ((GL++LA).flatMap (glC body))):=by rw [hf,List.append_nil];exact HO
           have hge:(.slice o1 GL.length o2:Value)= .slice o1 (GL++LA).length o2:=(by rw [hf,List.append_nil]);clear hf HO;go_wp2_with fail
           go_meet;exact⟨o1,o2,hge,HOA,HB6,HB7,kz⟩
          ·have hf:LA= [g1 ⟨y0,y1,y2⟩ d s a b t o ⟨q0,q1,q2,q3,q4⟩]:=by rw [HLA.out];rfl
           have s3r:wr.heap.size≤V2.heap.size:=HSZ.out;obtain⟨V4,hV4⟩:∃V4,V4=V3.alloc (.cells #[.int .i64 y0,.int .i64 q0,.int .i64 d,.int .i64 s,.int .i64 3,.int .i64 a,.int .i64 b,.int .i64 t,.int .i64 o,.string body] 97):=⟨_,rfl⟩;have bV4:Below V3.heap.size V3 V4:=by rw [hV4];exact(Below.refl _ _).alloc zr _
           have HN2:Hid (Box V4 V3.heap.size [.int .i64 y0,.int .i64 q0,.int .i64 d,.int .i64 s,.int .i64 3,.int .i64 a,.int .i64 b,.int .i64 t,.int .i64 o,.string body]):=by rw [hV4];exact aa (Box.new V3 [.int .i64 y0,.int .i64 q0,.int .i64 d,.int .i64 s,.int .i64 3,.int .i64 a,.int .i64 b,.int .i64 t,.int .i64 o,.string body] 97)
           replace HB6:=aa (HB6.out.below bV4);replace HB7:=aa (HB7.out.below bV4);replace HO:=zO HO bV4;replace kz:=kz.trans (bV4.mono kz.size);have HV4:Hid (V3.alloc (.cells #[.int .i64 y0,.int .i64 q0,.int .i64 d,.int .i64 s,.int .i64 3,.int .i64 a,.int .i64 b,.int .i64 t,.int .i64 o,.string body] 97)=V4):=hV4.symm;clear hV4 bV4;have sb:X1.heap.size≤V4.heap.size:=kz.size;go_wp2_with (first | rw [HV4.out] |(refine wpList_load_mid rfl 28 (.tmp 7) rfl W0.heap.size 0 rfl _ _ HB2.out.range Tryz.underlying28 rfl dR ?_) |(at_builtin;refine wpList_append_own_at _ rfl _ _ 94 rfl X1.heap.size 97 iG _ 10 88 Tryz.underlying94 hiG zG0 zG1 zG2 rfl (by decide) _ _ _ rfl (ag HO) ⟨V3.heap.size,0,none⟩ 1 1 [.int .i64 y0,.int .i64 q0,.int .i64 d,.int .i64 s,.int .i64 3,.int .i64 a,.int .i64 b,.int .i64 t,.int .i64 o,.string body] rfl rfl (fun j u hj=>by rw [rX];have:=HN2.out.range j u hj;rwa [Nat.zero_add]at this) (du rfl) (by unfold maxLen;omega) (by omega) sb ?_))
           intro v5 w5 ho5 hg5 _ _;have kz5:=kz.grown hg5 sb (aS HO.out);have HB65:=aa (Box.grownC HB6.out hg5 (fun h=>by have:=HIN.out _ h.symm;omega));have HB75:=aa (Box.grownC HB7.out hg5 (fun h=>by have:=HIN.out _ h.symm;omega));have HO5:Hid (w5.ownsRow X1.heap.size 97 10 v5 (GL++LA).length ((GL++LA).flatMap (glC body))):=by
            rw [hf,(lR body GL _).1,(lR body GL _).2];exact aa ho5
           clear ho5 hg5 HN2;obtain⟨o3,o4,rfl⟩:=az HO5.out;go_wp2_with fail
           go_meet;exact⟨o3,o4,rfl,HO5,HB65,HB75,kz5⟩
         case rest=>
          clear HO HB6 HB7 kz HB1 HB2 HB4 HC;obtain⟨o3,o4,rfl,HO,HB6,HB7,kz⟩:=hcut;generalize wc=V5 at*;have HB2:=aa (XB2.out.below kz);have HB4:=aa (XB4.out.below kz);obtain⟨TR,hTR⟩:∃TR,TR=dRt S ⟨y0,y1,y2⟩ d b t ⟨q0,q1,q2,q3,q4⟩:=⟨_,rfl⟩;rw [←hTR]at HOW HRT;clear hTR;have hga:(GL++LA).length≤81:=by rw [List.length_append];omega
          obtain⟨GA,hGA⟩:∃GA,GA=GL++LA:=⟨_,rfl⟩;rw [←hGA]at HOW HO hga⊢;clear hGA;have l0:=HB2.out.cell 0 _ rfl;have l4:=HB2.out.cell 4 _ rfl;have l5:=HB2.out.cell 5 _ rfl;have yc0:=HB4.out.cell 0 _ rfl;have yc1:=HB4.out.cell 1 _ rfl;have yc2:=HB4.out.cell 2 _ rfl;have zc1:=HB7.out.cell 1 _ rfl;have zc2:=HB7.out.cell 2 _ rfl;have mc3:=HB6.out.cell 3 _ rfl;have wy:IntKind.i64.wrap (60000+y0)=60000+y0:=gG _ (by omega) (by omega);have wz:IntKind.i64.wrap (60000+z0)=60000+z0:=gG _ (by omega) (by omega)
          have wt:IntKind.i64.wrap (t-1)=t-1:=by
           have h:=hft.out;by_cases h0:t=0
           ·rw [h0];decide
           ·exact gG _ (by omega) (by omega)
          have hc:(¬0<y2∨0<y2∧((d==60000+y0)=false∨(d==60000+y0)=true∧(¬1<t∨1<t∧((z1==y1)=false∨(z1==y1)=true∧(¬0<z2∨0<z2∧(q3==b)=false)))))∨(0<y2∧(d==60000+y0)=true∧1<t∧(z1==y1)=true∧0<z2∧(q3==b)=true):=by
           by_cases e1:0<y2 <;>by_cases e2:1<t <;>by_cases e3:0<z2 <;>cases (d==60000+y0) <;>cases (z1==y1) <;>cases (q3==b) <;>simp [e1,e2,e3]
          go_upto_region 29 with fail
          go_cut [225] (fun tv wx=>tv= .bool TR∧V5=wx)
          case first=>
           rcases hc with(h1 |⟨h1,h2 |⟨h2,h3 |⟨h3,h4 |⟨h4,h5 |⟨h5,h6⟩⟩⟩⟩⟩) |⟨h1,h2,h3,h4,h5,h6⟩
           ·have hT:Hid (TR=false):=aa (by rw [HRT.out];simp [h1]);clear HRT;go_wp2_with fail
            go_meet;exact⟨by rw [hT.out],rfl⟩
           ·have hT:Hid (TR=false):=aa (by rw [HRT.out];simp [h2]);clear HRT;go_wp2_with fail
            go_meet;exact⟨by rw [hT.out],rfl⟩
           ·have hT:Hid (TR=false):=aa (by rw [HRT.out];simp [h3]);clear HRT;go_wp2_with fail
            go_meet;exact⟨by rw [hT.out],rfl⟩
           ·have hT:Hid (TR=false):=aa (by rw [HRT.out];simp [h4]);clear HRT;go_wp2_with fail
            go_meet;exact⟨by rw [hT.out],rfl⟩
           ·have hT:Hid (TR=false):=aa (by rw [HRT.out];simp [h5]);clear HRT;go_wp2_with fail
            go_meet;exact⟨by rw [hT.out],rfl⟩
           ·have hT:Hid (TR=false):=aa (by rw [HRT.out];simp [h6]);clear HRT;go_wp2_with fail
            go_meet;exact⟨by rw [hT.out],rfl⟩
           ·have hT:Hid (TR=true):=aa (by rw [HRT.out];simp [h1,h2,h3,h4,h5,h6]);clear HRT;go_wp2_with fail
            go_meet;exact⟨by rw [hT.out],rfl⟩
          case rest=>
           obtain⟨rfl,rfl⟩:=hcut;clear hc HRT;go_upto_if 225 with fail;cases TR
           ·simp only [Bool.false_eq_true,if_false,List.append_nil]at HOW;have HN:=HOW.out _ _ HO.out;clear HOW HO;go_wp2_with fail
            go_roundw
            case rel=>exact⟨k+1,by omega,by go_num,HN,kz⟩
            case measure=>simp [intOf];omega
           ·simp only [if_true]at HOW;obtain⟨V6,hV6⟩:∃V6,V6=V5.alloc (.cells #[.int .i64 d,.int .i64 s,.int .i64 3,.int .i64 a,.int .i64 b,.int .i64 t,.int .i64 o,.string body] 28):=⟨_,rfl⟩;obtain⟨V7,hV7⟩:∃V7,V7=V6.setCell ⟨V5.heap.size,0,none⟩ (.int .i64 q2):=⟨_,rfl⟩;obtain⟨V8,hV8⟩:∃V8,V8=V7.setCell ⟨V5.heap.size,1,none⟩ (.int .i64 (60000+z0)):=⟨_,rfl⟩;obtain⟨V9,hV9⟩:∃V9,V9=V8.setCell ⟨V5.heap.size,5,none⟩ (.int .i64 (t-1)):=⟨_,rfl⟩;have k56:Below V5.heap.size V5 V6:=by rw [hV6];exact(Below.refl _ _).alloc zr _
            have k57:Below V5.heap.size V5 V7:=by rw [hV7];exact k56.setCell (p:=⟨V5.heap.size,0,none⟩) zr _
            have k58:Below V5.heap.size V5 V8:=by rw [hV8];exact k57.setCell (p:=⟨V5.heap.size,1,none⟩) zr _
            have k59:Below V5.heap.size V5 V9:=by rw [hV9];exact k58.setCell (p:=⟨V5.heap.size,5,none⟩) zr _
            have B6:Box V6 V5.heap.size [.int .i64 d,.int .i64 s,.int .i64 3,.int .i64 a,.int .i64 b,.int .i64 t,.int .i64 o,.string body]:=by rw [hV6];exact Box.new V5 [.int .i64 d,.int .i64 s,.int .i64 3,.int .i64 a,.int .i64 b,.int .i64 t,.int .i64 o,.string body] 28
            have B7:=B6.put 0 (.int .i64 q2);rw [←hV7]at B7;have B8:=B7.put 1 (.int .i64 (60000+z0));rw [←hV8]at B8;have g60:=B6.cell 0 _ rfl;have f60:=B6.2 0 (by simp);have g71:=B7.cell 1 _ rfl;have f71:=B7.2 1 (by simp);have g85:=B8.cell 5 _ rfl;have f85:=B8.2 5 (by simp);clear B6 B7 B8;have HB9:Hid (Box V9 V5.heap.size [.int .i64 q2,.int .i64 (60000+z0),.int .i64 3,.int .i64 a,.int .i64 b,.int .i64 (t-1),.int .i64 o,.string body]):=by rw [hV9,hV8,hV7,hV6];exact aa ((((Box.new V5 [.int .i64 d,.int .i64 s,.int .i64 3,.int .i64 a,.int .i64 b,.int .i64 t,.int .i64 o,.string body] 28).put 0 _).put 1 _).put 5 _)
            have m6:=(HB6.out.below k56).cell 2 _ rfl;have z7:=(HB7.out.below k57).cell 0 _ rfl;have l8:=(HB2.out.below k58).cell 5 _ rfl;have z9:=(HB7.out.below k59).cell 0 _ rfl;have q9:=(HB6.out.below k59).cell 0 _ rfl;replace HO:=zO HO k59;replace kz:=kz.trans (k59.mono kz.size);have HV6:=aa hV6.symm;have HV7:=aa hV7.symm;have HV8:=aa hV8.symm;have HV9:=aa hV9.symm;clear hV6 hV7 hV8 hV9 k56 k57 k58 k59;have HBL:=HB9;obtain⟨VA,hVA⟩:∃VA,VA=V9.alloc (.cells #[.int .i64 z0,.int .i64 q0,.int .i64 q2,.int .i64 (60000+z0),.int .i64 3,.int .i64 a,.int .i64 b,.int .i64 (t-1),.int .i64 o,.string body] 97):=⟨_,rfl⟩;have bVA:Below V9.heap.size V9 VA:=by rw [hVA];exact(Below.refl _ _).alloc zr _
            have HN3:Hid (Box VA V9.heap.size [.int .i64 z0,.int .i64 q0,.int .i64 q2,.int .i64 (60000+z0),.int .i64 3,.int .i64 a,.int .i64 b,.int .i64 (t-1),.int .i64 o,.string body]):=by rw [hVA];exact aa (Box.new V9 [.int .i64 z0,.int .i64 q0,.int .i64 q2,.int .i64 (60000+z0),.int .i64 3,.int .i64 a,.int .i64 b,.int .i64 (t-1),.int .i64 o,.string body] 97)
            replace HB9:=aa (HB9.out.below bVA);replace HO:=zO HO bVA;replace kz:=kz.trans (bVA.mono kz.size);have HVA:Hid (V9.alloc (.cells #[.int .i64 z0,.int .i64 q0,.int .i64 q2,.int .i64 (60000+z0),.int .i64 3,.int .i64 a,.int .i64 b,.int .i64 (t-1),.int .i64 o,.string body] 97)=VA):=hVA.symm;clear hVA bVA;have sb:X1.heap.size≤VA.heap.size:=kz.size;go_wp2_with (first | rw [HVA.out] | rw [HV9.out] | rw [HV8.out] | rw [HV7.out] | rw [HV6.out] |(refine wpList_load_mid rfl 28 (.tmp 7) rfl W0.heap.size 0 rfl _ _ HB2.out.range Tryz.underlying28 rfl dR ?_) |(refine wpList_load_mid rfl 28 (.tmp 21) rfl V5.heap.size 0 rfl _ _ HBL.out.range Tryz.underlying28 rfl dR ?_) |(at_builtin;refine wpList_append_own_at _ rfl _ _ 94 rfl X1.heap.size 97 iG _ 10 88 Tryz.underlying94 hiG zG0 zG1 zG2 rfl (by decide) _ _ _ rfl (ag HO) ⟨V9.heap.size,0,none⟩ 1 1 [.int .i64 z0,.int .i64 q0,.int .i64 q2,.int .i64 (60000+z0),.int .i64 3,.int .i64 a,.int .i64 b,.int .i64 (t-1),.int .i64 o,.string body] rfl rfl (fun j u hj=>by rw [rX];have:=HN3.out.range j u hj;rwa [Nat.zero_add]at this) (du rfl) (by unfold maxLen;omega) (by omega) sb ?_))
            intro v5 w5 ho5 hg5 _ _;have kz5:=kz.grown hg5 sb (aS HO.out);have HN:=HOW.out v5 w5 (by rw [(lR body GA _).1,(lR body GA _).2];exact ho5);clear HOW HO ho5 hg5;go_wp2_with fail
            go_roundw
            case rel=>exact⟨k+1,by omega,by go_num,HN,kz5⟩
            case measure=>simp [intOf];omega
      ·obtain rfl:k=P.length:=(by omega);rw [List.take_length]at HO;have HN:Hid (wr.ownsRow w.heap.size 97 10 (.slice o1 (P.flatMap D1).length o2) DL.length (DL.flatMap (glC body))):=by rw [HDD.out];exact aa (aA HO.out kb.size)
       rw [List.take_length];clear HO;go_wp2_with fail
       go_ret;exact⟨_,rfl,HN.out,kb.trans (kz.mono kb.size)⟩
   ·have hk2:(kd != 3)=true:=(by simpa [bne] using hk3);rw [if_neg (fun h=>hk3 h.1)]at HDL;clear HSO HAL HYA;go_wp2_with fail
    go_ret;exact⟨_,rfl,by rw [HDL.out];exact World.ownsRow_nil _ _ _ _,kb⟩
end Go.Proofs.YtjiajblbpokfgaaGreat
