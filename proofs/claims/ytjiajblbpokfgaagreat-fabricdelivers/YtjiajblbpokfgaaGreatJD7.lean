/- Texts joined: Ds, Dst. -/
import Derived.Deep.Light
import Derived.Maps.AppendAt
import Derived.Deep.DeepCutAuto
import Derived.Test.YtjiajblbpokfgaaGreatJDL
namespace Go.Proofs.YtjiajblbpokfgaaGreat
open Go.RowKit
set_option linter.unusedVariables false
set_option maxRecDepth 100000
set_option maxHeartbeats 40000000
theorem oE {α:Type} {p q:α→Bool} (h:∀x,p x=true→q x=false):∀l:List α,(l.filter p++l.filter q).Perm (l.filter fun x=>p x|| q x)
 | []=>List.Perm.refl _
 | x::r=>by
  have ih:=oE h r;cases hp:p x with
  | true=>
   have hq:=h x hp;rw [List.filter_cons_of_pos hp,List.filter_cons_of_neg (by simp [hq]),List.filter_cons_of_pos (by simp [hp])];exact ih.cons x
  | false=>
   cases hq:q x with
   | true=>
    rw [List.filter_cons_of_neg (by simp [hp]),List.filter_cons_of_pos hq,List.filter_cons_of_pos (by simp [hp,hq])];exact List.perm_middle.trans (ih.cons x)
   | false=>
    rw [List.filter_cons_of_neg (by simp [hp]),List.filter_cons_of_neg (by simp [hq]),List.filter_cons_of_neg (by simp [hp,hq])];exact ih
theorem wm (gs:List Gl):∀N:Nat,((List.range N).flatMap fun(n:Nat)=>gs.filter fun g=>g.u==(n:Int)).Perm (gs.filter fun g=>decide (0≤g.u∧g.u<(N:Int)))
 | 0=>by
  rw [List.filter_eq_nil_iff.2 (fun g _=>by simp only [decide_eq_true_eq];omega)];exact List.Perm.refl _
 | N+1=>by
  rw [List.range_succ,List.flatMap_append,List.flatMap_cons,List.flatMap_nil,List.append_nil];refine((wm gs N).append_right _).trans ((oE (fun g h=>?_) gs).trans ?_)
  ·simp only [decide_eq_true_eq]at h;simp;omega
  ·refine List.Perm.of_eq (List.filter_congr fun g _=>?_);rw [Bool.eq_iff_iff];simp only [Bool.or_eq_true,decide_eq_true_eq,beq_iff_eq];omega
theorem oR (gs:List Gl):∀N:Nat,(∀x∈((List.range N).flatMap fun(n:Nat)=>(gs.filter fun g=>g.u==(n:Int)).map goA),x.n<(N:Int))∧eI ((List.range N).flatMap fun(n:Nat)=>(gs.filter fun g=>g.u==(n:Int)).map goA)
 | 0=>⟨fun x hx=>(by cases hx),List.Pairwise.nil⟩
 | N+1=>by
  obtain⟨h1,h2⟩:=oR gs N;rw [List.range_succ,List.flatMap_append,List.flatMap_cons,List.flatMap_nil,List.append_nil];have h3:∀x∈(gs.filter fun g=>g.u==(N:Int)).map goA,x.n=(N:Int):=fun x hx=>by
   obtain⟨g,hg,rfl⟩:=List.mem_map.1 hx;have h:=(List.mem_filter.1 hg).2;show g.u=(N:Int);simpa using h
  refine⟨fun x hx=>?_,?_⟩
  ·rcases List.mem_append.1 hx with hx | hx
   ·have:=h1 x hx;omega
   ·have:=h3 x hx;omega
  ·unfold eI;rw [List.pairwise_append];refine⟨h2,?_,fun x hx y hy=>by have:=h1 x hx;have:=h3 y hy;omega⟩;refine List.Pairwise.imp_of_mem (R:=fun _ _=>True) (fun{x y} hx hy _=>?_) (List.pairwise_of_forall fun _ _=>trivial);have:=h3 x hx;have:=h3 y hy;omega
def sdB (C:Nat→Cf) (ch n:Nat) (g:Gl):Bool:=g.u==(n:Int)&&dCm (C (pof (C ch).P n).c.toNat).P (C (pof (C ch).P n).c.toNat).A (pof (C ch).P n).c g
def eE (C:Nat→Cf) (ch N:Nat) (gs:List Gl):List Ar:=(List.range N).flatMap fun(n:Nat)=>(gs.filter (sdB C ch n)).map goA
section
variable {K:Nat→List Fl} {C:Nat→Cf}
theorem uQ {ch:Nat} {gs:List Gl} (h:∀g∈gs,(pof (C ch).P g.u).c=g.c) (N:Nat):eE C ch N gs=(List.range N).flatMap fun(n:Nat)=>((gs.filter (cmB C)).filter fun g=>g.u==(n:Int)).map goA:=by
 unfold eE;congr 1;funext n;rw [List.filter_filter];congr 1;refine List.filter_congr fun g hg=>?_;unfold sdB cmB;by_cases e:g.u=(n:Int)
 ·have hc:=h g hg;rw [e]at hc;rw [hc]
 ·have:(g.u==(n:Int))=false:=(by simpa using e);rw [this];simp
theorem vR {ch:Nat} {gs:List Gl} (h:∀g∈gs,(pof (C ch).P g.u).c=g.c∧1≤g.u∧g.u≤999):(eE C ch 1000 gs).Perm ((gs.filter (cmB C)).map goA)∧eI (eE C ch 1000 gs):=by
 rw [uQ (fun g hg=>(h g hg).1)];refine⟨?_,(oR _ 1000).2⟩;rw [←List.map_flatMap];refine((wm (gs.filter (cmB C)) 1000).map goA).trans (List.Perm.of_eq ?_);congr 1;rw [List.filter_eq_self];intro g hg;have:=(h g (List.mem_filter.1 hg).1).2;simp only [decide_eq_true_eq];omega
def pG (P:List Pr) (id d s k a b t o:Int) (m:Nat):Int:=if P.any (fun q=>q.i==id)=true∧¬(pof P id).c<0 then aQ d s k a b t o m else 6
def qK (C:Nat→Cf) (P:List Pr) (id d s k a b t o:Int) (m:Nat):List Ar:=
 if pG P id d s k a b t o m=0 then eE C (pof P id).c.toNat 1000 (dj (C (pof P id).c.toNat).S (C (pof P id).c.toNat).P (C (pof P id).c.toNat).A (pof P id).c id d s k a b t o)else []
theorem AZ (hK:LR K C) {S:List Sw} {P:List Pr} {A:List Ac} (hm:may S P A=true) (id d s k a b t o:Int) (m:Nat):
  fT K P id d s k a b t o m=pG P id d s k a b t o m∧∀l,l.Perm (fW K P id d s k a b t o m)→eI l→l=qK C P id d s k a b t o m:=by
 obtain⟨hS,hP,hA⟩:=aR hm;unfold qK pG;by_cases h:P.any (fun q=>q.i==id)=true∧¬(pof P id).c<0
 ·rw [if_pos h];obtain⟨hp,hi⟩:=jf h.1;have hc:=h.2;generalize pof P id=p at*;subst hi;have hpp:=(bI hS hP).2 p hp;by_cases hf:aQ d s k a b t o m=0
  ·rw [hf];obtain⟨e1,e2⟩:=An hK hm hp (by omega) hf;refine⟨e1,fun l hl hb=>?_⟩;rw [if_pos rfl];have hm1:=hK.may (i:=p.c.toNat) (by omega);have hcc:((p.c.toNat:Nat):Int)=p.c:=(by omega);have hg:∀g∈dj (C p.c.toNat).S (C p.c.toNat).P (C p.c.toNat).A p.c p.i d s k a b t o,(pof (C p.c.toNat).P g.u).c=g.c∧1≤g.u∧g.u≤999:=fun g hg=>by
    rw [kL hm1]at hg;exact rz hm1 g hg
   obtain⟨g1,g2⟩:=vR hg;rw [←e2]at g1;exact rq (kK hK.lrn hm p.i d s k a b t o m).1.1 hl g1 hb g2
  ·have hpk:pkE d s k a b t o m p.i 0 0=aQ d s k a b t o m:=by unfold pkE;rw [if_neg hf]
   obtain⟨h0,he⟩:=oy hP hp (by omega);have hE:fT K P p.i d s k a b t o m=aQ d s k a b t o m:=by
    unfold fT;rw [if_neg (by omega),hpk,if_neg hf]
   refine⟨hE,fun l hl _=>?_⟩;rw [if_neg hf];unfold fW at hl;rw [hE,if_neg hf]at hl;exact List.perm_nil.1 hl
 ·rw [if_neg h];have hx:idx (cv id) P<0:=by
   refine xW (P:=P) (p:=⟨id,0,0,0,0⟩) fun q hq e=>?_;have e:q.i=id:=e;have hpp:=(bI hS hP).2 q hq;have h1:=mD hq;have h2:=mO hP hq;rw [e]at h1 h2;rw [h1,h2]at h;simp only [true_and]at h;omega
  have hE:fT K P id d s k a b t o m=6:=by unfold fT;rw [if_pos hx]
  refine⟨hE,fun l hl _=>?_⟩;rw [if_neg (by decide)];unfold fW at hl;rw [hE,if_neg (by decide)]at hl;exact List.perm_nil.1 hl
theorem pf {S:List Sw} {P:List Pr} {A:List Ac} (hm:may S P A=true):LR (KD S P A 6) (fun _=>⟨S,P,A⟩):=fun i hi=>.inr ⟨hm,by unfold KD;rw [if_pos hi]⟩
theorem zs {S:List Sw} {P:List Pr} {A:List Ac} (id d s k a b t o:Int) (m:Nat):yR S P A id d s k a b t o m=(if may S P A=true then pG P id d s k a b t o m else 8)∧∀l,l.Perm (te S P A id d s k a b t o m)→eI l→l=if may S P A=true then qK (fun _=>⟨S,P,A⟩) P id d s k a b t o m else []:=by
 unfold yR te;by_cases hm:may S P A=true
 ·rw [if_pos hm,if_pos hm,if_pos hm,if_pos hm];exact AZ (pf hm) hm id d s k a b t o m
 ·rw [if_neg hm,if_neg hm,if_neg hm,if_neg hm];exact⟨rfl,fun l hl _=>List.perm_nil.1 hl⟩
end
structure Dt where
 c:Cf
 k:Nat→Cf
theorem Af:(Tryz.prog.info? 58).map (fun i=>(i.zero,i.size,i.bytes))=some (some (.agg #[.int .i64 0,.int .i64 0,.int .i64 0,.int .i64 0,.int .i64 0,.int .i64 0,.int .i64 0,.int .i64 0,.string ByteArray.empty]),9,80):=by kernel_rfl
def KC (w:World) (kv:Value) (C:Nat→Cf):Prop:=∃g off cap,kv= .slice (some ⟨g,off,none⟩) 6 cap∧6≤cap∧∀i,i<6→∃s1 s2 p1 p2 a1 a2,w.rangeAt g (off+i*3) [.slice s1 (C i).S.length s2,.slice p1 (C i).P.length p2,.slice a1 (C i).A.length a2]∧CfAt w (.slice s1 (C i).S.length s2) (.slice p1 (C i).P.length p2) (.slice a1 (C i).A.length a2) (C i).S (C i).P (C i).A
theorem KC.below {w w':World} {kv:Value} {C:Nat→Cf} (h:KC w kv C) (hb:Below w.heap.size w w'):KC w' kv C:=by
 obtain⟨g,off,cap,e,hc,hx⟩:=h;refine⟨g,off,cap,e,hc,fun i hi=>?_⟩;obtain⟨s1,s2,p1,p2,a1,a2,h1,h2⟩:=hx i hi;exact⟨s1,s2,p1,p2,a1,a2,bQ h1 hb zr,h2.below hb zr⟩
theorem mY (C:Nat→Cf) (ch n:Nat) (gs:List Gl):eE C ch (n+1) gs=eE C ch n gs++(gs.filter (sdB C ch n)).map goA:=by
 unfold eE;rw [List.range_succ,List.flatMap_append];simp
theorem qU (C:Nat→Cf) (ch:Nat) (gs:List Gl):∀n,(eE C ch n gs).length≤n*gs.length
 | 0=>by simp [eE]
 | n+1=>by
  have h:=qU C ch gs n;rw [mY,List.length_append,List.length_map,Nat.add_mul];have:=List.length_filter_le (sdB C ch n) gs;omega
theorem sx {S:List Sw} {P:List Pr} {A:List Ac} (h:P.length≤40) (ch id d s k a b t o:Int):(dj S P A ch id d s k a b t o).length≤80:=by
 unfold dj;split
 ·split
  ·unfold sy;split
   ·simp
   ·split <;>simp
  ·split
   ·have:=mZ (S:=S) (Y:=sof S (pof P id).s) (id:=id) (d:=d) (s:=s) (a:=a) (b:=b) (t:=t) (o:=o) P;unfold xH;omega
   ·simp
 ·simp
theorem tZ (body:ByteArray) (L:List Ar) (g:Gl):(L++ [goA g]).length=L.length+1∧AR body (L++ [goA g])=AR body L++arC body (goA g):=by
 unfold AR;simp
theorem tg (kv:Value) (C:Nat→Cf) (ch:Nat) (id d s kd a b t o:Int) (body:ByteArray) (w:World) (hK:KC w kv C) (hch:ch<6) (hm:∀i,i<6→may (C i).S (C i).P (C i).A=true) (hid:0≤id∧id≤65535) (hf:aQ d s kd a b t o body.size=0):
  Calls Tryz.prog 16 #[kv,.int .i64 (ch:Int),.int .i64 id,fr d s kd a b t o body] w fun e w'=>∃u,e= .returned u∧w'.ownsRow w.heap.size 58 9 u (eE C ch 1000 (dj (C ch).S (C ch).P (C ch).A ch id d s kd a b t o)).length (AR body (eE C ch 1000 (dj (C ch).S (C ch).P (C ch).A ch id d s kd a b t o)))∧Below w.heap.size w w':=by
 obtain⟨iR,hiR,zR0,zR1,zR2⟩:=info_parts Af;have HK:=aa hK;obtain⟨g0,off0,cap0,rfl,hcap0, -⟩:=hK;have hmc:=hm ch hch;obtain⟨n1,n2,n3⟩:=iN hmc;have HLE:=aa (fun sv pv av W hC=>vD sv pv av (C ch).S (C ch).P (C ch).A ch id d s kd a b t o body W hC hmc hf);have HGS:Hid (∀g∈dj (C ch).S (C ch).P (C ch).A ch id d s kd a b t o,uZ body.size g∧(pof (C ch).P g.u).c=g.c):=aa (fun g hg=>by
  rw [kL hmc]at hg;exact⟨sq hmc ⟨by omega,by omega⟩ (by rw [er];exact hid) hf g hg,(rz hmc g hg).1⟩)
 have HFW:=aa (sx (S:=(C ch).S) (A:=(C ch).A) (show(C ch).P.length≤40 by omega) ch id d s kd a b t o);have HPO:=aa (fun sv pv av (n:Nat) W hC=>iW sv pv av (C ch).S (C ch).P (C ch).A (n:Int) W hC (by omega));have HCO:=aa (fun(i:Nat) (hi:i<6) sv pv av gn gu f0 f1 f2 f3 f4 f5 f6 W hC h3 h4=>uU sv pv av (C i).S (C i).P (C i).A i gn gu f0 f1 f2 f3 f4 f5 f6 body W hC (hm i hi) h3 h4);clear hm hmc hf hid;generalize dj (C ch).S (C ch).P (C ch).A ch id d s kd a b t o=GS at*;have kb:=Below.refl w.heap.size w;obtain⟨W0,hW0⟩:∃W0,W0=w.alloc (.cells #[.int .i64 d,.int .i64 s,.int .i64 kd,.int .i64 a,.int .i64 b,.int .i64 t,.int .i64 o,.string body] 28):=⟨_,rfl⟩;have bW0:Below w.heap.size w W0:=by rw [hW0];exact(Below.refl _ _).alloc zr _
 have HB2:Hid (Box W0 w.heap.size [.int .i64 d,.int .i64 s,.int .i64 kd,.int .i64 a,.int .i64 b,.int .i64 t,.int .i64 o,.string body]):=by rw [hW0];exact aa (Box.new w [.int .i64 d,.int .i64 s,.int .i64 kd,.int .i64 a,.int .i64 b,.int .i64 t,.int .i64 o,.string body] 28)
 replace HK:=aa (HK.out.below bW0);replace kb:=kb.trans (bW0.mono kb.size);have HW0:Hid (w.alloc (.cells #[.int .i64 d,.int .i64 s,.int .i64 kd,.int .i64 a,.int .i64 b,.int .i64 t,.int .i64 o,.string body] 28)=W0):=hW0.symm;clear hW0 bW0;obtain⟨gk,ofk,ck,ek, -,hxk⟩:=HK.out;simp only [Value.slice.injEq,Option.some.injEq,Addr.mk.injEq,true_and,and_true]at ek;obtain⟨⟨rfl,rfl⟩,rfl⟩:=ek;obtain⟨k1,k2,k3,k4,k5,k6,hk1,hk2⟩:=hxk ch hch;clear hxk;have HR1:=aa hk1;have HC1:=aa hk2;clear hk1 hk2;have j0:(0:Int)≤(ch:Int):=by omega
 have j1:(ch:Int)<6:=by omega
 go_enter Tryz.func16,Tryz.ntmps16;go_upto_region 1 with(rw [HW0.out])
 clear HW0;have hD:Below W0.heap.size W0 W0.drew:=(Below.refl _ _).drew;replace HR1:=aa (bQ HR1.out hD zr);replace HB2:=aa (HB2.out.below hD);replace HK:=aa (HK.out.below hD);replace HC1:=aa (HC1.out.below hD zr);replace kb:=kb.trans (hD.mono kb.size);clear hD;refine wp_region_held_drew (S:=(fun w'=>w'.rangeAt w.heap.size 0 [.int .i64 d,.int .i64 s,.int .i64 kd,.int .i64 a,.int .i64 b,.int .i64 t,.int .i64 o,.string body]∧w'.rangeAt g0 (off0+ch*3) [.slice k1 (C ch).S.length k2,.slice k3 (C ch).P.length k4,.slice k5 (C ch).A.length k6])) (by kernel_rfl) ⟨HB2.out.range,HR1.out⟩ (fun hHeld=>?_);generalize W0.drew=V1 at*;refine sqA [(0,15),(1,16),(2,17)] ?_;(iterate 3 (refine sqN rfl (by kernel_rfl) (fun _ _ _ h=>h) rfl ‹_› (by intro w h;go_simp <;>with_reducible rfl) ?_;simp only [nz]));refine sqZ ?_;refine wpAnyH_take (i:=3) (oi:=⟨some 18,_,_,_,_,_⟩) (v:=.agg #[.slice k1 (C ch).S.length k2,.slice k3 (C ch).P.length k4,.slice k5 (C ch).A.length k6]) rfl (by kernel_rfl) (by kernel_rfl) (by kernel_rfl) (fun _ _ _ h=>h) (yieldsIf_load_mid (by rfl) 26 (.tmp 17) rfl g0 (off0+ch*3) rfl [.slice k1 (C ch).S.length k2,.slice k3 (C ch).P.length k4,.slice k5 (C ch).A.length k6] _ (fun w h=>h.2) Tryz.underlying26 rfl dx) (by assumption) ?_;(try simp only [nz]);refine sqA [(4,19),(5,20)] ?_;(iterate 2 (refine sqN rfl (by kernel_rfl) (fun _ _ _ h=>h) rfl ‹_› (by intro w h;go_simp <;>with_reducible rfl) ?_;simp only [nz]));refine sqZ ?_;refine wpAnyH_take (i:=6) (oi:=⟨some 21,_,_,_,_,_⟩) (v:=.agg #[.int .i64 d,.int .i64 s,.int .i64 kd,.int .i64 a,.int .i64 b,.int .i64 t,.int .i64 o,.string body]) rfl (by kernel_rfl) (by kernel_rfl) (by kernel_rfl) (fun _ _ _ h=>h) (yieldsIf_load_mid (by rfl) 28 (.tmp 7) rfl w.heap.size 0 rfl [.int .i64 d,.int .i64 s,.int .i64 kd,.int .i64 a,.int .i64 b,.int .i64 t,.int .i64 o,.string body] _ (fun w h=>h.1) Tryz.underlying28 rfl dR) (by assumption) ?_;(try simp only [nz]);refine rsq 7 22 (by kernel_rfl) rfl (fun K hK=>?_);go_simp;clear hHeld;refine(HLE.out _ _ _ _ HC1.out).mono ?_;rintro e X1 ⟨u,rfl,ho,hbX1⟩;have HG:=aa ho;obtain⟨v1,v2,rfl⟩:=az ho;clear ho HLE;replace HR1:=aa (bQ HR1.out hbX1 zr);replace HB2:=aa (HB2.out.below hbX1);replace HK:=aa (HK.out.below hbX1);replace HC1:=aa (HC1.out.below hbX1 zr);replace kb:=kb.trans (hbX1.mono kb.size);clear hbX1;refine hK.out _ _ ⟨HB2.out.range,HR1.out⟩ (fun hHeld=>?_);clear hK K;(try simp only [nz]);refine tq 8 9 rfl (by kernel_rfl) (fun _ _ _ h=>h) rfl ‹_› (by intro w h;go_simp <;>with_reducible rfl) ?_;simp only [nz];refine wpAnyH_done (by kernel_rfl) ?_ _;clear hHeld;have HG2:Hid (RowAt (glC body) 10 X1 (.slice v1 GS.length v2) GS):=aa (RowAt.of_own (C:=glC body) (sz:=10) (fun _=>rfl) (by decide) HG.out)
 clear HG;obtain⟨NG,hNG⟩:∃n,n=GS.length:=⟨_,rfl⟩;have hng:GS.length≤80:=HFW.out;go_wp2_with fail
 go_loopw [10,11] (fun u i wr=>∃n:Nat,n≤1000∧i= .int .i64 n∧Hid (wr.ownsRow X1.heap.size 58 9 u (eE C ch n GS).length (AR body (eE C ch n GS)))∧Below X1.heap.size X1 wr) (fun _ i _=>1000-(intOf i).toNat)
 case atStart=>exact⟨0,by omega,rfl,aa (World.ownsRow_nil X1 X1.heap.size 58 9),Below.refl _ _⟩
 case round=>
  obtain⟨n,hn,rfl,HO,kz⟩:=hrel;obtain⟨o1,o2,rfl⟩:=az HO.out;by_cases hlt:n<1000
  ·have hle:(n:Int)≤999:=(by omega);have HN9:=aa (mY C ch n GS);have hsf:=qU C ch GS n;have hsf2:(eE C ch n GS).length≤80000:=by have:n*GS.length≤1000*80:=Nat.mul_le_mul (by omega) hng;omega
   clear hsf;obtain⟨LS,hLS⟩:∃LS,LS=eE C ch n GS:=⟨_,rfl⟩;rw [←hLS]at HO HN9 hsf2⊢;clear hLS;go_wp2_with fail
   go_loopw [10,12] (fun u i wi=>∃j:Nat,j≤GS.length∧i= .int .i64 j∧Hid (wi.ownsRow X1.heap.size 58 9 u (LS++((GS.take j).filter (sdB C ch n)).map goA).length (AR body (LS++((GS.take j).filter (sdB C ch n)).map goA)))∧Below X1.heap.size X1 wi) (fun _ i _=>GS.length-(intOf i).toNat)
   case atStart=>exact⟨0,by omega,rfl,by simpa using HO,kz⟩
   case round=>
    clear HO kz;obtain⟨j,hj,rfl,HO,kz⟩:=hrel;obtain⟨o1,o2,rfl⟩:=az HO.out
    rename World=>wi
    by_cases hjl:j<GS.length
    ·have HIN:=aa (fun g h=>dD HO.out (g:=g) h);obtain⟨bb,off,cap,e1,hcap,hR⟩:=dF (⟨0,0,0,[]⟩:Gl) (RowAt.below HG2.out kz zr) hjl;simp only [Value.slice.injEq,true_and]at e1;obtain⟨rfl,rfl⟩:=e1;have hmm:GS.getD j ⟨0,0,0,[]⟩∈GS:=fL hjl;obtain⟨hgo,hgc⟩:=HGS.out _ hmm;have HFN:=aa (dL (sdB C ch n) (⟨0,0,0,[]⟩:Gl) hjl);have hfl:((GS.take j).filter (sdB C ch n)).length≤80:=Nat.le_trans (List.length_filter_le _ _) (by rw [List.length_take];omega);have R0:=aa hR;clear hR hmm;generalize GS.getD j ⟨0,0,0,[]⟩=g at*;obtain⟨gn,gu,gc,gf⟩:=g;obtain⟨f0,f1,f2,f3,f4,f5,f6,ef,hff, -, -,hc0,hc1⟩:=hgo;simp only at ef hc0 hc1 hgc;subst ef;obtain⟨c9,rfl⟩:=Int.eq_ofNat_of_zero_le hc0;have hfa:=(dI hff).2.1;have HXC:Hid (glC body ⟨gn,gu,(c9:Int),[f0,f1,f2,f3,f4,f5,f6]⟩= [.int .i64 gn,.int .i64 gu,.int .i64 f0,.int .i64 f1,.int .i64 f2,.int .i64 f3,.int .i64 f4,.int .i64 f5,.int .i64 f6,.string body]):=rfl;rw [HXC.out]at R0;clear HXC;have u1c:=R0.out 1 _ rfl;have r0:(0:Int)≤(j:Int):=(by omega);have r1:(j:Int)<(GS.length:Int):=(by omega);obtain⟨LF,hLF⟩:∃LF,LF=LS++((GS.take j).filter (sdB C ch n)).map goA:=⟨_,rfl⟩;have hll:LF.length≤80080:=by rw [hLF,List.length_append,List.length_map];omega
     have HNX:Hid (∀(v5:Value) (W:World),W.ownsRow X1.heap.size 58 9 v5 (LF++(if sdB C ch n ⟨gn,gu,(c9:Int),[f0,f1,f2,f3,f4,f5,f6]⟩=true then [goA ⟨gn,gu,(c9:Int),[f0,f1,f2,f3,f4,f5,f6]⟩]else [])).length (AR body (LF++(if sdB C ch n ⟨gn,gu,(c9:Int),[f0,f1,f2,f3,f4,f5,f6]⟩=true then [goA ⟨gn,gu,(c9:Int),[f0,f1,f2,f3,f4,f5,f6]⟩]else [])))→Hid (W.ownsRow X1.heap.size 58 9 v5 (LS++((GS.take (j+1)).filter (sdB C ch n)).map goA).length (AR body (LS++((GS.take (j+1)).filter (sdB C ch n)).map goA)))):=aa (fun v5 W h=>by
      rw [HFN.out,List.map_append, ←List.append_assoc, ←hLF];rw [show(List.map goA (if sdB C ch n ⟨gn,gu,(c9:Int),[f0,f1,f2,f3,f4,f5,f6]⟩=true then [(⟨gn,gu,(c9:Int),[f0,f1,f2,f3,f4,f5,f6]⟩:Gl)]else []))=(if sdB C ch n ⟨gn,gu,(c9:Int),[f0,f1,f2,f3,f4,f5,f6]⟩=true then [goA ⟨gn,gu,(c9:Int),[f0,f1,f2,f3,f4,f5,f6]⟩]else [])from by split <;>rfl];exact aa h)
     rw [←hLF]at HO⊢;clear hLF HFN;have HSD:Hid (sdB C ch n ⟨gn,gu,(c9:Int),[f0,f1,f2,f3,f4,f5,f6]⟩=(gu==(n:Int)&&dCm (C (pof (C ch).P n).c.toNat).P (C (pof (C ch).P n).c.toNat).A (pof (C ch).P n).c ⟨gn,gu,(c9:Int),[f0,f1,f2,f3,f4,f5,f6]⟩)):=rfl;by_cases hu:gu=(n:Int)
     ·subst hu;have hub:((n:Int) != (n:Int))=false:=(by simp);rw [hgc,Int.toNat_natCast]at HSD;obtain⟨xx,hxx⟩:∃xx,xx=pof (C ch).P (n:Int):=⟨_,rfl⟩;have HPN:=HPO.out (.slice k1 (C ch).S.length k2) (.slice k3 (C ch).P.length k4) (.slice k5 (C ch).A.length k6) n;rw [←hxx]at HPN hgc;clear hxx;obtain⟨x0,x1,x2,x3,x4⟩:=xx;simp only at HPN hgc;subst hgc;have HR1i:=aa (bQ HR1.out kz zr);have HC1i:=aa (HC1.out.below kz zr);go_wp2_with (refine wpList_load_mid rfl 26 (.tmp 43) rfl g0 (off0+ch*3) rfl _ _ HR1i.out Tryz.underlying26 rfl dx ?_)
      clear HR1i;have HR0:Hid (wi.rangeAt bb (off+j*10) [.int .i64 gn,.int .i64 (n:Int),.int .i64 f0,.int .i64 f1,.int .i64 f2,.int .i64 f3,.int .i64 f4,.int .i64 f5,.int .i64 f6,.string body]):=R0;clear R0 u1c;refine(HPN _ HC1i.out).mono ?_;rintro e W1 ⟨rfl,hbW1⟩;clear HPN HC1i;replace HR0:=aa (bQ HR0.out hbW1 zr);replace HO:=zO HO hbW1;replace kz:=kz.trans (hbW1.mono kz.size);clear hbW1;obtain⟨W2,hW2⟩:∃W2,W2=W1.alloc (.cells #[.int .i64 x0,.int .i64 x1,.int .i64 x2,.int .i64 x3,.int .i64 (c9:Int)] 51):=⟨_,rfl⟩;have bW2:Below W1.heap.size W1 W2:=by rw [hW2];exact(Below.refl _ _).alloc zr _
      have HB5:Hid (Box W2 W1.heap.size [.int .i64 x0,.int .i64 x1,.int .i64 x2,.int .i64 x3,.int .i64 (c9:Int)]):=by rw [hW2];exact aa (Box.new W1 [.int .i64 x0,.int .i64 x1,.int .i64 x2,.int .i64 x3,.int .i64 (c9:Int)] 51)
      replace HR0:=aa (bQ HR0.out bW2 zr);replace HO:=zO HO bW2;replace kz:=kz.trans (bW2.mono kz.size);have HW2:Hid (W1.alloc (.cells #[.int .i64 x0,.int .i64 x1,.int .i64 x2,.int .i64 x3,.int .i64 (c9:Int)] 51)=W2):=hW2.symm;clear hW2 bW2;have hc9:c9<6:=(by omega);obtain⟨gk,ofk,ck,ek, -,hxk⟩:=(HK.out.below kz);simp only [Value.slice.injEq,Option.some.injEq,Addr.mk.injEq,true_and,and_true]at ek;obtain⟨⟨rfl,rfl⟩,rfl⟩:=ek;obtain⟨m1,m2,m3,m4,m5,m6,hk1,hk2⟩:=hxk c9 hc9;clear hxk;have HRM:=aa hk1;have HCM:=aa hk2;clear hk1 hk2;have i0:(0:Int)≤(c9:Int):=(by omega);have i1:(c9:Int)<6:=(by omega);go_upto_region 11 with(rw [HW2.out])
      clear HW2;have hD:Below W2.heap.size W2 W2.drew:=(Below.refl _ _).drew;replace HR0:=aa (bQ HR0.out hD zr);replace HRM:=aa (bQ HRM.out hD zr);replace HB5:=aa (HB5.out.below hD);replace HO:=zO HO hD;replace HCM:=aa (HCM.out.below hD zr);replace kz:=kz.trans (hD.mono kz.size);clear hD;refine wp_region_held_drew (S:=(fun w'=>w'.cell? ⟨W1.heap.size,4,none⟩=some (.int .i64 (c9:Int))∧w'.rangeAt g0 (off0+c9*3) [.slice m1 (C c9).S.length m2,.slice m3 (C c9).P.length m4,.slice m5 (C c9).A.length m6]∧w'.rangeAt bb (off+j*10) [.int .i64 gn,.int .i64 (n:Int),.int .i64 f0,.int .i64 f1,.int .i64 f2,.int .i64 f3,.int .i64 f4,.int .i64 f5,.int .i64 f6,.string body])) (by kernel_rfl) ⟨HB5.out.cell 4 _ rfl,HRM.out,HR0.out⟩ (fun hHeld=>?_);generalize W2.drew=V1 at*;refine sqA [(0,49),(1,50),(2,51),(3,52)] ?_;(iterate 4 (refine sqN rfl (by kernel_rfl) (fun _ _ _ h=>h) rfl ‹_› (by intro w h;go_simp <;>with_reducible rfl) ?_;simp only [nz]));refine sqZ ?_;refine wpAnyH_take (i:=4) (oi:=⟨some 53,_,_,_,_,_⟩) (v:=.agg #[.slice m1 (C c9).S.length m2,.slice m3 (C c9).P.length m4,.slice m5 (C c9).A.length m6]) rfl (by kernel_rfl) (by kernel_rfl) (by kernel_rfl) (fun _ _ _ h=>h) (yieldsIf_load_mid (by rfl) 26 (.tmp 52) rfl g0 (off0+c9*3) rfl [.slice m1 (C c9).S.length m2,.slice m3 (C c9).P.length m4,.slice m5 (C c9).A.length m6] _ (fun w h=>h.2.1) Tryz.underlying26 rfl dx) (by assumption) ?_;(try simp only [nz]);refine sqA [(5,54),(6,55),(7,56),(8,57),(9,58)] ?_;(iterate 5 (refine sqN rfl (by kernel_rfl) (fun _ _ _ h=>h) rfl ‹_› (by intro w h;go_simp <;>with_reducible rfl) ?_;simp only [nz]));refine sqZ ?_;refine wpAnyH_take (i:=10) (oi:=⟨some 59,_,_,_,_,_⟩) (v:=.agg #[.int .i64 gn,.int .i64 (n:Int),.int .i64 f0,.int .i64 f1,.int .i64 f2,.int .i64 f3,.int .i64 f4,.int .i64 f5,.int .i64 f6,.string body]) rfl (by kernel_rfl) (by kernel_rfl) (by kernel_rfl) (fun _ _ _ h=>h) (yieldsIf_load_mid (by rfl) 97 (.tmp 58) rfl bb (off+j*10) rfl [.int .i64 gn,.int .i64 (n:Int),.int .i64 f0,.int .i64 f1,.int .i64 f2,.int .i64 f3,.int .i64 f4,.int .i64 f5,.int .i64 f6,.string body] _ (fun w h=>h.2.2) Tryz.underlying97 rfl A8) (by assumption) ?_;(try simp only [nz]);refine rsq 11 60 (by kernel_rfl) rfl (fun K hK=>?_);go_simp;clear hHeld;refine(HCO.out c9 hc9 _ _ _ gn (n:Int) f0 f1 f2 f3 f4 f5 f6 _ HCM.out hfa.2.2.1 hfa.2.2.2.1).mono ?_;rintro e X2 ⟨rfl,hbX2⟩;clear HCO;replace HR0:=aa (bQ HR0.out hbX2 zr);replace HRM:=aa (bQ HRM.out hbX2 zr);replace HB5:=aa (HB5.out.below hbX2);replace HO:=zO HO hbX2;replace HCM:=aa (HCM.out.below hbX2 zr);replace kz:=kz.trans (hbX2.mono kz.size);clear hbX2;refine hK.out _ _ ⟨HB5.out.cell 4 _ rfl,HRM.out,HR0.out⟩ (fun hHeld=>?_);clear hK K;(try simp only [nz])
      refine wpAnyH_done (by kernel_rfl) ?_ _;clear hHeld;have HDC:Hid (sdB C ch n ⟨gn,(n:Int),(c9:Int),[f0,f1,f2,f3,f4,f5,f6]⟩=(((C c9).P.any (fun q=>q.i==(n:Int))&&((pof (C c9).P (n:Int)).c==(c9:Int)&&(pof (C c9).P (n:Int)).s==gn))&&(f2==2|| bN (C c9).A gn false f3 f4 f6))):=by rw [HSD.out,show((n:Int)==(n:Int))=true from by simp];exact aa rfl
      clear HSD HB5 HCM HRM;generalize (((C c9).P.any (fun q=>q.i==(n:Int))&&((pof (C c9).P (n:Int)).c==(c9:Int)&&(pof (C c9).P (n:Int)).s==gn))&&(f2==2|| bN (C c9).A gn false f3 f4 f6))=R at*;cases R
      ·rw [HDC.out]at HNX;simp only [Bool.false_eq_true,if_false,List.append_nil]at HNX;have HN:=HNX.out _ _ HO.out;clear HNX HO HDC;go_wp2_with fail
       go_roundw
       case rel=>exact⟨j+1,by omega,by go_num,HN,kz⟩
       case measure=>simp [intOf];omega
      ·rw [HDC.out]at HNX;simp only [if_true]at HNX;rw [(tZ body LF _).1,(tZ body LF _).2]at HNX;have HR2:Hid (X2.rangeAt bb (off+j*10+2) [.int .i64 f0,.int .i64 f1,.int .i64 f2,.int .i64 f3,.int .i64 f4,.int .i64 f5,.int .i64 f6,.string body]):=aa (fun i v hi=>by
        have:=HR0.out (i+2) v (by match i,hi with | 0,h=>exact h | 1,h=>exact h | 2,h=>exact h | 3,h=>exact h | 4,h=>exact h | 5,h=>exact h | 6,h=>exact h | 7,h=>exact h)
        rwa [Nat.add_assoc,Nat.add_comm 2 i])
       obtain⟨W6,hW6⟩:∃W6,W6=X2.alloc (.cells #[.int .i64 (n:Int),.int .i64 f0,.int .i64 f1,.int .i64 f2,.int .i64 f3,.int .i64 f4,.int .i64 f5,.int .i64 f6,.string body] 58):=⟨_,rfl⟩;have bW6:Below X2.heap.size X2 W6:=by rw [hW6];exact(Below.refl _ _).alloc zr _
       have HN2:Hid (Box W6 X2.heap.size [.int .i64 (n:Int),.int .i64 f0,.int .i64 f1,.int .i64 f2,.int .i64 f3,.int .i64 f4,.int .i64 f5,.int .i64 f6,.string body]):=by rw [hW6];exact aa (Box.new X2 [.int .i64 (n:Int),.int .i64 f0,.int .i64 f1,.int .i64 f2,.int .i64 f3,.int .i64 f4,.int .i64 f5,.int .i64 f6,.string body] 58)
       replace HO:=zO HO bW6;replace kz:=kz.trans (bW6.mono kz.size);have HW6:Hid (X2.alloc (.cells #[.int .i64 (n:Int),.int .i64 f0,.int .i64 f1,.int .i64 f2,.int .i64 f3,.int .i64 f4,.int .i64 f5,.int .i64 f6,.string body] 58)=W6):=hW6.symm;clear hW6 bW6;have sb:X1.heap.size≤W6.heap.size:=kz.size;go_wp2_with (first | rw [HW6.out] |(refine wpList_load_mid rfl 28 (.tmp 66) rfl bb (off+j*10+2) rfl _ _ HR2.out Tryz.underlying28 rfl dR ?_) |(at_builtin;refine wpList_append_own_at _ rfl _ _ 29 rfl X1.heap.size 58 iR _ 9 80 Tryz.underlying29 hiR zR0 zR1 zR2 rfl (by decide) _ _ _ rfl (ag HO) ⟨X2.heap.size,0,none⟩ 1 1 [.int .i64 (n:Int),.int .i64 f0,.int .i64 f1,.int .i64 f2,.int .i64 f3,.int .i64 f4,.int .i64 f5,.int .i64 f6,.string body] rfl rfl (fun j u hj=>by rw [rX];have:=HN2.out.range j u hj;rwa [Nat.zero_add]at this) (du rfl) (by unfold maxLen;omega) (by omega) sb ?_))
       intro v5 w5 ho5 hg5 _ _;have kz5:=kz.grown hg5 sb (aS HO.out);have HN:=HNX.out v5 w5 ho5;clear HNX HO ho5 hg5 HDC;go_wp2_with fail
       go_roundw
       case rel=>exact⟨j+1,by omega,by go_num,HN,kz5⟩
       case measure=>simp [intOf];omega
     ·have hub:(gu != (n:Int))=true:=(by simpa using hu);have hf:sdB C ch n ⟨gn,gu,(c9:Int),[f0,f1,f2,f3,f4,f5,f6]⟩=false:=by rw [HSD.out,show(gu==(n:Int))=false from by simpa using hu];rfl
      rw [hf]at HNX;simp only [Bool.false_eq_true,if_false,List.append_nil]at HNX;have HN:=HNX.out _ _ HO.out;clear HNX HO HSD hf;go_wp2_with fail
      go_roundw
      case rel=>exact⟨j+1,by omega,by go_num,HN,kz⟩
      case measure=>simp [intOf];omega
    ·obtain rfl:j=GS.length:=(by omega);rw [List.take_length, ←HN9.out]at HO;have HN:=HO;rw [List.take_length, ←HN9.out];clear HO;go_wp2_with fail
     go_roundw
     case rel=>exact⟨n+1,by omega,by go_num,HN,kz⟩
     case measure=>simp [intOf];omega
  ·obtain rfl:n=1000:=(by omega);have HN:=aa (aA HO.out kb.size);clear HO;go_wp2_with fail
   go_ret;exact⟨_,rfl,HN.out,kb.trans (kz.mono kb.size)⟩
end Go.Proofs.YtjiajblbpokfgaaGreat

