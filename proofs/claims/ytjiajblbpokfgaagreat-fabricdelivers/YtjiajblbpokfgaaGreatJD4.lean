/- Texts joined: Pj, Qa, Qb, Qc, Qd, Oc, Qe, Qf, Qg. -/
import Derived.Shelf.SlSortCmp.NoneTotal
import Derived.Laws.EntriesVeiled
import Derived.Deep.QuietTactic
import Derived.BigQuiet
import Derived.Deep.RegionHeld3
import Derived.Test.YtjiajblbpokfgaaGreatJD3
namespace Go.Proofs.YtjiajblbpokfgaaGreat
open Go.RowKit
set_option linter.unusedVariables false
set_option maxRecDepth 100000
set_option maxHeartbeats 16000000
theorem in2 {α:Type} {p:α→Prop} {a b:α} (h1:p a) (h2:p b):∀y∈ [a,b],p y:=fun y hy=>by
 simp only [List.mem_cons,List.not_mem_nil,or_false]at hy;rcases hy with rfl | rfl
 ·exact h1
 ·exact h2
theorem in5 {α:Type} {p:α→Prop} {a b c d e:α} (h1:p a) (h2:p b) (h3:p c) (h4:p d) (h5:p e):∀y∈ [a,b,c,d,e],p y:=fun y hy=>by
 simp only [List.mem_cons,List.not_mem_nil,or_false]at hy;rcases hy with rfl | rfl | rfl | rfl | rfl
 ·exact h1
 ·exact h2
 ·exact h3
 ·exact h4
 ·exact h5
theorem gz {α β:Type} (f:α→List β) (d:α) {l:List α} {k:Nat} (h:k<l.length):(l.take (k+1)).flatMap f=(l.take k).flatMap f++f (l.getD k d):=by
 rw [List.take_succ_eq_append_getElem h,List.flatMap_append];simp [List.getD,List.getElem?_eq_getElem h]
theorem sI (l:List Pr):(l.flatMap ax).length=2*l.length:=by
 induction l with
 | nil=>rfl
 | cons x r ih=>simp [ax]at ih⊢;omega
theorem pq (S:List Sw) (P:List Pr) (A:List Ac) (s1 p1 a1:Option Addr) (s2 p2 a2:Nat) (x:Pr) (w:World) (hC:CfAt w (.slice s1 S.length s2) (.slice p1 P.length p2) (.slice a1 A.length a2) S P A) (hl:P.length≤1000):
  Calls Tryz.prog 77 #[.agg #[.slice s1 S.length s2,.slice p1 P.length p2,.slice a1 A.length a2],.agg #[.int .i64 x.i,.int .i64 x.s,.int .i64 x.m,.int .i64 x.p,.int .i64 x.c]] w fun e w'=>∃u,e= .returned u∧w'.ownsRow w.heap.size 115 3 u ((P.filter (cn x)).flatMap ax).length (D ((P.filter (cn x)).flatMap ax))∧Below w.heap.size w w':=by
 obtain⟨iD,hiD,zD0,zD1,zD2⟩:=info_parts ga;have HP:=aa hC.2.1;clear hC;have HO:Hid (cn x=fun y=>(y.s==x.s&& !(y.i==x.i))&&aw y):=rfl;obtain⟨Q,hQ⟩:∃Q,Q=P.filter (cn x):=⟨_,rfl⟩;have HQL:Q.length≤1000:=by rw [hQ];exact Nat.le_trans (List.length_filter_le _ _) hl
 rw [←hQ];have HQ:=aa hQ;clear hQ;go_enter Tryz.func77,Tryz.ntmps77;go_wp2_with fail
 obtain⟨W0,hW⟩:∃W0,W0=w.alloc (.cells #[.slice s1 S.length s2,.slice p1 P.length p2,.slice a1 A.length a2] 26):=⟨_,rfl⟩;rw [←hW];obtain⟨cb,hblk⟩:∃cb,cb=w.heap.size:=⟨_,rfl⟩;have k0:W0.cell? ⟨cb,0,none⟩=some (.slice s1 S.length s2):=zN2 hW hblk rfl;have k1:W0.cell? ⟨cb,1,none⟩=some (.slice p1 P.length p2):=zN2 hW hblk rfl;have k2:W0.cell? ⟨cb,2,none⟩=some (.slice a1 A.length a2):=zN2 hW hblk rfl;have hbN:Below w.heap.size w W0:=by rw [hW];exact ak _ _
 have hzW0:W0.heap.size=cb+1:=by rw [hW,hblk];simp
 have hcbl:w.heap.size≤cb:=by omega
 rw [←hblk];clear hW hblk;have HB:=hbN;clear hbN;obtain⟨W1,hW⟩:∃W1,W1=W0.alloc (.cells #[.int .i64 x.i,.int .i64 x.s,.int .i64 x.m,.int .i64 x.p,.int .i64 x.c] 51):=⟨_,rfl⟩;rw [←hW];obtain⟨pb,hblk⟩:∃pb,pb=cb+1:=⟨_,rfl⟩;have d0:W1.cell? ⟨pb,0,none⟩=some (.int .i64 x.i):=zN2 hW (hblk.trans hzW0.symm) rfl;have d1:W1.cell? ⟨pb,1,none⟩=some (.int .i64 x.s):=zN2 hW (hblk.trans hzW0.symm) rfl;have d2:W1.cell? ⟨pb,2,none⟩=some (.int .i64 x.m):=zN2 hW (hblk.trans hzW0.symm) rfl;have d3:W1.cell? ⟨pb,3,none⟩=some (.int .i64 x.p):=zN2 hW (hblk.trans hzW0.symm) rfl;have d4:W1.cell? ⟨pb,4,none⟩=some (.int .i64 x.c):=zN2 hW (hblk.trans hzW0.symm) rfl;have hbN:Below W0.heap.size W0 W1:=by rw [hW];exact ak _ _
 have hzW1:W1.heap.size=pb+1:=by rw [hW,hblk];simp [hzW0]
 have hpbl:cb<pb:=by omega
 rw [←hblk];clear hW hblk hzW0;replace⟨k0,k1,k2⟩:=ep k0 k1 k2 hbN;replace HB:=zT HB hbN;clear hbN hzW1;have hs0_3:=HB.size;refine wp_region_held_drew (S:=(fun w'=>w'.cell? ⟨cb,0,none⟩=some (.slice s1 S.length s2)∧w'.cell? ⟨cb,1,none⟩=some (.slice p1 P.length p2)∧w'.cell? ⟨cb,2,none⟩=some (.slice a1 A.length a2)∧w'.cell? ⟨pb,0,none⟩=some (.int .i64 x.i)∧w'.cell? ⟨pb,1,none⟩=some (.int .i64 x.s)∧w'.cell? ⟨pb,2,none⟩=some (.int .i64 x.m)∧w'.cell? ⟨pb,3,none⟩=some (.int .i64 x.p)∧w'.cell? ⟨pb,4,none⟩=some (.int .i64 x.c))) (by kernel_rfl) ⟨k0,k1,k2,d0,d1,d2,d3,d4⟩ (fun hHeld=>?_);have HDW:Below W1.heap.size W1 W1.drew:=(Below.refl _ _).drew;have hs1:=HDW.size;replace⟨k0,k1,k2,d0,d1,d2,d3,d4⟩:=cR k0 k1 k2 d0 d1 d2 d3 d4 HDW;replace HB:=zT HB HDW;clear HDW;generalize W1.drew=V at*;refine sqA [(0,10),(1,11),(2,12),(6,16)] ?_;(iterate 4 (refine sqN rfl (by kernel_rfl) (fun _ _ _ h=>h) rfl ‹_› (by intro w h;go_simp <;>with_reducible rfl) ?_;simp only [nz]));refine sqZ ?_
 iterate 2
  all_goals
   first
    |(replace M3:=M3;refine wpAnyH_ready (rs:=[4]) (by kernel_rfl) (by simp) ?_;refine(AllReadyH.cons (o:=⟨some 14,_,_,_,_,_⟩) rfl (fun K hK4=>?_) AllReadyH.nil))
    |(refine wpAnyH_ready (rs:=[3]) (by kernel_rfl) (by simp) ?_;refine(AllReadyH.cons (o:=⟨some 13,_,_,_,_,_⟩) rfl (fun K hK3=>?_) AllReadyH.nil))
  all_goals
   first
    |(have hK:=hK3
      clear hK3;go_simp;clear hHeld;refine(mE _ _ _ _ _).mono ?_;rintro e V1061 ⟨bb,bc,rfl,hc1,hc2,hb1061⟩;have hs1062:=hb1061.size;have b0:=hc1;have b1:=hc2;clear hc1 hc2;have HBX:=hb1061;clear hb1061
      rename World=>V
      have M3:True:=trivial)
    |(have hK:=hK4
      clear hK4;go_simp;clear hHeld;refine(dg P (cn x) _ _ _ _ (RowAt.below HP.out HB zr) (by rw [HO.out];exact jv b0 b1 (pu d0 d1) (jg _) sB mP) mr hl).mono ?_;rintro e V1081 ⟨u,rfl,hor,hb1081⟩;have hs1082:=hb1081.size;obtain⟨o,c,rfl⟩:=az hor;have HR:=aa hor;clear hor;have HBX:=hb1081;clear hb1081
      rename World=>V
      have M4:True:=trivial;have T4:True:=trivial)
  all_goals
   first
    |(replace k0:=zC k0 HBX
      replace⟨k1,k2,d0,d1,d2,d3⟩:=em k1 k2 d0 d1 d2 d3 HBX;replace d4:=zC d4 HBX;(try replace b0:=zC b0 HBX);(try replace b1:=zC b1 HBX);(try replace HR:=zO HR HBX);replace HB:=zT HB HBX;clear HBX)
  all_goals
   first
    |(refine hK.out _ _ ⟨k0,k1,k2,d0,d1,d2,d3,d4⟩ (fun hHeld=>?_)
      clear hK K;(try simp only [nz]))
  all_goals
   first
    |(clear T4
      refine tq 5 15 rfl (by kernel_rfl) (fun _ _ _ h=>h) rfl ‹_› (by intro w h;go_simp <;>with_reducible rfl) ?_;(try simp only [nz]))
    | skip
 all_goals
  refine wpAnyH_done (by kernel_rfl) ?_ _;clear hHeld;rw [←HQ.out]at HR⊢;have HRB:Hid (Below w.heap.size w V):=aa HB;clear HB HP HO HQ k0 k1 k2 d0 d1 d2 d3 d4 b0 b1;go_wp2_with fail
  go_loopw [6,16] (fun v i wr=>∃k:Nat,k≤Q.length∧i= .int .i64 k∧Hid (wr.ownsRow V.heap.size 115 3 v ((Q.take k).flatMap ax).length (D ((Q.take k).flatMap ax)))∧Below V.heap.size V wr) (fun _ i _=>Q.length-(intOf i).toNat)
  case atStart=>exact⟨0,by omega,rfl,aa (World.ownsRow_nil _ _ _ _),Below.refl _ _⟩
  case round=>
   obtain⟨k,hk,rfl,HL,hbr⟩:=hrel;by_cases hlt:k<Q.length
   ·obtain⟨b,off,cap,e1,hcap, -,g0,g1,g2,g3,g4⟩:=eO (RowAt.below (RowAt.of_own et (by decide) HR.out) hbr zr) hlt;simp only [Value.slice.injEq,true_and]at e1;obtain⟨rfl,rfl⟩:=e1;have HN:=aa (gz ax pr0 hlt);have HTP:=aa (fun W=>jk (Q.getD k pr0).i (Q.getD k pr0).s (Q.getD k pr0).m (Q.getD k pr0).p (Q.getD k pr0).c W);have hlen:((Q.take k).flatMap ax).length≤2000:=by rw [sI,List.length_take];omega
    have HTD:Hid (ax (Q.getD k pr0)=ax ⟨(Q.getD k pr0).i,(Q.getD k pr0).s,(Q.getD k pr0).m,(Q.getD k pr0).p,(Q.getD k pr0).c⟩):=rfl;obtain⟨lo,lc,rfl⟩:=az HL.out;generalize hN0:((Q.take k).flatMap ax).length=N at*;have HN0:=aa hN0;clear hN0;generalize hXS:D ((Q.take k).flatMap ax)=XS at*;have HXS:=aa hXS;clear hXS;generalize (Q.getD k pr0).i=y0 at*;generalize (Q.getD k pr0).s=y1 at*;generalize (Q.getD k pr0).m=y2 at*;generalize (Q.getD k pr0).p=y3 at*;generalize (Q.getD k pr0).c=y4 at*;have q1:(0:Int)≤(k:Int):=(by omega);have q2:(k:Int)<(Q.length:Int):=(by omega);obtain⟨W9,hW9⟩:∃W9,W9=wr.alloc (.cells #[.int .i64 y0,.int .i64 y1,.int .i64 y2,.int .i64 y3,.int .i64 y4] 51):=⟨_,rfl⟩;have hbW:Below wr.heap.size wr W9:=by rw [hW9];exact ak _ _
    go_wp2_with fail
    rw [←hW9];clear hW9;refine(ag HTP _).mono ?_;rintro e w1 ⟨u,rfl,hod,hb1⟩;have hb01:=hbW.trans (hb1.mono hbW.size);have HL1:=aa (ar HL.out hb01);have HB1:Hid (Below V.heap.size V w1):=aa (hbr.trans (hb01.mono hbr.size));have hs1:=HB1.out.size;obtain⟨gd,cd,rfl, -, -⟩:=bu hod (by decide);have HOD:=aa (hod.cells rfl);have HONE:=aa (uE (ax ⟨y0,y1,y2,y3,y4⟩));clear hod hb1 hb01 hbW hbr HTP HL g0 g1 g2 g3 g4;go_wp2_with (at_builtin;refine wpList_append_own _ rfl _ _ 112 rfl V.heap.size 115 iD _ 3 24 Tryz.underlying112 hiD zD0 zD1 zD2 rfl (by decide) _ _ _ rfl (ag HL1) ⟨gd,0,none⟩ 2 cd (D (ax ⟨y0,y1,y2,y3,y4⟩)) rfl rfl (ag HOD) (ag HONE) ?a1 ?a2 ?a3 ?_)
    case a1=>unfold maxLen;omega
    case a2=>omega
    case a3=>exact hs1
    intro v3 w3 ho3 hg3 _;have hb3:Below V.heap.size V w3:=HB1.out.grown hg3 hs1 (aS HL1.out);have HE:Hid (w3.ownsRow V.heap.size 115 3 v3 ((Q.take (k+1)).flatMap ax).length (D ((Q.take (k+1)).flatMap ax))):=by
     refine aa ?_;rw [HN.out,List.length_append,BF,HN0.out,HXS.out,HTD.out];exact ho3
    clear ho3 hg3 HL1 HOD HN HTD;go_wp2_with fail
    go_roundw
    case rel=>exact⟨k+1,by omega,by go_num,HE,hb3⟩
    case measure=>simp [intOf];omega
   ·obtain rfl:k=Q.length:=(by omega);rw [List.take_length]at HL;obtain⟨lo,lc,rfl⟩:=az HL.out;have HE:=aa (aA HL.out HRB.out.size);have HB2:=aa (HRB.out.trans (hbr.mono HRB.out.size));clear HL;go_wp2_with fail
    go_ret;exact⟨_,rfl,HE.out,HB2.out⟩
theorem nF (S:List Sw) (P:List Pr) (A:List Ac) (s1 p1 a1:Option Addr) (s2 p2 a2:Nat) (x:Pr) (w:World) (hC:CfAt w (.slice s1 S.length s2) (.slice p1 P.length p2) (.slice a1 A.length a2) S P A) (hl:P.length≤1000):
  Calls Tryz.prog 42 #[.agg #[.slice s1 S.length s2,.slice p1 P.length p2,.slice a1 A.length a2],.agg #[.int .i64 x.i,.int .i64 x.s,.int .i64 x.m,.int .i64 x.p,.int .i64 x.c]] w fun e w'=>∃u,e= .returned u∧FR w' w.heap.size u (bT P x)∧Below w.heap.size w w':=by
 have HC:=aa hC;clear hC;go_enter Tryz.func42,Tryz.ntmps42;go_wp2_with fail
 obtain⟨W0,hW⟩:∃W0,W0=w.alloc (.cells #[.slice s1 S.length s2,.slice p1 P.length p2,.slice a1 A.length a2] 26):=⟨_,rfl⟩;rw [←hW];obtain⟨cb,hblk⟩:∃cb,cb=w.heap.size:=⟨_,rfl⟩;have k0:W0.cell? ⟨cb,0,none⟩=some (.slice s1 S.length s2):=zN2 hW hblk rfl;have k1:W0.cell? ⟨cb,1,none⟩=some (.slice p1 P.length p2):=zN2 hW hblk rfl;have k2:W0.cell? ⟨cb,2,none⟩=some (.slice a1 A.length a2):=zN2 hW hblk rfl;have hbN:Below w.heap.size w W0:=by rw [hW];exact ak _ _
 have hzW0:W0.heap.size=cb+1:=by rw [hW,hblk];simp
 have hcbl:w.heap.size≤cb:=by omega
 rw [←hblk];clear hW hblk;have HB:=hbN;clear hbN;obtain⟨W1,hW⟩:∃W1,W1=W0.alloc (.cells #[.int .i64 x.i,.int .i64 x.s,.int .i64 x.m,.int .i64 x.p,.int .i64 x.c] 51):=⟨_,rfl⟩;rw [←hW];obtain⟨pb,hblk⟩:∃pb,pb=cb+1:=⟨_,rfl⟩;have d0:W1.cell? ⟨pb,0,none⟩=some (.int .i64 x.i):=zN2 hW (hblk.trans hzW0.symm) rfl;have d1:W1.cell? ⟨pb,1,none⟩=some (.int .i64 x.s):=zN2 hW (hblk.trans hzW0.symm) rfl;have d2:W1.cell? ⟨pb,2,none⟩=some (.int .i64 x.m):=zN2 hW (hblk.trans hzW0.symm) rfl;have d3:W1.cell? ⟨pb,3,none⟩=some (.int .i64 x.p):=zN2 hW (hblk.trans hzW0.symm) rfl;have d4:W1.cell? ⟨pb,4,none⟩=some (.int .i64 x.c):=zN2 hW (hblk.trans hzW0.symm) rfl;have hbN:Below W0.heap.size W0 W1:=by rw [hW];exact ak _ _
 have hzW1:W1.heap.size=pb+1:=by rw [hW,hblk];simp [hzW0]
 have hpbl:cb<pb:=by omega
 rw [←hblk];clear hW hblk hzW0;replace⟨k0,k1,k2⟩:=ep k0 k1 k2 hbN;replace HB:=zT HB hbN;clear hbN hzW1;refine(bK _ _ _).mono ?_;rintro e W2 ⟨rfl,hbN⟩;replace⟨k0,k1,k2,d0,d1,d2,d3,d4⟩:=cR k0 k1 k2 d0 d1 d2 d3 d4 hbN;replace HB:=zT HB hbN;clear hbN;have hp1:=am d1;have hp2:¬pb=W2.heap.size:=by omega
 go_wp2_with fail
 clear hp1 hp2;obtain⟨W3,hW⟩:∃W3,W3=W2.alloc (.cells #[.int .i64 0,.int .i64 65535,.int .i64 x.i] 131):=⟨_,rfl⟩;rw [←hW];obtain⟨mb,hblk⟩:∃mb,mb=W2.heap.size:=⟨_,rfl⟩;have m0:W3.cell? ⟨mb,0,none⟩=some (.int .i64 0):=zN2 hW hblk rfl;have m1:W3.cell? ⟨mb,1,none⟩=some (.int .i64 65535):=zN2 hW hblk rfl;have m2:W3.cell? ⟨mb,2,none⟩=some (.int .i64 x.i):=zN2 hW hblk rfl;have hbN:Below W2.heap.size W2 W3:=by rw [hW];exact ak _ _
 have hzW3:W3.heap.size=mb+1:=by rw [hW,hblk];simp
 have hmbl:W2.heap.size≤mb:=by omega
 rw [←hblk];clear hW hblk;replace⟨k0,k1,k2,d0,d1,d2,d3,d4⟩:=cR k0 k1 k2 d0 d1 d2 d3 d4 hbN;replace HB:=zT HB hbN;clear hbN hzW3;refine(bm _ _ _ _).mono ?_;rintro e W4 ⟨rfl,hbN⟩;replace⟨k0,k1,k2,d0,d1,d2,d3,d4⟩:=cR k0 k1 k2 d0 d1 d2 d3 d4 hbN;replace⟨m0,m1,m2⟩:=ep m0 m1 m2 hbN;replace HB:=zT HB hbN;clear hbN;go_wp2_with fail
 obtain⟨W5,hW⟩:∃W5,W5=W4.alloc (.cells #[.int .i64 1,.int .i64 8,.int .i64 x.s] 115):=⟨_,rfl⟩;rw [←hW];obtain⟨eb,hblk⟩:∃eb,eb=W4.heap.size:=⟨_,rfl⟩;have e0:W5.cell? ⟨eb,0,none⟩=some (.int .i64 1):=zN2 hW hblk rfl;have e1:W5.cell? ⟨eb,1,none⟩=some (.int .i64 8):=zN2 hW hblk rfl;have e2:W5.cell? ⟨eb,2,none⟩=some (.int .i64 x.s):=zN2 hW hblk rfl;have hbN:Below W4.heap.size W4 W5:=by rw [hW];exact ak _ _
 have hzW5:W5.heap.size=eb+1:=by rw [hW,hblk];simp
 have hebl:W4.heap.size≤eb:=by omega
 rw [←hblk];clear hW hblk;replace⟨k0,k1,k2,d0,d1,d2,d3,d4⟩:=cR k0 k1 k2 d0 d1 d2 d3 d4 hbN;replace⟨m0,m1,m2⟩:=ep m0 m1 m2 hbN;replace HB:=zT HB hbN;clear hbN hzW5;have hs0_3:=HB.size;refine wp_region_held_drew (S:=(fun w'=>w'.cell? ⟨cb,0,none⟩=some (.slice s1 S.length s2)∧w'.cell? ⟨cb,1,none⟩=some (.slice p1 P.length p2)∧w'.cell? ⟨cb,2,none⟩=some (.slice a1 A.length a2)∧w'.cell? ⟨pb,0,none⟩=some (.int .i64 x.i)∧w'.cell? ⟨pb,1,none⟩=some (.int .i64 x.s)∧w'.cell? ⟨pb,2,none⟩=some (.int .i64 x.m)∧w'.cell? ⟨pb,3,none⟩=some (.int .i64 x.p)∧w'.cell? ⟨pb,4,none⟩=some (.int .i64 x.c)∧w'.cell? ⟨mb,0,none⟩=some (.int .i64 0)∧w'.cell? ⟨mb,1,none⟩=some (.int .i64 65535)∧w'.cell? ⟨mb,2,none⟩=some (.int .i64 x.i)∧w'.cell? ⟨eb,0,none⟩=some (.int .i64 1)∧w'.cell? ⟨eb,1,none⟩=some (.int .i64 8)∧w'.cell? ⟨eb,2,none⟩=some (.int .i64 x.s))) (by kernel_rfl) ⟨k0,k1,k2,d0,d1,d2,d3,d4,m0,m1,m2,e0,e1,e2⟩ (fun hHeld=>?_);have HDW:Below W5.heap.size W5 W5.drew:=(Below.refl _ _).drew;have hs1:=HDW.size;replace⟨k0,k1,k2,d0,d1,d2,d3,d4,m0,m1,m2,e0,e1,e2⟩:=uC k0 k1 k2 d0 d1 d2 d3 d4 m0 m1 m2 e0 e1 e2 HDW;replace HB:=zT HB HDW;clear HDW;generalize W5.drew=V at*;refine sqA [(0,13),(5,18),(9,22),(14,27),(18,31),(19,32),(20,33),(24,37),(25,38),(26,39),(30,43),(33,46),(34,47),(37,50),(38,51),(40,53),(41,54),(44,57),(45,58)] ?_;(iterate 19 (refine sqN rfl (by kernel_rfl) (fun _ _ _ h=>h) rfl ‹_› (by intro w h;go_simp <;>with_reducible rfl) ?_;simp only [nz]));refine sqZ ?_
 iterate 31
  all_goals
   first
    |(replace M1:=M1;replace M2:=M2;replace M3:=M3;replace M4:=M4;replace M6:=M6;replace M7:=M7;replace M8:=M8;replace M10:=M10;replace M11:=M11;replace M12:=M12;replace M13:=M13;replace M15:=M15;replace M16:=M16;replace M17:=M17;replace M21:=M21;replace M22:=M22;replace M23:=M23;replace M27:=M27;replace M28:=M28;replace M29:=M29;replace M31:=M31;replace M32:=M32;replace M35:=M35;replace M36:=M36;replace M39:=M39;replace M42:=M42;replace M43:=M43;replace M46:=M46;replace M47:=M47;replace M48:=M48;refine wpAnyH_ready (rs:=[49]) (by kernel_rfl) (by simp) ?_;refine(AllReadyH.cons (o:=⟨some 62,_,_,_,_,_⟩) rfl (fun K hK49=>?_) AllReadyH.nil))
    |(replace M1:=M1;replace M2:=M2;replace M3:=M3;replace M4:=M4;replace M6:=M6;replace M7:=M7;replace M8:=M8;replace M10:=M10;replace M11:=M11;replace M12:=M12;replace M13:=M13;replace M15:=M15;replace M16:=M16;replace M17:=M17;replace M21:=M21;replace M22:=M22;replace M23:=M23;replace M27:=M27;replace M28:=M28;replace M29:=M29;replace M31:=M31;replace M32:=M32;replace M35:=M35;replace M36:=M36;replace M39:=M39;replace M42:=M42;replace M43:=M43;replace M46:=M46;replace M47:=M47;refine wpAnyH_ready (rs:=[48]) (by kernel_rfl) (by simp) ?_;refine(AllReadyH.cons (o:=⟨some 61,_,_,_,_,_⟩) rfl (fun K hK48=>?_) AllReadyH.nil))
    |(replace M1:=M1;replace M2:=M2;replace M3:=M3;replace M4:=M4;replace M6:=M6;replace M7:=M7;replace M8:=M8;replace M10:=M10;replace M11:=M11;replace M12:=M12;replace M13:=M13;replace M15:=M15;replace M16:=M16;replace M17:=M17;replace M21:=M21;replace M22:=M22;replace M23:=M23;replace M27:=M27;replace M28:=M28;replace M29:=M29;replace M31:=M31;replace M32:=M32;replace M35:=M35;replace M36:=M36;replace M39:=M39;replace M42:=M42;replace M43:=M43;replace M46:=M46;refine wpAnyH_ready (rs:=[47]) (by kernel_rfl) (by simp) ?_;refine(AllReadyH.cons (o:=⟨some 60,_,_,_,_,_⟩) rfl (fun K hK47=>?_) AllReadyH.nil))
    |(replace M1:=M1;replace M2:=M2;replace M3:=M3;replace M4:=M4;replace M6:=M6;replace M7:=M7;replace M8:=M8;replace M10:=M10;replace M11:=M11;replace M12:=M12;replace M13:=M13;replace M15:=M15;replace M16:=M16;replace M17:=M17;replace M21:=M21;replace M22:=M22;replace M23:=M23;replace M27:=M27;replace M28:=M28;replace M29:=M29;replace M31:=M31;replace M32:=M32;replace M35:=M35;replace M36:=M36;replace M39:=M39;replace M42:=M42;replace M46:=M46;replace M47:=M47;refine wpAnyH_ready (rs:=[43]) (by kernel_rfl) (by simp) ?_;refine(AllReadyH.cons (o:=⟨some 56,_,_,_,_,_⟩) rfl (fun K hK43=>?_) AllReadyH.nil))
    |(replace M1:=M1;replace M2:=M2;replace M3:=M3;replace M4:=M4;replace M6:=M6;replace M7:=M7;replace M8:=M8;replace M10:=M10;replace M11:=M11;replace M12:=M12;replace M13:=M13;replace M15:=M15;replace M16:=M16;replace M17:=M17;replace M21:=M21;replace M22:=M22;replace M23:=M23;replace M27:=M27;replace M28:=M28;replace M29:=M29;replace M31:=M31;replace M32:=M32;replace M35:=M35;replace M36:=M36;replace M39:=M39;replace M42:=M42;replace M43:=M43;refine wpAnyH_ready (rs:=[46]) (by kernel_rfl) (by simp) ?_;refine(AllReadyH.cons (o:=⟨some 59,_,_,_,_,_⟩) rfl (fun K hK46=>?_) AllReadyH.nil))
    |(replace M1:=M1;replace M2:=M2;replace M3:=M3;replace M4:=M4;replace M6:=M6;replace M7:=M7;replace M8:=M8;replace M10:=M10;replace M11:=M11;replace M12:=M12;replace M13:=M13;replace M15:=M15;replace M16:=M16;replace M17:=M17;replace M21:=M21;replace M22:=M22;replace M23:=M23;replace M27:=M27;replace M28:=M28;replace M29:=M29;replace M31:=M31;replace M32:=M32;replace M35:=M35;replace M36:=M36;replace M39:=M39;replace M42:=M42;replace M46:=M46;refine wpAnyH_ready (rs:=[43,47]) (by kernel_rfl) (by simp) ?_;refine(AllReadyH.cons (o:=⟨some 56,_,_,_,_,_⟩) rfl (fun K hK43=>?_) (AllReadyH.cons (o:=⟨some 60,_,_,_,_,_⟩) rfl (fun K hK47=>?_) AllReadyH.nil)))
    |(replace M1:=M1;replace M2:=M2;replace M3:=M3;replace M4:=M4;replace M6:=M6;replace M7:=M7;replace M8:=M8;replace M10:=M10;replace M11:=M11;replace M12:=M12;replace M13:=M13;replace M15:=M15;replace M16:=M16;replace M17:=M17;replace M21:=M21;replace M22:=M22;replace M23:=M23;replace M27:=M27;replace M28:=M28;replace M29:=M29;replace M31:=M31;replace M32:=M32;replace M35:=M35;replace M36:=M36;replace M39:=M39;replace M42:=M42;refine wpAnyH_ready (rs:=[43,46]) (by kernel_rfl) (by simp) ?_;refine(AllReadyH.cons (o:=⟨some 56,_,_,_,_,_⟩) rfl (fun K hK43=>?_) (AllReadyH.cons (o:=⟨some 59,_,_,_,_,_⟩) rfl (fun K hK46=>?_) AllReadyH.nil)))
    |(replace M1:=M1;replace M2:=M2;replace M3:=M3;replace M4:=M4;replace M6:=M6;replace M7:=M7;replace M8:=M8;replace M10:=M10;replace M11:=M11;replace M12:=M12;replace M13:=M13;replace M15:=M15;replace M16:=M16;replace M17:=M17;replace M21:=M21;replace M22:=M22;replace M23:=M23;replace M27:=M27;replace M28:=M28;replace M29:=M29;replace M31:=M31;replace M32:=M32;replace M35:=M35;replace M36:=M36;replace M39:=M39;refine wpAnyH_ready (rs:=[42]) (by kernel_rfl) (by simp) ?_;refine(AllReadyH.cons (o:=⟨some 55,_,_,_,_,_⟩) rfl (fun K hK42=>?_) AllReadyH.nil))
    |(replace M1:=M1;replace M2:=M2;replace M3:=M3;replace M4:=M4;replace M6:=M6;replace M7:=M7;replace M8:=M8;replace M10:=M10;replace M11:=M11;replace M12:=M12;replace M13:=M13;replace M15:=M15;replace M16:=M16;replace M17:=M17;replace M21:=M21;replace M22:=M22;replace M23:=M23;replace M27:=M27;replace M28:=M28;replace M29:=M29;replace M31:=M31;replace M32:=M32;replace M35:=M35;replace M36:=M36;refine wpAnyH_ready (rs:=[39]) (by kernel_rfl) (by simp) ?_;refine(AllReadyH.cons (o:=⟨some 52,_,_,_,_,_⟩) rfl (fun K hK39=>?_) AllReadyH.nil))
    |(replace M1:=M1;replace M2:=M2;replace M3:=M3;replace M4:=M4;replace M6:=M6;replace M7:=M7;replace M8:=M8;replace M10:=M10;replace M11:=M11;replace M12:=M12;replace M13:=M13;replace M15:=M15;replace M16:=M16;replace M17:=M17;replace M21:=M21;replace M22:=M22;replace M23:=M23;replace M27:=M27;replace M28:=M28;replace M29:=M29;replace M31:=M31;replace M32:=M32;replace M35:=M35;refine wpAnyH_ready (rs:=[36]) (by kernel_rfl) (by simp) ?_;refine(AllReadyH.cons (o:=⟨some 49,_,_,_,_,_⟩) rfl (fun K hK36=>?_) AllReadyH.nil))
    |(replace M1:=M1;replace M2:=M2;replace M3:=M3;replace M4:=M4;replace M6:=M6;replace M7:=M7;replace M8:=M8;replace M10:=M10;replace M11:=M11;replace M12:=M12;replace M13:=M13;replace M15:=M15;replace M16:=M16;replace M17:=M17;replace M21:=M21;replace M22:=M22;replace M23:=M23;replace M27:=M27;replace M28:=M28;replace M29:=M29;replace M31:=M31;replace M32:=M32;refine wpAnyH_ready (rs:=[35]) (by kernel_rfl) (by simp) ?_;refine(AllReadyH.cons (o:=⟨some 48,_,_,_,_,_⟩) rfl (fun K hK35=>?_) AllReadyH.nil))
    |(replace M1:=M1;replace M2:=M2;replace M3:=M3;replace M4:=M4;replace M6:=M6;replace M7:=M7;replace M8:=M8;replace M10:=M10;replace M11:=M11;replace M12:=M12;replace M13:=M13;replace M15:=M15;replace M16:=M16;replace M17:=M17;replace M21:=M21;replace M22:=M22;replace M23:=M23;replace M27:=M27;replace M28:=M28;replace M29:=M29;replace M31:=M31;replace M35:=M35;refine wpAnyH_ready (rs:=[32]) (by kernel_rfl) (by simp) ?_;refine(AllReadyH.cons (o:=⟨some 45,_,_,_,_,_⟩) rfl (fun K hK32=>?_) AllReadyH.nil))
    |(replace M1:=M1;replace M2:=M2;replace M3:=M3;replace M4:=M4;replace M6:=M6;replace M7:=M7;replace M8:=M8;replace M10:=M10;replace M11:=M11;replace M12:=M12;replace M13:=M13;replace M15:=M15;replace M16:=M16;replace M17:=M17;replace M21:=M21;replace M22:=M22;replace M23:=M23;replace M27:=M27;replace M28:=M28;replace M29:=M29;replace M31:=M31;refine wpAnyH_ready (rs:=[32,35]) (by kernel_rfl) (by simp) ?_;refine(AllReadyH.cons (o:=⟨some 45,_,_,_,_,_⟩) rfl (fun K hK32=>?_) (AllReadyH.cons (o:=⟨some 48,_,_,_,_,_⟩) rfl (fun K hK35=>?_) AllReadyH.nil)))
    |(replace M1:=M1;replace M2:=M2;replace M3:=M3;replace M4:=M4;replace M6:=M6;replace M7:=M7;replace M8:=M8;replace M10:=M10;replace M11:=M11;replace M12:=M12;replace M13:=M13;replace M15:=M15;replace M16:=M16;replace M17:=M17;replace M21:=M21;replace M22:=M22;replace M23:=M23;replace M27:=M27;replace M28:=M28;replace M29:=M29;refine wpAnyH_ready (rs:=[31]) (by kernel_rfl) (by simp) ?_;refine(AllReadyH.cons (o:=⟨some 44,_,_,_,_,_⟩) rfl (fun K hK31=>?_) AllReadyH.nil))
    |(replace M1:=M1;replace M2:=M2;replace M3:=M3;replace M4:=M4;replace M6:=M6;replace M7:=M7;replace M8:=M8;replace M10:=M10;replace M11:=M11;replace M12:=M12;replace M13:=M13;replace M15:=M15;replace M16:=M16;replace M17:=M17;replace M21:=M21;replace M22:=M22;replace M23:=M23;replace M27:=M27;replace M28:=M28;refine wpAnyH_ready (rs:=[29]) (by kernel_rfl) (by simp) ?_;refine(AllReadyH.cons (o:=⟨some 42,_,_,_,_,_⟩) rfl (fun K hK29=>?_) AllReadyH.nil))
    |(replace M1:=M1;replace M2:=M2;replace M3:=M3;replace M4:=M4;replace M6:=M6;replace M7:=M7;replace M8:=M8;replace M10:=M10;replace M11:=M11;replace M12:=M12;replace M13:=M13;replace M15:=M15;replace M16:=M16;replace M17:=M17;replace M21:=M21;replace M22:=M22;replace M23:=M23;replace M27:=M27;refine wpAnyH_ready (rs:=[28]) (by kernel_rfl) (by simp) ?_;refine(AllReadyH.cons (o:=⟨some 41,_,_,_,_,_⟩) rfl (fun K hK28=>?_) AllReadyH.nil))
    |(replace M1:=M1;replace M2:=M2;replace M3:=M3;replace M4:=M4;replace M6:=M6;replace M7:=M7;replace M8:=M8;replace M10:=M10;replace M11:=M11;replace M12:=M12;replace M13:=M13;replace M15:=M15;replace M16:=M16;replace M17:=M17;replace M21:=M21;replace M22:=M22;replace M23:=M23;refine wpAnyH_ready (rs:=[27]) (by kernel_rfl) (by simp) ?_;refine(AllReadyH.cons (o:=⟨some 40,_,_,_,_,_⟩) rfl (fun K hK27=>?_) AllReadyH.nil))
    |(replace M1:=M1;replace M2:=M2;replace M3:=M3;replace M4:=M4;replace M6:=M6;replace M7:=M7;replace M8:=M8;replace M10:=M10;replace M11:=M11;replace M12:=M12;replace M13:=M13;replace M15:=M15;replace M16:=M16;replace M17:=M17;replace M21:=M21;replace M22:=M22;refine wpAnyH_ready (rs:=[23]) (by kernel_rfl) (by simp) ?_;refine(AllReadyH.cons (o:=⟨some 36,_,_,_,_,_⟩) rfl (fun K hK23=>?_) AllReadyH.nil))
    |(replace M1:=M1;replace M2:=M2;replace M3:=M3;replace M4:=M4;replace M6:=M6;replace M7:=M7;replace M8:=M8;replace M10:=M10;replace M11:=M11;replace M12:=M12;replace M13:=M13;replace M15:=M15;replace M16:=M16;replace M17:=M17;replace M21:=M21;refine wpAnyH_ready (rs:=[22]) (by kernel_rfl) (by simp) ?_;refine(AllReadyH.cons (o:=⟨some 35,_,_,_,_,_⟩) rfl (fun K hK22=>?_) AllReadyH.nil))
    |(replace M1:=M1;replace M2:=M2;replace M3:=M3;replace M4:=M4;replace M6:=M6;replace M7:=M7;replace M8:=M8;replace M10:=M10;replace M11:=M11;replace M12:=M12;replace M13:=M13;replace M15:=M15;replace M16:=M16;replace M17:=M17;refine wpAnyH_ready (rs:=[21]) (by kernel_rfl) (by simp) ?_;refine(AllReadyH.cons (o:=⟨some 34,_,_,_,_,_⟩) rfl (fun K hK21=>?_) AllReadyH.nil))
    |(replace M1:=M1;replace M2:=M2;replace M3:=M3;replace M4:=M4;replace M6:=M6;replace M7:=M7;replace M8:=M8;replace M10:=M10;replace M11:=M11;replace M12:=M12;replace M13:=M13;replace M15:=M15;replace M16:=M16;refine wpAnyH_ready (rs:=[17]) (by kernel_rfl) (by simp) ?_;refine(AllReadyH.cons (o:=⟨some 30,_,_,_,_,_⟩) rfl (fun K hK17=>?_) AllReadyH.nil))
    |(replace M1:=M1;replace M2:=M2;replace M3:=M3;replace M4:=M4;replace M6:=M6;replace M7:=M7;replace M8:=M8;replace M10:=M10;replace M11:=M11;replace M12:=M12;replace M13:=M13;replace M15:=M15;refine wpAnyH_ready (rs:=[16]) (by kernel_rfl) (by simp) ?_;refine(AllReadyH.cons (o:=⟨some 29,_,_,_,_,_⟩) rfl (fun K hK16=>?_) AllReadyH.nil))
    |(replace M1:=M1;replace M2:=M2;replace M3:=M3;replace M4:=M4;replace M6:=M6;replace M7:=M7;replace M8:=M8;replace M10:=M10;replace M11:=M11;replace M12:=M12;replace M13:=M13;refine wpAnyH_ready (rs:=[15]) (by kernel_rfl) (by simp) ?_;refine(AllReadyH.cons (o:=⟨some 28,_,_,_,_,_⟩) rfl (fun K hK15=>?_) AllReadyH.nil))
    |(replace M1:=M1;replace M2:=M2;replace M3:=M3;replace M4:=M4;replace M6:=M6;replace M7:=M7;replace M8:=M8;replace M10:=M10;replace M11:=M11;replace M12:=M12;refine wpAnyH_ready (rs:=[13]) (by kernel_rfl) (by simp) ?_;refine(AllReadyH.cons (o:=⟨some 26,_,_,_,_,_⟩) rfl (fun K hK13=>?_) AllReadyH.nil))
    |(replace M1:=M1;replace M2:=M2;replace M3:=M3;replace M4:=M4;replace M6:=M6;replace M7:=M7;replace M8:=M8;replace M10:=M10;replace M11:=M11;refine wpAnyH_ready (rs:=[12]) (by kernel_rfl) (by simp) ?_;refine(AllReadyH.cons (o:=⟨some 25,_,_,_,_,_⟩) rfl (fun K hK12=>?_) AllReadyH.nil))
    |(replace M1:=M1;replace M2:=M2;replace M3:=M3;replace M4:=M4;replace M6:=M6;replace M7:=M7;replace M8:=M8;replace M10:=M10;refine wpAnyH_ready (rs:=[11]) (by kernel_rfl) (by simp) ?_;refine(AllReadyH.cons (o:=⟨some 24,_,_,_,_,_⟩) rfl (fun K hK11=>?_) AllReadyH.nil))
    |(replace M1:=M1;replace M2:=M2;replace M3:=M3;replace M4:=M4;replace M6:=M6;replace M7:=M7;replace M8:=M8;refine wpAnyH_ready (rs:=[10]) (by kernel_rfl) (by simp) ?_;refine(AllReadyH.cons (o:=⟨some 23,_,_,_,_,_⟩) rfl (fun K hK10=>?_) AllReadyH.nil))
    |(replace M1:=M1;replace M2:=M2;replace M3:=M3;replace M4:=M4;replace M6:=M6;replace M7:=M7;refine wpAnyH_ready (rs:=[8]) (by kernel_rfl) (by simp) ?_;refine(AllReadyH.cons (o:=⟨some 21,_,_,_,_,_⟩) rfl (fun K hK8=>?_) AllReadyH.nil))
    |(replace M1:=M1;replace M2:=M2;replace M3:=M3;replace M4:=M4;replace M6:=M6;refine wpAnyH_ready (rs:=[7]) (by kernel_rfl) (by simp) ?_;refine(AllReadyH.cons (o:=⟨some 20,_,_,_,_,_⟩) rfl (fun K hK7=>?_) AllReadyH.nil))
    |(replace M1:=M1;replace M2:=M2;replace M3:=M3;replace M4:=M4;refine wpAnyH_ready (rs:=[6]) (by kernel_rfl) (by simp) ?_;refine(AllReadyH.cons (o:=⟨some 19,_,_,_,_,_⟩) rfl (fun K hK6=>?_) AllReadyH.nil))
    |(replace M1:=M1;replace M2:=M2;replace M3:=M3;refine wpAnyH_ready (rs:=[4]) (by kernel_rfl) (by simp) ?_;refine(AllReadyH.cons (o:=⟨some 17,_,_,_,_,_⟩) rfl (fun K hK4=>?_) AllReadyH.nil))
    |(replace M1:=M1;replace M2:=M2;refine wpAnyH_ready (rs:=[3]) (by kernel_rfl) (by simp) ?_;refine(AllReadyH.cons (o:=⟨some 16,_,_,_,_,_⟩) rfl (fun K hK3=>?_) AllReadyH.nil))
    |(replace M1:=M1;refine wpAnyH_ready (rs:=[2]) (by kernel_rfl) (by simp) ?_;refine(AllReadyH.cons (o:=⟨some 15,_,_,_,_,_⟩) rfl (fun K hK2=>?_) AllReadyH.nil))
    |(refine wpAnyH_ready (rs:=[1]) (by kernel_rfl) (by simp) ?_;refine(AllReadyH.cons (o:=⟨some 14,_,_,_,_,_⟩) rfl (fun K hK1=>?_) AllReadyH.nil))
  all_goals
   first
    |(have hK:=hK1
      clear hK1;go_simp;clear hHeld;have HBold:=HB.size;refine(gX _ _ _ _ _ _).mono ?_;rintro e V1021 ⟨u1021,rfl,ho1021,hb1021⟩;have hs1022:=hb1021.size;obtain⟨g1023,c1023,rfl,hg1023,hl1023⟩:=bu ho1021 (by decide);have HS1:=aa (aA ho1021 (Nat.le_trans HBold zr));clear ho1021 HBold;have HBX:=hb1021;clear hb1021
      rename World=>V
      have M1:True:=trivial)
    |(have hK:=hK2
      clear hK2;go_simp;clear hHeld;have HBold:=HB.size;refine(gZ _).mono ?_;rintro e V1041 ⟨u1041,rfl,ho1041,hb1041⟩;have hs1042:=hb1041.size;obtain⟨g1043,c1043,rfl,hg1043,hl1043⟩:=bu ho1041 (by decide);have HT1:=aa (aA ho1041 (Nat.le_trans HBold zr));clear ho1041 HBold;have HBX:=hb1041;clear hb1041
      rename World=>V
      have M2:True:=trivial)
    |(have hK:=hK3
      clear hK3;go_simp;clear hHeld;refine aC (fun V1061 g1061 hV hg=>?_);rw [←hg];have hbN:=zB hV;have hg1061:V.heap.size≤g1061:=(by omega);have hl1061:=zL hV hg;have q0:V1061.cell? ⟨g1061,0,none⟩=some (.slice (some ⟨g1023,0,none⟩) 5 c1023):=zN2 hV hg rfl;have q1:V1061.cell? ⟨g1061,1,none⟩=some (.slice (some ⟨g1043,0,none⟩) 2 c1043):=zN2 hV hg rfl;have hs1062:=hbN.size;have HBX:=hbN;clear hV hg hbN
      rename World=>V
      have M3:True:=trivial)
    |(have hK:=hK4
      clear hK4;go_simp;clear hHeld;have HBold:=HB.size;refine(eW [((.slice (some ⟨g1023,0,none⟩) 5 c1023:Value),5,M (bU x)),((.slice (some ⟨g1043,0,none⟩) 2 c1043:Value),2,M cX)] g1061 2 V (fun j hj=>match j,hj with | 0,_=>q0 | 1,_=>q1 | j+2,h=>absurd h (by simp)) (in2 (SrcAt.of_own HS1.out (gV _)) (SrcAt.of_own HT1.out (gV _))) (by exact(show(2:Nat)≤10 by decide)) (by exact(show(2:Nat)≤2 by decide)) (in2 (by exact(show(5:Nat)≤100000 by decide)) (by exact(show(2:Nat)≤100000 by decide)))).mono ?_;rintro e V1081 ⟨u1081,rfl,ho1081,hb1081⟩;have hs1082:=hb1081.size;obtain⟨g1083,c1083,rfl,hg1083,hl1083⟩:=bu (n:=7) ho1081 (by decide);have HM1:Hid (V1081.ownsRow w.heap.size 131 3 (.slice (some ⟨g1083,0,none⟩) 7 c1083) 7 (M (bU x++cX))):=aa (aA ho1081 HBold);clear ho1081 HBold HS1 HT1 q0 q1;have HBX:=hb1081;clear hb1081
      rename World=>V
      have M4:True:=trivial)
    |(have hK:=hK6
      clear hK6;go_simp;clear hHeld;refine(bm _ _ _ _).mono ?_;rintro e V1121 ⟨rfl,hb1121⟩;have hs1122:=hb1121.size;have HBX:=hb1121;clear hb1121
      rename World=>V
      have M6:True:=trivial)
    |(have hK:=hK7
      clear hK7;go_simp;clear hHeld;refine aC (fun V1141 g1141 hV hg=>?_);rw [←hg];have hbN:=zB hV;have hg1141:V.heap.size≤g1141:=(by omega);have hl1141:=zL hV hg;have HD1:Hid (V1141.ownsRow w.heap.size 115 3 (.slice (some ⟨g1141,0,none⟩) 2 2) 2 (D [⟨1,8,x.s⟩,aT 2])):=zW hV hg HB.size (by decide) rfl;have hs1142:=hbN.size;have HBX:=hbN;clear hV hg hbN
      rename World=>V
      have M7:True:=trivial)
    |(have hK:=hK8
      clear hK8;go_simp;clear hHeld;refine(bp _ _ _ _ _ _ _ _ _).mono ?_;rintro e V1161 ⟨rfl,hb1161⟩;have hs1162:=hb1161.size;have HBX:=hb1161;clear hb1161
      rename World=>V
      have M8:True:=trivial)
    |(have hK:=hK10
      clear hK10;go_simp;clear hHeld;have HBold:=HB.size;refine(gX _ _ _ _ _ _).mono ?_;rintro e V1201 ⟨u1201,rfl,ho1201,hb1201⟩;have hs1202:=hb1201.size;obtain⟨g1203,c1203,rfl,hg1203,hl1203⟩:=bu ho1201 (by decide);have HS2:=aa (aA ho1201 (Nat.le_trans HBold zr));clear ho1201 HBold;have HBX:=hb1201;clear hb1201
      rename World=>V
      have M10:True:=trivial)
    |(have hK:=hK11
      clear hK11;go_simp;clear hHeld;have HBold:=HB.size;refine(gU _ _).mono ?_;rintro e V1221 ⟨u1221,rfl,ho1221,hb1221⟩;have hs1222:=hb1221.size;obtain⟨g1223,c1223,rfl,hg1223,hl1223⟩:=bu ho1221 (by decide);have HT2:=aa (aA ho1221 (Nat.le_trans HBold zr));clear ho1221 HBold;have HBX:=hb1221;clear hb1221
      rename World=>V
      have M11:True:=trivial)
    |(have hK:=hK12
      clear hK12;go_simp;clear hHeld;refine aC (fun V1241 g1241 hV hg=>?_);rw [←hg];have hbN:=zB hV;have hg1241:V.heap.size≤g1241:=(by omega);have hl1241:=zL hV hg;have r0:V1241.cell? ⟨g1241,0,none⟩=some (.slice (some ⟨g1203,0,none⟩) 5 c1203):=zN2 hV hg rfl;have r1:V1241.cell? ⟨g1241,1,none⟩=some (.slice (some ⟨g1223,0,none⟩) 3 c1223):=zN2 hV hg rfl;have hs1242:=hbN.size;have HBX:=hbN;clear hV hg hbN
      rename World=>V
      have M12:True:=trivial)
    |(have hK:=hK13
      clear hK13;go_simp;clear hHeld;have HBold:=HB.size;refine(eW [((.slice (some ⟨g1203,0,none⟩) 5 c1203:Value),5,M (bU x)),((.slice (some ⟨g1223,0,none⟩) 3 c1223:Value),3,M (cW 1))] g1241 2 V (fun j hj=>match j,hj with | 0,_=>r0 | 1,_=>r1 | j+2,h=>absurd h (by simp)) (in2 (SrcAt.of_own HS2.out (gV _)) (SrcAt.of_own HT2.out (gV _))) (by exact(show(2:Nat)≤10 by decide)) (by exact(show(2:Nat)≤2 by decide)) (in2 (by exact(show(5:Nat)≤100000 by decide)) (by exact(show(3:Nat)≤100000 by decide)))).mono ?_;rintro e V1261 ⟨u1261,rfl,ho1261,hb1261⟩;have hs1262:=hb1261.size;obtain⟨g1263,c1263,rfl,hg1263,hl1263⟩:=bu (n:=8) ho1261 (by decide);have HM2:Hid (V1261.ownsRow w.heap.size 131 3 (.slice (some ⟨g1263,0,none⟩) 8 c1263) 8 (M (bU x++cW 1))):=aa (aA ho1261 HBold);clear ho1261 HBold HS2 HT2 r0 r1;have HBX:=hb1261;clear hb1261
      rename World=>V
      have M13:True:=trivial)
    |(have hK:=hK15
      clear hK15;go_simp;clear hHeld;refine(bm _ _ _ _).mono ?_;rintro e V1301 ⟨rfl,hb1301⟩;have hs1302:=hb1301.size;have HBX:=hb1301;clear hb1301
      rename World=>V
      have M15:True:=trivial)
    |(have hK:=hK16
      clear hK16;go_simp;clear hHeld;refine aC (fun V1321 g1321 hV hg=>?_);rw [←hg];have hbN:=zB hV;have hg1321:V.heap.size≤g1321:=(by omega);have hl1321:=zL hV hg;have HD2:Hid (V1321.ownsRow w.heap.size 115 3 (.slice (some ⟨g1321,0,none⟩) 2 2) 2 (D [⟨1,8,x.s⟩,aT 1])):=zW hV hg HB.size (by decide) rfl;have hs1322:=hbN.size;have HBX:=hbN;clear hV hg hbN
      rename World=>V
      have M16:True:=trivial)
    |(have hK:=hK17
      clear hK17;go_simp;clear hHeld;refine(bp _ _ _ _ _ _ _ _ _).mono ?_;rintro e V1341 ⟨rfl,hb1341⟩;have hs1342:=hb1341.size;have HBX:=hb1341;clear hb1341
      rename World=>V
      have M17:True:=trivial)
    |(have hK:=hK21
      clear hK21;go_simp;clear hHeld;refine(bK _ _ _).mono ?_;rintro e V1421 ⟨rfl,hb1421⟩;have hs1422:=hb1421.size;have HBX:=hb1421;clear hb1421
      rename World=>V
      have M21:True:=trivial)
    |(have hK:=hK22
      clear hK22;go_simp;clear hHeld;refine aC (fun V1441 g1441 hV hg=>?_);rw [←hg];have hbN:=zB hV;have hg1441:V.heap.size≤g1441:=(by omega);have hl1441:=zL hV hg;have HM3:Hid (V1441.ownsRow w.heap.size 131 3 (.slice (some ⟨g1441,0,none⟩) 2 2) 2 (M [isM 0 x.i,isM 5 x.p])):=zW hV hg HB.size (by decide) rfl;have hs1442:=hbN.size;have HBX:=hbN;clear hV hg hbN
      rename World=>V
      have M22:True:=trivial)
    |(have hK:=hK23
      clear hK23;go_simp;clear hHeld;refine(bp _ _ _ _ _ _ _ _ _).mono ?_;rintro e V1461 ⟨rfl,hb1461⟩;have hs1462:=hb1461.size;have HBX:=hb1461;clear hb1461
      rename World=>V
      have M23:True:=trivial)
    |(have hK:=hK27
      clear hK27;go_simp;clear hHeld;refine(bK _ _ _).mono ?_;rintro e V1541 ⟨rfl,hb1541⟩;have hs1542:=hb1541.size;have HBX:=hb1541;clear hb1541
      rename World=>V
      have M27:True:=trivial)
    |(have hK:=hK28
      clear hK28;go_simp;clear hHeld;refine aC (fun V1561 g1561 hV hg=>?_);rw [←hg];have hbN:=zB hV;have hg1561:V.heap.size≤g1561:=(by omega);have hl1561:=zL hV hg;have HM4:Hid (V1561.ownsRow w.heap.size 131 3 (.slice (some ⟨g1561,0,none⟩) 2 2) 2 (M [isM 0 x.i,isM 1 x.m])):=zW hV hg HB.size (by decide) rfl;have hs1562:=hbN.size;have HBX:=hbN;clear hV hg hbN
      rename World=>V
      have M28:True:=trivial)
    |(have hK:=hK29
      clear hK29;go_simp;clear hHeld;refine(bp _ _ _ _ _ _ _ _ _).mono ?_;rintro e V1581 ⟨rfl,hb1581⟩;have hs1582:=hb1581.size;have HBX:=hb1581;clear hb1581
      rename World=>V
      have M29:True:=trivial)
    |(have hK:=hK31
      clear hK31;go_simp;clear hHeld;refine(bK _ _ _).mono ?_;rintro e V1621 ⟨rfl,hb1621⟩;have hs1622:=hb1621.size;have HBX:=hb1621;clear hb1621
      rename World=>V
      have M31:True:=trivial)
    |(have hK:=hK32
      clear hK32;go_simp;clear hHeld;refine aC (fun V1641 g1641 hV hg=>?_);rw [←hg];have hbN:=zB hV;have hg1641:V.heap.size≤g1641:=(by omega);have hl1641:=zL hV hg;have HM5:Hid (V1641.ownsRow w.heap.size 131 3 (.slice (some ⟨g1641,0,none⟩) 2 2) 2 (M [isM 0 x.i,isM 1 65535])):=zW hV hg HB.size (by decide) rfl;have hs1642:=hbN.size;have HBX:=hbN;clear hV hg hbN
      rename World=>V
      have M32:True:=trivial)
    |(have hK:=hK35
      clear hK35;go_simp;clear hHeld;have HBold:=HB.size;refine(pq S P A s1 p1 a1 s2 p2 a2 x _ (HC.out.below HB zr) hl).mono ?_;rintro e V1701 ⟨u,rfl,ho5,hb1701⟩;have hs1702:=hb1701.size;obtain⟨N5,hN5⟩:∃N,N=((P.filter (cn x)).flatMap ax).length:=⟨_,rfl⟩;rw [←hN5]at ho5;have HN5:=aa hN5;clear hN5;obtain⟨oo5,oc5,rfl⟩:=az ho5;have HD5:=aa (aA ho5 HBold);clear ho5 HBold;have HBX:=hb1701;clear hb1701
      rename World=>V
      have M35:True:=trivial)
    |(have hK:=hK36
      clear hK36;go_simp;clear hHeld;refine(bp _ _ _ _ _ _ _ _ _).mono ?_;rintro e V1721 ⟨rfl,hb1721⟩;have hs1722:=hb1721.size;have HBX:=hb1721;clear hb1721
      rename World=>V
      have M36:True:=trivial)
    |(have hK:=hK39
      clear hK39;go_simp;clear hHeld;refine(bK _ _ _).mono ?_;rintro e V1781 ⟨rfl,hb1781⟩;have hs1782:=hb1781.size;have HBX:=hb1781;clear hb1781
      rename World=>V
      have M39:True:=trivial)
    |(have hK:=hK42
      clear hK42;go_simp;clear hHeld;refine(bK _ _ _).mono ?_;rintro e V1841 ⟨rfl,hb1841⟩;have hs1842:=hb1841.size;have HBX:=hb1841;clear hb1841
      rename World=>V
      have M42:True:=trivial)
    |(have hK:=hK43
      clear hK43;go_simp;clear hHeld;refine aC (fun V1861 g1861 hV hg=>?_);rw [←hg];have hbN:=zB hV;have hg1861:V.heap.size≤g1861:=(by omega);have hl1861:=zL hV hg;have HM6:Hid (V1861.ownsRow w.heap.size 131 3 (.slice (some ⟨g1861,0,none⟩) 2 2) 2 (M [isM 8 x.s,isM 9 x.i])):=zW hV hg HB.size (by decide) rfl;have hs1862:=hbN.size;have HBX:=hbN;clear hV hg hbN
      rename World=>V
      have M43:True:=trivial)
    |(have hK:=hK46
      clear hK46;go_simp;clear hHeld;refine(bm _ _ _ _).mono ?_;rintro e V1921 ⟨rfl,hb1921⟩;have hs1922:=hb1921.size;have HBX:=hb1921;clear hb1921
      rename World=>V
      have M46:True:=trivial)
    |(have hK:=hK47
      clear hK47;go_simp;clear hHeld;refine aC (fun V1941 g1941 hV hg=>?_);rw [←hg];have hbN:=zB hV;have hg1941:V.heap.size≤g1941:=(by omega);have hl1941:=zL hV hg;have HD6:Hid (V1941.ownsRow w.heap.size 115 3 (.slice (some ⟨g1941,0,none⟩) 1 1) 1 (D [⟨5,0,x.i⟩])):=zW hV hg HB.size (by decide) rfl;have hs1942:=hbN.size;have HBX:=hbN;clear hV hg hbN
      rename World=>V
      have M47:True:=trivial)
    |(have hK:=hK48
      clear hK48;go_simp;clear hHeld;refine(bp _ _ _ _ _ _ _ _ _).mono ?_;rintro e V1961 ⟨rfl,hb1961⟩;have hs1962:=hb1961.size;have HBX:=hb1961;clear hb1961
      rename World=>V
      have M48:True:=trivial)
    |(have hK:=hK49
      clear hK49;go_simp;clear hHeld;refine aC (fun V1981 g1981 hV hg=>?_);rw [←hg];have hbN:=zB hV;have hg1981:V.heap.size≤g1981:=(by omega);have hl1981:=zL hV hg;have HF:Hid (FR V1981 w.heap.size (.slice (some ⟨g1981,0,none⟩) 6 6) (bT P x)):=by
       rw [hV,hg];refine aa (FR.lit (lo:=[⟨⟨0,0,bU x++cX,[⟨1,8,x.s⟩,aT 2]⟩,.slice (some ⟨g1083,0,none⟩) 7 c1083,.slice (some ⟨g1141,0,none⟩) 2 2⟩,⟨⟨0,0,bU x++cW 1,[⟨1,8,x.s⟩,aT 1]⟩,.slice (some ⟨g1263,0,none⟩) 8 c1263,.slice (some ⟨g1321,0,none⟩) 2 2⟩,⟨⟨1,1,[isM 0 x.i,isM 5 x.p],[]⟩,.slice (some ⟨g1441,0,none⟩) 2 2,.slice none 0 0⟩,⟨⟨3,1,[isM 0 x.i,isM 1 x.m],[]⟩,.slice (some ⟨g1561,0,none⟩) 2 2,.slice none 0 0⟩,⟨⟨3,0,[isM 0 x.i,isM 1 65535],(P.filter (cn x)).flatMap ax⟩,.slice (some ⟨g1641,0,none⟩) 2 2,.slice oo5 N5 oc5⟩,⟨⟨5,0,[isM 8 x.s,isM 9 x.i],[⟨5,0,x.i⟩]⟩,.slice (some ⟨g1861,0,none⟩) 2 2,.slice (some ⟨g1941,0,none⟩) 1 1⟩]) rfl rfl HB.size (by decide) (fun x hx=>?_));simp only [List.mem_cons,List.not_mem_nil,or_false]at hx;rcases hx with rfl | rfl | rfl | rfl | rfl | rfl
       ·exact fp HM1.out HD1.out (by simp [Value.ownBlock])
       ·exact fp HM2.out HD2.out (by simp [Value.ownBlock])
       ·exact fp HM3.out (World.ownsRow_nil _ _ _ _) (by simp [Value.ownBlock])
       ·exact fp HM4.out (World.ownsRow_nil _ _ _ _) (by simp [Value.ownBlock])
       ·exact fp HM5.out (by rw [←HN5.out];exact HD5.out) (by simp [Value.ownBlock])
       ·exact fp HM6.out HD6.out (by simp [Value.ownBlock])
      have hs1982:=hbN.size;have HBX:=hbN;clear hV hg hbN
      rename World=>V
      have M49:True:=trivial;have T49:True:=trivial)
  all_goals
   first
    |(replace k0:=zC k0 HBX
      replace⟨k1,k2,d0,d1,d2,d3,d4,m0⟩:=cR k1 k2 d0 d1 d2 d3 d4 m0 HBX;replace⟨m1,m2,e0,e1,e2⟩:=dB m1 m2 e0 e1 e2 HBX;(try replace q0:=zC q0 HBX);(try replace q1:=zC q1 HBX);(try replace r0:=zC r0 HBX);(try replace r1:=zC r1 HBX);(try replace HS1:=zO HS1 HBX);(try replace HT1:=zO HT1 HBX);(try replace HM1:=zO HM1 HBX);(try replace HD1:=zO HD1 HBX);(try replace HS2:=zO HS2 HBX);(try replace HT2:=zO HT2 HBX);(try replace HM2:=zO HM2 HBX);(try replace HD2:=zO HD2 HBX);(try replace HM3:=zO HM3 HBX);(try replace HM4:=zO HM4 HBX);(try replace HM5:=zO HM5 HBX);(try replace HD5:=zO HD5 HBX);(try replace HM6:=zO HM6 HBX);(try replace HD6:=zO HD6 HBX);(try replace HF:=aa (HF.out.below HBX zr));replace HB:=zT HB HBX;clear HBX)
  all_goals
   first
    |(refine hK.out _ _ ⟨k0,k1,k2,d0,d1,d2,d3,d4,m0,m1,m2,e0,e1,e2⟩ (fun hHeld=>?_)
      clear hK K;(try simp only [nz]))
  all_goals
   first
    |(clear T49
      refine tq 50 4 rfl (by kernel_rfl) (fun _ _ _ h=>h) rfl ‹_› (by intro w h;go_simp <;>with_reducible rfl) ?_;(try simp only [nz]))
    | skip
 all_goals
  refine wpAnyH_done (by kernel_rfl) ?_ _;clear hHeld;go_wp2_with fail
  go_ret;exact⟨_,rfl,HF.out,HB⟩
theorem kO (w:World) (a:Addr) (v:Value):w.grownBy (w.setCell a v) (some a.block):=⟨rfl,rfl,rfl,by simp,fun k _ hk=>heap_setCell_other w a k v (fun e=>hk (by simp [e]))⟩
theorem FR.set {w:World} {B:Nat} {u:Value} {fs:List Fl} (h:FR w B u fs) {a:Addr} (ha:a.block<B) (v:Value):FR (w.setCell a v) B u fs:=by
 obtain⟨lo,h1,h2,h3⟩:=h;have hg:=kO w a v;have far:∀y:Value,(∀g,y.ownBlock=some g→B≤g)→y.ownBlock=none∨y.ownBlock≠some a.block:=fun y hy=>by
  cases e:y.ownBlock with
  | none=>exact .inl rfl
  | some b=>exact .inr fun e'=>by have:=hy b e;simp at e';omega
 refine⟨lo,h1,h2.kept hg (far u (aS h2)),fun x hx=>?_⟩;obtain⟨k0,k1,k2,k3,k4⟩:=h3 x hx;exact⟨⟨k0.1.kept hg (far _ k3),k0.2.1.kept hg (far _ k4),fun g e=>by simpa using k0.2.2.1 g e,fun g e=>by simpa using k0.2.2.2 g e⟩,k1,k2,k3,k4⟩
theorem oB {B:Nat} {a w:World} (h:Below B a w) {p:Addr} (hp:B≤p.block) (v:Value):Below B a (w.setCell p v):=h.setCell hp v
def But (w w':World) (fb:Nat) (u:Value):Prop:=∀b o,b<w.heap.size→b≠fb→u.ownBlock≠some b→w'.cell? ⟨b,o,none⟩=w.cell? ⟨b,o,none⟩
theorem RowAt.but {α:Type} {C:α→List Value} {sz:Nat} {w w':World} {fb pk n cap:Nat} {u:Value} {l:List α} (h:RowAt C sz w (.slice (some ⟨pk,0,none⟩) n cap) l) (hb:But w w' fb u) (h1:pk≠fb) (h2:u.ownBlock≠some pk):RowAt C sz w' (.slice (some ⟨pk,0,none⟩) n cap) l:=by
 obtain⟨a,c,hv,hn,h0 |⟨b,off,ha,hc,hL⟩⟩:=h
 ·exact⟨a,c,hv,hn,.inl h0⟩
 ·refine⟨a,c,hv,hn,.inr ⟨b,off,ha,hc,fun i x hx j v hj=>?_⟩⟩;have e:=hL i x hx j v hj;simp only [Value.slice.injEq]at hv;obtain⟨e1,_,_⟩:=hv;rw [ha]at e1;simp only [Option.some.injEq,Addr.mk.injEq]at e1;obtain⟨rfl,_,_⟩:=e1;exact(hb _ _ (am e) h1 h2).trans e
theorem ze {u:Value} {H gq n c w0:Nat} (ha:u.ownBlock=some gq∨gq=H) (hH:w0≤H):∀b,b<w0→u.ownBlock≠some b→(Value.slice (some ⟨gq,0,none⟩) n c).ownBlock≠some b:=fun b hb hne e=>by
 have e2:gq=b:=by simpa [Value.ownBlock] using e
 subst e2;rcases ha with h | h
 ·exact hne h
 ·omega
theorem jo (s ip mac ch:Int) (fs:List Fl) (u:Value) (sb cb fb:Nat) (w:World) (hs:w.cell? ⟨sb,0,none⟩=some (.int .i64 s)) (hc:w.cell? ⟨cb,0,none⟩=some (.int .i64 ch)) (hf:w.cell? ⟨fb,0,none⟩=some u) (hz:w.frozen? ⟨fb,0,none⟩=false)
  (h1:sb<fb) (h2:cb<fb) (hR:FR w (fb+1) u fs) (hn:fs.length≤100000):
  Calls Tryz.prog 132 #[.int .i64 ip,.int .i64 mac,.pointer (some ⟨sb,0,none⟩),.pointer (some ⟨fb,0,none⟩),.pointer (some ⟨cb,0,none⟩)] w fun e w'=>(∃v,e= .returned v)∧(∃u',w'.cell? ⟨fb,0,none⟩=some u'∧w'.frozen? ⟨fb,0,none⟩=false∧FR w' (fb+1) u' (fs++ [bD s ip mac ch])∧∀b,b<w.heap.size→u.ownBlock≠some b→u'.ownBlock≠some b)∧But w w' fb u∧Below fb w w':=by
 obtain⟨iM,hiM,zM0,zM1,zM2⟩:=info_parts fh;obtain⟨iD,hiD,zD0,zD1,zD2⟩:=info_parts ga;obtain⟨iF,hiF,zF0,zF1,zF2⟩:=info_parts fD;obtain⟨lo,hlo,hown,hin⟩:=hR;have hfl:=am hf;have HLO:=aa hlo;have hlen:lo.length=fs.length:=by rw [←hlo,List.length_map]
 obtain⟨o,c,rfl⟩:=az hown;have HUB:=aa (fun g (e:(Value.slice o lo.length c).ownBlock=some g)=>dD hown e);have HOW:=aa hown;have HIN:=aa hin;have hN:lo.length≤100000:=by omega
 obtain⟨N,hNN⟩:∃N,N=lo.length:=⟨_,rfl⟩;rw [←hNN]at HOW hN hf HIN HUB⊢;have HNN:=aa hNN;clear hNN hlen hlo hown hin;go_enter Tryz.func132,Tryz.ntmps132;go_wp2_with fail
 have HB:Below w.heap.size w w:=Below.refl _ _;refine(bK _ _ _).mono ?_;rintro e W1 ⟨rfl,hbN⟩;replace hz:=zK hbN hf hz;replace⟨hs,hc,hf⟩:=ep hs hc hf hbN;replace HIN:=aa (fun x hx=>(HIN.out x hx).below hbN);replace HOW:=zO HOW hbN;replace HB:=zT HB hbN;clear hbN;go_wp2_with fail
 refine(bK _ _ _).mono ?_;rintro e W2 ⟨rfl,hbN⟩;replace hz:=zK hbN hf hz;replace⟨hs,hc,hf⟩:=ep hs hc hf hbN;replace HIN:=aa (fun x hx=>(HIN.out x hx).below hbN);replace HOW:=zO HOW hbN;replace HB:=zT HB hbN;clear hbN;go_wp2_with fail
 obtain⟨W3,hW⟩:∃W3,W3=W2.alloc (.cells #[.int .i64 8,.int .i64 65535,.int .i64 s,.int .i64 5,.int .i64 65535,.int .i64 ip] 131):=⟨_,rfl⟩;rw [←hW];obtain⟨gm,hgm⟩:∃gm,gm=W2.heap.size:=⟨_,rfl⟩;have HM:Hid (W3.ownsRow w.heap.size 131 3 (.slice (some ⟨gm,0,none⟩) 2 2) 2 (M [isM 8 s,isM 5 ip])):=by rw [hW,hgm];exact aa (World.ownsRow_lit W2 _ 2 HB.size (by decide) rfl)
 have hbN:Below W2.heap.size W2 W3:=by rw [hW];exact ak _ _
 rw [←hgm];replace hz:=zK hbN hf hz;replace⟨hs,hc,hf⟩:=ep hs hc hf hbN;replace HIN:=aa (fun x hx=>(HIN.out x hx).below hbN);replace HOW:=zO HOW hbN;replace HB:=zT HB hbN;clear hbN hW hgm;have hs0_1:=HB.size;refine wp_region_held_drew (S:=(fun w'=>w'.cell? ⟨sb,0,none⟩=some (.int .i64 s)∧w'.cell? ⟨cb,0,none⟩=some (.int .i64 ch))) (by kernel_rfl) ⟨hs,hc⟩ (fun hHeld=>?_);have HDW:Below W3.heap.size W3 W3.drew:=(Below.refl _ _).drew;have hs1:=HDW.size;replace hz:=zK HDW hf hz;replace⟨hs,hc,hf⟩:=ep hs hc hf HDW;replace HIN:=aa (fun x hx=>(HIN.out x hx).below HDW);replace HOW:=zO HOW HDW;replace HM:=zO HM HDW;replace HB:=zT HB HDW;clear HDW;generalize W3.drew=V at*;refine sqA [(1,15),(2,16),(3,17),(4,18)] ?_;(iterate 4 (refine sqN rfl (by kernel_rfl) (fun _ _ _ h=>h) rfl ‹_› (by intro w h;go_simp <;>with_reducible rfl) ?_;simp only [nz]));refine sqZ ?_
 iterate 6
  all_goals
   first
    |(replace M0:=M0;replace M5:=M5;replace M6:=M6;replace M7:=M7;replace M8:=M8;refine wpAnyH_ready (rs:=[9]) (by kernel_rfl) (by simp) ?_;refine(AllReadyH.cons (o:=⟨none,_,_,_,_,_⟩) rfl (fun K hK9=>?_) AllReadyH.nil))
    |(replace M0:=M0;replace M5:=M5;replace M6:=M6;replace M7:=M7;refine wpAnyH_ready (rs:=[8]) (by kernel_rfl) (by simp) ?_;refine(AllReadyH.cons (o:=⟨some 22,_,_,_,_,_⟩) rfl (fun K hK8=>?_) AllReadyH.nil))
    |(replace M0:=M0;replace M5:=M5;replace M6:=M6;refine wpAnyH_ready (rs:=[7]) (by kernel_rfl) (by simp) ?_;refine(AllReadyH.cons (o:=⟨some 21,_,_,_,_,_⟩) rfl (fun K hK7=>?_) AllReadyH.nil))
    |(replace M5:=M5;replace M6:=M6;replace M7:=M7;refine wpAnyH_ready (rs:=[0]) (by kernel_rfl) (by simp) ?_;refine(AllReadyH.cons (o:=⟨some 14,_,_,_,_,_⟩) rfl (fun K hK0=>?_) AllReadyH.nil))
    |(replace M0:=M0;replace M5:=M5;refine wpAnyH_ready (rs:=[6]) (by kernel_rfl) (by simp) ?_;refine(AllReadyH.cons (o:=⟨some 20,_,_,_,_,_⟩) rfl (fun K hK6=>?_) AllReadyH.nil))
    |(replace M5:=M5;replace M6:=M6;refine wpAnyH_ready (rs:=[0,7]) (by kernel_rfl) (by simp) ?_;refine(AllReadyH.cons (o:=⟨some 14,_,_,_,_,_⟩) rfl (fun K hK0=>?_) (AllReadyH.cons (o:=⟨some 21,_,_,_,_,_⟩) rfl (fun K hK7=>?_) AllReadyH.nil)))
    |(replace M0:=M0;refine wpAnyH_ready (rs:=[5]) (by kernel_rfl) (by simp) ?_;refine(AllReadyH.cons (o:=⟨some 19,_,_,_,_,_⟩) rfl (fun K hK5=>?_) AllReadyH.nil))
    |(replace M5:=M5;refine wpAnyH_ready (rs:=[0,6]) (by kernel_rfl) (by simp) ?_;refine(AllReadyH.cons (o:=⟨some 14,_,_,_,_,_⟩) rfl (fun K hK0=>?_) (AllReadyH.cons (o:=⟨some 20,_,_,_,_,_⟩) rfl (fun K hK6=>?_) AllReadyH.nil)))
    |(refine wpAnyH_ready (rs:=[0,5]) (by kernel_rfl) (by simp) ?_;refine(AllReadyH.cons (o:=⟨some 14,_,_,_,_,_⟩) rfl (fun K hK0=>?_) (AllReadyH.cons (o:=⟨some 19,_,_,_,_,_⟩) rfl (fun K hK5=>?_) AllReadyH.nil)))
  all_goals
   first
    |(have hK:=hK0
      clear hK0;go_simp;clear hHeld;have HGX:True:=trivial;have M0:True:=trivial)
    |(have hK:=hK5
      clear hK5;go_simp;clear hHeld;have HBold:=HB.size;refine(mt _ _ _ _).mono ?_;rintro e V1101 ⟨u1101,rfl,ho1101,hb1101⟩;have hs1102:=hb1101.size;obtain⟨g1103,c1103,rfl,hg1103,hl1103⟩:=bu ho1101 (by decide);have HD:=aa (aA ho1101 (Nat.le_trans HBold zr));clear ho1101 HBold;have HBX:=hb1101;clear hb1101
      rename World=>V
      have M5:True:=trivial)
    |(have hK:=hK6
      clear hK6;go_simp;clear hHeld;refine(bp _ _ _ _ _ _ _ _ _).mono ?_;rintro e V1121 ⟨rfl,hb1121⟩;have hs1122:=hb1121.size;have HBX:=hb1121;clear hb1121
      rename World=>V
      have M6:True:=trivial)
    |(have hK:=hK7
      clear hK7;go_simp;clear hHeld;refine aC (fun V1141 g1141 hV hg=>?_);rw [←hg];have hbN:=zB hV;have hg1141:V.heap.size≤g1141:=(by omega);have hl1141:=zL hV hg;have HX:Hid (V1141.ownsRow w.heap.size 135 4 (.slice (some ⟨g1141,0,none⟩) 1 1) 1 (C [⟨bD s ip mac ch,.slice (some ⟨gm,0,none⟩) 2 2,.slice (some ⟨g1103,0,none⟩) 7 c1103⟩])):=zW hV hg HB.size (by decide) rfl;have hs1142:=hbN.size;have HBX:=hbN;clear hV hg hbN
      rename World=>V
      have M7:True:=trivial)
    |(have hK:=hK8
      clear hK8;clear hHeld;have hsz:=HB.size;have HFV:Hid (FvIn V (fb+1) (.slice o N c) (⟨bD s ip mac ch,.slice (some ⟨gm,0,none⟩) 2 2,.slice (some ⟨g1103,0,none⟩) 7 c1103⟩:Fv)):=aa ((fp (f:=bD s ip mac ch) HM.out HD.out HUB.out).less (by omega));refine step_append_lies _ rfl (.tmp 14) (.tmp 21) 43 rfl (fb+1) 135 iF _ 4 64 Tryz.underlying43 hiF zF0 zF1 zF2 rfl (by decide) (.slice o N c) N _ rfl (ag HOW) ⟨g1141,0,none⟩ 1 1 _ rfl rfl (HX.out.cells rfl) (yr (fun y hy=>by rw [List.mem_singleton.1 hy];exact HFV.out)) (by decide) (by unfold maxLen;omega) (by omega) (by omega) _ rfl ?_;intro gq cq V1161 hoq hgr ha hlq;have hbA:Below (fb+1) V V1161:=(Below.refl _ _).grown hgr (by omega) (aS HOW.out);have HFR:Hid (FR V1161 (fb+1) (.slice (some ⟨gq,0,none⟩) (N+1) cq) (fs++ [bD s ip mac ch])):=by
       have:=FR.app (lo2:=[(⟨bD s ip mac ch,.slice (some ⟨gm,0,none⟩) 2 2,.slice (some ⟨g1103,0,none⟩) 7 c1103⟩:Fv)]) HIN.out (fun y hy=>by rw [List.mem_singleton.1 hy];exact HFV.out) hoq (by rw [HNN.out];rfl) hgr ha;rw [HLO.out]at this;exact aa this
      replace hz:=(hbA.frozen (p:=⟨fb,0,none⟩) (show fb<fb+1 by omega)).trans hz;replace hf:=(hbA.cell (p:=⟨fb,0,none⟩) (show fb<fb+1 by omega)).trans hf;replace hc:=(hbA.cell (p:=⟨cb,0,none⟩) (show cb<fb+1 by omega)).trans hc;replace hs:=(hbA.cell (p:=⟨sb,0,none⟩) (show sb<fb+1 by omega)).trans hs;have HBT:Hid (∀b j,b<w.heap.size→(Value.slice o N c).ownBlock≠some b→V1161.cell? ⟨b,j,none⟩=w.cell? ⟨b,j,none⟩):=aa (fun b j hb hne=>(hgr.cell_far ⟨b,j,none⟩ (Nat.lt_of_lt_of_le hb HB.size) (fun e=>hne e.symm)).trans (HB.cell (p:=⟨b,j,none⟩) hb));have HUB2:Hid (∀b,b<w.heap.size→(Value.slice o N c).ownBlock≠some b→(Value.slice (some ⟨gq,0,none⟩) (N+1) cq).ownBlock≠some b):=aa (ze ha HB.size);have HB2:Hid (Below fb w V1161):=aa ((HB.mono (by omega)).trans (hbA.mono (by omega)));clear hbA hoq hgr ha HOW HIN HX HM HD HFV HB HUB hsz;have HGX:True:=trivial
      rename World=>V
      have M8:True:=trivial)
    |(have hK:=hK9
      clear hK9;go_simp;clear hHeld;obtain⟨V1181,hV⟩:∃V1181,V1181=V.setCell ⟨fb,0,none⟩ (.slice (some ⟨gq,0,none⟩) (N+1) cq):=⟨_,rfl⟩;rw [←hV];have nf:V1181.cell? ⟨fb,0,none⟩=some (.slice (some ⟨gq,0,none⟩) (N+1) cq):=by rw [hV];exact World.cell?_setCell_same _ _ _ hf
      replace hc:V1181.cell? ⟨cb,0,none⟩=some (.int .i64 ch):=by rw [hV,World.cell?_setCell_other _ _ _ _ (by simp <;>omega)];exact hc
      replace hs:V1181.cell? ⟨sb,0,none⟩=some (.int .i64 s):=by rw [hV,World.cell?_setCell_other _ _ _ _ (by simp <;>omega)];exact hs
      replace hz:V1181.frozen? ⟨fb,0,none⟩=false:=by rw [hV,World.frozen?_setCell];exact hz
      replace HFR:Hid (FR V1181 (fb+1) (.slice (some ⟨gq,0,none⟩) (N+1) cq) (fs++ [bD s ip mac ch])):=by rw [hV];exact aa (HFR.out.set (by simp) _)
      replace HB2:Hid (Below fb w V1181):=by rw [hV];exact aa (oB HB2.out zr _)
      replace HBT:Hid (But w V1181 fb (.slice o N c)):=by rw [hV];exact aa (fun b j hb h1 h2=>(World.cell?_setCell_other _ _ _ _ (fun e=>h1 (by simpa using (congrArg Addr.block e).symm))).trans (HBT.out b j hb h2))
      clear hV hf;have HGX:True:=trivial
      rename World=>V
      have M9:True:=trivial)
  all_goals
   first
    |(replace hz:=zK HBX hf hz
      replace⟨hs,hc,hf⟩:=ep hs hc hf HBX;replace HIN:=aa (fun x hx=>(HIN.out x hx).below HBX);replace HOW:=zO HOW HBX;replace HM:=zO HM HBX;(try replace HD:=zO HD HBX);(try replace HX:=zO HX HBX);replace HB:=zT HB HBX;clear HBX)
    |(clear HGX)
  all_goals
   first
    |(refine hK.out _ _ ⟨hs,hc⟩ (fun hHeld=>?_)
      clear hK K;(try simp only [nz]))
 all_goals
  refine wpAnyH_done (by kernel_rfl) ?_ _;clear hHeld;(try go_wp2_with fail);go_end0;exact⟨⟨_,rfl⟩,⟨_,nf,hz,HFR.out,HUB2.out⟩,HBT.out,HB2.out⟩
def fP (Q:List Pr) (s:Sw) (ch:Int) (k:Nat):List Fl:=(if s.g=0 then []else [bD s.i s.g (60000+s.i) ch])++(Q.take k).map fun p=>bD s.i p.p p.m ch
theorem lZ {Q:List Pr} {s:Sw} {ch:Int} {k:Nat} (h:k<Q.length):fP Q s ch (k+1)=fP Q s ch k++ [bD s.i (Q.getD k pr0).p (Q.getD k pr0).m ch]:=by
 unfold fP;rw [List.take_succ_eq_append_getElem h,List.map_append, ←List.append_assoc];simp only [List.map_cons,List.map_nil,List.getD,List.getElem?_eq_getElem h,Option.getD_some]
theorem oO (Q:List Pr) (s:Sw) (ch:Int) (k:Nat):(fP Q s ch k).length≤k+1:=by
 have h:(Q.take k).length≤k:=by rw [List.length_take];omega
 unfold fP;split
 ·rw [List.nil_append,List.length_map];omega
 ·rw [List.length_append,List.length_map,List.length_singleton];omega
def uY (W wr:World) (Q:List Pr) (x:Sw) (ch:Int) (sb hb_ fb:Nat) (o:Option Addr) (c:Nat) (k:Nat):Prop:=
 ∃u,wr.cell? ⟨fb,0,none⟩=some u∧wr.frozen? ⟨fb,0,none⟩=false∧FR wr (fb+1) u (fP Q x ch k)∧wr.cell? ⟨sb,0,none⟩=some (.int .i64 x.i)∧wr.cell? ⟨hb_,0,none⟩=some (.int .i64 ch)∧ft wr (.slice o Q.length c) Q∧(∀ad,o=some ad→ad.block≠fb∧ad.block<wr.heap.size∧u.ownBlock≠some ad.block)∧Below fb W wr
theorem uG {w:World} {B e sz n m c:Nat} {o:Option Addr} {xs:List Value} (h:w.ownsRow B e sz (.slice o m c) n xs):∀ad,o=some ad→B≤ad.block∧ad.block<w.heap.size:=fun ad e=>by
 subst e;exact⟨aS h _ rfl,dD h rfl⟩
theorem RowAt.but2 {α:Type} {C:α→List Value} {sz:Nat} {w w':World} {fb n cap:Nat} {u:Value} {o:Option Addr} {l:List α} (h:RowAt C sz w (.slice o n cap) l) (hb:But w w' fb u) (h1:∀ad,o=some ad→ad.block≠fb∧u.ownBlock≠some ad.block):RowAt C sz w' (.slice o n cap) l:=by
 obtain⟨a,c,hv,hn,h0 |⟨b,off,ha,hc,hL⟩⟩:=h
 ·exact⟨a,c,hv,hn,.inl h0⟩
 ·refine⟨a,c,hv,hn,.inr ⟨b,off,ha,hc,fun i x hx j v hj=>?_⟩⟩;have e:=hL i x hx j v hj;simp only [Value.slice.injEq]at hv;obtain⟨e1,_,_⟩:=hv;have h2:=h1 _ (e1.trans ha);exact(hb _ _ (am e) h2.1 h2.2).trans e
theorem pr (S:List Sw) (P:List Pr) (A:List Ac) (s1 p1 a1:Option Addr) (s2 p2 a2:Nat) (x:Sw) (ch:Int) (w:World) (hC:CfAt w (.slice s1 S.length s2) (.slice p1 P.length p2) (.slice a1 A.length a2) S P A) (hl:P.length≤1000) (hx0:0≤x.i) (hx1:x.i≤100000):
  Calls Tryz.prog 80 #[.agg #[.slice s1 S.length s2,.slice p1 P.length p2,.slice a1 A.length a2],.agg #[.int .i64 x.i,.int .i64 x.t,.int .i64 x.g],.int .i64 ch] w fun e w'=>∃u,e= .returned u∧FR w' w.heap.size u (eP P x ch)∧Below w.heap.size w w':=by
 have HP:=aa hC.2.1;clear hC;obtain⟨Q,hQ⟩:∃Q,Q=P.filter (bZ x.i):=⟨_,rfl⟩;have HQL:Q.length≤1000:=by rw [hQ];exact Nat.le_trans (List.length_filter_le _ _) hl
 have HAQ:Hid (eP P x ch=fP Q x ch Q.length):=by
  refine aa ?_;unfold eP fP;rw [List.take_length,hQ]
 have HQ:=aa hQ;clear hQ;go_enter Tryz.func80,Tryz.ntmps80;by_cases hg0:x.g=0
 ·have hgc:(x.g != 0)=false:=(by simp [hg0]);have HG0:=aa hg0;clear hg0;go_wp2_with fail
  obtain⟨W0,hW⟩:∃W0,W0=w.alloc (.cells #[.slice s1 S.length s2,.slice p1 P.length p2,.slice a1 A.length a2] 26):=⟨_,rfl⟩;rw [←hW];obtain⟨cb,hblk⟩:∃cb,cb=w.heap.size:=⟨_,rfl⟩;have k0:W0.cell? ⟨cb,0,none⟩=some (.slice s1 S.length s2):=zN2 hW hblk rfl;have k1:W0.cell? ⟨cb,1,none⟩=some (.slice p1 P.length p2):=zN2 hW hblk rfl;have k2:W0.cell? ⟨cb,2,none⟩=some (.slice a1 A.length a2):=zN2 hW hblk rfl;have hbN:Below w.heap.size w W0:=by rw [hW];exact ak _ _
  have hzW0:W0.heap.size=cb+1:=by rw [hW,hblk];simp
  have hcbl:w.heap.size≤cb:=(by omega);rw [←hblk];clear hW hblk;have HB:=hbN;clear hbN;obtain⟨W1,hW⟩:∃W1,W1=W0.alloc (.cells #[.int .i64 x.i,.int .i64 x.t,.int .i64 x.g] 60):=⟨_,rfl⟩;rw [←hW];obtain⟨sb,hblk⟩:∃sb,sb=cb+1:=⟨_,rfl⟩;have d0:W1.cell? ⟨sb,0,none⟩=some (.int .i64 x.i):=zN2 hW (hblk.trans hzW0.symm) rfl;have d1:W1.cell? ⟨sb,1,none⟩=some (.int .i64 x.t):=zN2 hW (hblk.trans hzW0.symm) rfl;have d2:W1.cell? ⟨sb,2,none⟩=some (.int .i64 x.g):=zN2 hW (hblk.trans hzW0.symm) rfl;have hbN:Below W0.heap.size W0 W1:=by rw [hW];exact ak _ _
  have hzW1:W1.heap.size=sb+1:=by rw [hW,hblk];simp [hzW0]
  have hsbl:cb<sb:=(by omega);rw [←hblk];clear hW hblk hzW0;replace⟨k0,k1,k2⟩:=ep k0 k1 k2 hbN;replace HB:=zT HB hbN;clear hbN;obtain⟨W2,hW⟩:∃W2,W2=W1.alloc (.cells #[.int .i64 ch] 3):=⟨_,rfl⟩;rw [←hW];obtain⟨hb_,hblk⟩:∃hb_,hb_=sb+1:=⟨_,rfl⟩;have h0:W2.cell? ⟨hb_,0,none⟩=some (.int .i64 ch):=zN2 hW (hblk.trans hzW1.symm) rfl;have hbN:Below W1.heap.size W1 W2:=by rw [hW];exact ak _ _
  have hzW2:W2.heap.size=hb_+1:=by rw [hW,hblk];simp [hzW1]
  have hhb_l:sb<hb_:=(by omega);rw [←hblk];clear hW hblk hzW1;replace⟨k0,k1,k2,d0,d1,d2⟩:=em k0 k1 k2 d0 d1 d2 hbN;replace HB:=zT HB hbN;clear hbN;obtain⟨W3,hW⟩:∃W3,W3=W2.alloc (.cells #[.slice none 0 0] 43):=⟨_,rfl⟩;rw [←hW];obtain⟨fb,hblk⟩:∃fb,fb=hb_+1:=⟨_,rfl⟩;have f0:W3.cell? ⟨fb,0,none⟩=some (.slice none 0 0):=zN2 hW (hblk.trans hzW2.symm) rfl;have zf:W3.frozen? ⟨fb,0,none⟩=false:=by rw [hW,hblk];exact fy W2 _ hzW2 _ _ _
  have hbN:Below W2.heap.size W2 W3:=by rw [hW];exact ak _ _
  have hzW3:W3.heap.size=fb+1:=by rw [hW,hblk];simp [hzW2]
  have hfbl:hb_<fb:=(by omega);rw [←hblk];clear hW hblk hzW2;replace⟨k0,k1,k2,d0,d1,d2⟩:=em k0 k1 k2 d0 d1 d2 hbN;replace h0:=zC h0 hbN;replace HB:=zT HB hbN;clear hbN;have hs3:w.heap.size≤cb:=(by omega);have hq1:cb<fb:=(by omega);have hq2:sb<fb:=(by omega);have hq3:hb_<fb:=(by omega);have hq4:fb<W3.heap.size:=(by omega);clear hzW3;have HF0:Hid (FR W3 (fb+1) (.slice none 0 0) (fP Q x ch 0)):=by
   have:fP Q x ch 0= []:=(by simp [fP,HG0.out]);rw [this];exact aa (FR.nil _ _)
  have HUL:Hid (∀g,(Value.slice none 0 0).ownBlock=some g→g<W3.heap.size):=aa (by simp [Value.ownBlock]);clear hgc;have hs0_5:=HB.size;refine wp_region_held_drew (S:=(fun w'=>w'.cell? ⟨cb,0,none⟩=some (.slice s1 S.length s2)∧w'.cell? ⟨cb,1,none⟩=some (.slice p1 P.length p2)∧w'.cell? ⟨cb,2,none⟩=some (.slice a1 A.length a2)∧w'.cell? ⟨sb,0,none⟩=some (.int .i64 x.i)∧w'.cell? ⟨sb,1,none⟩=some (.int .i64 x.t)∧w'.cell? ⟨sb,2,none⟩=some (.int .i64 x.g))) (by kernel_rfl) ⟨k0,k1,k2,d0,d1,d2⟩ (fun hHeld=>?_);have HDW:Below W3.heap.size W3 W3.drew:=(Below.refl _ _).drew;have hs1:=HDW.size;replace zf:=zK HDW f0 zf;replace⟨k0,k1,k2,d0,d1,d2,h0,f0⟩:=cR k0 k1 k2 d0 d1 d2 h0 f0 HDW;replace HF0:=aa (HF0.out.below HDW zr);replace HB:=zT HB HDW;clear HDW;generalize W3.drew=V2 at*;refine sqA [(0,22),(1,23),(2,24),(6,28)] ?_;(iterate 4 (refine sqN rfl (by kernel_rfl) (fun _ _ _ h=>h) rfl ‹_› (by intro w h;go_simp <;>with_reducible rfl) ?_;simp only [nz]));refine sqZ ?_;refine rsq 3 25 (by kernel_rfl) rfl (fun K hK=>?_);go_simp;clear hHeld;refine(iL x _).mono ?_;rintro e V3 ⟨ob,rfl,hc1,hb3⟩;have hs4:=hb3.size;replace zf:=zK hb3 f0 zf;replace⟨k0,k1,k2,d0,d1,d2,h0,f0⟩:=cR k0 k1 k2 d0 d1 d2 h0 f0 hb3;replace HF0:=aa (HF0.out.below hb3 zr);replace HB:=zT HB hb3;have c0:=hc1;clear hc1;clear hb3;refine hK.out _ _ ⟨k0,k1,k2,d0,d1,d2⟩ (fun hHeld=>?_);clear hK K;(try simp only [nz]);refine rsq 4 26 (by kernel_rfl) rfl (fun K hK=>?_);go_simp;clear hHeld;refine(dg P (bZ x.i) _ _ _ _ (RowAt.below HP.out HB zr) (gE c0) jR hl).mono ?_;rintro e V5 ⟨u,rfl,hor,hb5⟩;have hs6:=hb5.size;replace zf:=zK hb5 f0 zf;replace⟨k0,k1,k2,d0,d1,d2,h0,f0⟩:=cR k0 k1 k2 d0 d1 d2 h0 f0 hb5;replace c0:=zC c0 hb5;replace HF0:=aa (HF0.out.below hb5 zr);replace HB:=zT HB hb5;obtain⟨o,c,rfl⟩:=az hor;have HRL:=aa (uG hor);have HR:=aa hor;clear hor;clear hb5;refine hK.out _ _ ⟨k0,k1,k2,d0,d1,d2⟩ (fun hHeld=>?_);clear hK K;(try simp only [nz]);refine tq 5 27 rfl (by kernel_rfl) (fun _ _ _ h=>h) rfl ‹_› (by intro w h;go_simp <;>with_reducible rfl) ?_;simp only [nz];refine wpAnyH_done (by kernel_rfl) ?_ _;clear hHeld;rw [←HQ.out]at HR⊢;have HQP:=aa (RowAt.of_own et (by decide) HR.out);have HAR:Hid (uY V5 V5 Q x ch sb hb_ fb o c 0):=by
   refine aa ⟨_,f0,zf,HF0.out,d0,h0,HQP.out,fun ad had=>?_,Below.refl _ _⟩;obtain⟨h1,h2⟩:=HRL.out ad had;refine⟨by omega,h2,fun e=>?_⟩;have h3:=HUL.out _ e;omega
  have HRB:Hid (Below w.heap.size w V5):=aa HB;clear HB HP HQ HR HRL HQP HUL HF0 zf k0 k1 k2 d0 d1 d2 h0 f0 c0;go_wp2_with fail
  go_loopw [28] (fun i wr=>∃k:Nat,k≤Q.length∧i= .int .i64 k∧Hid (uY V5 wr Q x ch sb hb_ fb o c k)) (fun i _=>Q.length-(intOf i).toNat)
  case atStart=>exact⟨0,by omega,rfl,HAR⟩
  case round=>
   clear HAR;obtain⟨k,hk,rfl,HA⟩:=hrel;obtain⟨uu,f0,z0,hFR,d0,h0,hQP,hpk,hbr⟩:=HA.out;have HFR:=aa hFR;have HPK:=aa hpk;clear hFR hpk HA;by_cases hlt:k<Q.length
   ·obtain⟨pk,off,cap,e1,hcap, -,g0,g1,g2,g3,g4⟩:=eO hQP hlt;simp only [Value.slice.injEq,true_and]at e1;obtain⟨rfl,rfl⟩:=e1;have HQP:=aa hQP;clear hQP;have HNX:=aa (lZ (s:=x) (ch:=ch) hlt);have HLN:=aa (oO Q x ch k);generalize (Q.getD k pr0).i=y0 at*;generalize (Q.getD k pr0).s=y1 at*;generalize (Q.getD k pr0).m=y2 at*;generalize (Q.getD k pr0).p=y3 at*;generalize (Q.getD k pr0).c=y4 at*;have q1:(0:Int)≤(k:Int):=(by omega);have q2:(k:Int)<(Q.length:Int):=(by omega);obtain⟨W9,hW9⟩:∃W9,W9=wr.alloc (.cells #[.int .i64 y0,.int .i64 y1,.int .i64 y2,.int .i64 y3,.int .i64 y4] 51):=⟨_,rfl⟩;have hbW:Below wr.heap.size wr W9:=by rw [hW9];exact ak _ _
    have hfl:=am f0;go_wp2_with fail
    rw [←hW9];clear hW9;replace z0:=(hbW.frozen (p:=⟨fb,0,none⟩) hfl).trans z0;replace⟨f0,d0,h0⟩:=ep f0 d0 h0 hbW;replace HFR:=aa (HFR.out.below hbW zr);replace HQP:=aa (RowAt.below HQP.out hbW zr);have hbr2:=hbr.trans (hbW.mono (Nat.le_of_lt hfl));have hsz:=hbW.size;clear g0 g1 g2 g3 g4;refine(jo _ _ _ _ _ _ _ _ _ _ d0 h0 f0 z0 hq2 hq3 HFR.out (by have:=HLN.out;omega)).mono ?_;rintro e w1 ⟨⟨v,rfl⟩,⟨u1,f1,z1,hF1,hub⟩,hbut,hbF⟩;have HE:Hid (uY V5 w1 Q x ch sb hb_ fb (some ⟨pk,off,none⟩) c (k+1)):=by
     refine aa ⟨u1,f1,z1,by rw [HNX.out];exact hF1,(hbF.cell (p:=⟨sb,0,none⟩) hq2).trans d0,(hbF.cell (p:=⟨hb_,0,none⟩) hq3).trans h0,?_,?_,hbr2.trans hbF⟩
     ·exact RowAt.but2 HQP.out hbut (fun ad e=>⟨(HPK.out ad e).1,(HPK.out ad e).2.2⟩)
     ·intro ad e2;obtain⟨n1,n2,n3⟩:=HPK.out ad e2;have n4:=hbF.size;exact⟨n1,by omega,hub ad.block (by omega) n3⟩
    clear hF1 hub hbut hbF d0 h0 f0 z0 f1 z1 HFR HQP HPK hbr hbr2 hbW;go_wp2_with fail
    go_roundw
    case rel=>exact⟨k+1,by omega,by go_num,HE⟩
    case measure=>simp [intOf];omega
   ·obtain rfl:k=Q.length:=(by omega);rw [←HAQ.out]at HFR;have HB2:=aa (HRB.out.trans (hbr.mono (by omega)));have HF2:=aa (HFR.out.less (B':=w.heap.size) (by omega));obtain⟨uo,uc,rfl⟩:=HFR.out.slc;clear hQP HPK;go_wp2_with fail
    go_ret;exact⟨_,rfl,HF2.out,HB2.out⟩
 ·have hgc:(x.g != 0)=true:=(by simp [hg0]);have HG0:=aa hg0;clear hg0;go_wp2_with fail
  obtain⟨W0,hW⟩:∃W0,W0=w.alloc (.cells #[.slice s1 S.length s2,.slice p1 P.length p2,.slice a1 A.length a2] 26):=⟨_,rfl⟩;rw [←hW];obtain⟨cb,hblk⟩:∃cb,cb=w.heap.size:=⟨_,rfl⟩;have k0:W0.cell? ⟨cb,0,none⟩=some (.slice s1 S.length s2):=zN2 hW hblk rfl;have k1:W0.cell? ⟨cb,1,none⟩=some (.slice p1 P.length p2):=zN2 hW hblk rfl;have k2:W0.cell? ⟨cb,2,none⟩=some (.slice a1 A.length a2):=zN2 hW hblk rfl;have hbN:Below w.heap.size w W0:=by rw [hW];exact ak _ _
  have hzW0:W0.heap.size=cb+1:=by rw [hW,hblk];simp
  have hcbl:w.heap.size≤cb:=(by omega);rw [←hblk];clear hW hblk;have HB:=hbN;clear hbN;obtain⟨W1,hW⟩:∃W1,W1=W0.alloc (.cells #[.int .i64 x.i,.int .i64 x.t,.int .i64 x.g] 60):=⟨_,rfl⟩;rw [←hW];obtain⟨sb,hblk⟩:∃sb,sb=cb+1:=⟨_,rfl⟩;have d0:W1.cell? ⟨sb,0,none⟩=some (.int .i64 x.i):=zN2 hW (hblk.trans hzW0.symm) rfl;have d1:W1.cell? ⟨sb,1,none⟩=some (.int .i64 x.t):=zN2 hW (hblk.trans hzW0.symm) rfl;have d2:W1.cell? ⟨sb,2,none⟩=some (.int .i64 x.g):=zN2 hW (hblk.trans hzW0.symm) rfl;have hbN:Below W0.heap.size W0 W1:=by rw [hW];exact ak _ _
  have hzW1:W1.heap.size=sb+1:=by rw [hW,hblk];simp [hzW0]
  have hsbl:cb<sb:=(by omega);rw [←hblk];clear hW hblk hzW0;replace⟨k0,k1,k2⟩:=ep k0 k1 k2 hbN;replace HB:=zT HB hbN;clear hbN;obtain⟨W2,hW⟩:∃W2,W2=W1.alloc (.cells #[.int .i64 ch] 3):=⟨_,rfl⟩;rw [←hW];obtain⟨hb_,hblk⟩:∃hb_,hb_=sb+1:=⟨_,rfl⟩;have h0:W2.cell? ⟨hb_,0,none⟩=some (.int .i64 ch):=zN2 hW (hblk.trans hzW1.symm) rfl;have hbN:Below W1.heap.size W1 W2:=by rw [hW];exact ak _ _
  have hzW2:W2.heap.size=hb_+1:=by rw [hW,hblk];simp [hzW1]
  have hhb_l:sb<hb_:=(by omega);rw [←hblk];clear hW hblk hzW1;replace⟨k0,k1,k2,d0,d1,d2⟩:=em k0 k1 k2 d0 d1 d2 hbN;replace HB:=zT HB hbN;clear hbN;obtain⟨W3,hW⟩:∃W3,W3=W2.alloc (.cells #[.slice none 0 0] 43):=⟨_,rfl⟩;rw [←hW];obtain⟨fb,hblk⟩:∃fb,fb=hb_+1:=⟨_,rfl⟩;have f0:W3.cell? ⟨fb,0,none⟩=some (.slice none 0 0):=zN2 hW (hblk.trans hzW2.symm) rfl;have zf:W3.frozen? ⟨fb,0,none⟩=false:=by rw [hW,hblk];exact fy W2 _ hzW2 _ _ _
  have hbN:Below W2.heap.size W2 W3:=by rw [hW];exact ak _ _
  have hzW3:W3.heap.size=fb+1:=by rw [hW,hblk];simp [hzW2]
  have hfbl:hb_<fb:=(by omega);rw [←hblk];clear hW hblk hzW2;replace⟨k0,k1,k2,d0,d1,d2⟩:=em k0 k1 k2 d0 d1 d2 hbN;replace h0:=zC h0 hbN;replace HB:=zT HB hbN;clear hbN;have hs3:w.heap.size≤cb:=(by omega);have hq1:cb<fb:=(by omega);have hq2:sb<fb:=(by omega);have hq3:hb_<fb:=(by omega);have hq4:fb<W3.heap.size:=(by omega);clear hzW3;clear hgc;have hs0_4:=HB.size;refine wp_region_held_drew (S:=(fun w'=>w'.cell? ⟨sb,0,none⟩=some (.int .i64 x.i)∧w'.cell? ⟨sb,1,none⟩=some (.int .i64 x.t)∧w'.cell? ⟨sb,2,none⟩=some (.int .i64 x.g))) (by kernel_rfl) ⟨d0,d1,d2⟩ (fun hHeld=>?_);have HDW:Below W3.heap.size W3 W3.drew:=(Below.refl _ _).drew;have hs1:=HDW.size;replace zf:=zK HDW f0 zf;replace⟨k0,k1,k2,d0,d1,d2,h0,f0⟩:=cR k0 k1 k2 d0 d1 d2 h0 f0 HDW;replace HB:=zT HB HDW;clear HDW;generalize W3.drew=V2 at*;refine sqA [(0,15),(1,16),(2,17),(3,18),(4,19)] ?_;(iterate 5 (refine sqN rfl (by kernel_rfl) (fun _ _ _ h=>h) rfl ‹_› (by intro w h;go_simp <;>with_reducible rfl) ?_;simp only [nz]));refine sqZ ?_;refine rsq 5 20 (by kernel_rfl) rfl (fun K hK=>?_);go_simp;clear hHeld;refine(gL _ _ hx0 hx1).mono ?_;rintro e VR ⟨rfl,hVV⟩;rw [hVV];clear hVV;refine hK.out _ _ ⟨d0,d1,d2⟩ (fun hHeld=>?_);clear hK K;(try simp only [nz]);refine rsq 6 21 (by kernel_rfl) rfl (fun K hK=>?_);go_simp;clear hHeld;refine(jo _ _ _ _ [] _ _ _ _ _ d0 h0 f0 zf hq2 hq3 (FR.nil _ _) (by simp)).mono ?_;rintro e W4 ⟨⟨v,rfl⟩,⟨u1,f1,z1,hF1,hub⟩,hbut,hbF⟩;clear hub hbut;replace k0:=(hbF.cell (p:=⟨cb,0,none⟩) (show cb<fb by omega)).trans k0;replace k1:=(hbF.cell (p:=⟨cb,1,none⟩) (show cb<fb by omega)).trans k1;replace k2:=(hbF.cell (p:=⟨cb,2,none⟩) (show cb<fb by omega)).trans k2;replace d0:=(hbF.cell (p:=⟨sb,0,none⟩) (show sb<fb by omega)).trans d0;replace d1:=(hbF.cell (p:=⟨sb,1,none⟩) (show sb<fb by omega)).trans d1;replace d2:=(hbF.cell (p:=⟨sb,2,none⟩) (show sb<fb by omega)).trans d2;replace h0:=(hbF.cell (p:=⟨hb_,0,none⟩) (show hb_<fb by omega)).trans h0;replace HB:=HB.trans (hbF.mono (by omega));have zf:=z1;clear z1 hbF f0;have hq5:=am f1;refine hK.out _ _ ⟨d0,d1,d2⟩ (fun hHeld=>?_);clear hK K;(try simp only [nz]);refine wpAnyH_done (by kernel_rfl) ?_ _;clear hHeld;have HF1:Hid (FR W4 (fb+1) u1 (fP Q x ch 0)):=by
   have:fP Q x ch 0= []++ [bD x.i x.g (60000+x.i) ch]:=(by simp [fP,HG0.out]);rw [this];exact aa hF1
  have HUL:Hid (∀g,u1.ownBlock=some g→g<W4.heap.size):=aa HF1.out.lt;clear hF1;obtain⟨uo,uc,rfl⟩:=HF1.out.slc;go_wp2_with fail
  have hs0_5:=HB.size;refine wp_region_held_drew (S:=(fun w'=>w'.cell? ⟨cb,0,none⟩=some (.slice s1 S.length s2)∧w'.cell? ⟨cb,1,none⟩=some (.slice p1 P.length p2)∧w'.cell? ⟨cb,2,none⟩=some (.slice a1 A.length a2)∧w'.cell? ⟨sb,0,none⟩=some (.int .i64 x.i)∧w'.cell? ⟨sb,1,none⟩=some (.int .i64 x.t)∧w'.cell? ⟨sb,2,none⟩=some (.int .i64 x.g))) (by kernel_rfl) ⟨k0,k1,k2,d0,d1,d2⟩ (fun hHeld=>?_);have HDW:Below W4.heap.size W4 W4.drew:=(Below.refl _ _).drew;have hs1:=HDW.size;replace zf:=zK HDW f1 zf;replace⟨k0,k1,k2,d0,d1,d2,h0,f1⟩:=cR k0 k1 k2 d0 d1 d2 h0 f1 HDW;replace HF1:=aa (HF1.out.below HDW zr);replace HB:=zT HB HDW;clear HDW;generalize W4.drew=V2 at*;refine sqA [(0,22),(1,23),(2,24),(6,28)] ?_;(iterate 4 (refine sqN rfl (by kernel_rfl) (fun _ _ _ h=>h) rfl ‹_› (by intro w h;go_simp <;>with_reducible rfl) ?_;simp only [nz]));refine sqZ ?_;refine rsq 3 25 (by kernel_rfl) rfl (fun K hK=>?_);go_simp;clear hHeld;refine(iL x _).mono ?_;rintro e V3 ⟨ob,rfl,hc1,hb3⟩;have hs4:=hb3.size;replace zf:=zK hb3 f1 zf;replace⟨k0,k1,k2,d0,d1,d2,h0,f1⟩:=cR k0 k1 k2 d0 d1 d2 h0 f1 hb3;replace HF1:=aa (HF1.out.below hb3 zr);replace HB:=zT HB hb3;have c0:=hc1;clear hc1;clear hb3;refine hK.out _ _ ⟨k0,k1,k2,d0,d1,d2⟩ (fun hHeld=>?_);clear hK K;(try simp only [nz]);refine rsq 4 26 (by kernel_rfl) rfl (fun K hK=>?_);go_simp;clear hHeld;refine(dg P (bZ x.i) _ _ _ _ (RowAt.below HP.out HB zr) (gE c0) jR hl).mono ?_;rintro e V5 ⟨u,rfl,hor,hb5⟩;have hs6:=hb5.size;replace zf:=zK hb5 f1 zf;replace⟨k0,k1,k2,d0,d1,d2,h0,f1⟩:=cR k0 k1 k2 d0 d1 d2 h0 f1 hb5;replace c0:=zC c0 hb5;replace HF1:=aa (HF1.out.below hb5 zr);replace HB:=zT HB hb5;obtain⟨o,c,rfl⟩:=az hor;have HRL:=aa (uG hor);have HR:=aa hor;clear hor;clear hb5;refine hK.out _ _ ⟨k0,k1,k2,d0,d1,d2⟩ (fun hHeld=>?_);clear hK K;(try simp only [nz]);refine tq 5 27 rfl (by kernel_rfl) (fun _ _ _ h=>h) rfl ‹_› (by intro w h;go_simp <;>with_reducible rfl) ?_;simp only [nz];refine wpAnyH_done (by kernel_rfl) ?_ _;clear hHeld;rw [←HQ.out]at HR⊢;have HQP:=aa (RowAt.of_own et (by decide) HR.out);have HAR:Hid (uY V5 V5 Q x ch sb hb_ fb o c 0):=by
   refine aa ⟨_,f1,zf,HF1.out,d0,h0,HQP.out,fun ad had=>?_,Below.refl _ _⟩;obtain⟨h1,h2⟩:=HRL.out ad had;refine⟨by omega,h2,fun e=>?_⟩;have h3:=HUL.out _ e;omega
  have HRB:Hid (Below w.heap.size w V5):=aa HB;clear HB HP HQ HR HRL HQP HUL HF1 zf k0 k1 k2 d0 d1 d2 h0 f1 c0;go_wp2_with fail
  go_loopw [28] (fun i wr=>∃k:Nat,k≤Q.length∧i= .int .i64 k∧Hid (uY V5 wr Q x ch sb hb_ fb o c k)) (fun i _=>Q.length-(intOf i).toNat)
  case atStart=>exact⟨0,by omega,rfl,HAR⟩
  case round=>
   clear HAR;obtain⟨k,hk,rfl,HA⟩:=hrel;obtain⟨uu,f0,z0,hFR,d0,h0,hQP,hpk,hbr⟩:=HA.out;have HFR:=aa hFR;have HPK:=aa hpk;clear hFR hpk HA;by_cases hlt:k<Q.length
   ·obtain⟨pk,off,cap,e1,hcap, -,g0,g1,g2,g3,g4⟩:=eO hQP hlt;simp only [Value.slice.injEq,true_and]at e1;obtain⟨rfl,rfl⟩:=e1;have HQP:=aa hQP;clear hQP;have HNX:=aa (lZ (s:=x) (ch:=ch) hlt);have HLN:=aa (oO Q x ch k);generalize (Q.getD k pr0).i=y0 at*;generalize (Q.getD k pr0).s=y1 at*;generalize (Q.getD k pr0).m=y2 at*;generalize (Q.getD k pr0).p=y3 at*;generalize (Q.getD k pr0).c=y4 at*;have q1:(0:Int)≤(k:Int):=(by omega);have q2:(k:Int)<(Q.length:Int):=(by omega);obtain⟨W9,hW9⟩:∃W9,W9=wr.alloc (.cells #[.int .i64 y0,.int .i64 y1,.int .i64 y2,.int .i64 y3,.int .i64 y4] 51):=⟨_,rfl⟩;have hbW:Below wr.heap.size wr W9:=by rw [hW9];exact ak _ _
    have hfl:=am f0;go_wp2_with fail
    rw [←hW9];clear hW9;replace z0:=(hbW.frozen (p:=⟨fb,0,none⟩) hfl).trans z0;replace⟨f0,d0,h0⟩:=ep f0 d0 h0 hbW;replace HFR:=aa (HFR.out.below hbW zr);replace HQP:=aa (RowAt.below HQP.out hbW zr);have hbr2:=hbr.trans (hbW.mono (Nat.le_of_lt hfl));have hsz:=hbW.size;clear g0 g1 g2 g3 g4;refine(jo _ _ _ _ _ _ _ _ _ _ d0 h0 f0 z0 hq2 hq3 HFR.out (by have:=HLN.out;omega)).mono ?_;rintro e w1 ⟨⟨v,rfl⟩,⟨u1,f1,z1,hF1,hub⟩,hbut,hbF⟩;have HE:Hid (uY V5 w1 Q x ch sb hb_ fb (some ⟨pk,off,none⟩) c (k+1)):=by
     refine aa ⟨u1,f1,z1,by rw [HNX.out];exact hF1,(hbF.cell (p:=⟨sb,0,none⟩) hq2).trans d0,(hbF.cell (p:=⟨hb_,0,none⟩) hq3).trans h0,?_,?_,hbr2.trans hbF⟩
     ·exact RowAt.but2 HQP.out hbut (fun ad e=>⟨(HPK.out ad e).1,(HPK.out ad e).2.2⟩)
     ·intro ad e2;obtain⟨n1,n2,n3⟩:=HPK.out ad e2;have n4:=hbF.size;exact⟨n1,by omega,hub ad.block (by omega) n3⟩
    clear hF1 hub hbut hbF d0 h0 f0 z0 f1 z1 HFR HQP HPK hbr hbr2 hbW;go_wp2_with fail
    go_roundw
    case rel=>exact⟨k+1,by omega,by go_num,HE⟩
    case measure=>simp [intOf];omega
   ·obtain rfl:k=Q.length:=(by omega);rw [←HAQ.out]at HFR;have HB2:=aa (HRB.out.trans (hbr.mono (by omega)));have HF2:=aa (HFR.out.less (B':=w.heap.size) (by omega));obtain⟨uo,uc,rfl⟩:=HFR.out.slc;clear hQP HPK;go_wp2_with fail
    go_ret;exact⟨_,rfl,HF2.out,HB2.out⟩
theorem FR.ge {w:World} {B:Nat} {u:Value} {fs:List Fl} (h:FR w B u fs):∀g,u.ownBlock=some g→B≤g:=by
 obtain⟨lo,h1,h2,h3⟩:=h;exact aS h2
theorem qJ {o:Oper} {a:Act} {K:Act→World→Prop} {Q:Exit→Act→World→Prop} {w:World} (s x:Operand)
  (ho:o.op= .call {callee:=.builtin .append,args:= #[s,x],argTypes:= #[43,43]}) (B:Nat) (v:Value) (fs:List Fl) (hs:a.eval s=v) (hF:FR w B v fs) (ad:Addr) (m c:Nat) (lo2:List Fv)
  (hx:a.eval x= .slice (some ad) m c) (hm:lo2.length=m) (hnews:∀j u,(C lo2)[j]? =some u→w.cell? (ad.add j)=some u) (ok2:∀y∈lo2,FvIn w B v y) (hm0:0<m) (hlen:fs.length+m≤1000000) (hB:B≤w.heap.size)
  (h:∀g cap w',FR w' B (.slice (some ⟨g,0,none⟩) (fs.length+m) cap) (fs++lo2.map Fv.f)→w.grownBy w' v.ownBlock→(v.ownBlock=some g∨g=w.heap.size)→K (a.put o.dst (.slice (some ⟨g,0,none⟩) (fs.length+m) cap)) w'):o.wp Tryz.prog a w K Q:=by
 obtain⟨iF,hiF,zF0,zF1,zF2⟩:=info_parts fD;obtain⟨lo,h1,h2,h3⟩:=hF;have hl:lo.length=fs.length:=by rw [←h1,List.length_map]
 rw [hl]at h2;refine wp_append_lies w s x 43 ho B 135 iF _ 4 64 Tryz.underlying43 hiF zF0 zF1 zF2 rfl (by decide) v fs.length (C lo) hs h2 ad m c (C lo2) hx (by rw [tT,hm]) hnews (yr ok2) hm0 (by unfold maxLen;omega) (by omega) hB _ rfl ?_;intro g cap w' ho' hg ha _;refine h g cap w' ?_ hg ha;have:=FR.app h3 ok2 ho' (by omega) hg ha;rw [h1]at this;exact this
theorem dS {ops:Array Oper} {rest:List Oper} {o:Oper} {a:Act} {Q:Exit→Act→World→Prop} {w:World} (hgd:o.guard=none) (s x:Operand)
  (ho:o.op= .call {callee:=.builtin .append,args:= #[s,x],argTypes:= #[43,43]}) (B:Nat) (v:Value) (fs:List Fl) (hs:a.eval s=v) (hF:FR w B v fs) (ad:Addr) (m c:Nat) (lo2:List Fv)
  (hx:a.eval x= .slice (some ad) m c) (hm:lo2.length=m) (hnews:∀j u,(C lo2)[j]? =some u→w.cell? (ad.add j)=some u) (ok2:∀y∈lo2,FvIn w B v y) (hm0:0<m) (hlen:fs.length+m≤1000000) (hB:B≤w.heap.size)
  (h:∀g cap w',FR w' B (.slice (some ⟨g,0,none⟩) (fs.length+m) cap) (fs++lo2.map Fv.f)→w.grownBy w' v.ownBlock→(v.ownBlock=some g∨g=w.heap.size)→wpList Tryz.prog ops Q rest (a.put o.dst (.slice (some ⟨g,0,none⟩) (fs.length+m) cap)) w'):wpList Tryz.prog ops Q (o::rest) a w:=
 wpList_plain hgd fun _ hK=>qJ s x ho B v fs hs hF ad m c lo2 hx hm hnews ok2 hm0 hlen hB fun g cap w' h1 h2 h3=>hK _ _ (h g cap w' h1 h2 h3)
theorem tL {ops:Array Oper} {o:Oper} {a:Act} {K:Act→World→Prop} {Q:Exit→Act→World→Prop} {E:Prop} {w:World} (hgd:o.guard=none) (s x:Operand)
  (ho:o.op= .call {callee:=.builtin .append,args:= #[s,x],argTypes:= #[43,43]}) (B:Nat) (v:Value) (fs:List Fl) (hs:a.eval s=v) (hF:FR w B v fs) (ad:Addr) (m c:Nat) (lo2:List Fv)
  (hx:a.eval x= .slice (some ad) m c) (hm:lo2.length=m) (hnews:∀j u,(C lo2)[j]? =some u→w.cell? (ad.add j)=some u) (ok2:∀y∈lo2,FvIn w B v y) (hm0:0<m) (hlen:fs.length+m≤1000000) (hB:B≤w.heap.size)
  (h:∀g cap w',FR w' B (.slice (some ⟨g,0,none⟩) (fs.length+m) cap) (fs++lo2.map Fv.f)→w.grownBy w' v.ownBlock→(v.ownBlock=some g∨g=w.heap.size)→K (a.put o.dst (.slice (some ⟨g,0,none⟩) (fs.length+m) cap)) w'):
  if Region.wanted o (yielded ops a.tmps)=true then Oper.wp Tryz.prog o a w K Q else E:=by
 have hw:Region.wanted o (yielded ops a.tmps)=true:=by simp [Region.wanted,hgd]
 rw [if_pos hw];exact qJ s x ho B v fs hs hF ad m c lo2 hx hm hnews ok2 hm0 hlen hB h
def dq (Q:List Pr) (s:Int) (k:Nat):List Fl:=(Q.take k).map fun p=>⟨3,0,[isM 8 s,isM 1 p.m],ax p⟩
theorem nP {Q:List Pr} {s:Int} {k:Nat} (h:k<Q.length):dq Q s (k+1)=dq Q s k++ [⟨3,0,[isM 8 s,isM 1 (Q.getD k pr0).m],ax (Q.getD k pr0)⟩]:=by
 unfold dq;rw [List.take_succ_eq_append_getElem h,List.map_append];simp only [List.map_cons,List.map_nil,List.getD,List.getElem?_eq_getElem h,Option.getD_some]
theorem pT (Q:List Pr) (s:Int) (k:Nat):(dq Q s k).length≤k:=by
 unfold dq;rw [List.length_map,List.length_take];omega
theorem lu (S:List Sw) (P:List Pr) (A:List Ac) (s1 p1 a1:Option Addr) (s2 p2 a2:Nat) (x:Sw) (w:World) (hC:CfAt w (.slice s1 S.length s2) (.slice p1 P.length p2) (.slice a1 A.length a2) S P A) (hl:P.length≤1000) (hx0:0≤x.i) (hx1:x.i≤100000):
  Calls Tryz.prog 83 #[.agg #[.slice s1 S.length s2,.slice p1 P.length p2,.slice a1 A.length a2],.agg #[.int .i64 x.i,.int .i64 x.t,.int .i64 x.g]] w fun e w'=>∃u,e= .returned u∧FR w' w.heap.size u (bL P x)∧Below w.heap.size w w':=by
 have HP:=aa hC.2.1;clear hC;obtain⟨Q,hQ⟩:∃Q,Q=P.filter fun p=>bZ x.i p&&aw p:=⟨_,rfl⟩;have HQL:Q.length≤1000:=by rw [hQ];exact Nat.le_trans (List.length_filter_le _ _) hl
 have HAQ:Hid (bL P x=dq Q x.i Q.length):=by
  refine aa ?_;unfold bL dq;rw [List.take_length,hQ]
 have HQ:=aa hQ;clear hQ;go_enter Tryz.func83,Tryz.ntmps83;go_wp2_with fail
 obtain⟨W0,hW⟩:∃W0,W0=w.alloc (.cells #[.slice s1 S.length s2,.slice p1 P.length p2,.slice a1 A.length a2] 26):=⟨_,rfl⟩;rw [←hW];obtain⟨cb,hblk⟩:∃cb,cb=w.heap.size:=⟨_,rfl⟩;have k0:W0.cell? ⟨cb,0,none⟩=some (.slice s1 S.length s2):=zN2 hW hblk rfl;have k1:W0.cell? ⟨cb,1,none⟩=some (.slice p1 P.length p2):=zN2 hW hblk rfl;have k2:W0.cell? ⟨cb,2,none⟩=some (.slice a1 A.length a2):=zN2 hW hblk rfl;have hbN:Below w.heap.size w W0:=by rw [hW];exact ak _ _
 have hzW0:W0.heap.size=cb+1:=by rw [hW,hblk];simp
 have hcbl:w.heap.size≤cb:=by omega
 rw [←hblk];clear hW hblk;have HB:=hbN;clear hbN;obtain⟨W1,hW⟩:∃W1,W1=W0.alloc (.cells #[.int .i64 x.i,.int .i64 x.t,.int .i64 x.g] 60):=⟨_,rfl⟩;rw [←hW];obtain⟨sb,hblk⟩:∃sb,sb=cb+1:=⟨_,rfl⟩;have d0:W1.cell? ⟨sb,0,none⟩=some (.int .i64 x.i):=zN2 hW (hblk.trans hzW0.symm) rfl;have d1:W1.cell? ⟨sb,1,none⟩=some (.int .i64 x.t):=zN2 hW (hblk.trans hzW0.symm) rfl;have d2:W1.cell? ⟨sb,2,none⟩=some (.int .i64 x.g):=zN2 hW (hblk.trans hzW0.symm) rfl;have hbN:Below W0.heap.size W0 W1:=by rw [hW];exact ak _ _
 have hzW1:W1.heap.size=sb+1:=by rw [hW,hblk];simp [hzW0]
 have hsbl:cb<sb:=by omega
 rw [←hblk];clear hW hblk hzW0;replace⟨k0,k1,k2⟩:=ep k0 k1 k2 hbN;replace HB:=zT HB hbN;clear hbN;have hsb:=am d0;clear hzW1;have hs0_2:=HB.size;refine wp_region_held_drew (S:=(fun w'=>w'.cell? ⟨cb,0,none⟩=some (.slice s1 S.length s2)∧w'.cell? ⟨cb,1,none⟩=some (.slice p1 P.length p2)∧w'.cell? ⟨cb,2,none⟩=some (.slice a1 A.length a2)∧w'.cell? ⟨sb,0,none⟩=some (.int .i64 x.i)∧w'.cell? ⟨sb,1,none⟩=some (.int .i64 x.t)∧w'.cell? ⟨sb,2,none⟩=some (.int .i64 x.g))) (by kernel_rfl) ⟨k0,k1,k2,d0,d1,d2⟩ (fun hHeld=>?_);have HDW:Below W1.heap.size W1 W1.drew:=(Below.refl _ _).drew;have hs1:=HDW.size;replace⟨k0,k1,k2,d0,d1,d2⟩:=em k0 k1 k2 d0 d1 d2 HDW;replace HB:=zT HB HDW;clear HDW;generalize W1.drew=V2 at*;refine sqA [(0,9),(1,10),(2,11),(7,16)] ?_;(iterate 4 (refine sqN rfl (by kernel_rfl) (fun _ _ _ h=>h) rfl ‹_› (by intro w h;go_simp <;>with_reducible rfl) ?_;simp only [nz]));refine sqZ ?_;refine rsq 3 12 (by kernel_rfl) rfl (fun K hK=>?_);go_simp;clear hHeld;refine(iL x _).mono ?_;rintro e V3 ⟨ob,rfl,hc1,hb3⟩;have hs4:=hb3.size;replace⟨k0,k1,k2,d0,d1,d2⟩:=em k0 k1 k2 d0 d1 d2 hb3;replace HB:=zT HB hb3;have c0:=hc1;clear hc1;clear hb3;refine hK.out _ _ ⟨k0,k1,k2,d0,d1,d2⟩ (fun hHeld=>?_);clear hK K;(try simp only [nz]);refine rsq 4 13 (by kernel_rfl) rfl (fun K hK=>?_);go_simp;clear hHeld;refine(mE _ _ _ _ _).mono ?_;rintro e V5 ⟨bb,bc,rfl,hc1,hc2,hb5⟩;have hs6:=hb5.size;replace⟨k0,k1,k2,d0,d1,d2⟩:=em k0 k1 k2 d0 d1 d2 hb5;replace c0:=zC c0 hb5;replace HB:=zT HB hb5;have b0:=hc1;have b1:=hc2;clear hc1 hc2;clear hb5;refine hK.out _ _ ⟨k0,k1,k2,d0,d1,d2⟩ (fun hHeld=>?_);clear hK K;(try simp only [nz]);refine rsq 5 14 (by kernel_rfl) rfl (fun K hK=>?_);go_simp;clear hHeld;refine(dg P (fun p=>bZ x.i p&&aw p) _ _ _ _ (RowAt.below HP.out HB zr) (jv b0 b1 (gE c0) (jg _) jR mP) mr hl).mono ?_;rintro e V7 ⟨u,rfl,hor,hb7⟩;have hs8:=hb7.size;replace⟨k0,k1,k2,d0,d1,d2,c0,b0⟩:=cR k0 k1 k2 d0 d1 d2 c0 b0 hb7;replace b1:=zC b1 hb7;replace HB:=zT HB hb7;obtain⟨o,c,rfl⟩:=az hor;have HR:=aa hor;clear hor;clear hb7;refine hK.out _ _ ⟨k0,k1,k2,d0,d1,d2⟩ (fun hHeld=>?_);clear hK K;(try simp only [nz]);refine tq 6 15 rfl (by kernel_rfl) (fun _ _ _ h=>h) rfl ‹_› (by intro w h;go_simp <;>with_reducible rfl) ?_;simp only [nz];refine wpAnyH_done (by kernel_rfl) ?_ _;clear hHeld;rw [←HQ.out]at HR⊢;have HRB:Hid (Below w.heap.size w V7):=aa HB;have hs9:=HB.size;clear HB HP HQ k0 k1 k2 c0 b0 b1;go_wp2_with fail
 go_loopw [5,16] (fun v i wr=>∃k:Nat,k≤Q.length∧i= .int .i64 k∧Hid (FR wr V7.heap.size v (dq Q x.i k))∧Below V7.heap.size V7 wr) (fun _ i _=>Q.length-(intOf i).toNat)
 case atStart=>exact⟨0,by omega,rfl,aa (FR.nil _ _),Below.refl _ _⟩
 case round=>
  obtain⟨k,hk,rfl,HF,hbr⟩:=hrel;by_cases hlt:k<Q.length
  ·obtain⟨b,off,cap,e1,hcap, -,g0,g1,g2,g3,g4⟩:=eO (RowAt.below (RowAt.of_own et (by decide) HR.out) hbr zr) hlt;simp only [Value.slice.injEq,true_and]at e1;obtain⟨rfl,rfl⟩:=e1;have HNX:=aa (nP (s:=x.i) hlt);have hln:=pT Q x.i k;obtain⟨vo,vc,rfl⟩:=HF.out.slc;have HTD:Hid (ax (Q.getD k pr0)=ax ⟨(Q.getD k pr0).i,(Q.getD k pr0).s,(Q.getD k pr0).m,(Q.getD k pr0).p,(Q.getD k pr0).c⟩):=rfl;rw [HTD.out]at HNX;clear HTD;generalize (Q.getD k pr0).i=y0 at*;generalize (Q.getD k pr0).s=y1 at*;generalize (Q.getD k pr0).m=y2 at*;generalize (Q.getD k pr0).p=y3 at*;generalize (Q.getD k pr0).c=y4 at*;generalize hFK:dq Q x.i k=FK at*;have HFK:=aa hFK;clear hFK;obtain⟨N,hN⟩:∃N,N=FK.length:=⟨_,rfl⟩;rw [←hN]at HF hln⊢;have HNN:=aa hN;clear hN;have q1:(0:Int)≤(k:Int):=(by omega);have q2:(k:Int)<(Q.length:Int):=(by omega);have e0:=zC d0 hbr;have e1:=zC d1 hbr;have e2:=zC d2 hbr;have hx3:=am e0;have hx4:¬sb=wr.heap.size:=(by omega);go_wp2_with fail
   clear hx4;obtain⟨W9,hW9⟩:∃W9,W9=wr.alloc (.cells #[.int .i64 y0,.int .i64 y1,.int .i64 y2,.int .i64 y3,.int .i64 y4] 51):=⟨_,rfl⟩;rw [←hW9];obtain⟨pb,hpb⟩:∃pb,pb=wr.heap.size:=⟨_,rfl⟩;have p0:W9.cell? ⟨pb,0,none⟩=some (.int .i64 y0):=zN2 hW9 hpb rfl;have p1:W9.cell? ⟨pb,1,none⟩=some (.int .i64 y1):=zN2 hW9 hpb rfl;have p2:W9.cell? ⟨pb,2,none⟩=some (.int .i64 y2):=zN2 hW9 hpb rfl;have p3:W9.cell? ⟨pb,3,none⟩=some (.int .i64 y3):=zN2 hW9 hpb rfl;have p4:W9.cell? ⟨pb,4,none⟩=some (.int .i64 y4):=zN2 hW9 hpb rfl;have HB:Below wr.heap.size wr W9:=by rw [hW9];exact ak _ _
   replace⟨e0,e1,e2⟩:=ep e0 e1 e2 HB;have HFv:=aa (HF.out.below HB zr);have HUB:=aa HF.out.lt;rw [←hpb];clear hW9 hpb HF g0 g1 g2 g3 g4;have hs0_5:=HB.size;refine wp_region_held_drew (S:=(fun w'=>w'.cell? ⟨sb,0,none⟩=some (.int .i64 x.i)∧w'.cell? ⟨sb,1,none⟩=some (.int .i64 x.t)∧w'.cell? ⟨sb,2,none⟩=some (.int .i64 x.g)∧w'.cell? ⟨pb,0,none⟩=some (.int .i64 y0)∧w'.cell? ⟨pb,1,none⟩=some (.int .i64 y1)∧w'.cell? ⟨pb,2,none⟩=some (.int .i64 y2)∧w'.cell? ⟨pb,3,none⟩=some (.int .i64 y3)∧w'.cell? ⟨pb,4,none⟩=some (.int .i64 y4))) (by kernel_rfl) ⟨e0,e1,e2,p0,p1,p2,p3,p4⟩ (fun hHeld=>?_);have HDW:Below W9.heap.size W9 W9.drew:=(Below.refl _ _).drew;have hs101:=HDW.size;replace⟨e0,e1,e2,p0,p1,p2,p3,p4⟩:=cR e0 e1 e2 p0 p1 p2 p3 p4 HDW;replace HFv:=aa (HFv.out.below HDW zr);replace HB:=zT HB HDW;clear HDW;generalize W9.drew=V102 at*;refine sqA [(0,20),(1,21),(3,23),(4,24)] ?_;(iterate 4 (refine sqN rfl (by kernel_rfl) (fun _ _ _ h=>h) rfl ‹_› (by intro w h;go_simp <;>with_reducible rfl) ?_;simp only [nz]));refine sqZ ?_;refine rsq 2 22 (by kernel_rfl) rfl (fun K hK=>?_);go_simp;clear hHeld;refine(bK _ _ _).mono ?_;rintro e V103 ⟨rfl,hb103⟩;have hs104:=hb103.size;replace⟨e0,e1,e2,p0,p1,p2,p3,p4⟩:=cR e0 e1 e2 p0 p1 p2 p3 p4 hb103;replace HFv:=aa (HFv.out.below hb103 zr);replace HB:=zT HB hb103;clear hb103;refine hK.out _ _ ⟨e0,e1,e2,p0,p1,p2,p3,p4⟩ (fun hHeld=>?_);clear hK K;(try simp only [nz]);refine rsq 5 25 (by kernel_rfl) rfl (fun K hK=>?_);go_simp;clear hHeld;refine(bK _ _ _).mono ?_;rintro e V105 ⟨rfl,hb105⟩;have hs106:=hb105.size;replace⟨e0,e1,e2,p0,p1,p2,p3,p4⟩:=cR e0 e1 e2 p0 p1 p2 p3 p4 hb105;replace HFv:=aa (HFv.out.below hb105 zr);replace HB:=zT HB hb105;clear hb105;refine hK.out _ _ ⟨e0,e1,e2,p0,p1,p2,p3,p4⟩ (fun hHeld=>?_);clear hK K;(try simp only [nz]);refine rsq 6 26 (by kernel_rfl) rfl (fun K hK=>?_);go_simp;clear hHeld;refine aC (fun V107 g107 hV hg=>?_);rw [←hg];have hbN:=zB hV;have hg107:V105.heap.size≤g107:=(by omega);have hl107:=zL hV hg;have HM:Hid (V107.ownsRow wr.heap.size 131 3 (.slice (some ⟨g107,0,none⟩) 2 2) 2 (M [isM 8 x.i,isM 1 y2])):=zW hV hg HB.size (by decide) rfl;have hs108:=hbN.size;replace⟨e0,e1,e2,p0,p1,p2,p3,p4⟩:=cR e0 e1 e2 p0 p1 p2 p3 p4 hbN;replace HFv:=aa (HFv.out.below hbN zr);replace HB:=zT HB hbN;clear hV hg hbN;refine hK.out _ _ ⟨e0,e1,e2,p0,p1,p2,p3,p4⟩ (fun hHeld=>?_);clear hK K;(try simp only [nz]);refine tq 7 8 rfl (by kernel_rfl) (fun _ _ _ h=>h) rfl ‹_› (by intro w h;go_simp <;>with_reducible rfl) ?_;simp only [nz];refine wpAnyH_done (by kernel_rfl) ?_ _;clear hHeld;go_wp2_with fail
   have HBold:=HB.size;refine(jk _ _ _ _ _ _).mono ?_;rintro e V109 ⟨u109,rfl,ho109,hb109⟩;have hs110:=hb109.size;replace⟨e0,e1,e2,p0,p1,p2,p3,p4⟩:=cR e0 e1 e2 p0 p1 p2 p3 p4 hb109;replace HM:=zO HM hb109;replace HFv:=aa (HFv.out.below hb109 zr);replace HB:=zT HB hb109;obtain⟨g111,c111,rfl,hg111,hl111⟩:=bu ho109 (by decide);have HD:=aa (aA ho109 (Nat.le_trans HBold zr));clear ho109 HBold;clear hb109;go_wp2_with fail
   refine(bp _ _ _ _ _ _ _ _ _).mono ?_;rintro e V112 ⟨rfl,hb112⟩;have hs113:=hb112.size;replace⟨e0,e1,e2,p0,p1,p2,p3,p4⟩:=cR e0 e1 e2 p0 p1 p2 p3 p4 hb112;replace HM:=zO HM hb112;replace HD:=zO HD hb112;replace HFv:=aa (HFv.out.below hb112 zr);replace HB:=zT HB hb112;clear hb112;obtain⟨WA,hWA⟩:∃WA,WA=V112.alloc (.cells #[.int .i64 3,.int .i64 0,.slice (some ⟨g107,0,none⟩) 2 2,.slice (some ⟨g111,0,none⟩) 2 c111] 135):=⟨_,rfl⟩;have hbN:Below V112.heap.size V112 WA:=by rw [hWA];exact ak _ _
   have NEWS:Hid (∀j u,(C [(⟨⟨3,0,[isM 8 x.i,isM 1 y2],ax ⟨y0,y1,y2,y3,y4⟩⟩,.slice (some ⟨g107,0,none⟩) 2 2,.slice (some ⟨g111,0,none⟩) 2 c111⟩:Fv)])[j]? =some u→WA.cell? ((⟨V112.heap.size,0,none⟩:Addr).add j)=some u):=by rw [hWA];exact aa (eA V112 _ _)
   have HFV:Hid (FvIn WA V7.heap.size (.slice vo N vc) (⟨⟨3,0,[isM 8 x.i,isM 1 y2],ax ⟨y0,y1,y2,y3,y4⟩⟩,.slice (some ⟨g107,0,none⟩) 2 2,.slice (some ⟨g111,0,none⟩) 2 c111⟩:Fv)):=aa (((fp (f:=⟨3,0,[isM 8 x.i,isM 1 y2],ax ⟨y0,y1,y2,y3,y4⟩⟩) HM.out HD.out HUB.out).below hbN).less hbr.size);replace HFv:=aa (HFv.out.below hbN zr);replace HB:=zT HB hbN;have hsA:V7.heap.size≤WA.heap.size:=Nat.le_trans hbr.size HB.size;have HWA:Hid (V112.alloc (.cells #[.int .i64 3,.int .i64 0,.slice (some ⟨g107,0,none⟩) 2 2,.slice (some ⟨g111,0,none⟩) 2 c111] 135)=WA):=hWA.symm;clear hWA hbN;go_wp2_with (at_builtin;rw [ag HWA];refine dS rfl _ _ rfl V7.heap.size (.slice vo N vc) FK rfl (ag HFv) ⟨V112.heap.size,0,none⟩ 1 1 [(⟨⟨3,0,[isM 8 x.i,isM 1 y2],ax ⟨y0,y1,y2,y3,y4⟩⟩,.slice (some ⟨g107,0,none⟩) 2 2,.slice (some ⟨g111,0,none⟩) 2 c111⟩:Fv)] rfl rfl (ag NEWS) (fun y hy=>by rw [List.mem_singleton.1 hy];exact HFV.out) (by decide) (by rw [←HNN.out];omega) hsA ?_)
   intro gq cq wq hfq hgq _;have hb3:Below V7.heap.size V7 wq:=(hbr.trans (HB.mono hbr.size)).grown hgq hsA HFv.out.ge;have HE:Hid (FR wq V7.heap.size (.slice (some ⟨gq,0,none⟩) (FK.length+1) cq) (dq Q x.i (k+1))):=by rw [HNX.out];exact aa hfq
   clear hfq hgq HFv NEWS HFV HWA HUB HNX HB hbr e0 e1 e2 p0 p1 p2 p3 p4 HM HD;rw [←HNN.out]at HE⊢;go_wp2_with fail
   go_roundw
   case rel=>exact⟨k+1,by omega,by go_num,HE,hb3⟩
   case measure=>simp [intOf];omega
  ·obtain rfl:k=Q.length:=(by omega);rw [←HAQ.out]at HF;have HB2:=aa (HRB.out.trans (hbr.mono hs9));have HF2:=aa (HF.out.less (B':=w.heap.size) hs9);obtain⟨uo,uc,rfl⟩:=HF.out.slc;go_wp2_with fail
   go_ret;exact⟨_,rfl,HF2.out,HB2.out⟩
theorem pd {a b c:World} {g:Nat} {v:Value} (h1:a.grownBy b (some g)) (h2:b.grownBy c v.ownBlock) (hv:∀k,v.ownBlock=some k→k=g∨a.heap.size≤k):a.grownBy c (some g):=
 ⟨h2.os.trans h1.os,h2.tape.trans h1.tape,h2.output.trans h1.output,Nat.le_trans h1.size h2.size,fun k hk hne=>(h2.block k (Nat.lt_of_lt_of_le hk h1.size) (fun e=>by
  rcases hv k e.symm with h | h
  ·exact hne (by rw [h])
  ·omega)).trans (h1.block k hk hne)⟩
theorem dd {a b c:World} {g:Nat} (h1:a.grownBy b (some g)) (h2:Below b.heap.size b c):a.grownBy c (some g):=
 ⟨h2.os.trans h1.os,h2.tape.trans h1.tape,h2.output.trans h1.output,Nat.le_trans h1.size h2.size,fun k hk hne=>(h2.block k (Nat.lt_of_lt_of_le hk h1.size)).trans (h1.block k hk hne)⟩
def dX (Q:List Pr) (s:Sw) (k:Nat):List Fl:=⟨3,1,aX s++ [⟨6,65534,0⟩],[]⟩::(Q.take k).map fun p=>⟨3,0,aX s++ [isM 5 p.p],cK p++ax p⟩
theorem pV {Q:List Pr} {s:Sw} {k:Nat} (h:k<Q.length):dX Q s (k+1)=dX Q s k++ [⟨3,0,aX s++ [isM 5 (Q.getD k pr0).p],cK (Q.getD k pr0)++ax (Q.getD k pr0)⟩]:=by
 unfold dX;rw [List.take_succ_eq_append_getElem h,List.map_append];simp only [List.map_cons,List.map_nil,List.getD,List.getElem?_eq_getElem h,Option.getD_some,List.cons_append]
theorem rA (Q:List Pr) (s:Sw) (k:Nat):(dX Q s k).length≤k+1:=by
 unfold dX;rw [List.length_cons,List.length_map,List.length_take];omega
theorem mh (S:List Sw) (P:List Pr) (A:List Ac) (s1 p1 a1:Option Addr) (s2 p2 a2:Nat) (x:Sw) (w:World) (hC:CfAt w (.slice s1 S.length s2) (.slice p1 P.length p2) (.slice a1 A.length a2) S P A) (hl:P.length≤1000) (hx0:0≤x.i) (hx1:x.i≤100000) (hP:∀p∈P,0≤p.s∧p.s≤100000) (hS:S.length≤1000):
  Calls Tryz.prog 84 #[.agg #[.slice s1 S.length s2,.slice p1 P.length p2,.slice a1 A.length a2],.agg #[.int .i64 x.i,.int .i64 x.t,.int .i64 x.g]] w fun e w'=>∃u,e= .returned u∧FR w' w.heap.size u (bG S P x)∧Below w.heap.size w w':=by
 have HP:=aa hC.2.1;have HSW:=aa hC.1;have HPB:=aa hP;clear hC hP;obtain⟨Q,hQ⟩:∃Q,Q=P.filter fun p=>cw S x.t p&&aw p:=⟨_,rfl⟩;have HQL:Q.length≤1000:=by rw [hQ];exact Nat.le_trans (List.length_filter_le _ _) hl
 have HQB:Hid (∀p∈Q,0≤p.s∧p.s≤100000):=aa (fun p hp=>HPB.out p (by rw [hQ]at hp;exact(List.mem_filter.1 hp).1));have HAQ:Hid (¬x.g=0→bG S P x=dX Q x Q.length):=by
  refine aa (fun h=>?_);unfold bG dX;rw [if_neg h,List.take_length,hQ]
 have HQ:=aa hQ;clear hQ HPB;go_enter Tryz.func84,Tryz.ntmps84;by_cases hg0:x.g=0
 ·have hgc:(x.g==0)=true:=(by simp [hg0]);have HG0:Hid (bG S P x= []):=by
   refine aa ?_;unfold bG;rw [if_pos hg0]
  clear hg0;go_wp2_with fail
  go_ret;exact⟨_,rfl,by rw [HG0.out];exact FR.nil _ _,((Below.refl _ _).alloc zr _).alloc (by simp) _⟩
 ·have hgc:(x.g==0)=false:=(by simp [hg0]);replace HAQ:=aa (HAQ.out hg0);clear hg0;go_wp2_with fail
  obtain⟨W0,hW⟩:∃W0,W0=w.alloc (.cells #[.slice s1 S.length s2,.slice p1 P.length p2,.slice a1 A.length a2] 26):=⟨_,rfl⟩;rw [←hW];obtain⟨cb,hblk⟩:∃cb,cb=w.heap.size:=⟨_,rfl⟩;have k0:W0.cell? ⟨cb,0,none⟩=some (.slice s1 S.length s2):=zN2 hW hblk rfl;have k1:W0.cell? ⟨cb,1,none⟩=some (.slice p1 P.length p2):=zN2 hW hblk rfl;have k2:W0.cell? ⟨cb,2,none⟩=some (.slice a1 A.length a2):=zN2 hW hblk rfl;have hbN:Below w.heap.size w W0:=by rw [hW];exact ak _ _
  have hzW0:W0.heap.size=cb+1:=by rw [hW,hblk];simp
  have hcbl:w.heap.size≤cb:=(by omega);rw [←hblk];clear hW hblk;have HB:=hbN;clear hbN;obtain⟨W1,hW⟩:∃W1,W1=W0.alloc (.cells #[.int .i64 x.i,.int .i64 x.t,.int .i64 x.g] 60):=⟨_,rfl⟩;rw [←hW];obtain⟨sb,hblk⟩:∃sb,sb=cb+1:=⟨_,rfl⟩;have d0:W1.cell? ⟨sb,0,none⟩=some (.int .i64 x.i):=zN2 hW (hblk.trans hzW0.symm) rfl;have d1:W1.cell? ⟨sb,1,none⟩=some (.int .i64 x.t):=zN2 hW (hblk.trans hzW0.symm) rfl;have d2:W1.cell? ⟨sb,2,none⟩=some (.int .i64 x.g):=zN2 hW (hblk.trans hzW0.symm) rfl;have hbN:Below W0.heap.size W0 W1:=by rw [hW];exact ak _ _
  have hzW1:W1.heap.size=sb+1:=by rw [hW,hblk];simp [hzW0]
  have hsbl:cb<sb:=(by omega);rw [←hblk];clear hW hblk hzW0;replace⟨k0,k1,k2⟩:=ep k0 k1 k2 hbN;replace HB:=zT HB hbN;clear hbN;have hsb:=am d0;clear hzW1;clear hgc;have hs0_3:=HB.size;refine wp_region_held_drew (S:=(fun w'=>w'.cell? ⟨sb,0,none⟩=some (.int .i64 x.i)∧w'.cell? ⟨sb,1,none⟩=some (.int .i64 x.t)∧w'.cell? ⟨sb,2,none⟩=some (.int .i64 x.g))) (by kernel_rfl) ⟨d0,d1,d2⟩ (fun hHeld=>?_);have HDW:Below W1.heap.size W1 W1.drew:=(Below.refl _ _).drew;have hs1:=HDW.size;replace⟨k0,k1,k2,d0,d1,d2⟩:=em k0 k1 k2 d0 d1 d2 HDW;replace HB:=zT HB HDW;clear HDW;generalize W1.drew=V2 at*;refine sqA [(0,14),(1,15),(3,17),(4,18)] ?_;(iterate 4 (refine sqN rfl (by kernel_rfl) (fun _ _ _ h=>h) rfl ‹_› (by intro w h;go_simp <;>with_reducible rfl) ?_;simp only [nz]));refine sqZ ?_;refine rsq 2 16 (by kernel_rfl) rfl (fun K hK=>?_);go_simp;clear hHeld;refine(bK _ _ _).mono ?_;rintro e V3 ⟨rfl,hb3⟩;have hs4:=hb3.size;replace⟨k0,k1,k2,d0,d1,d2⟩:=em k0 k1 k2 d0 d1 d2 hb3;replace HB:=zT HB hb3;clear hb3;refine hK.out _ _ ⟨d0,d1,d2⟩ (fun hHeld=>?_);clear hK K;(try simp only [nz]);refine rsq 5 19 (by kernel_rfl) rfl (fun K hK=>?_);go_simp;clear hHeld;refine(gL _ _ hx0 hx1).mono ?_;rintro e VR ⟨rfl,hVV⟩;rw [hVV];clear hVV;refine hK.out _ _ ⟨d0,d1,d2⟩ (fun hHeld=>?_);clear hK K;(try simp only [nz]);refine rsq 6 20 (by kernel_rfl) rfl (fun K hK=>?_);go_simp;clear hHeld;refine(bK _ _ _).mono ?_;rintro e V5 ⟨rfl,hb5⟩;have hs6:=hb5.size;replace⟨k0,k1,k2,d0,d1,d2⟩:=em k0 k1 k2 d0 d1 d2 hb5;replace HB:=zT HB hb5;clear hb5;refine hK.out _ _ ⟨d0,d1,d2⟩ (fun hHeld=>?_);clear hK K;(try simp only [nz]);refine rsq 7 21 (by kernel_rfl) rfl (fun K hK=>?_);go_simp;clear hHeld;refine aC (fun V7 g7 hV hg=>?_);rw [←hg];have hbN:=zB hV;have hg7:V5.heap.size≤g7:=(by omega);have hl7:=zL hV hg;have HT:Hid (V7.ownsRow w.heap.size 131 3 (.slice (some ⟨g7,0,none⟩) 2 2) 2 (M [isM 8 x.i,isM 1 (60000+x.i)])):=zW hV hg HB.size (by decide) rfl;have hs8:=hbN.size;replace⟨k0,k1,k2,d0,d1,d2⟩:=em k0 k1 k2 d0 d1 d2 hbN;replace HB:=zT HB hbN;clear hV hg hbN;refine hK.out _ _ ⟨d0,d1,d2⟩ (fun hHeld=>?_);clear hK K;(try simp only [nz]);refine tq 8 5 rfl (by kernel_rfl) (fun _ _ _ h=>h) rfl ‹_› (by intro w h;go_simp <;>with_reducible rfl) ?_;simp only [nz];refine wpAnyH_done (by kernel_rfl) ?_ _;clear hHeld;go_wp2_with fail
  obtain⟨V9,hV⟩:∃V9,V9=V7.alloc (.cells #[.int .i64 6,.int .i64 65534,.int .i64 0] 131):=⟨_,rfl⟩;rw [←hV];obtain⟨g9,hg'⟩:∃g9,g9=V7.heap.size:=⟨_,rfl⟩;have hg:g9=V7.heap.size:=hg';rw [←hg'];have hbN:=zB hV;have hg9:V7.heap.size≤g9:=(by omega);have hl9:=zL hV hg;have hzV9:V9.heap.size=g9+1:=by rw [hV,hg];simp
  have t0:V9.cell? ⟨g9,0,none⟩=some (.int .i64 6):=zN2 hV hg rfl;have t1:V9.cell? ⟨g9,1,none⟩=some (.int .i64 65534):=zN2 hV hg rfl;have t2:V9.cell? ⟨g9,2,none⟩=some (.int .i64 0):=zN2 hV hg rfl;have hs10:=hbN.size;replace⟨k0,k1,k2,d0,d1,d2⟩:=em k0 k1 k2 d0 d1 d2 hbN;replace HT:=zO HT hbN;replace HB:=zT HB hbN;clear hV hg hg' hbN;obtain⟨V11,hV⟩:∃V11,V11=V9.alloc (.cells #[.int .i64 6,.int .i64 65534,.int .i64 0] 131):=⟨_,rfl⟩;rw [←hV];obtain⟨g11,hg'⟩:∃g11,g11=g9+1:=⟨_,rfl⟩;have hg:g11=V9.heap.size:=hg'.trans hzV9.symm;rw [←hg'];have hbN:=zB hV;have hg11:V9.heap.size≤g11:=(by omega);have hl11:=zL hV hg;have hzV11:V11.heap.size=g11+1:=by rw [hV,hg];simp
  have HL1:Hid (V11.ownsRow w.heap.size 131 3 (.slice (some ⟨g11,0,none⟩) 1 1) 1 (M [⟨6,65534,0⟩])):=zW hV hg HB.size (by decide) rfl;have hs12:=hbN.size;replace⟨k0,k1,k2,d0,d1,d2,t0,t1⟩:=cR k0 k1 k2 d0 d1 d2 t0 t1 hbN;replace t2:=zC t2 hbN;replace HT:=zO HT hbN;replace HB:=zT HB hbN;clear hV hg hg' hbN hzV9;obtain⟨V13,hV⟩:∃V13,V13=V11.alloc (.cells #[.slice (some ⟨g7,0,none⟩) 2 2,.slice (some ⟨g11,0,none⟩) 1 1] 133):=⟨_,rfl⟩;rw [←hV];obtain⟨g13,hg'⟩:∃g13,g13=g11+1:=⟨_,rfl⟩;have hg:g13=V11.heap.size:=hg'.trans hzV11.symm;rw [←hg'];have hbN:=zB hV;have hg13:V11.heap.size≤g13:=(by omega);have hl13:=zL hV hg;have hzV13:V13.heap.size=g13+1:=by rw [hV,hg];simp
  have q0:V13.cell? ⟨g13,0,none⟩=some (.slice (some ⟨g7,0,none⟩) 2 2):=zN2 hV hg rfl;have q1:V13.cell? ⟨g13,1,none⟩=some (.slice (some ⟨g11,0,none⟩) 1 1):=zN2 hV hg rfl;have hs14:=hbN.size;replace⟨k0,k1,k2,d0,d1,d2,t0,t1⟩:=cR k0 k1 k2 d0 d1 d2 t0 t1 hbN;replace t2:=zC t2 hbN;replace HT:=zO HT hbN;replace HL1:=zO HL1 hbN;replace HB:=zT HB hbN;clear hV hg hg' hbN hzV11;clear hzV13;have HBold:=HB.size;refine(eW [((.slice (some ⟨g7,0,none⟩) 2 2:Value),2,M [isM 8 x.i,isM 1 (60000+x.i)]),((.slice (some ⟨g11,0,none⟩) 1 1:Value),1,M [⟨6,65534,0⟩])] g13 2 V13 (fun j hj=>match j,hj with | 0,_=>q0 | 1,_=>q1 | j+2,h=>absurd h (by simp)) (in2 (SrcAt.of_own HT.out (gV _)) (SrcAt.of_own HL1.out (gV _))) (by exact(show(2:Nat)≤10 by decide)) (by exact(show(2:Nat)≤2 by decide)) (in2 (by exact(show(2:Nat)≤100000 by decide)) (by exact(show(1:Nat)≤100000 by decide)))).mono ?_;rintro e V15 ⟨u15,rfl,ho15,hb15⟩;have hs16:=hb15.size;replace⟨k0,k1,k2,d0,d1,d2,t0,t1⟩:=cR k0 k1 k2 d0 d1 d2 t0 t1 hb15;replace⟨t2,q0,q1⟩:=ep t2 q0 q1 hb15;replace HT:=zO HT hb15;replace HL1:=zO HL1 hb15;replace HB:=zT HB hb15;obtain⟨g17,c17,rfl,hg17,hl17⟩:=bu (n:=3) ho15 (by decide);have HM:Hid (V15.ownsRow w.heap.size 131 3 (.slice (some ⟨g17,0,none⟩) 3 c17) 3 (M (aX x++ [⟨6,65534,0⟩]))):=aa (aA ho15 HBold);clear ho15 HBold HL1 q0 q1;clear hb15;go_wp2_with fail
  refine(bp _ _ _ _ _ _ _ _ _).mono ?_;rintro e V18 ⟨rfl,hb18⟩;have hs19:=hb18.size;replace⟨k0,k1,k2,d0,d1,d2,t0,t1⟩:=cR k0 k1 k2 d0 d1 d2 t0 t1 hb18;replace t2:=zC t2 hb18;replace HT:=zO HT hb18;replace HM:=zO HM hb18;replace HB:=zT HB hb18;clear hb18;go_wp2_with fail
  obtain⟨V20,hV⟩:∃V20,V20=V18.alloc (.cells #[.int .i64 3,.int .i64 1,.slice (some ⟨g17,0,none⟩) 3 c17,.slice none 0 0] 135):=⟨_,rfl⟩;rw [←hV];obtain⟨g20,hg'⟩:∃g20,g20=V18.heap.size:=⟨_,rfl⟩;have hg:g20=V18.heap.size:=hg';rw [←hg'];have hbN:=zB hV;have hg20:V18.heap.size≤g20:=(by omega);have hl20:=zL hV hg;have hzV20:V20.heap.size=g20+1:=by rw [hV,hg];simp
  have HF0:Hid (FR V20 w.heap.size (.slice (some ⟨g20,0,none⟩) 1 1) (dX Q x 0)):=by
   rw [hV,hg];refine aa (FR.lit (lo:=[⟨⟨3,1,aX x++ [(⟨6,65534,0⟩:Mt)],[]⟩,.slice (some ⟨g17,0,none⟩) 3 c17,.slice none 0 0⟩]) rfl rfl HB.size (by decide) (fun x hx=>?_));simp only [List.mem_cons,List.not_mem_nil,or_false]at hx;rcases hx with rfl
   ·exact fp HM.out (World.ownsRow_nil _ _ _ _) (by simp [Value.ownBlock])
  have hs21:=hbN.size;replace⟨k0,k1,k2,d0,d1,d2,t0,t1⟩:=cR k0 k1 k2 d0 d1 d2 t0 t1 hbN;replace t2:=zC t2 hbN;replace HT:=zO HT hbN;replace HM:=zO HM hbN;replace HB:=zT HB hbN;clear hV hg hg' hbN;clear hzV20;have hs0_6:=HB.size;refine wp_region_held_drew (S:=(fun w'=>w'.cell? ⟨cb,0,none⟩=some (.slice s1 S.length s2)∧w'.cell? ⟨cb,1,none⟩=some (.slice p1 P.length p2)∧w'.cell? ⟨cb,2,none⟩=some (.slice a1 A.length a2)∧w'.cell? ⟨sb,0,none⟩=some (.int .i64 x.i)∧w'.cell? ⟨sb,1,none⟩=some (.int .i64 x.t)∧w'.cell? ⟨sb,2,none⟩=some (.int .i64 x.g))) (by kernel_rfl) ⟨k0,k1,k2,d0,d1,d2⟩ (fun hHeld=>?_);have HDW:Below V20.heap.size V20 V20.drew:=(Below.refl _ _).drew;have hs22:=HDW.size;replace⟨k0,k1,k2,d0,d1,d2,t0,t1⟩:=cR k0 k1 k2 d0 d1 d2 t0 t1 HDW;replace t2:=zC t2 HDW;replace HT:=zO HT HDW;replace HF0:=aa (HF0.out.below HDW zr);replace HB:=zT HB HDW;clear HDW;generalize V20.drew=V23 at*;refine sqA [(0,30),(1,31),(2,32),(3,33),(4,34),(9,39)] ?_;(iterate 6 (refine sqN rfl (by kernel_rfl) (fun _ _ _ h=>h) rfl ‹_› (by intro w h;go_simp <;>with_reducible rfl) ?_;simp only [nz]));refine sqZ ?_;refine rsq 5 35 (by kernel_rfl) rfl (fun K hK=>?_);go_simp;clear hHeld;refine(pP _ _ _ _ _ _ _ _ _ _ _).mono ?_;rintro e V24 ⟨rb,rc,rfl,hc1,hc2,hb24⟩;have hs25:=hb24.size;replace⟨k0,k1,k2,d0,d1,d2,t0,t1⟩:=cR k0 k1 k2 d0 d1 d2 t0 t1 hb24;replace t2:=zC t2 hb24;replace HT:=zO HT hb24;replace HF0:=aa (HF0.out.below hb24 zr);replace HB:=zT HB hb24;have r0:=hc1;have r1:=hc2;clear hc1 hc2;clear hb24;refine hK.out _ _ ⟨k0,k1,k2,d0,d1,d2⟩ (fun hHeld=>?_);clear hK K;(try simp only [nz]);refine rsq 6 36 (by kernel_rfl) rfl (fun K hK=>?_);go_simp;clear hHeld;refine(mE _ _ _ _ _).mono ?_;rintro e V26 ⟨bb,bc,rfl,hc1,hc2,hb26⟩;have hs27:=hb26.size;replace⟨k0,k1,k2,d0,d1,d2,t0,t1⟩:=cR k0 k1 k2 d0 d1 d2 t0 t1 hb26;replace⟨t2,r0,r1⟩:=ep t2 r0 r1 hb26;replace HT:=zO HT hb26;replace HF0:=aa (HF0.out.below hb26 zr);replace HB:=zT HB hb26;have b0:=hc1;have b1:=hc2;clear hc1 hc2;clear hb26;refine hK.out _ _ ⟨k0,k1,k2,d0,d1,d2⟩ (fun hHeld=>?_);clear hK K;(try simp only [nz]);refine rsq 7 37 (by kernel_rfl) rfl (fun K hK=>?_);go_simp;clear hHeld;refine(dg P (fun p=>cw S x.t p&&aw p) _ _ _ _ (RowAt.below HP.out HB zr) (jv b0 b1 (pY r0 r1 (RowAt.below HSW.out HB zr) (by omega)) (jg _) sR mP) mr hl).mono ?_
  rintro e V28 ⟨u,rfl,hor,hb28⟩;have hs29:=hb28.size;replace⟨k0,k1,k2,d0,d1,d2,t0,t1⟩:=cR k0 k1 k2 d0 d1 d2 t0 t1 hb28;replace⟨t2,r0,r1,b0,b1⟩:=dB t2 r0 r1 b0 b1 hb28;replace HT:=zO HT hb28;replace HF0:=aa (HF0.out.below hb28 zr);replace HB:=zT HB hb28;obtain⟨o,c,rfl⟩:=az hor;have HRN:Hid (∀m g,(Value.slice o m c).ownBlock=some g→g20<g):=aa (fun m g e=>by have:=aS hor g (by cases o <;>exact e);omega);have HR:=aa hor;clear hor;clear hb28;refine hK.out _ _ ⟨k0,k1,k2,d0,d1,d2⟩ (fun hHeld=>?_);clear hK K;(try simp only [nz]);refine tq 8 38 rfl (by kernel_rfl) (fun _ _ _ h=>h) rfl ‹_› (by intro w h;go_simp <;>with_reducible rfl) ?_;simp only [nz];refine wpAnyH_done (by kernel_rfl) ?_ _;clear hHeld;rw [←HQ.out]at HR⊢;have HRB:Hid (Below w.heap.size w V28):=aa HB;have hs9:=HB.size;have hz1:w.heap.size≤g20:=(by omega);have hz2:g20<V28.heap.size:=(by omega);have hz3:sb<g20:=(by omega);have hz4:g7<g20:=(by omega);have HTT:=HT;clear HT HB HP HQ HSW k0 k1 k2 t0 t1 t2 r0 r1 b0 b1;go_wp2_with fail
  go_loopw [7,39] (fun v i wr=>∃k:Nat,k≤Q.length∧i= .int .i64 k∧Hid (FR wr w.heap.size v (dX Q x k))∧Hid (∀g,v.ownBlock=some g→g=g20∨V28.heap.size≤g)∧Hid (V28.grownBy wr (some g20))) (fun _ i _=>Q.length-(intOf i).toNat)
  case atStart=>exact⟨0,by omega,rfl,HF0,aa (by simp [Value.ownBlock]),aa ⟨rfl,rfl,rfl,Nat.le_refl _,fun _ _ _=>rfl⟩⟩
  case round=>
   clear HF0;obtain⟨k,hk,rfl,HF,HVB,HGR⟩:=hrel;have hgs:V28.heap.size≤wr.heap.size:=HGR.out.size;by_cases hlt:k<Q.length
   ·have HR1:=aa (HR.out.kept HGR.out (.inr (fun e=>absurd (HRN.out _ _ e) (by omega))));have HT:=aa (dy HGR.out HTT.out (by omega));obtain⟨b,off,cap,e1,hcap, -,g0,g1,g2,g3,g4⟩:=eO (RowAt.of_own et (by decide) HR1.out) hlt;simp only [Value.slice.injEq,true_and]at e1;obtain⟨rfl,rfl⟩:=e1;have hyb:=HQB.out (Q.getD k pr0) (by rw [List.getD_eq_getElem?_getD,List.getElem?_eq_getElem hlt];exact List.getElem_mem _);have HNX:=aa (pV (s:=x) hlt);have hln:=rA Q x k;obtain⟨vo,vc,rfl⟩:=HF.out.slc;have HTD:Hid (ax (Q.getD k pr0)=ax ⟨(Q.getD k pr0).i,(Q.getD k pr0).s,(Q.getD k pr0).m,(Q.getD k pr0).p,(Q.getD k pr0).c⟩):=rfl;have HTR:Hid (cK (Q.getD k pr0)=cK ⟨(Q.getD k pr0).i,(Q.getD k pr0).s,(Q.getD k pr0).m,(Q.getD k pr0).p,(Q.getD k pr0).c⟩):=rfl;rw [HTD.out,HTR.out]at HNX;clear HTD HTR HR1;generalize (Q.getD k pr0).i=y0 at*;generalize (Q.getD k pr0).s=y1 at*;generalize (Q.getD k pr0).m=y2 at*;generalize (Q.getD k pr0).p=y3 at*;generalize (Q.getD k pr0).c=y4 at*;generalize hFK:dX Q x k=FK at*;have HFK:=aa hFK;clear hFK;obtain⟨N,hN⟩:∃N,N=FK.length:=⟨_,rfl⟩;rw [←hN]at HF hln HVB⊢;have HNN:=aa hN;clear hN;obtain⟨hy0,hy1⟩:=hyb;have q1:(0:Int)≤(k:Int):=(by omega);have q2:(k:Int)<(Q.length:Int):=(by omega);have HUB:=aa HF.out.lt;have HFv:=HF;clear HF;go_wp2_with fail
    obtain⟨W9,hW9⟩:∃W9,W9=wr.alloc (.cells #[.int .i64 y0,.int .i64 y1,.int .i64 y2,.int .i64 y3,.int .i64 y4] 51):=⟨_,rfl⟩;rw [←hW9];obtain⟨pb,hpb⟩:∃pb,pb=wr.heap.size:=⟨_,rfl⟩;have p0:W9.cell? ⟨pb,0,none⟩=some (.int .i64 y0):=zN2 hW9 hpb rfl;have p1:W9.cell? ⟨pb,1,none⟩=some (.int .i64 y1):=zN2 hW9 hpb rfl;have p2:W9.cell? ⟨pb,2,none⟩=some (.int .i64 y2):=zN2 hW9 hpb rfl;have p3:W9.cell? ⟨pb,3,none⟩=some (.int .i64 y3):=zN2 hW9 hpb rfl;have p4:W9.cell? ⟨pb,4,none⟩=some (.int .i64 y4):=zN2 hW9 hpb rfl;have hpb0:wr.heap.size≤pb:=(by omega);have HB:Below wr.heap.size wr W9:=by rw [hW9];exact ak _ _
    have hs10:=HB.size;replace HFv:=aa (HFv.out.below HB zr);replace HT:=zO HT HB;rw [←hpb];clear hW9 hpb g0 g1 g2 g3 g4;refine(bK _ _ _).mono ?_;rintro e V101 ⟨rfl,hb101⟩;have hs102:=hb101.size;replace⟨p0,p1,p2,p3,p4⟩:=dB p0 p1 p2 p3 p4 hb101;replace HT:=zO HT hb101;replace HFv:=aa (HFv.out.below hb101 zr);replace HB:=zT HB hb101;clear hb101;go_wp2_with fail
    obtain⟨V103,hV⟩:∃V103,V103=V101.alloc (.cells #[.int .i64 5,.int .i64 65535,.int .i64 y3] 131):=⟨_,rfl⟩;rw [←hV];obtain⟨g103,hg'⟩:∃g103,g103=V101.heap.size:=⟨_,rfl⟩;have hg:g103=V101.heap.size:=hg';rw [←hg'];have hbN:=zB hV;have hg103:V101.heap.size≤g103:=(by omega);have hl103:=zL hV hg;have hzV103:V103.heap.size=g103+1:=by rw [hV,hg];simp
    have HL1:Hid (V103.ownsRow wr.heap.size 131 3 (.slice (some ⟨g103,0,none⟩) 1 1) 1 (M [isM 5 y3])):=zW hV hg HB.size (by decide) rfl;have hs104:=hbN.size;replace⟨p0,p1,p2,p3,p4⟩:=dB p0 p1 p2 p3 p4 hbN;replace HT:=zO HT hbN;replace HFv:=aa (HFv.out.below hbN zr);replace HB:=zT HB hbN;clear hV hg hg' hbN;obtain⟨V105,hV⟩:∃V105,V105=V103.alloc (.cells #[.slice (some ⟨g7,0,none⟩) 2 2,.slice (some ⟨g103,0,none⟩) 1 1] 133):=⟨_,rfl⟩;rw [←hV];obtain⟨g105,hg'⟩:∃g105,g105=g103+1:=⟨_,rfl⟩;have hg:g105=V103.heap.size:=hg'.trans hzV103.symm;rw [←hg'];have hbN:=zB hV;have hg105:V103.heap.size≤g105:=(by omega);have hl105:=zL hV hg;have hzV105:V105.heap.size=g105+1:=by rw [hV,hg];simp
    have q0:V105.cell? ⟨g105,0,none⟩=some (.slice (some ⟨g7,0,none⟩) 2 2):=zN2 hV hg rfl;have q1:V105.cell? ⟨g105,1,none⟩=some (.slice (some ⟨g103,0,none⟩) 1 1):=zN2 hV hg rfl;have hs106:=hbN.size;replace⟨p0,p1,p2,p3,p4⟩:=dB p0 p1 p2 p3 p4 hbN;replace HT:=zO HT hbN;replace HL1:=zO HL1 hbN;replace HFv:=aa (HFv.out.below hbN zr);replace HB:=zT HB hbN;clear hV hg hg' hbN hzV103;clear hzV105;have HBold:=HB.size;refine(eW [((.slice (some ⟨g7,0,none⟩) 2 2:Value),2,M [isM 8 x.i,isM 1 (60000+x.i)]),((.slice (some ⟨g103,0,none⟩) 1 1:Value),1,M [isM 5 y3])] g105 2 V105 (fun j hj=>match j,hj with | 0,_=>q0 | 1,_=>q1 | j+2,h=>absurd h (by simp)) (in2 (SrcAt.of_own HT.out (gV _)) (SrcAt.of_own HL1.out (gV _))) (by exact(show(2:Nat)≤10 by decide)) (by exact(show(2:Nat)≤2 by decide)) (in2 (by exact(show(2:Nat)≤100000 by decide)) (by exact(show(1:Nat)≤100000 by decide)))).mono ?_;rintro e V107 ⟨u107,rfl,ho107,hb107⟩;have hs108:=hb107.size;replace⟨p0,p1,p2,p3,p4,q0⟩:=em p0 p1 p2 p3 p4 q0 hb107;replace q1:=zC q1 hb107;replace HT:=zO HT hb107;replace HL1:=zO HL1 hb107;replace HFv:=aa (HFv.out.below hb107 zr);replace HB:=zT HB hb107;obtain⟨g109,c109,rfl,hg109,hl109⟩:=bu (n:=3) ho107 (by decide);have HM:Hid (V107.ownsRow wr.heap.size 131 3 (.slice (some ⟨g109,0,none⟩) 3 c109) 3 (M (aX x++ [isM 5 y3]))):=aa (aA ho107 HBold);clear ho107 HBold HT HL1 q0 q1;clear hb107;go_wp2_with fail
    have hs0_10:=HB.size;refine wp_region_held_drew (S:=(fun w'=>w'.cell? ⟨pb,0,none⟩=some (.int .i64 y0)∧w'.cell? ⟨pb,1,none⟩=some (.int .i64 y1)∧w'.cell? ⟨pb,2,none⟩=some (.int .i64 y2)∧w'.cell? ⟨pb,3,none⟩=some (.int .i64 y3)∧w'.cell? ⟨pb,4,none⟩=some (.int .i64 y4))) (by kernel_rfl) ⟨p0,p1,p2,p3,p4⟩ (fun hHeld=>?_);have HDW:Below V107.heap.size V107 V107.drew:=(Below.refl _ _).drew;have hs110:=HDW.size;replace⟨p0,p1,p2,p3,p4⟩:=dB p0 p1 p2 p3 p4 HDW;replace HM:=zO HM HDW;replace HFv:=aa (HFv.out.below HDW zr);replace HB:=zT HB HDW;clear HDW;generalize V107.drew=V111 at*;refine sqA [(0,50),(1,51),(2,52),(4,54)] ?_;(iterate 4 (refine sqN rfl (by kernel_rfl) (fun _ _ _ h=>h) rfl ‹_› (by intro w h;go_simp <;>with_reducible rfl) ?_;simp only [nz]));refine sqZ ?_;refine rsq 3 53 (by kernel_rfl) rfl (fun K hK=>?_);go_simp;clear hHeld;have HBold:=HB.size;refine(nB _ _ _ _ _ _ hy0 hy1).mono ?_;rintro e V112 ⟨u112,rfl,ho112,hb112⟩;have hs113:=hb112.size;replace⟨p0,p1,p2,p3,p4⟩:=dB p0 p1 p2 p3 p4 hb112;replace HM:=zO HM hb112;replace HFv:=aa (HFv.out.below hb112 zr);replace HB:=zT HB hb112;obtain⟨g114,c114,rfl,hg114,hl114⟩:=bu ho112 (by decide);have HRD:=aa (aA ho112 (Nat.le_trans HBold zr));clear ho112 HBold;clear hb112;refine hK.out _ _ ⟨p0,p1,p2,p3,p4⟩ (fun hHeld=>?_);clear hK K;(try simp only [nz]);refine rsq 5 55 (by kernel_rfl) rfl (fun K hK=>?_);go_simp;clear hHeld;have HBold:=HB.size;refine(jk _ _ _ _ _ _).mono ?_;rintro e V115 ⟨u115,rfl,ho115,hb115⟩;have hs116:=hb115.size;replace⟨p0,p1,p2,p3,p4⟩:=dB p0 p1 p2 p3 p4 hb115;replace HM:=zO HM hb115;replace HRD:=zO HRD hb115;replace HFv:=aa (HFv.out.below hb115 zr);replace HB:=zT HB hb115;obtain⟨g117,c117,rfl,hg117,hl117⟩:=bu ho115 (by decide);have HTP:=aa (aA ho115 (Nat.le_trans HBold zr));clear ho115 HBold;clear hb115;refine hK.out _ _ ⟨p0,p1,p2,p3,p4⟩ (fun hHeld=>?_);clear hK K;(try simp only [nz]);refine rsq 6 56 (by kernel_rfl) rfl (fun K hK=>?_);go_simp;clear hHeld;refine aC (fun V118 g118 hV hg=>?_);rw [←hg];have hbN:=zB hV;have hg118:V115.heap.size≤g118:=(by omega);have hl118:=zL hV hg;have s0:V118.cell? ⟨g118,0,none⟩=some (.slice (some ⟨g114,0,none⟩) 4 c114):=zN2 hV hg rfl;have s1:V118.cell? ⟨g118,1,none⟩=some (.slice (some ⟨g117,0,none⟩) 2 c117):=zN2 hV hg rfl;have hs119:=hbN.size;replace⟨p0,p1,p2,p3,p4⟩:=dB p0 p1 p2 p3 p4 hbN;replace⟨HM,HRD,HTP⟩:=Bp HM HRD HTP hbN;replace HFv:=aa (HFv.out.below hbN zr);replace HB:=zT HB hbN;clear hV hg hbN;refine hK.out _ _ ⟨p0,p1,p2,p3,p4⟩ (fun hHeld=>?_);clear hK K;(try simp only [nz]);refine rsq 7 57 (by kernel_rfl) rfl (fun K hK=>?_);go_simp;clear hHeld;have HBold:=HB.size
    refine(pL [((.slice (some ⟨g114,0,none⟩) 4 c114:Value),4,D (cK ⟨y0,y1,y2,y3,y4⟩)),((.slice (some ⟨g117,0,none⟩) 2 c117:Value),2,D (ax ⟨y0,y1,y2,y3,y4⟩))] g118 2 V118 (fun j hj=>match j,hj with | 0,_=>s0 | 1,_=>s1 | j+2,h=>absurd h (by simp)) (in2 (SrcAt.of_own HRD.out (uE _)) (SrcAt.of_own HTP.out (uE _))) (by exact(show(2:Nat)≤10 by decide)) (by exact(show(2:Nat)≤2 by decide)) (in2 (by exact(show(4:Nat)≤100000 by decide)) (by exact(show(2:Nat)≤100000 by decide)))).mono ?_;rintro e V120 ⟨u120,rfl,ho120,hb120⟩;have hs121:=hb120.size;replace⟨p0,p1,p2,p3,p4,s0⟩:=em p0 p1 p2 p3 p4 s0 hb120;replace s1:=zC s1 hb120;replace⟨HM,HRD,HTP⟩:=Bp HM HRD HTP hb120;replace HFv:=aa (HFv.out.below hb120 zr);replace HB:=zT HB hb120;obtain⟨g122,c122,rfl,hg122,hl122⟩:=bu (n:=6) ho120 (by decide);have HD:Hid (V120.ownsRow wr.heap.size 115 3 (.slice (some ⟨g122,0,none⟩) 6 c122) 6 (D (cK ⟨y0,y1,y2,y3,y4⟩++ax ⟨y0,y1,y2,y3,y4⟩))):=aa (aA ho120 HBold);clear ho120 HBold HRD HTP s0 s1;clear hb120;refine hK.out _ _ ⟨p0,p1,p2,p3,p4⟩ (fun hHeld=>?_);clear hK K;(try simp only [nz]);refine rsq 8 58 (by kernel_rfl) rfl (fun K hK=>?_);go_simp;clear hHeld;refine(bp _ _ _ _ _ _ _ _ _).mono ?_;rintro e V123 ⟨rfl,hb123⟩;have hs124:=hb123.size;replace⟨p0,p1,p2,p3,p4⟩:=dB p0 p1 p2 p3 p4 hb123;replace HM:=zO HM hb123;replace HD:=zO HD hb123;replace HFv:=aa (HFv.out.below hb123 zr);replace HB:=zT HB hb123;clear hb123;refine hK.out _ _ ⟨p0,p1,p2,p3,p4⟩ (fun hHeld=>?_);clear hK K;(try simp only [nz]);refine rsq 9 59 (by kernel_rfl) rfl (fun K hK=>?_);go_simp;clear hHeld;refine aC (fun V125 g125 hV hg=>?_);rw [←hg];have hbN:=zB hV;have hg125:V123.heap.size≤g125:=(by omega);have hl125:=zL hV hg;have HX:Hid (V125.ownsRow wr.heap.size 135 4 (.slice (some ⟨g125,0,none⟩) 1 1) 1 (C [(⟨⟨3,0,aX x++ [isM 5 y3],cK ⟨y0,y1,y2,y3,y4⟩++ax ⟨y0,y1,y2,y3,y4⟩⟩,.slice (some ⟨g109,0,none⟩) 3 c109,.slice (some ⟨g122,0,none⟩) 6 c122⟩:Fv)])):=zW hV hg HB.size (by decide) rfl;have hs126:=hbN.size;replace⟨p0,p1,p2,p3,p4⟩:=dB p0 p1 p2 p3 p4 hbN;replace HM:=zO HM hbN;replace HD:=zO HD hbN;replace HFv:=aa (HFv.out.below hbN zr);replace HB:=zT HB hbN;clear hV hg hbN;refine hK.out _ _ ⟨p0,p1,p2,p3,p4⟩ (fun hHeld=>?_);clear hK K;(try simp only [nz]);refine rsq 10 60 (by kernel_rfl) rfl (fun K hK=>?_);clear hHeld;have hsz:=HB.size;have HFV:Hid (FvIn V125 w.heap.size (.slice vo N vc) (⟨⟨3,0,aX x++ [isM 5 y3],cK ⟨y0,y1,y2,y3,y4⟩++ax ⟨y0,y1,y2,y3,y4⟩⟩,.slice (some ⟨g109,0,none⟩) 3 c109,.slice (some ⟨g122,0,none⟩) 6 c122⟩:Fv)):=aa ((fp (f:=⟨3,0,aX x++ [isM 5 y3],cK ⟨y0,y1,y2,y3,y4⟩++ax ⟨y0,y1,y2,y3,y4⟩⟩) HM.out HD.out HUB.out).less (by omega))
    refine tL rfl (.tmp 50) (.tmp 59) rfl w.heap.size (.slice vo N vc) FK rfl (ag HFv) ⟨g125,0,none⟩ 1 1 [(⟨⟨3,0,aX x++ [isM 5 y3],cK ⟨y0,y1,y2,y3,y4⟩++ax ⟨y0,y1,y2,y3,y4⟩⟩,.slice (some ⟨g109,0,none⟩) 3 c109,.slice (some ⟨g122,0,none⟩) 6 c122⟩:Fv)] rfl rfl (HX.out.cells rfl) (fun y hy=>by rw [List.mem_singleton.1 hy];exact HFV.out) (by decide) (by rw [←HNN.out];omega) (by omega) ?_;intro gq cq Vq hfq hgq haq;replace p0:=(hgq.cell_far ⟨pb,0,none⟩ (am p0) (fun e=>by have:=HUB.out pb e.symm;omega)).trans p0;replace p1:=(hgq.cell_far ⟨pb,1,none⟩ (am p1) (fun e=>by have:=HUB.out pb e.symm;omega)).trans p1;replace p2:=(hgq.cell_far ⟨pb,2,none⟩ (am p2) (fun e=>by have:=HUB.out pb e.symm;omega)).trans p2;replace p3:=(hgq.cell_far ⟨pb,3,none⟩ (am p3) (fun e=>by have:=HUB.out pb e.symm;omega)).trans p3;replace p4:=(hgq.cell_far ⟨pb,4,none⟩ (am p4) (fun e=>by have:=HUB.out pb e.symm;omega)).trans p4;have HGR2:Hid (V28.grownBy Vq (some g20)):=aa (pd (dd HGR.out HB) hgq HVB.out);have HVB2:Hid (∀g,(Value.slice (some ⟨gq,0,none⟩) (FK.length+1) cq).ownBlock=some g→g=g20∨V28.heap.size≤g):=aa (fun g e=>by
     have e2:gq=g:=(by simpa [Value.ownBlock] using e);subst e2;rcases haq with h | h
     ·exact HVB.out _ h
     ·exact .inr (by omega))
    have HE:Hid (FR Vq w.heap.size (.slice (some ⟨gq,0,none⟩) (FK.length+1) cq) (dX Q x (k+1))):=by rw [HNX.out];exact aa hfq
    clear hfq hgq haq HFv HX HFV HUB HNX HB HM HD HVB HGR hsz;refine hK.out _ _ ⟨p0,p1,p2,p3,p4⟩ (fun hHeld=>?_);clear hK K;(try simp only [nz]);refine tq 11 7 rfl (by kernel_rfl) (fun _ _ _ h=>h) rfl ‹_› (by intro w h;go_simp <;>with_reducible rfl) ?_;simp only [nz];refine wpAnyH_done (by kernel_rfl) ?_ _;clear hHeld;rw [←HNN.out]at HE HVB2⊢;go_wp2_with fail
    go_roundw
    case rel=>exact⟨k+1,by omega,by go_num,HE,HVB2,HGR2⟩
    case measure=>simp [intOf];omega
   ·obtain rfl:k=Q.length:=(by omega);rw [←HAQ.out]at HF;have HB2:=aa (HRB.out.grown HGR.out hs9 (fun k e=>by cases e;omega));have HF2:=HF;obtain⟨uo,uc,rfl⟩:=HF.out.slc;clear HF;go_wp2_with fail
    go_ret;exact⟨_,rfl,HF2.out,HB2.out⟩
section
open Go.Sort (grow grow_grow alloc_eq_grow heap_grow_old)
def Grw (W w':World):Prop:=∃q os,w'=grow (W.drewN q) os
theorem Grw.refl (W:World):Grw W W:=⟨0, #[],by rw [Go.Sort.grow_empty];rfl⟩
theorem Grw.trans {a b c:World} (h:Grw a b) (k:Grw b c):Grw a c:=by
 obtain⟨q,os,rfl⟩:=h;obtain⟨q',os',rfl⟩:=k;refine⟨q+q',os++os',?_⟩;show grow (grow ((a.drewN q).drewN q') os) os'=_;rw [grow_grow];congr 1;simp [World.drewN,Nat.add_assoc]
theorem Grw.alloc {a b:World} (h:Grw a b) (o:Obj):Grw a (b.alloc o):=h.trans ⟨0, #[o],by rw [alloc_eq_grow];rfl⟩
theorem Grw.drewN {a b:World} (h:Grw a b) (n:Nat):Grw a (b.drewN n):=h.trans ⟨n, #[],by rw [Go.Sort.grow_empty]⟩
theorem Grw.drew {a b:World} (h:Grw a b):Grw a b.drew:=h.drewN 1
theorem Grw.below {a b:World} (h:Grw a b):Below a.heap.size a b:=by
 obtain⟨q,os,rfl⟩:=h;refine⟨rfl,rfl,rfl,by simp,fun k hk=>?_⟩;rw [heap_grow_old _ _ (by simpa using hk)];rfl
def aJ (x y:Int):Int:=if x<y then-1 else if y<x then 1 else 0
theorem cJ (x y:Int) (w:World):Calls Tryz.prog 31 #[.int .i64 x,.int .i64 y] w fun e w'=>e= .returned (.int .i64 (aJ x y))∧w'=w:=by
 have hN:Hid (∀(z:Int) (W:World),Calls Tryz.prog 59 #[.int .i64 z] W fun e w'=>e= .returned (.bool false)∧w'=W):=by
  intro z W;go_enter Tryz.func59,Tryz.ntmps59;go_wp2
  all_goals go_ret
  all_goals exact⟨by simp,rfl⟩
 have HC:Hid (aJ x y=if x<y then-1 else if y<x then 1 else 0):=rfl;generalize aJ x y=R at HC⊢;go_enter Tryz.func31,Tryz.ntmps31;go_wp2_with (go_at_call 59;refine(ag hN _ _).mono ?_;rintro e w' ⟨rfl,rfl⟩)
 all_goals go_ret
 all_goals refine⟨ah ?_,rfl⟩
 all_goals (rw [HC.out];first |(rw [if_pos (by omega)]) |(rw [if_neg (by omega),if_pos (by omega)]) |(rw [if_neg (by omega),if_neg (by omega)]))
theorem uX (W:World) (n:Nat) (hn:W.heap.size=n) (a b c:Value) (t:TypeId):(W.alloc (.cells #[a,b,c] t)).cell? ⟨n,0,none⟩=some a∧(W.alloc (.cells #[a,b,c] t)).cell? ⟨n,1,none⟩=some b∧(W.alloc (.cells #[a,b,c] t)).cell? ⟨n,2,none⟩=some c:=by
 subst hn;simp
def or3 (a b c:Int):Int:=if a≠0 then a else if b≠0 then b else c
theorem ux (g:Nat) (a b c:Int) (w:World) (h0:w.cell? ⟨g,0,none⟩=some (.int .i64 a)) (h1:w.cell? ⟨g,1,none⟩=some (.int .i64 b)) (h2:w.cell? ⟨g,2,none⟩=some (.int .i64 c)):
  Calls Tryz.prog 191 #[.slice (some ⟨g,0,none⟩) 3 3] w fun e w'=>e= .returned (.int .i64 (or3 a b c))∧w'=w:=by
 have HR:Hid (or3 a b c=if a≠0 then a else if b≠0 then b else c):=rfl;generalize or3 a b c=R at HR⊢;go_enter Tryz.func191,Tryz.ntmps191;go_wp2_with fail
 refine wp_loop_rounds 4 ?_;rw [rounds_succ];by_cases ha:a=0
 ·subst ha;go_wp2_with fail
  rw [rounds_succ];by_cases hb:b=0
  ·subst hb;go_wp2_with fail
   rw [rounds_succ];by_cases hc:c=0
   ·subst hc;go_wp2_with fail
    rw [rounds_succ];go_wp2_with fail
    go_ret;exact⟨ah (by rw [HR.out];simp),rfl⟩
   ·go_wp2_with fail
    go_ret;exact⟨ah (by rw [HR.out];simp),rfl⟩
  ·go_wp2_with fail
   go_ret;exact⟨ah (by rw [HR.out];simp [hb]),rfl⟩
 ·go_wp2_with fail
  go_ret;exact⟨ah (by rw [HR.out];simp [ha]),rfl⟩
theorem nw (x0 x1 x2 y0 y1 y2:Int) (w:World):
  Calls Tryz.prog 150 #[.agg #[.int .i64 x0,.int .i64 x1,.int .i64 x2],.agg #[.int .i64 y0,.int .i64 y1,.int .i64 y2]] w fun e w'=>e= .returned (.int .i64 (or3 (aJ x0 y0) (aJ x1 y1) (aJ x2 y2)))∧Grw w w':=by
 go_enter Tryz.func150,Tryz.ntmps150;go_wp2_with fail
 go_region_held3 (fun w'=>w'.cell? ⟨w.heap.size,0,none⟩=some (.int .i64 x0)∧w'.cell? ⟨w.heap.size,1,none⟩=some (.int .i64 x1)∧w'.cell? ⟨w.heap.size,2,none⟩=some (.int .i64 x2)∧w'.cell? ⟨w.heap.size+1,0,none⟩=some (.int .i64 y0)∧w'.cell? ⟨w.heap.size+1,1,none⟩=some (.int .i64 y1)∧w'.cell? ⟨w.heap.size+1,2,none⟩=some (.int .i64 y2)) (go_keep)
  (first |(go_at_call 31;refine(cJ _ _ _).mono ?_;rintro e w' ⟨rfl,rfl⟩) |(go_at_call 191;refine(ux _ (aJ x0 y0) (aJ x1 y1) (aJ x2 y2) _ ?_ ?_ ?_).mono ?_;exact(uX _ _ (by simp) _ _ _ _).1;exact(uX _ _ (by simp) _ _ _ _).2.1;exact(uX _ _ (by simp) _ _ _ _).2.2;rintro e w' ⟨rfl,rfl⟩))
 all_goals go_wp2
 all_goals go_ret
 all_goals exact⟨rfl,((((Grw.refl w).alloc _).alloc _).alloc _).drew⟩
theorem nO (x0 x1 x2 y0 y1 y2:Int) (w:World):
  Calls Tryz.prog 153 #[.agg #[.int .i64 x0,.int .i64 x1,.int .i64 x2],.agg #[.int .i64 y0,.int .i64 y1,.int .i64 y2]] w fun e w'=>e= .returned (.int .i64 (or3 (aJ x0 y0) (aJ x1 y1) (aJ x2 y2)))∧Grw w w':=by
 go_enter Tryz.func153,Tryz.ntmps153;go_wp2_with fail
 go_region_held3 (fun w'=>w'.cell? ⟨w.heap.size,0,none⟩=some (.int .i64 x0)∧w'.cell? ⟨w.heap.size,1,none⟩=some (.int .i64 x1)∧w'.cell? ⟨w.heap.size,2,none⟩=some (.int .i64 x2)∧w'.cell? ⟨w.heap.size+1,0,none⟩=some (.int .i64 y0)∧w'.cell? ⟨w.heap.size+1,1,none⟩=some (.int .i64 y1)∧w'.cell? ⟨w.heap.size+1,2,none⟩=some (.int .i64 y2)) (go_keep)
  (first |(go_at_call 31;refine(cJ _ _ _).mono ?_;rintro e w' ⟨rfl,rfl⟩) |(go_at_call 191;refine(ux _ (aJ x0 y0) (aJ x1 y1) (aJ x2 y2) _ ?_ ?_ ?_).mono ?_;exact(uX _ _ (by simp) _ _ _ _).1;exact(uX _ _ (by simp) _ _ _ _).2.1;exact(uX _ _ (by simp) _ _ _ _).2.2;rintro e w' ⟨rfl,rfl⟩))
 all_goals go_wp2
 all_goals go_ret
 all_goals exact⟨rfl,((((Grw.refl w).alloc _).alloc _).alloc _).drew⟩
def eR:List Mt→List Mt→Int
 | [],[]=>0
 | [],_::_=> -1
 | _::_,[]=>1
 | x::xs,y::ys=>if or3 (aJ x.f y.f) (aJ x.m y.m) (aJ x.v y.v)≠0 then or3 (aJ x.f y.f) (aJ x.m y.m) (aJ x.v y.v)else eR xs ys
def cM (x y:Mt):Int:=or3 (aJ x.f y.f) (aJ x.m y.m) (aJ x.v y.v)
theorem oD:∀(xs ys:List Mt) (k:Nat),k<xs.length→k<ys.length→(∀j,j<k→cM (xs.getD j mt0) (ys.getD j mt0)=0)→cM (xs.getD k mt0) (ys.getD k mt0)≠0→eR xs ys=cM (xs.getD k mt0) (ys.getD k mt0)
 | [],_,_,h,_,_,_=>by simp at h
 | _::_,[],_,_,h,_,_=>by simp at h
 | x::xs,y::ys,0,_,_,_,hn=>by
  simp only [List.getD_cons_zero]at hn⊢;show(if cM x y≠0 then cM x y else eR xs ys)=_;rw [if_pos hn]
 | x::xs,y::ys,k+1,h1,h2,ha,hn=>by
  simp only [List.getD_cons_succ]at hn⊢;show(if cM x y≠0 then cM x y else eR xs ys)=_;have h0:=ha 0 (by omega);simp only [List.getD_cons_zero]at h0;rw [if_neg (fun h=>h h0)];exact oD xs ys k (by simpa using h1) (by simpa using h2) (fun j hj=>by simpa using ha (j+1) (by omega)) hn
theorem oz:∀(xs ys:List Mt),ys.length<xs.length→(∀j,j<ys.length→cM (xs.getD j mt0) (ys.getD j mt0)=0)→eR xs ys=1
 | [],ys,h,_=>by simp at h
 | x::xs,[],_,_=>rfl
 | x::xs,y::ys,h,ha=>by
  show(if cM x y≠0 then cM x y else eR xs ys)=_;have h0:=ha 0 (by simp);simp only [List.getD_cons_zero]at h0;rw [if_neg (fun h=>h h0)];exact oz xs ys (by simpa using h) (fun j hj=>by simpa using ha (j+1) (by simpa using hj))
theorem rx:∀(xs ys:List Mt),xs.length≤ys.length→(∀j,j<xs.length→cM (xs.getD j mt0) (ys.getD j mt0)=0)→eR xs ys=if xs.length<ys.length then-1 else 0
 | [],[],_,_=>rfl
 | [],y::ys,_,_=>by simp [eR]
 | x::xs,[],h,_=>by simp at h
 | x::xs,y::ys,h,ha=>by
  show(if cM x y≠0 then cM x y else eR xs ys)=_;have h0:=ha 0 (by simp);simp only [List.getD_cons_zero]at h0;rw [if_neg (fun h=>h h0),rx xs ys (by simpa using h) (fun j hj=>by simpa using ha (j+1) (by simpa using hj))];simp
def hJ:List Do→List Do→Int
 | [],[]=>0
 | [],_::_=> -1
 | _::_,[]=>1
 | x::xs,y::ys=>if or3 (aJ x.k y.k) (aJ x.a y.a) (aJ x.n y.n)≠0 then or3 (aJ x.k y.k) (aJ x.a y.a) (aJ x.n y.n)else hJ xs ys
def cD (x y:Do):Int:=or3 (aJ x.k y.k) (aJ x.a y.a) (aJ x.n y.n)
theorem ot:∀(xs ys:List Do) (k:Nat),k<xs.length→k<ys.length→(∀j,j<k→cD (xs.getD j do0) (ys.getD j do0)=0)→cD (xs.getD k do0) (ys.getD k do0)≠0→hJ xs ys=cD (xs.getD k do0) (ys.getD k do0)
 | [],_,_,h,_,_,_=>by simp at h
 | _::_,[],_,_,h,_,_=>by simp at h
 | x::xs,y::ys,0,_,_,_,hn=>by
  simp only [List.getD_cons_zero]at hn⊢;show(if cD x y≠0 then cD x y else hJ xs ys)=_;rw [if_pos hn]
 | x::xs,y::ys,k+1,h1,h2,ha,hn=>by
  simp only [List.getD_cons_succ]at hn⊢;show(if cD x y≠0 then cD x y else hJ xs ys)=_;have h0:=ha 0 (by omega);simp only [List.getD_cons_zero]at h0;rw [if_neg (fun h=>h h0)];exact ot xs ys k (by simpa using h1) (by simpa using h2) (fun j hj=>by simpa using ha (j+1) (by omega)) hn
theorem ou:∀(xs ys:List Do),ys.length<xs.length→(∀j,j<ys.length→cD (xs.getD j do0) (ys.getD j do0)=0)→hJ xs ys=1
 | [],ys,h,_=>by simp at h
 | x::xs,[],_,_=>rfl
 | x::xs,y::ys,h,ha=>by
  show(if cD x y≠0 then cD x y else hJ xs ys)=_;have h0:=ha 0 (by simp);simp only [List.getD_cons_zero]at h0;rw [if_neg (fun h=>h h0)];exact ou xs ys (by simpa using h) (fun j hj=>by simpa using ha (j+1) (by simpa using hj))
theorem qb:∀(xs ys:List Do),xs.length≤ys.length→(∀j,j<xs.length→cD (xs.getD j do0) (ys.getD j do0)=0)→hJ xs ys=if xs.length<ys.length then-1 else 0
 | [],[],_,_=>rfl
 | [],y::ys,_,_=>by simp [hJ]
 | x::xs,[],h,_=>by simp at h
 | x::xs,y::ys,h,ha=>by
  show(if cD x y≠0 then cD x y else hJ xs ys)=_;have h0:=ha 0 (by simp);simp only [List.getD_cons_zero]at h0;rw [if_neg (fun h=>h h0),qb xs ys (by simpa using h) (fun j hj=>by simpa using ha (j+1) (by simpa using hj))];simp
theorem jW (u v:Value) (xs ys:List Mt) (w:World) (hu:MsAt w u xs) (hv:MsAt w v ys) (hl:xs.length≤2000000) (hl2:ys.length≤2000000):
  Calls Tryz.prog 149 #[u,v,.func (.func 150) #[] #[]] w fun e w'=>e= .returned (.int .i64 (eR xs ys))∧Grw w w':=by
 obtain⟨ua,uc,rfl,hun,huL⟩:=hu;obtain⟨va,vc,rfl,hvn,hvL⟩:=hv;go_enter Tryz.func149,Tryz.ntmps149;go_wp2_with fail
 go_loopw [13] (fun i wr=>∃k:Nat,k≤xs.length∧k≤ys.length∧i= .int .i64 k∧(∀j,j<k→cM (xs.getD j mt0) (ys.getD j mt0)=0)∧Grw w wr) (fun i _=>xs.length-(intOf i).toNat)
 case atStart=>exact⟨0,by omega,by omega,rfl,fun j h=>absurd h (by omega),Grw.refl _⟩
 case round=>
  obtain⟨k,hk,hk2,rfl,hall,hgr⟩:=hrel;have HALL:=aa hall;clear hall;have hbel:=hgr.below;have hsz:=hbel.size;by_cases hlt:k<xs.length
  ·obtain⟨b,off,rfl,hcap,hcell⟩:∃b off,ua=some ⟨b,off,none⟩∧xs.length≤uc∧∀i,i<xs.length→w.cell? ⟨b,off+i*3,none⟩=some (.int .i64 (xs.getD i mt0).f)∧w.cell? ⟨b,off+i*3+1,none⟩=some (.int .i64 (xs.getD i mt0).m)∧w.cell? ⟨b,off+i*3+2,none⟩=some (.int .i64 (xs.getD i mt0).v):=by
    rcases huL with h0 | h
    ·omega
    ·exact h
   obtain⟨g0,g1,g2⟩:=hcell k hlt;have m0:=ae g0 hbel zr;have m1:=ae g1 hbel zr;have m2:=ae g2 hbel zr;clear g0 g1 g2 hcell huL;by_cases hlt2:k<ys.length
   ·obtain⟨b2,off2,rfl,hcap2,hcell⟩:∃b off,va=some ⟨b,off,none⟩∧ys.length≤vc∧∀i,i<ys.length→w.cell? ⟨b,off+i*3,none⟩=some (.int .i64 (ys.getD i mt0).f)∧w.cell? ⟨b,off+i*3+1,none⟩=some (.int .i64 (ys.getD i mt0).m)∧w.cell? ⟨b,off+i*3+2,none⟩=some (.int .i64 (ys.getD i mt0).v):=by
     rcases hvL with h0 | h
     ·omega
     ·exact h
    obtain⟨g0,g1,g2⟩:=hcell k hlt2;have n0:=ae g0 hbel zr;have n1:=ae g1 hbel zr;have n2:=ae g2 hbel zr;clear g0 g1 g2 hcell hvL;have hnb2:=bw n0;have HX:Hid (cM (xs.getD k mt0) (ys.getD k mt0)=0→∀j,j<k+1→cM (xs.getD j mt0) (ys.getD j mt0)=0):=fun h j hj=>by
     by_cases e:j=k
     ·subst e;exact h
     ·exact HALL.out j (by omega)
    have HV:Hid (cM (xs.getD k mt0) (ys.getD k mt0)≠0→eR xs ys=cM (xs.getD k mt0) (ys.getD k mt0)):=fun h=>oD xs ys k hlt hlt2 HALL.out h;have HC:Hid (∀W:World,Calls Tryz.prog 150 #[.agg #[.int .i64 (xs.getD k mt0).f,.int .i64 (xs.getD k mt0).m,.int .i64 (xs.getD k mt0).v],.agg #[.int .i64 (ys.getD k mt0).f,.int .i64 (ys.getD k mt0).m,.int .i64 (ys.getD k mt0).v]] W fun e w'=>e= .returned (.int .i64 (cM (xs.getD k mt0) (ys.getD k mt0)))∧Grw W w'):=fun W=>nw _ _ _ _ _ _ W;generalize cM (xs.getD k mt0) (ys.getD k mt0)=R at*;generalize xs.getD k mt0=X at*;generalize ys.getD k mt0=Y at*;have hgA:=(hgr.alloc (.cells #[.int .i64 X.f,.int .i64 X.m,.int .i64 X.v] 131)).alloc (.cells #[.int .i64 Y.f,.int .i64 Y.m,.int .i64 Y.v] 131);go_wp2_with fail
    refine(ag HC _).mono ?_;rintro e w1 ⟨rfl,hg1⟩;have hg2:=hgA.trans hg1;clear m0 m1 m2 n0 n1 n2 hg1 HC;by_cases hR:R=0
    ·have HR:=aa (HX.out hR);subst hR;clear HX HV;go_wp2_with fail
     go_roundw
     case rel=>exact⟨k+1,by omega,by omega,by go_num,HR.out,hg2⟩
     case measure=>simp [intOf];omega
    ·have HR:=aa (HV.out hR);clear HX HV;go_wp2_with fail
     go_ret;exact⟨ah HR.out.symm,hg2⟩
   ·have hge:(ys.length:Int)≤(k:Int):=(by omega);have HR:=aa (oz xs ys (by omega) (fun j hj=>HALL.out j (by omega)));clear HALL hvL;generalize xs.getD k mt0=X at*;go_wp2_with fail
    go_ret;exact⟨ah HR.out.symm,hgr.alloc _⟩
  ·have hke:k=xs.length:=(by omega);have HR:=aa (rx xs ys (by omega) (fun j hj=>HALL.out j (by omega)));clear HALL huL hvL;by_cases hlt2:xs.length<ys.length
   ·rw [if_pos hlt2]at HR;go_wp2_with fail
    go_ret;exact⟨ah HR.out.symm,hgr⟩
   ·rw [if_neg hlt2]at HR;go_wp2_with fail
    go_ret;exact⟨ah HR.out.symm,hgr⟩
theorem jG (u v:Value) (xs ys:List Do) (w:World) (hu:DsAt w u xs) (hv:DsAt w v ys) (hl:xs.length≤2000000) (hl2:ys.length≤2000000):
  Calls Tryz.prog 152 #[u,v,.func (.func 153) #[] #[]] w fun e w'=>e= .returned (.int .i64 (hJ xs ys))∧Grw w w':=by
 obtain⟨ua,uc,rfl,hun,huL⟩:=hu;obtain⟨va,vc,rfl,hvn,hvL⟩:=hv;go_enter Tryz.func152,Tryz.ntmps152;go_wp2_with fail
 go_loopw [13] (fun i wr=>∃k:Nat,k≤xs.length∧k≤ys.length∧i= .int .i64 k∧(∀j,j<k→cD (xs.getD j do0) (ys.getD j do0)=0)∧Grw w wr) (fun i _=>xs.length-(intOf i).toNat)
 case atStart=>exact⟨0,by omega,by omega,rfl,fun j h=>absurd h (by omega),Grw.refl _⟩
 case round=>
  obtain⟨k,hk,hk2,rfl,hall,hgr⟩:=hrel;have HALL:=aa hall;clear hall;have hbel:=hgr.below;have hsz:=hbel.size;by_cases hlt:k<xs.length
  ·obtain⟨b,off,rfl,hcap,hcell⟩:∃b off,ua=some ⟨b,off,none⟩∧xs.length≤uc∧∀i,i<xs.length→w.cell? ⟨b,off+i*3,none⟩=some (.int .i64 (xs.getD i do0).k)∧w.cell? ⟨b,off+i*3+1,none⟩=some (.int .i64 (xs.getD i do0).a)∧w.cell? ⟨b,off+i*3+2,none⟩=some (.int .i64 (xs.getD i do0).n):=by
    rcases huL with h0 | h
    ·omega
    ·exact h
   obtain⟨g0,g1,g2⟩:=hcell k hlt;have m0:=ae g0 hbel zr;have m1:=ae g1 hbel zr;have m2:=ae g2 hbel zr;clear g0 g1 g2 hcell huL;by_cases hlt2:k<ys.length
   ·obtain⟨b2,off2,rfl,hcap2,hcell⟩:∃b off,va=some ⟨b,off,none⟩∧ys.length≤vc∧∀i,i<ys.length→w.cell? ⟨b,off+i*3,none⟩=some (.int .i64 (ys.getD i do0).k)∧w.cell? ⟨b,off+i*3+1,none⟩=some (.int .i64 (ys.getD i do0).a)∧w.cell? ⟨b,off+i*3+2,none⟩=some (.int .i64 (ys.getD i do0).n):=by
     rcases hvL with h0 | h
     ·omega
     ·exact h
    obtain⟨g0,g1,g2⟩:=hcell k hlt2;have n0:=ae g0 hbel zr;have n1:=ae g1 hbel zr;have n2:=ae g2 hbel zr;clear g0 g1 g2 hcell hvL;have hnb2:=bw n0;have HX:Hid (cD (xs.getD k do0) (ys.getD k do0)=0→∀j,j<k+1→cD (xs.getD j do0) (ys.getD j do0)=0):=fun h j hj=>by
     by_cases e:j=k
     ·subst e;exact h
     ·exact HALL.out j (by omega)
    have HV:Hid (cD (xs.getD k do0) (ys.getD k do0)≠0→hJ xs ys=cD (xs.getD k do0) (ys.getD k do0)):=fun h=>ot xs ys k hlt hlt2 HALL.out h;have HC:Hid (∀W:World,Calls Tryz.prog 153 #[.agg #[.int .i64 (xs.getD k do0).k,.int .i64 (xs.getD k do0).a,.int .i64 (xs.getD k do0).n],.agg #[.int .i64 (ys.getD k do0).k,.int .i64 (ys.getD k do0).a,.int .i64 (ys.getD k do0).n]] W fun e w'=>e= .returned (.int .i64 (cD (xs.getD k do0) (ys.getD k do0)))∧Grw W w'):=fun W=>nO _ _ _ _ _ _ W;generalize cD (xs.getD k do0) (ys.getD k do0)=R at*;generalize xs.getD k do0=X at*;generalize ys.getD k do0=Y at*;have hgA:=(hgr.alloc (.cells #[.int .i64 X.k,.int .i64 X.a,.int .i64 X.n] 115)).alloc (.cells #[.int .i64 Y.k,.int .i64 Y.a,.int .i64 Y.n] 115);go_wp2_with fail
    refine(ag HC _).mono ?_;rintro e w1 ⟨rfl,hg1⟩;have hg2:=hgA.trans hg1;clear m0 m1 m2 n0 n1 n2 hg1 HC;by_cases hR:R=0
    ·have HR:=aa (HX.out hR);subst hR;clear HX HV;go_wp2_with fail
     go_roundw
     case rel=>exact⟨k+1,by omega,by omega,by go_num,HR.out,hg2⟩
     case measure=>simp [intOf];omega
    ·have HR:=aa (HV.out hR);clear HX HV;go_wp2_with fail
     go_ret;exact⟨ah HR.out.symm,hg2⟩
   ·have hge:(ys.length:Int)≤(k:Int):=(by omega);have HR:=aa (ou xs ys (by omega) (fun j hj=>HALL.out j (by omega)));clear HALL hvL;generalize xs.getD k do0=X at*;go_wp2_with fail
    go_ret;exact⟨ah HR.out.symm,hgr.alloc _⟩
  ·have hke:k=xs.length:=(by omega);have HR:=aa (qb xs ys (by omega) (fun j hj=>HALL.out j (by omega)));clear HALL huL hvL;by_cases hlt2:xs.length<ys.length
   ·rw [if_pos hlt2]at HR;go_wp2_with fail
    go_ret;exact⟨ah HR.out.symm,hgr⟩
   ·rw [if_neg hlt2]at HR;go_wp2_with fail
    go_ret;exact⟨ah HR.out.symm,hgr⟩
end
theorem lC (x:Ac) (w:World) (h0:0≤x.sb) (h1:x.sb≤16) (h2:0≤x.db) (h3:x.db≤16):Calls Tryz.prog 137 #[.agg #[.int .i64 x.s,.int .i64 x.p,.bool x.n,.int .i64 x.src,.int .i64 x.sb,.int .i64 x.dst,.int .i64 x.db,.int .i64 x.o,.bool x.d]] w fun e w'=>∃u,e= .returned u∧w'.ownsRow w.heap.size 131 3 u (bl x).length (M (bl x))∧Below w.heap.size w w':=by
 obtain⟨iM,inM,zM0,zM1,zM2⟩:=info_parts fh;go_enter Tryz.func137,Tryz.ntmps137;go_wp2_with fail
 obtain⟨W0,hW⟩:∃W0,W0=w.alloc (.cells #[.int .i64 x.s,.int .i64 x.p,.bool x.n,.int .i64 x.src,.int .i64 x.sb,.int .i64 x.dst,.int .i64 x.db,.int .i64 x.o,.bool x.d] 62):=⟨_,rfl⟩;rw [←hW];obtain⟨kb,hblk⟩:∃kb,kb=w.heap.size:=⟨_,rfl⟩;have k0:W0.cell? ⟨kb,0,none⟩=some (.int .i64 x.s):=zN2 hW hblk rfl;have k1:W0.cell? ⟨kb,1,none⟩=some (.int .i64 x.p):=zN2 hW hblk rfl;have k2:W0.cell? ⟨kb,2,none⟩=some (.bool x.n):=zN2 hW hblk rfl;have k3:W0.cell? ⟨kb,3,none⟩=some (.int .i64 x.src):=zN2 hW hblk rfl;have k4:W0.cell? ⟨kb,4,none⟩=some (.int .i64 x.sb):=zN2 hW hblk rfl;have k5:W0.cell? ⟨kb,5,none⟩=some (.int .i64 x.dst):=zN2 hW hblk rfl;have k6:W0.cell? ⟨kb,6,none⟩=some (.int .i64 x.db):=zN2 hW hblk rfl;have k7:W0.cell? ⟨kb,7,none⟩=some (.int .i64 x.o):=zN2 hW hblk rfl;have k8:W0.cell? ⟨kb,8,none⟩=some (.bool x.d):=zN2 hW hblk rfl;have hbN:Below w.heap.size w W0:=by rw [hW];exact ak _ _
 have hzW0:W0.heap.size=kb+1:=by rw [hW,hblk];simp
 have hkbl:w.heap.size≤kb:=by omega
 rw [←hblk];clear hW hblk;have HB:=hbN;clear hbN hzW0;have hs0_1:=HB.size;refine wp_region_held_drew (S:=(fun w'=>w'.cell? ⟨kb,0,none⟩=some (.int .i64 x.s)∧w'.cell? ⟨kb,1,none⟩=some (.int .i64 x.p)∧w'.cell? ⟨kb,2,none⟩=some (.bool x.n)∧w'.cell? ⟨kb,3,none⟩=some (.int .i64 x.src)∧w'.cell? ⟨kb,4,none⟩=some (.int .i64 x.sb)∧w'.cell? ⟨kb,5,none⟩=some (.int .i64 x.dst)∧w'.cell? ⟨kb,6,none⟩=some (.int .i64 x.db)∧w'.cell? ⟨kb,7,none⟩=some (.int .i64 x.o)∧w'.cell? ⟨kb,8,none⟩=some (.bool x.d))) (by kernel_rfl) ⟨k0,k1,k2,k3,k4,k5,k6,k7,k8⟩ (fun hHeld=>?_);have HDW:Below W0.heap.size W0 W0.drew:=(Below.refl _ _).drew;have hs1:=HDW.size;replace⟨k0,k1,k2,k3,k4,k5,k6,k7⟩:=cR k0 k1 k2 k3 k4 k5 k6 k7 HDW;replace k8:=zC k8 HDW;replace HB:=zT HB HDW;clear HDW;generalize W0.drew=V2 at*;refine sqA [(0,4),(1,5),(2,6),(3,7),(5,9),(6,10),(7,11),(8,12)] ?_;(iterate 8 (refine sqN rfl (by kernel_rfl) (fun _ _ _ h=>h) rfl ‹_› (by intro w h;go_simp <;>with_reducible rfl) ?_;simp only [nz]));refine sqZ ?_;refine rsq 4 8 (by kernel_rfl) rfl (fun K hK=>?_);go_simp;clear hHeld;refine(lk _ _ _ _ h0 h1).mono ?_;rintro e V3 ⟨rfl,hb3⟩;have hs4:=hb3.size;replace⟨k0,k1,k2,k3,k4,k5,k6,k7⟩:=cR k0 k1 k2 k3 k4 k5 k6 k7 hb3;replace k8:=zC k8 hb3;replace HB:=zT HB hb3;clear hb3;refine hK.out _ _ ⟨k0,k1,k2,k3,k4,k5,k6,k7,k8⟩ (fun hHeld=>?_);clear hK K;(try simp only [nz]);refine rsq 9 13 (by kernel_rfl) rfl (fun K hK=>?_);go_simp;clear hHeld;refine(lk _ _ _ _ h2 h3).mono ?_;rintro e V5 ⟨rfl,hb5⟩;have hs6:=hb5.size;replace⟨k0,k1,k2,k3,k4,k5,k6,k7⟩:=cR k0 k1 k2 k3 k4 k5 k6 k7 hb5;replace k8:=zC k8 hb5;replace HB:=zT HB hb5;clear hb5;refine hK.out _ _ ⟨k0,k1,k2,k3,k4,k5,k6,k7,k8⟩ (fun hHeld=>?_);clear hK K;(try simp only [nz]);refine rsq 10 14 (by kernel_rfl) rfl (fun K hK=>?_);go_simp;clear hHeld;refine aC (fun V7 g7 hV hg=>?_);rw [←hg];have hbN:=zB hV;have hg7:V5.heap.size≤g7:=by omega
 have hl7:=zL hV hg;have HM:Hid (V7.ownsRow w.heap.size 131 3 (.slice (some ⟨g7,0,none⟩) 2 2) 2 (M [hiM 4 x.src x.sb,hiM 5 x.dst x.db])):=zW hV hg HB.size (by decide) rfl;have hs8:=hbN.size;replace⟨k0,k1,k2,k3,k4,k5,k6,k7⟩:=cR k0 k1 k2 k3 k4 k5 k6 k7 hbN;replace k8:=zC k8 hbN;replace HB:=zT HB hbN;clear hV hg hbN;refine hK.out _ _ ⟨k0,k1,k2,k3,k4,k5,k6,k7,k8⟩ (fun hHeld=>?_);clear hK K;(try simp only [nz]);refine tq 11 3 rfl (by kernel_rfl) (fun _ _ _ h=>h) rfl ‹_› (by intro w h;go_simp <;>with_reducible rfl) ?_;simp only [nz];refine wpAnyH_done (by kernel_rfl) ?_ _;clear hHeld;by_cases ho:x.o= -1
 ·have HRM:Hid (bl x= [hiM 4 x.src x.sb,hiM 5 x.dst x.db]):=by
   refine aa ?_;unfold bl;rw [if_pos ho];rfl
  have hoc:(x.o != -1)=false:=(by simp [ho]);clear ho;go_wp2_with fail
  go_ret;exact⟨_,rfl,by rw [HRM.out];exact HM.out,HB⟩
 ·have HRM:Hid (bl x= [hiM 4 x.src x.sb,hiM 5 x.dst x.db]++ [isM 7 x.o]):=by
   refine aa ?_;unfold bl;rw [if_neg ho]
  have hoc:(x.o != -1)=true:=(by simp [ho]);clear ho;go_wp2_with fail
  refine(bK _ _ _).mono ?_;rintro e V9 ⟨rfl,hb9⟩;have hs10:=hb9.size;replace⟨k0,k1,k2,k3,k4,k5,k6,k7⟩:=cR k0 k1 k2 k3 k4 k5 k6 k7 hb9;replace k8:=zC k8 hb9;replace HM:=zO HM hb9;replace HB:=zT HB hb9;clear hb9;obtain⟨WA,hWA⟩:∃WA,WA=V9.alloc (.cells #[.int .i64 7,.int .i64 65535,.int .i64 x.o] 131):=⟨_,rfl⟩;have hbN:Below V9.heap.size V9 WA:=by rw [hWA];exact ak _ _
  have NEWS:Hid (∀j u,(M [isM 7 x.o])[j]? =some u→WA.cell? ((⟨V9.heap.size,0,none⟩:Addr).add j)=some u):=by rw [hWA];exact aa (eA V9 _ _)
  replace HM:=zO HM hbN;replace HB:=zT HB hbN;have hsA:=HB.size;have HWA:Hid (V9.alloc (.cells #[.int .i64 7,.int .i64 65535,.int .i64 x.o] 131)=WA):=hWA.symm;clear hWA hbN;go_wp2_with (at_builtin;rw [ag HWA];refine wpList_append_own _ rfl _ _ 133 rfl w.heap.size 131 iM _ 3 24 Tryz.underlying133 inM zM0 zM1 zM2 rfl (by decide) _ _ _ rfl (ag HM) ⟨V9.heap.size,0,none⟩ 1 1 (M [isM 7 x.o]) rfl rfl (ag NEWS) (gV _) (by decide) (by decide) hsA ?_)
  intro v3 w3 ho3 hg3 _;have hb3:Below w.heap.size w w3:=HB.grown hg3 hsA (aS HM.out);have HE:Hid (w3.ownsRow w.heap.size 131 3 v3 (bl x).length (M (bl x))):=by rw [HRM.out];exact aa ho3
  obtain⟨o3,c3,rfl⟩:=az ho3;clear ho3 hg3 HM NEWS HWA;go_wp2_with fail
  go_ret;exact⟨_,rfl,HE.out,hb3⟩
theorem lj (S:List Sw) (P:List Pr) (A:List Ac) (s1 p1 a1:Option Addr) (s2 p2 a2:Nat) (x:Sw) (inn:Bool) (w:World) (hC:CfAt w (.slice s1 S.length s2) (.slice p1 P.length p2) (.slice a1 A.length a2) S P A) (hl:A.length≤1000):
  Calls Tryz.prog 82 #[.agg #[.slice s1 S.length s2,.slice p1 P.length p2,.slice a1 A.length a2],.agg #[.int .i64 x.i,.int .i64 x.t,.int .i64 x.g],.bool inn] w fun e w'=>∃u,e= .returned u∧w'.ownsRow w.heap.size 62 9 u (aP A x.i inn).length ((aP A x.i inn).flatMap acC)∧Below w.heap.size w w':=by
 have HA:=aa hC.2.2;clear hC;have HR:Hid (aP A x.i inn=A.filter fun r=>r.s==x.i&&r.n==inn):=rfl;go_enter Tryz.func82,Tryz.ntmps82;go_wp2_with fail
 obtain⟨W0,hW⟩:∃W0,W0=w.alloc (.cells #[.slice s1 S.length s2,.slice p1 P.length p2,.slice a1 A.length a2] 26):=⟨_,rfl⟩;rw [←hW];obtain⟨cb,hblk⟩:∃cb,cb=w.heap.size:=⟨_,rfl⟩;have k0:W0.cell? ⟨cb,0,none⟩=some (.slice s1 S.length s2):=zN2 hW hblk rfl;have k1:W0.cell? ⟨cb,1,none⟩=some (.slice p1 P.length p2):=zN2 hW hblk rfl;have k2:W0.cell? ⟨cb,2,none⟩=some (.slice a1 A.length a2):=zN2 hW hblk rfl;have hbN:Below w.heap.size w W0:=by rw [hW];exact ak _ _
 have hzW0:W0.heap.size=cb+1:=by rw [hW,hblk];simp
 have hcbl:w.heap.size≤cb:=by omega
 rw [←hblk];clear hW hblk;have HB:=hbN;clear hbN;obtain⟨W1,hW⟩:∃W1,W1=W0.alloc (.cells #[.int .i64 x.i,.int .i64 x.t,.int .i64 x.g] 60):=⟨_,rfl⟩;rw [←hW];obtain⟨sb,hblk⟩:∃sb,sb=cb+1:=⟨_,rfl⟩;have d0:W1.cell? ⟨sb,0,none⟩=some (.int .i64 x.i):=zN2 hW (hblk.trans hzW0.symm) rfl;have d1:W1.cell? ⟨sb,1,none⟩=some (.int .i64 x.t):=zN2 hW (hblk.trans hzW0.symm) rfl;have d2:W1.cell? ⟨sb,2,none⟩=some (.int .i64 x.g):=zN2 hW (hblk.trans hzW0.symm) rfl;have hbN:Below W0.heap.size W0 W1:=by rw [hW];exact ak _ _
 have hzW1:W1.heap.size=sb+1:=by rw [hW,hblk];simp [hzW0]
 have hsbl:cb<sb:=by omega
 rw [←hblk];clear hW hblk hzW0;replace⟨k0,k1,k2⟩:=ep k0 k1 k2 hbN;replace HB:=zT HB hbN;clear hbN;obtain⟨W2,hW⟩:∃W2,W2=W1.alloc (.cells #[.bool inn] 4):=⟨_,rfl⟩;rw [←hW];obtain⟨ib,hblk⟩:∃ib,ib=sb+1:=⟨_,rfl⟩;have i0:W2.cell? ⟨ib,0,none⟩=some (.bool inn):=zN2 hW (hblk.trans hzW1.symm) rfl;have hbN:Below W1.heap.size W1 W2:=by rw [hW];exact ak _ _
 have hzW2:W2.heap.size=ib+1:=by rw [hW,hblk];simp [hzW1]
 have hibl:sb<ib:=by omega
 rw [←hblk];clear hW hblk hzW1;replace⟨k0,k1,k2,d0,d1,d2⟩:=em k0 k1 k2 d0 d1 d2 hbN;replace HB:=zT HB hbN;clear hbN hzW2;refine(pz A _ _ _ _ _ (RowAt.below HA.out HB zr) (rk d0 i0) vG hl).mono ?_;rintro e w1 ⟨u,rfl,ho,hb⟩;rw [←HR.out]at ho;have HE:=aa (aA ho HB.size);have HB2:=aa (HB.trans (hb.mono HB.size));obtain⟨o,c,rfl⟩:=az ho;clear ho hb HB HA;go_wp2_with fail
 go_ret;exact⟨_,rfl,HE.out,HB2.out⟩
theorem qG (x y:Ac) (w:World):Calls Tryz.prog 136 #[.agg #[.int .i64 x.s,.int .i64 x.p,.bool x.n,.int .i64 x.src,.int .i64 x.sb,.int .i64 x.dst,.int .i64 x.db,.int .i64 x.o,.bool x.d],.agg #[.int .i64 y.s,.int .i64 y.p,.bool y.n,.int .i64 y.src,.int .i64 y.sb,.int .i64 y.dst,.int .i64 y.db,.int .i64 y.o,.bool y.d]] w fun e w'=>e= .returned (.int .i64 (aJ y.p x.p))∧Below w.heap.size w w':=by
 go_enter Tryz.func136,Tryz.ntmps136;go_wp2_with fail
 refine(cJ _ _ _).mono ?_;rintro e w1 ⟨rfl,hw1⟩;have hb:Below w.heap.size w w1:=by rw [hw1];exact((Below.refl _ _).alloc zr _).alloc (by simp) _
 clear hw1;go_wp2_with fail
 go_ret;exact⟨rfl,hb⟩
def eV (L:List Ac):Prop:=∀(u:Value) (B:Nat) (w:World),w.ownsRow B 62 9 u L.length (L.flatMap acC)→B≤w.heap.size→Calls Tryz.prog 135 #[u,.func (.func 136) #[] #[]] w fun e w'=>e= .returned (.tuple #[])∧w'.ownsRow B 62 9 u L.length ((aH L).flatMap acC)∧w.grownBy w' u.ownBlock
theorem wu {P:Program} {c:Code} {Q:Exit→Act→World→Prop} {a:Act} {w:World} (F:Nat→Nat→Nat→Nat→Nat→Nat→World→Prop) (A1:Nat→Nat→Nat→Nat→Nat→Nat→Act) (h:c.wp P (fun e a' w'=>e= .normal∧∃x y z u v s,a'=A1 x y z u v s∧F x y z u v s w') a w) (hq:∀x y z u v s w',F x y z u v s w'→Q .normal (A1 x y z u v s) w'):c.wp P Q a w:=
 Code.wp_mono (fun e a' w' ⟨he,x,y,z,u,v,s,ha,hf⟩=>by subst he;subst ha;exact hq x y z u v s w' hf) h
theorem BN {w:World} {b:Nat} {p q r s:Value} (h0:w.cell? ⟨b,0,none⟩=some p) (h1:w.cell? ⟨b,1,none⟩=some q) (h2:w.cell? ⟨b,2,none⟩=some r) (h3:w.cell? ⟨b,3,none⟩=some s) (x y z u:Value):
  ((((w.setCell ⟨b,0,none⟩ x).setCell ⟨b,1,none⟩ y).setCell ⟨b,2,none⟩ z).setCell ⟨b,3,none⟩ u).cell? ⟨b,0,none⟩=some x∧((((w.setCell ⟨b,0,none⟩ x).setCell ⟨b,1,none⟩ y).setCell ⟨b,2,none⟩ z).setCell ⟨b,3,none⟩ u).cell? ⟨b,1,none⟩=some y∧((((w.setCell ⟨b,0,none⟩ x).setCell ⟨b,1,none⟩ y).setCell ⟨b,2,none⟩ z).setCell ⟨b,3,none⟩ u).cell? ⟨b,2,none⟩=some z∧((((w.setCell ⟨b,0,none⟩ x).setCell ⟨b,1,none⟩ y).setCell ⟨b,2,none⟩ z).setCell ⟨b,3,none⟩ u).cell? ⟨b,3,none⟩=some u:=by
 have o:∀(W:World) (i j:Nat) (v:Value),i≠j→(W.setCell ⟨b,i,none⟩ v).cell? ⟨b,j,none⟩=W.cell? ⟨b,j,none⟩:=fun W i j v hij=>World.cell?_setCell_other _ _ _ _ (fun e=>hij (by simpa using (congrArg Addr.off e)));refine⟨?_,?_,?_,?_⟩
 ·rw [o _ 3 0 _ (by decide),o _ 2 0 _ (by decide),o _ 1 0 _ (by decide)];exact World.cell?_setCell_same _ _ _ h0
 ·rw [o _ 3 1 _ (by decide),o _ 2 1 _ (by decide)];exact World.cell?_setCell_same _ _ _ ((o _ 0 1 _ (by decide)).trans h1)
 ·rw [o _ 3 2 _ (by decide)];exact World.cell?_setCell_same _ _ _ ((o _ 1 2 _ (by decide)).trans ((o _ 0 2 _ (by decide)).trans h2))
 ·exact World.cell?_setCell_same _ _ _ ((o _ 2 3 _ (by decide)).trans ((o _ 1 3 _ (by decide)).trans ((o _ 0 3 _ (by decide)).trans h3)))
theorem tJ (w:World) (b:Nat) (x y z u:Value):w.grownBy ((((w.setCell ⟨b,0,none⟩ x).setCell ⟨b,1,none⟩ y).setCell ⟨b,2,none⟩ z).setCell ⟨b,3,none⟩ u) (some b):=by
 have h:=fun(W:World) (i:Nat) (v:Value)=>kO W ⟨b,i,none⟩ v;have t:∀{A B C:World},A.grownBy B (some b)→B.grownBy C (some b)→A.grownBy C (some b):=fun h1 h2=>⟨h2.os.trans h1.os,h2.tape.trans h1.tape,h2.output.trans h1.output,Nat.le_trans h1.size h2.size,fun k hk hne=>(h2.block k (Nat.lt_of_lt_of_le hk h1.size) hne).trans (h1.block k hk hne)⟩;exact t (t (t (h w 0 x) (h _ 1 y)) (h _ 2 z)) (h _ 3 u)
theorem qE (w:World) (b j:Nat) (x y z u:Value):((((w.setCell ⟨b,0,none⟩ x).setCell ⟨b,1,none⟩ y).setCell ⟨b,2,none⟩ z).setCell ⟨b,3,none⟩ u).frozen? ⟨b,j,none⟩=w.frozen? ⟨b,j,none⟩:=by
 rw [World.frozen?_setCell,World.frozen?_setCell,World.frozen?_setCell,World.frozen?_setCell]
theorem sA (r:Ac):2≤(bl r).length∧(bl r).length≤3:=by
 unfold bl;split <;>simp
theorem fw (R:List Ac):(aH R).length=R.length:=by
 unfold aH;rw [lN,aO,aO,List.length_take,List.length_drop];omega
theorem tj (R:List Ac) (z:Ac):z∈aH R↔z∈R:=by
 unfold aH;rw [lK,fj,fj, ←List.mem_append,List.take_append_drop]
def fG (R:List Ac) (s t n:Int) (k:Nat):List Fl:=⟨t,0,[isM 8 s],[aT n]⟩::(List.range k).map (cV R s t n)
theorem rP (R:List Ac) (s t n:Int) (k:Nat):fG R s t n (k+1)=fG R s t n k++ [cV R s t n k]:=by
 unfold fG;rw [List.range_succ,List.map_append];rfl
theorem sE (R:List Ac) (s t n:Int) (k:Nat):(fG R s t n k).length=k+1:=by
 unfold fG;rw [List.length_cons,List.length_map,List.length_range]
theorem jd (R:List Ac) (x:Sw) (t n:Int) (u:Value) (B:Nat) (w:World) (ho:w.ownsRow B 62 9 u R.length (R.flatMap acC)) (hB:B≤w.heap.size) (hS:eV R) (hR:∀r∈R,(0≤r.sb∧r.sb≤16)∧0≤r.db∧r.db≤16) (hl:R.length≤1000):
  Calls Tryz.prog 81 #[u,.agg #[.int .i64 x.i,.int .i64 x.t,.int .i64 x.g],.int .i64 t,.int .i64 n] w fun e w'=>∃v,e= .returned v∧FR w' w.heap.size v (bs (aH R) x.i t n)∧Below B w w':=by
 obtain⟨iM,inM,zM0,zM1,zM2⟩:=info_parts fh;obtain⟨iD,inD,zD0,zD1,zD2⟩:=info_parts ga;have HS:=aa (fun W (hW:Below w.heap.size w W)=>hS u B W (ar ho hW) (Nat.le_trans hB hW.size));have HUL:=aa (fun g (e:u.ownBlock=some g)=>dD ho e);have HUG:=aa (aS ho);obtain⟨uo,uc,rfl⟩:=az ho;obtain⟨L,hL⟩:∃L,L=aH R:=⟨_,rfl⟩;have HLL:Hid (L.length=R.length):=by rw [hL];exact aa (fw R)
 have HLB:Hid (∀r∈L,(0≤r.sb∧r.sb≤16)∧0≤r.db∧r.db≤16):=aa (fun r hr=>hR r (by rw [hL]at hr;exact(tj R r).1 hr));have HRF:Hid (bs L x.i t n=fG L x.i t n L.length):=rfl;rw [←hL]at HS⊢;clear hL ho hS hR;obtain⟨N,hN⟩:∃N,N=R.length:=⟨_,rfl⟩;rw [←hN]at HS HLL HUL HUG hl⊢;clear hN;go_enter Tryz.func81,Tryz.ntmps81;go_wp2_with fail
 obtain⟨W0,hW⟩:∃W0,W0=w.alloc (.cells #[.int .i64 x.i,.int .i64 x.t,.int .i64 x.g] 60):=⟨_,rfl⟩;rw [←hW];obtain⟨sb,hblk⟩:∃sb,sb=w.heap.size:=⟨_,rfl⟩;have d0:W0.cell? ⟨sb,0,none⟩=some (.int .i64 x.i):=zN2 hW hblk rfl;have d1:W0.cell? ⟨sb,1,none⟩=some (.int .i64 x.t):=zN2 hW hblk rfl;have d2:W0.cell? ⟨sb,2,none⟩=some (.int .i64 x.g):=zN2 hW hblk rfl;have hbN:Below w.heap.size w W0:=by rw [hW];exact ak _ _
 have hzW0:W0.heap.size=sb+1:=by rw [hW,hblk];simp
 have hsbl:w.heap.size≤sb:=by omega
 rw [←hblk];clear hW hblk;have HB:=hbN;clear hbN hzW0;have hw00:w.heap.size≤W0.heap.size:=HB.size;refine(bK _ _ _).mono ?_;rintro e V1 ⟨rfl,hb1⟩;have hs2:=hb1.size;replace⟨d0,d1,d2⟩:=ep d0 d1 d2 hb1;replace HB:=zT HB hb1;clear hb1;go_wp2_with fail
 refine(bm _ _ _ _).mono ?_;rintro e V3 ⟨rfl,hb3⟩;have hs4:=hb3.size;replace⟨d0,d1,d2⟩:=ep d0 d1 d2 hb3;replace HB:=zT HB hb3;clear hb3;go_wp2_with fail
 obtain⟨V5,hV⟩:∃V5,V5=V3.alloc (.cells #[.int .i64 8,.int .i64 65535,.int .i64 x.i] 131):=⟨_,rfl⟩;rw [←hV];obtain⟨g5,hg'⟩:∃g5,g5=V3.heap.size:=⟨_,rfl⟩;have hg:g5=V3.heap.size:=hg';rw [←hg'];have hbN:=zB hV;have hg5:V3.heap.size≤g5:=by omega
 have hl5:=zL hV hg;have hzV5:V5.heap.size=g5+1:=by rw [hV,hg];simp
 have m0:V5.cell? ⟨g5,0,none⟩=some (.int .i64 8):=zN2 hV hg rfl;have m1:V5.cell? ⟨g5,1,none⟩=some (.int .i64 65535):=zN2 hV hg rfl;have m2:V5.cell? ⟨g5,2,none⟩=some (.int .i64 x.i):=zN2 hV hg rfl;have hs6:=hbN.size;replace⟨d0,d1,d2⟩:=ep d0 d1 d2 hbN;replace HB:=zT HB hbN;clear hV hg hg' hbN;obtain⟨V7,hV⟩:∃V7,V7=V5.alloc (.cells #[.int .i64 4,.int .i64 0,.int .i64 n] 115):=⟨_,rfl⟩;rw [←hV];obtain⟨g7,hg'⟩:∃g7,g7=g5+1:=⟨_,rfl⟩;have hg:g7=V5.heap.size:=hg'.trans hzV5.symm;rw [←hg'];have hbN:=zB hV;have hg7:V5.heap.size≤g7:=by omega
 have hl7:=zL hV hg;have hzV7:V7.heap.size=g7+1:=by rw [hV,hg];simp
 have e0:V7.cell? ⟨g7,0,none⟩=some (.int .i64 4):=zN2 hV hg rfl;have e1:V7.cell? ⟨g7,1,none⟩=some (.int .i64 0):=zN2 hV hg rfl;have e2:V7.cell? ⟨g7,2,none⟩=some (.int .i64 n):=zN2 hV hg rfl;have hs8:=hbN.size;replace⟨d0,d1,d2,m0,m1,m2⟩:=em d0 d1 d2 m0 m1 m2 hbN;replace HB:=zT HB hbN;clear hV hg hg' hbN hzV5;clear hzV7;refine(ag HS _ HB).mono ?_;rintro e Ws ⟨rfl,hos,hgr⟩;have hs20:=hgr.size;have hs21:=HB.size;replace d0:=(hgr.cell_far ⟨sb,0,none⟩ (am d0) (fun e=>by have:=HUL.out sb e.symm;omega)).trans d0;replace d1:=(hgr.cell_far ⟨sb,1,none⟩ (am d1) (fun e=>by have:=HUL.out sb e.symm;omega)).trans d1;replace d2:=(hgr.cell_far ⟨sb,2,none⟩ (am d2) (fun e=>by have:=HUL.out sb e.symm;omega)).trans d2;replace m0:=(hgr.cell_far ⟨g5,0,none⟩ (am m0) (fun e=>by have:=HUL.out g5 e.symm;omega)).trans m0;replace m1:=(hgr.cell_far ⟨g5,1,none⟩ (am m1) (fun e=>by have:=HUL.out g5 e.symm;omega)).trans m1;replace m2:=(hgr.cell_far ⟨g5,2,none⟩ (am m2) (fun e=>by have:=HUL.out g5 e.symm;omega)).trans m2;replace e0:=(hgr.cell_far ⟨g7,0,none⟩ (am e0) (fun e=>by have:=HUL.out g7 e.symm;omega)).trans e0;replace e1:=(hgr.cell_far ⟨g7,1,none⟩ (am e1) (fun e=>by have:=HUL.out g7 e.symm;omega)).trans e1;replace e2:=(hgr.cell_far ⟨g7,2,none⟩ (am e2) (fun e=>by have:=HUL.out g7 e.symm;omega)).trans e2;have HBW:Hid (Below B w Ws):=aa ((HB.mono hB).grown hgr (Nat.le_trans hB HB.size) HUG.out);have HROW:Hid (Ws.ownsRow B 62 9 (.slice uo N uc) N (L.flatMap acC)):=aa hos;clear hos hgr HS HB;have HB:Below Ws.heap.size Ws Ws:=Below.refl _ _;have hx1:=am e0;have hx2:¬g7=Ws.heap.size:=by omega
 go_wp2_with fail
 clear hx2;obtain⟨V41,hV⟩:∃V41,V41=Ws.alloc (.cells #[.int .i64 8,.int .i64 65535,.int .i64 x.i] 131):=⟨_,rfl⟩;rw [←hV];obtain⟨g41,hg'⟩:∃g41,g41=Ws.heap.size:=⟨_,rfl⟩;have hg:g41=Ws.heap.size:=hg';rw [←hg'];have hbN:=zB hV;have hg41:Ws.heap.size≤g41:=by omega
 have hl41:=zL hV hg;have hzV41:V41.heap.size=g41+1:=by rw [hV,hg];simp
 have HM1:Hid (V41.ownsRow Ws.heap.size 131 3 (.slice (some ⟨g41,0,none⟩) 1 1) 1 (M [isM 8 x.i])):=zW hV hg HB.size (by decide) rfl;have hs42:=hbN.size;replace⟨d0,d1,d2,m0,m1,m2,e0,e1⟩:=cR d0 d1 d2 m0 m1 m2 e0 e1 hbN;replace e2:=zC e2 hbN;replace HB:=zT HB hbN;clear hV hg hg' hbN;obtain⟨V43,hV⟩:∃V43,V43=V41.alloc (.cells #[.int .i64 4,.int .i64 0,.int .i64 n] 115):=⟨_,rfl⟩;rw [←hV];obtain⟨g43,hg'⟩:∃g43,g43=g41+1:=⟨_,rfl⟩;have hg:g43=V41.heap.size:=hg'.trans hzV41.symm;rw [←hg'];have hbN:=zB hV;have hg43:V41.heap.size≤g43:=by omega
 have hl43:=zL hV hg;have hzV43:V43.heap.size=g43+1:=by rw [hV,hg];simp
 have HD1:Hid (V43.ownsRow Ws.heap.size 115 3 (.slice (some ⟨g43,0,none⟩) 1 1) 1 (D [aT n])):=zW hV hg HB.size (by decide) rfl;have hs44:=hbN.size;replace⟨d0,d1,d2,m0,m1,m2,e0,e1⟩:=cR d0 d1 d2 m0 m1 m2 e0 e1 hbN;replace e2:=zC e2 hbN;replace HM1:=zO HM1 hbN;replace HB:=zT HB hbN;clear hV hg hg' hbN hzV41;clear hzV43;refine(bp _ _ _ _ _ _ _ _ _).mono ?_;rintro e V45 ⟨rfl,hb45⟩;have hs46:=hb45.size;replace⟨d0,d1,d2,m0,m1,m2,e0,e1⟩:=cR d0 d1 d2 m0 m1 m2 e0 e1 hb45;replace e2:=zC e2 hb45;replace HM1:=zO HM1 hb45;replace HD1:=zO HD1 hb45;replace HB:=zT HB hb45;clear hb45;go_wp2_with fail
 obtain⟨V47,hV⟩:∃V47,V47=V45.alloc (.cells #[.int .i64 t,.int .i64 0,.slice (some ⟨g41,0,none⟩) 1 1,.slice (some ⟨g43,0,none⟩) 1 1] 135):=⟨_,rfl⟩;rw [←hV];obtain⟨g47,hg'⟩:∃g47,g47=V45.heap.size:=⟨_,rfl⟩;have hg:g47=V45.heap.size:=hg';rw [←hg'];have hbN:=zB hV;have hg47:V45.heap.size≤g47:=by omega
 have hl47:=zL hV hg;have hzV47:V47.heap.size=g47+1:=by rw [hV,hg];simp
 have HF0:Hid (FR V47 Ws.heap.size (.slice (some ⟨g47,0,none⟩) 1 1) (fG L x.i t n 0)):=by
  rw [hV,hg];refine aa (FR.lit (lo:=[⟨⟨t,0,[isM 8 x.i],[aT n]⟩,.slice (some ⟨g41,0,none⟩) 1 1,.slice (some ⟨g43,0,none⟩) 1 1⟩]) rfl rfl HB.size (by decide) (fun x hx=>?_));simp only [List.mem_cons,List.not_mem_nil,or_false]at hx;rcases hx with rfl
  ·exact fp HM1.out HD1.out (by simp [Value.ownBlock])
 have hs48:=hbN.size;replace⟨d0,d1,d2,m0,m1,m2,e0,e1⟩:=cR d0 d1 d2 m0 m1 m2 e0 e1 hbN;replace e2:=zC e2 hbN;replace HM1:=zO HM1 hbN;replace HD1:=zO HD1 hbN;replace HB:=zT HB hbN;clear hV hg hg' hbN;clear hzV47;have hz1:Ws.heap.size≤g47:=by omega
 have hz2:g47<V47.heap.size:=by omega
 have hz3:g5<g47:=by omega
 have hz4:g7<g47:=by omega
 have hz5:w.heap.size≤Ws.heap.size:=by omega
 have hz6:w.heap.size≤g5:=by omega
 have hz7:g5<g7:=by omega
 have HROW2:=aa (ar HROW.out HB);have HBV:Hid (Below Ws.heap.size Ws V47):=aa HB;clear HROW HB d0 d1 d2;go_loopw [11,31] (fun v i wr=>∃k:Nat,k≤N∧i= .int .i64 k∧Hid (FR wr Ws.heap.size v (fG L x.i t n k))∧Hid (∀g,v.ownBlock=some g→g=g47∨V47.heap.size≤g)∧Hid (V47.grownBy wr (some g47))) (fun _ i _=>N-(intOf i).toNat)
 case atStart=>exact⟨0,by omega,rfl,HF0,aa (by simp [Value.ownBlock]),aa ⟨rfl,rfl,rfl,Nat.le_refl _,fun _ _ _=>rfl⟩⟩
 case round=>
  clear HF0;obtain⟨k,hk,rfl,HF,HVB,HGR⟩:=hrel;have hgs:V47.heap.size≤wr.heap.size:=HGR.out.size;by_cases hlt:k<N
  ·have hltL:k<L.length:=by rw [HLL.out];exact hlt
   have HR1:=aa (HROW2.out.kept HGR.out (.inr (fun e=>by have:=HUL.out _ e;omega)));obtain⟨b,off,cap,e1,hcap, -,g0,g1,g2,g3,g4,g5,g6,g7,g8⟩:=tW (RowAt.of_own iJ (by decide) (by rw [HLL.out];exact HR1.out)) hltL;rw [HLL.out]at e1 hcap;simp only [Value.slice.injEq,true_and]at e1;obtain⟨rfl,rfl⟩:=e1;have hyb:=HLB.out (L.getD k ac0) (by rw [List.getD_eq_getElem?_getD,List.getElem?_eq_getElem hltL];exact List.getElem_mem _);have HNX:=aa (rP L x.i t n k);have HRA:Hid (cV L x.i t n k=⟨t,(N:Int)-k,bl (L.getD k ac0)++ [isM 8 x.i],if(L.getD k ac0).d then []else [aT n]⟩):=by refine aa ?_;unfold cV;rw [HLL.out]
   have hln:=sE L x.i t n k;obtain⟨vo,vc,rfl⟩:=HF.out.slc;have HE0:Hid (L.getD k ac0=⟨(L.getD k ac0).s,(L.getD k ac0).p,(L.getD k ac0).n,(L.getD k ac0).src,(L.getD k ac0).sb,(L.getD k ac0).dst,(L.getD k ac0).db,(L.getD k ac0).o,(L.getD k ac0).d⟩):=rfl;rw [HE0.out]at HRA;clear HE0 HR1;generalize (L.getD k ac0).s=y0 at*;generalize (L.getD k ac0).p=y1 at*;generalize (L.getD k ac0).n=y2 at*;generalize (L.getD k ac0).src=y3 at*;generalize (L.getD k ac0).sb=y4 at*;generalize (L.getD k ac0).dst=y5 at*;generalize (L.getD k ac0).db=y6 at*;generalize (L.getD k ac0).o=y7 at*;generalize (L.getD k ac0).d=y8 at*;obtain⟨⟨hy0,hy1⟩,hy2,hy3⟩:=hyb;generalize hFK:fG L x.i t n k=FK at*;have HFK:=aa hFK;clear hFK;obtain⟨NF,hNF⟩:∃NF,NF=FK.length:=⟨_,rfl⟩;rw [←hNF]at HF hln HVB⊢;have HNN:=aa hNF;have hln2:NF≤1001:=(by omega);clear hNF hln;have q1:(0:Int)≤(k:Int):=(by omega);have q2:(k:Int)<(N:Int):=(by omega);have hwr1:IntKind.i64.wrap (N:Int)=(N:Int):=ba _ (by omega) (by omega);have hwr2:IntKind.i64.wrap ((N:Int)-(k:Int))=(N:Int)-(k:Int):=ba _ (by omega) (by omega);have HUB:=aa HF.out.lt;have nm0:=aG HGR.out m0 (by omega);have nm1:=aG HGR.out m1 (by omega);have nm2:=aG HGR.out m2 (by omega);have ne0:=aG HGR.out e0 (by omega);have ne1:=aG HGR.out e1 (by omega);have ne2:=aG HGR.out e2 (by omega);go_wp2_with fail
   obtain⟨W9,hW9⟩:∃W9,W9=wr.alloc (.cells #[.int .i64 y0,.int .i64 y1,.bool y2,.int .i64 y3,.int .i64 y4,.int .i64 y5,.int .i64 y6,.int .i64 y7,.bool y8] 62):=⟨_,rfl⟩;rw [←hW9];obtain⟨pb,hpb⟩:∃pb,pb=wr.heap.size:=⟨_,rfl⟩;have a0:W9.cell? ⟨pb,0,none⟩=some (.int .i64 y0):=zN2 hW9 hpb rfl;have a1:W9.cell? ⟨pb,1,none⟩=some (.int .i64 y1):=zN2 hW9 hpb rfl;have a2:W9.cell? ⟨pb,2,none⟩=some (.bool y2):=zN2 hW9 hpb rfl;have a3:W9.cell? ⟨pb,3,none⟩=some (.int .i64 y3):=zN2 hW9 hpb rfl;have a4:W9.cell? ⟨pb,4,none⟩=some (.int .i64 y4):=zN2 hW9 hpb rfl;have a5:W9.cell? ⟨pb,5,none⟩=some (.int .i64 y5):=zN2 hW9 hpb rfl;have a6:W9.cell? ⟨pb,6,none⟩=some (.int .i64 y6):=zN2 hW9 hpb rfl;have a7:W9.cell? ⟨pb,7,none⟩=some (.int .i64 y7):=zN2 hW9 hpb rfl;have a8:W9.cell? ⟨pb,8,none⟩=some (.bool y8):=zN2 hW9 hpb rfl;have hpb0:wr.heap.size≤pb:=(by omega);have hpb1:pb<W9.heap.size:=by rw [hW9,hpb];simp
   have HB:Below wr.heap.size wr W9:=by rw [hW9];exact ak _ _
   replace⟨nm0,nm1,nm2,ne0,ne1,ne2⟩:=em nm0 nm1 nm2 ne0 ne1 ne2 HB;have hs10:=HB.size;rw [←hpb];clear hW9 hpb g0 g1 g2 g3 g4 g5 g6 g7 g8;obtain⟨NM,hNM⟩:∃NM,NM=(bl ⟨y0,y1,y2,y3,y4,y5,y6,y7,y8⟩).length:=⟨_,rfl⟩;have HNM:=aa hNM;have hNM2:2≤NM∧NM≤3:=by rw [hNM];exact sA _
   obtain⟨hNMa,hNMb⟩:=hNM2;clear hNM;apply wu (fun _ _ _ g46 c46 fb w'=>w'.cell? ⟨fb,0,none⟩=some (.int .i64 t)∧w'.cell? ⟨fb,1,none⟩=some (.int .i64 ((N:Int)-k))∧w'.cell? ⟨fb,2,none⟩=some (.slice (some ⟨g46,0,none⟩) (NM+1) c46)∧w'.cell? ⟨fb,3,none⟩=some (.slice none 0 0)∧w'.frozen? ⟨fb,3,none⟩=false∧w'.ownsRow wr.heap.size 131 3 (.slice (some ⟨g46,0,none⟩) (NM+1) c46) (NM+1) (M (bl ⟨y0,y1,y2,y3,y4,y5,y6,y7,y8⟩)++M [isM 8 x.i])∧w'.cell? ⟨pb,8,none⟩=some (.bool y8)∧w'.cell? ⟨g7,0,none⟩=some (.int .i64 4)∧w'.cell? ⟨g7,1,none⟩=some (.int .i64 0)∧w'.cell? ⟨g7,2,none⟩=some (.int .i64 n)∧Below wr.heap.size wr w'∧wr.heap.size≤fb∧fb≠g46∧fb<w'.heap.size)
   ·have hs0_7:=HB.size;refine wp_region_held_drew (S:=(fun w'=>w'.cell? ⟨pb,0,none⟩=some (.int .i64 y0)∧w'.cell? ⟨pb,1,none⟩=some (.int .i64 y1)∧w'.cell? ⟨pb,2,none⟩=some (.bool y2)∧w'.cell? ⟨pb,3,none⟩=some (.int .i64 y3)∧w'.cell? ⟨pb,4,none⟩=some (.int .i64 y4)∧w'.cell? ⟨pb,5,none⟩=some (.int .i64 y5)∧w'.cell? ⟨pb,6,none⟩=some (.int .i64 y6)∧w'.cell? ⟨pb,7,none⟩=some (.int .i64 y7)∧w'.cell? ⟨pb,8,none⟩=some (.bool y8)∧w'.cell? ⟨g5,0,none⟩=some (.int .i64 8)∧w'.cell? ⟨g5,1,none⟩=some (.int .i64 65535)∧w'.cell? ⟨g5,2,none⟩=some (.int .i64 x.i)∧w'.cell? ⟨g7,0,none⟩=some (.int .i64 4)∧w'.cell? ⟨g7,1,none⟩=some (.int .i64 0)∧w'.cell? ⟨g7,2,none⟩=some (.int .i64 n))) (by kernel_rfl) ⟨a0,a1,a2,a3,a4,a5,a6,a7,a8,nm0,nm1,nm2,ne0,ne1,ne2⟩ (fun hHeld=>?_);have HDW:Below W9.heap.size W9 W9.drew:=(Below.refl _ _).drew;have hs101:=HDW.size;replace⟨a0,a1,a2,a3,a4,a5,a6,a7,a8,nm0,nm1,nm2,ne0,ne1⟩:=uC a0 a1 a2 a3 a4 a5 a6 a7 a8 nm0 nm1 nm2 ne0 ne1 HDW;replace ne2:=zC ne2 HDW;replace HB:=zT HB HDW;clear HDW;generalize W9.drew=V at*;refine sqA [(0,36),(1,37),(2,38),(3,39),(4,40),(5,41),(6,42),(8,44)] ?_;(iterate 8 (refine sqN rfl (by kernel_rfl) (fun _ _ _ h=>absurd h.1 (by simp)) rfl ‹_› (by intro w h;go_simp <;>with_reducible rfl) ?_;simp only [nz]));refine sqZ ?_
    iterate 6
     all_goals
      first
       |(replace M7:=M7;replace M9:=M9;replace M10:=M10;replace M11:=M11;replace M12:=M12;refine wpAnyH_ready (rs:=[13]) (by kernel_rfl) (by simp) ?_;refine(AllReadyH.cons (o:=⟨none,_,_,_,_,_⟩) rfl (fun K hK13=>?_) AllReadyH.nil))
       |(replace M7:=M7;replace M9:=M9;replace M10:=M10;replace M11:=M11;refine wpAnyH_ready (rs:=[12]) (by kernel_rfl) (by simp) ?_;refine(AllReadyH.cons (o:=⟨some 14,_,_,_,_,_⟩) rfl (fun K hK12=>?_) AllReadyH.nil))
       |(replace M7:=M7;replace M9:=M9;replace M10:=M10;replace M12:=M12;refine wpAnyH_ready (rs:=[11]) (by kernel_rfl) (by simp) ?_;refine(AllReadyH.cons (o:=⟨some 47,_,_,_,_,_⟩) rfl (fun K hK11=>?_) AllReadyH.nil))
       |(replace M7:=M7;replace M9:=M9;replace M10:=M10;refine wpAnyH_ready (rs:=[11,12]) (by kernel_rfl) (by simp) ?_;refine(AllReadyH.cons (o:=⟨some 47,_,_,_,_,_⟩) rfl (fun K hK11=>?_) (AllReadyH.cons (o:=⟨some 14,_,_,_,_,_⟩) rfl (fun K hK12=>?_) AllReadyH.nil)))
       |(replace M7:=M7;replace M9:=M9;replace M12:=M12;refine wpAnyH_ready (rs:=[10]) (by kernel_rfl) (by simp) ?_;refine(AllReadyH.cons (o:=⟨some 46,_,_,_,_,_⟩) rfl (fun K hK10=>?_) AllReadyH.nil))
       |(replace M7:=M7;replace M9:=M9;refine wpAnyH_ready (rs:=[10,12]) (by kernel_rfl) (by simp) ?_;refine(AllReadyH.cons (o:=⟨some 46,_,_,_,_,_⟩) rfl (fun K hK10=>?_) (AllReadyH.cons (o:=⟨some 14,_,_,_,_,_⟩) rfl (fun K hK12=>?_) AllReadyH.nil)))
       |(replace M7:=M7;replace M12:=M12;refine wpAnyH_ready (rs:=[9]) (by kernel_rfl) (by simp) ?_;refine(AllReadyH.cons (o:=⟨some 45,_,_,_,_,_⟩) rfl (fun K hK9=>?_) AllReadyH.nil))
       |(replace M9:=M9;replace M12:=M12;refine wpAnyH_ready (rs:=[7]) (by kernel_rfl) (by simp) ?_;refine(AllReadyH.cons (o:=⟨some 43,_,_,_,_,_⟩) rfl (fun K hK7=>?_) AllReadyH.nil))
       |(replace M7:=M7;refine wpAnyH_ready (rs:=[9,12]) (by kernel_rfl) (by simp) ?_;refine(AllReadyH.cons (o:=⟨some 45,_,_,_,_,_⟩) rfl (fun K hK9=>?_) (AllReadyH.cons (o:=⟨some 14,_,_,_,_,_⟩) rfl (fun K hK12=>?_) AllReadyH.nil)))
       |(replace M9:=M9;refine wpAnyH_ready (rs:=[7,12]) (by kernel_rfl) (by simp) ?_;refine(AllReadyH.cons (o:=⟨some 43,_,_,_,_,_⟩) rfl (fun K hK7=>?_) (AllReadyH.cons (o:=⟨some 14,_,_,_,_,_⟩) rfl (fun K hK12=>?_) AllReadyH.nil)))
       |(replace M12:=M12;refine wpAnyH_ready (rs:=[7,9]) (by kernel_rfl) (by simp) ?_;refine(AllReadyH.cons (o:=⟨some 43,_,_,_,_,_⟩) rfl (fun K hK7=>?_) (AllReadyH.cons (o:=⟨some 45,_,_,_,_,_⟩) rfl (fun K hK9=>?_) AllReadyH.nil)))
       |(refine wpAnyH_ready (rs:=[7,9,12]) (by kernel_rfl) (by simp) ?_;refine(AllReadyH.cons (o:=⟨some 43,_,_,_,_,_⟩) rfl (fun K hK7=>?_) (AllReadyH.cons (o:=⟨some 45,_,_,_,_,_⟩) rfl (fun K hK9=>?_) (AllReadyH.cons (o:=⟨some 14,_,_,_,_,_⟩) rfl (fun K hK12=>?_) AllReadyH.nil))))
     all_goals
      first
       |(have hK:=hK7
         clear hK7;go_simp;clear hHeld;have HBold:=HB.size;refine(lC ⟨y0,y1,y2,y3,y4,y5,y6,y7,y8⟩ _ hy0 hy1 hy2 hy3).mono ?_;rintro e V1141 ⟨u1141,rfl,ho1141,hb1141⟩;have hs1142:=hb1141.size;rw [←HNM.out]at ho1141;obtain⟨g1143,c1143,rfl,hg1143,hl1143⟩:=bu ho1141 (by omega);have HRM:=aa (aA ho1141 HBold);clear ho1141 HBold;have HBX:=hb1141;clear hb1141
         rename World=>V
         have M7:True:=trivial)
       |(have hK:=hK9
         clear hK9;go_simp;clear hHeld;refine aC (fun V1181 g1181 hV hg=>?_);rw [←hg];have hbN:=zB hV;have hg1181:V.heap.size≤g1181:=(by omega);have hl1181:=zL hV hg;have HL:Hid (V1181.ownsRow wr.heap.size 131 3 (.slice (some ⟨g1181,0,none⟩) 1 1) 1 (M [isM 8 x.i])):=zW hV hg HB.size (by decide) rfl;have hs1182:=hbN.size;have HBX:=hbN;clear hV hg hbN
         rename World=>V
         have M9:True:=trivial)
       |(have hK:=hK10
         clear hK10;clear hHeld;refine step_append_lies _ rfl (.tmp 43) (.tmp 45) 133 rfl wr.heap.size 131 iM _ 3 24 Tryz.underlying133 inM zM0 zM1 zM2 rfl (by decide) (.slice (some ⟨g1143,0,none⟩) NM c1143) NM _ rfl (ag HRM) ⟨g1181,0,none⟩ 1 1 _ rfl rfl (HL.out.cells rfl) (gV _) (by decide) (by unfold maxLen;omega) (by omega) HB.size _ rfl ?_;intro g1201 c1201 V1201 ho1201 hgr ha hl1201;replace hgr:V.grownBy V1201 (some g1143):=hgr;replace ha:some g1143=some g1201∨g1201=V.heap.size:=ha;have hs1201:=hgr.size;have hge1201:g1201=g1143∨g1201=V.heap.size:=by rcases ha with h | h;exact .inl (Option.some.inj h).symm;exact .inr h
         (try replace z0:=(hgr.frozen_far ⟨g1241,0,none⟩ (am f0) (by simp;omega)).trans z0);(try replace z1:=(hgr.frozen_far ⟨g1241,1,none⟩ (am f1) (by simp;omega)).trans z1);(try replace z2:=(hgr.frozen_far ⟨g1241,2,none⟩ (am f2) (by simp;omega)).trans z2);(try replace z3:=(hgr.frozen_far ⟨g1241,3,none⟩ (am f3) (by simp;omega)).trans z3);replace⟨a0,a1,a2,a3,a4,a5,a6,a7,a8,nm0,nm1,nm2,ne0,ne1,ne2⟩:=Aq hgr a0 a1 a2 a3 a4 a5 a6 a7 a8 nm0 nm1 nm2 ne0 ne1 ne2 (by omega);(try replace f0:=aG hgr f0 (by omega));(try replace f1:=aG hgr f1 (by omega));(try replace f2:=aG hgr f2 (by omega));(try replace f3:=aG hgr f3 (by omega));replace HB:=HB.grown hgr HB.size (fun k hk=>by cases hk;omega);have HM:=aa ho1201;clear HRM HL ho1201 hgr ha;have HGX:True:=trivial
         rename World=>V
         have M10:True:=trivial)
       |(have hK:=hK11
         clear hK11;go_simp;clear hHeld;refine(bp _ _ _ _ _ _ _ _ _).mono ?_;rintro e V1221 ⟨rfl,hb1221⟩;have hs1222:=hb1221.size;have HBX:=hb1221;clear hb1221
         rename World=>V
         have M11:True:=trivial)
       |(have hK:=hK12
         clear hK12;go_simp;clear hHeld;refine aC (fun V1241 g1241 hV hg=>?_);rw [←hg];have hbN:=zB hV;have hg1241:V.heap.size≤g1241:=(by omega);have hl1241:=zL hV hg;have f0:V1241.cell? ⟨g1241,0,none⟩=some (.int .i64 0):=zN2 hV hg rfl;have f1:V1241.cell? ⟨g1241,1,none⟩=some (.int .i64 0):=zN2 hV hg rfl;have f2:V1241.cell? ⟨g1241,2,none⟩=some (.slice none 0 0):=zN2 hV hg rfl;have f3:V1241.cell? ⟨g1241,3,none⟩=some (.slice none 0 0):=zN2 hV hg rfl;have z0:V1241.frozen? ⟨g1241,0,none⟩=false:=zF2 hV hg;have z1:V1241.frozen? ⟨g1241,1,none⟩=false:=zF2 hV hg;have z2:V1241.frozen? ⟨g1241,2,none⟩=false:=zF2 hV hg;have z3:V1241.frozen? ⟨g1241,3,none⟩=false:=zF2 hV hg;have hs1242:=hbN.size;have HBX:=hbN;clear hV hg hbN
         rename World=>V
         have M12:True:=trivial)
       |(have hK:=hK13
         clear hK13;go_simp;clear hHeld;obtain⟨V1261,hV⟩:∃V1261,V1261=((((V.setCell ⟨g1241,0,none⟩ (.int .i64 t)).setCell ⟨g1241,1,none⟩ (.int .i64 ((N:Int)-k))).setCell ⟨g1241,2,none⟩ (.slice (some ⟨g1201,0,none⟩) (NM+1) c1201)).setCell ⟨g1241,3,none⟩ (.slice none 0 0)):=⟨_,rfl⟩;rw [←hV];have hgr:V.grownBy V1261 (some g1241):=by rw [hV];exact tJ _ _ _ _ _ _
         obtain⟨i0,i1,i2,i3⟩:=BN f0 f1 f2 f3 (.int .i64 t) (.int .i64 ((N:Int)-k)) (.slice (some ⟨g1201,0,none⟩) (NM+1) c1201) (.slice none 0 0);rw [←hV]at i0 i1 i2 i3;replace z3:V1261.frozen? ⟨g1241,3,none⟩=false:=by rw [hV,qE];exact z3
         have hs1261:=hgr.size;replace⟨a0,a1,a2,a3,a4,a5,a6,a7,a8,nm0,nm1,nm2,ne0,ne1,ne2⟩:=Aq hgr a0 a1 a2 a3 a4 a5 a6 a7 a8 nm0 nm1 nm2 ne0 ne1 ne2 (by omega);(try replace HM:=aa (dy hgr HM.out (by omega)));replace HB:=HB.grown hgr HB.size (fun k hk=>by cases hk;omega);clear hV hgr f0 f1 f2 f3 z0 z1 z2;have HGX:True:=trivial
         rename World=>V
         have M13:True:=trivial)
     all_goals
      first
       |((try replace z0:=zK HBX f0 z0)
         (try replace z1:=zK HBX f1 z1);(try replace z2:=zK HBX f2 z2);(try replace z3:=zK HBX f3 z3);replace⟨a0,a1,a2,a3,a4,a5,a6,a7,a8,nm0,nm1,nm2,ne0,ne1⟩:=uC a0 a1 a2 a3 a4 a5 a6 a7 a8 nm0 nm1 nm2 ne0 ne1 HBX;replace ne2:=zC ne2 HBX
         (try replace f0:=zC f0 HBX);(try replace f1:=zC f1 HBX);(try replace f2:=zC f2 HBX);(try replace f3:=zC f3 HBX);(try replace HM:=zO HM HBX);(try replace HRM:=zO HRM HBX);(try replace HL:=zO HL HBX);replace HB:=zT HB HBX;clear HBX)
       |(clear HGX)
     all_goals
      first
       |(refine hK.out _ _ ⟨a0,a1,a2,a3,a4,a5,a6,a7,a8,nm0,nm1,nm2,ne0,ne1,ne2⟩ (fun hHeld=>?_)
         clear hK K;(try simp only [nz]))
    all_goals
     refine wpAnyH_done (by kernel_rfl) ?_ _;clear hHeld;exact⟨rfl,g1143,c1143,g1181,g1201,c1201,g1241,rfl,i0,i1,i2,i3,z3,HM.out,a8,ne0,ne1,ne2,HB,by omega,by omega,by omega⟩
   ·intro g43 c43 g45 g46 c46 fb Wa hW;obtain⟨f0,f1,f2,f3,z3,hM,a8,ne0,ne1,ne2,HB,hfb0,hfb1,hfb2⟩:=hW;have HM:=aa hM;replace HM:Hid (Wa.ownsRow wr.heap.size 131 3 (.slice (some ⟨g46,0,none⟩) (NM+1) c46) (NM+1) (M (bl ⟨y0,y1,y2,y3,y4,y5,y6,y7,y8⟩++ [isM 8 x.i]))):=by rw [Bx];exact HM
    clear hM;cases y8
    ·replace HRA:=aa (HRA.out.trans (by rw [if_neg (by simp)]));obtain⟨Wb,hWb⟩:∃Wb,Wb=Wa.alloc (.cells #[.int .i64 4,.int .i64 0,.int .i64 n] 115):=⟨_,rfl⟩;have hbN:Below Wa.heap.size Wa Wb:=by rw [hWb];exact ak _ _
     have NEWD:Hid (∀j u,(D [aT n])[j]? =some u→Wb.cell? ((⟨Wa.heap.size,0,none⟩:Addr).add j)=some u):=by rw [hWb];exact aa (eA Wa _ _)
     have HWb:Hid (Wa.alloc (.cells #[.int .i64 4,.int .i64 0,.int .i64 n] 115)=Wb):=hWb.symm;replace z3:=(hbN.frozen (p:=⟨fb,3,none⟩) hfb2).trans z3;have hfb3:¬fb=Wa.heap.size:=(by omega);have w0:=zC f0 hbN;have w1:=zC f1 hbN;have w2:=zC f2 hbN;have w3:=zC f3 hbN;have HM2:=aa (ar HM.out hbN);have HB2:=HB.trans (hbN.mono HB.size);have hsb:=HB2.size;have hfb4:fb<Wb.heap.size:=by have:=hbN.size;omega
     clear hWb hbN HM HB;go_wp2_with (at_builtin;rw [ag HWb];refine wpList_append_lies _ rfl _ _ 112 rfl wr.heap.size 115 iD _ 3 24 Tryz.underlying112 inD zD0 zD1 zD2 rfl (by decide) _ _ _ rfl (World.ownsRow_nil _ wr.heap.size 115 3) ⟨Wa.heap.size,0,none⟩ 1 1 (D [aT n]) rfl rfl (ag NEWD) (uE _) (by decide) (by decide) (by decide) hsb _ rfl ?_)
     intro gd cd Wc hod hgd had _;have hbC:Below Wb.heap.size Wb Wc:=(Below.refl _ _).grown hgd zr (by simp [Value.ownBlock]);have hgdx:Wb.heap.size≤gd:=by rcases had with h | h;simp [Value.ownBlock]at h;omega
     replace⟨w0,w1,w2,w3⟩:=vJ w0 w1 w2 w3 hbC;replace z3:=(hbC.frozen (p:=⟨fb,3,none⟩) hfb4).trans z3;have HM3:=aa (ar HM2.out hbC);have HB4:=HB2.trans (hbC.mono HB2.size);have HOD:Hid (Wc.ownsRow wr.heap.size 115 3 (.slice (some ⟨gd,0,none⟩) 1 cd) 1 (D [aT n])):=(by simpa using aa hod);obtain⟨Wz,hWz⟩:∃Wz,Wz=Wc.setCell ⟨fb,3,none⟩ (.slice (some ⟨gd,0,none⟩) 1 cd):=⟨_,rfl⟩;have hgz:Wc.grownBy Wz (some fb):=by rw [hWz];exact kO Wc ⟨fb,3,none⟩ _
     have hgd1:gd<Wc.heap.size:=dD HOD.out rfl;have f3x:Wz.cell? ⟨fb,3,none⟩=some (.slice (some ⟨gd,0,none⟩) 1 cd):=by rw [hWz];exact World.cell?_setCell_same _ _ _ w3
     have f0x:Wz.cell? ⟨fb,0,none⟩=some (.int .i64 t):=by rw [hWz];exact(World.cell?_setCell_other _ _ _ _ (by simp)).trans w0
     have f1x:Wz.cell? ⟨fb,1,none⟩=some (.int .i64 ((N:Int)-k)):=by rw [hWz];exact(World.cell?_setCell_other _ _ _ _ (by simp)).trans w1
     have f2x:Wz.cell? ⟨fb,2,none⟩=some (.slice (some ⟨g46,0,none⟩) (NM+1) c46):=by rw [hWz];exact(World.cell?_setCell_other _ _ _ _ (by simp)).trans w2
     have HM:=aa (dy hgz HM3.out (by omega));replace HOD:=aa (dy hgz HOD.out (by omega));have HB:Below wr.heap.size wr Wz:=by rw [hWz];exact oB HB4 hfb0 _
     have HZZ:Hid (Wz.heap.size=Wc.heap.size):=by rw [hWz];exact aa (by simp)
     have HWz:Hid (Wc.setCell ⟨fb,3,none⟩ (.slice (some ⟨gd,0,none⟩) 1 cd)=Wz):=hWz.symm;clear hWz hgz hod hgd had hbC HM2 HM3 HB2 HB4 NEWD HWb f0 f1 f2 f3;obtain⟨WA,hWA⟩:∃WA,WA=Wz.alloc (.cells #[.int .i64 t,.int .i64 ((N:Int)-k),.slice (some ⟨g46,0,none⟩) (NM+1) c46,.slice (some ⟨gd,0,none⟩) 1 cd] 135):=⟨_,rfl⟩;have hbN:Below Wz.heap.size Wz WA:=by rw [hWA];exact ak _ _
     have NEWS:Hid (∀j u,(C [(⟨⟨t,(N:Int)-k,bl ⟨y0,y1,y2,y3,y4,y5,y6,y7,false⟩++ [isM 8 x.i],[aT n]⟩,.slice (some ⟨g46,0,none⟩) (NM+1) c46,.slice (some ⟨gd,0,none⟩) 1 cd⟩:Fv)])[j]? =some u→WA.cell? ((⟨Wz.heap.size,0,none⟩:Addr).add j)=some u):=by rw [hWA];exact aa (eA Wz _ _)
     have HFV:Hid (FvIn WA Ws.heap.size (.slice vo NF vc) (⟨⟨t,(N:Int)-k,bl ⟨y0,y1,y2,y3,y4,y5,y6,y7,false⟩++ [isM 8 x.i],[aT n]⟩,.slice (some ⟨g46,0,none⟩) (NM+1) c46,.slice (some ⟨gd,0,none⟩) 1 cd⟩:Fv)):=by
      have h1:=HM.out;rw [show NM+1=(bl ⟨y0,y1,y2,y3,y4,y5,y6,y7,false⟩++ [isM 8 x.i]).length by rw [List.length_append, ←HNM.out];rfl]at h1⊢;exact aa (((fp (f:=⟨t,(N:Int)-k,bl ⟨y0,y1,y2,y3,y4,y5,y6,y7,false⟩++ [isM 8 x.i],[aT n]⟩) h1 HOD.out HUB.out).below hbN).less (by omega))
     have HFv:=aa ((HF.out.below HB zr).below hbN zr);have HB3:=HB.trans (hbN.mono HB.size);have hsA:Ws.heap.size≤WA.heap.size:=by have:=HB3.size;omega
     have HWA:Hid (Wz.alloc (.cells #[.int .i64 t,.int .i64 ((N:Int)-k),.slice (some ⟨g46,0,none⟩) (NM+1) c46,.slice (some ⟨gd,0,none⟩) 1 cd] 135)=WA):=hWA.symm;clear hWA hbN;go_wp2_with (at_builtin;rw [ag HWz,ag HWA];refine dS rfl _ _ rfl Ws.heap.size (.slice vo NF vc) FK rfl (ag HFv) ⟨Wc.heap.size,0,none⟩ 1 1 [(⟨⟨t,(N:Int)-k,bl ⟨y0,y1,y2,y3,y4,y5,y6,y7,false⟩++ [isM 8 x.i],[aT n]⟩,.slice (some ⟨g46,0,none⟩) (NM+1) c46,.slice (some ⟨gd,0,none⟩) 1 cd⟩:Fv)] rfl rfl (by rw [←HZZ.out];exact(ag NEWS)) (fun y hy=>by rw [List.mem_singleton.1 hy];exact HFV.out) (by decide) (by rw [←HNN.out];omega) hsA ?_)
     intro gq cq Vq hfq hgq haq;have HGR2:Hid (V47.grownBy Vq (some g47)):=aa (pd (dd HGR.out HB3) hgq HVB.out);have HVB2:Hid (∀g,(Value.slice (some ⟨gq,0,none⟩) (FK.length+1) cq).ownBlock=some g→g=g47∨V47.heap.size≤g):=aa (fun g e=>by
      have e2:gq=g:=(by simpa [Value.ownBlock] using e);subst e2;rcases haq with h | h
      ·exact HVB.out _ h
      ·exact .inr (by have:=HB3.size;omega))
     have HE:Hid (FR Vq Ws.heap.size (.slice (some ⟨gq,0,none⟩) (FK.length+1) cq) (fG L x.i t n (k+1))):=by rw [HNX.out,HRA.out];exact aa hfq
     clear hfq hgq haq HFv HFV HUB HNX HB HB3 HM HVB HGR NEWS HWA HRA;rw [←HNN.out]at HE HVB2⊢;go_wp2_with fail
     go_roundw
     case rel=>exact⟨k+1,by omega,by go_num,HE,HVB2,HGR2⟩
     case measure=>simp [intOf];omega
    ·generalize Wa=Wz at*;replace HRA:=aa (HRA.out.trans (by rw [if_pos rfl]));obtain⟨WA,hWA⟩:∃WA,WA=Wz.alloc (.cells #[.int .i64 t,.int .i64 ((N:Int)-k),.slice (some ⟨g46,0,none⟩) (NM+1) c46,.slice none 0 0] 135):=⟨_,rfl⟩;have hbN:Below Wz.heap.size Wz WA:=by rw [hWA];exact ak _ _
     have NEWS:Hid (∀j u,(C [(⟨⟨t,(N:Int)-k,bl ⟨y0,y1,y2,y3,y4,y5,y6,y7,true⟩++ [isM 8 x.i],[]⟩,.slice (some ⟨g46,0,none⟩) (NM+1) c46,.slice none 0 0⟩:Fv)])[j]? =some u→WA.cell? ((⟨Wz.heap.size,0,none⟩:Addr).add j)=some u):=by rw [hWA];exact aa (eA Wz _ _)
     have HFV:Hid (FvIn WA Ws.heap.size (.slice vo NF vc) (⟨⟨t,(N:Int)-k,bl ⟨y0,y1,y2,y3,y4,y5,y6,y7,true⟩++ [isM 8 x.i],[]⟩,.slice (some ⟨g46,0,none⟩) (NM+1) c46,.slice none 0 0⟩:Fv)):=by
      have h1:=HM.out;rw [show NM+1=(bl ⟨y0,y1,y2,y3,y4,y5,y6,y7,true⟩++ [isM 8 x.i]).length by rw [List.length_append, ←HNM.out];rfl]at h1⊢;exact aa (((fp (f:=⟨t,(N:Int)-k,bl ⟨y0,y1,y2,y3,y4,y5,y6,y7,true⟩++ [isM 8 x.i],[]⟩) h1 (World.ownsRow_nil _ _ _ _) HUB.out).below hbN).less (by omega))
     have HFv:=aa ((HF.out.below HB zr).below hbN zr);have HB3:=HB.trans (hbN.mono HB.size);have hsA:Ws.heap.size≤WA.heap.size:=by have:=HB3.size;omega
     have HWA:Hid (Wz.alloc (.cells #[.int .i64 t,.int .i64 ((N:Int)-k),.slice (some ⟨g46,0,none⟩) (NM+1) c46,.slice none 0 0] 135)=WA):=hWA.symm;clear hWA hbN;go_wp2_with (at_builtin;rw [ag HWA];refine dS rfl _ _ rfl Ws.heap.size (.slice vo NF vc) FK rfl (ag HFv) ⟨Wz.heap.size,0,none⟩ 1 1 [(⟨⟨t,(N:Int)-k,bl ⟨y0,y1,y2,y3,y4,y5,y6,y7,true⟩++ [isM 8 x.i],[]⟩,.slice (some ⟨g46,0,none⟩) (NM+1) c46,.slice none 0 0⟩:Fv)] rfl rfl (ag NEWS) (fun y hy=>by rw [List.mem_singleton.1 hy];exact HFV.out) (by decide) (by rw [←HNN.out];omega) hsA ?_)
     intro gq cq Vq hfq hgq haq;have HGR2:Hid (V47.grownBy Vq (some g47)):=aa (pd (dd HGR.out HB3) hgq HVB.out);have HVB2:Hid (∀g,(Value.slice (some ⟨gq,0,none⟩) (FK.length+1) cq).ownBlock=some g→g=g47∨V47.heap.size≤g):=aa (fun g e=>by
      have e2:gq=g:=(by simpa [Value.ownBlock] using e);subst e2;rcases haq with h | h
      ·exact HVB.out _ h
      ·exact .inr (by have:=HB3.size;omega))
     have HE:Hid (FR Vq Ws.heap.size (.slice (some ⟨gq,0,none⟩) (FK.length+1) cq) (fG L x.i t n (k+1))):=by rw [HNX.out,HRA.out];exact aa hfq
     clear hfq hgq haq HFv HFV HUB HNX HB HB3 HM HVB HGR NEWS HWA HRA;rw [←HNN.out]at HE HVB2⊢;go_wp2_with fail
     go_roundw
     case rel=>exact⟨k+1,by omega,by go_num,HE,HVB2,HGR2⟩
     case measure=>simp [intOf];omega
  ·obtain rfl:k=N:=(by omega);have HF1:Hid (FR wr w.heap.size u11 (bs L x.i t n)):=by rw [HRF.out,HLL.out];exact aa (HF.out.less hz5)
   obtain⟨fo,fc,rfl⟩:=HF1.out.slc;have HB2:Hid (Below B w wr):=aa ((HBW.out.trans (HBV.out.mono (Nat.le_trans hB hz5))).grown HGR.out (by have:=HBV.out.size;omega) (fun k e=>by cases e;omega));clear HF HVB HGR;go_wp2_with fail
   go_ret;exact⟨_,rfl,HF1.out,HB2.out⟩
theorem FR.cat {cur w':World} {B n:Nat} {u:Value} {lo:List Fv} {xs:List Value} (ok:∀x∈lo,∃v,FvIn cur B v x) (ho:w'.ownsRow cur.heap.size 135 4 u n xs) (hxs:xs=C lo) (hn:n=lo.length) (hb:Below cur.heap.size cur w') (hB:B≤cur.heap.size):FR w' B u (lo.map Fv.f):=by
 subst hxs hn;refine⟨lo,rfl,aA ho hB,fun x hx=>?_⟩;obtain⟨v,k0,_,_,k3,k4⟩:=ok x hx;refine⟨k0.below hb,?_,?_,k3,k4⟩
 ·cases e:x.mv.ownBlock with
  | none=>exact .inl e
  | some b=>exact .inr fun e'=>by have h1:=k0.2.2.1 b e;have h2:=aS ho b (by rw [←e',e]);omega
 ·cases e:x.dv.ownBlock with
  | none=>exact .inl e
  | some b=>exact .inr fun e'=>by have h1:=k0.2.2.2 b e;have h2:=aS ho b (by rw [←e',e]);omega
theorem ub (P:List Pr) (s:Sw) (ch:Int):(eP P s ch).length≤P.length+1:=by
 have h:=List.length_filter_le (bZ s.i) P;unfold eP;split
 ·rw [List.nil_append,List.length_map];omega
 ·rw [List.length_append,List.length_map,List.length_singleton];omega
theorem jE (R:List Ac) (s t n:Int):(bs R s t n).length=R.length+1:=by
 unfold bs;rw [List.length_cons,List.length_map,List.length_range]
theorem nk (P:List Pr) (s:Sw):(bL P s).length≤P.length:=by
 unfold bL;rw [List.length_map];exact List.length_filter_le _ _
theorem oQ (S:List Sw) (P:List Pr) (s:Sw):(bG S P s).length≤P.length+1:=by
 have h:=List.length_filter_le (fun p=>cw S s.t p&&aw p) P;unfold bG;split
 ·simp
 ·rw [List.length_cons,List.length_map];omega
theorem iI (A:List Ac) (s:Int) (b:Bool):(aP A s b).length≤A.length:=List.length_filter_le _ _
theorem lz (S:List Sw) (P:List Pr) (A:List Ac) (s1 p1 a1:Option Addr) (s2 p2 a2:Nat) (x:Sw) (ch:Int) (w:World) (hC:CfAt w (.slice s1 S.length s2) (.slice p1 P.length p2) (.slice a1 A.length a2) S P A) (hl:P.length≤1000) (hlA:A.length≤1000) (hlS:S.length≤1000) (hx0:0≤x.i) (hx1:x.i≤100000) (hP:∀p∈P,0≤p.s∧p.s≤100000)
  (hR:∀r∈A,(0≤r.sb∧r.sb≤16)∧0≤r.db∧r.db≤16) (hS1:eV (aP A x.i true)) (hS2:eV (aP A x.i false)):
  Calls Tryz.prog 47 #[.agg #[.slice s1 S.length s2,.slice p1 P.length p2,.slice a1 A.length a2],.agg #[.int .i64 x.i,.int .i64 x.t,.int .i64 x.g],.int .i64 ch] w fun e w'=>∃u,e= .returned u∧FR w' w.heap.size u (bk S P A x ch)∧Below w.heap.size w w':=by
 have HC:=aa hC;have HR1:Hid (∀r∈aP A x.i true,(0≤r.sb∧r.sb≤16)∧0≤r.db∧r.db≤16):=aa (fun r hr=>hR r (List.mem_filter.1 hr).1);have HR2:Hid (∀r∈aP A x.i false,(0≤r.sb∧r.sb≤16)∧0≤r.db∧r.db≤16):=aa (fun r hr=>hR r (List.mem_filter.1 hr).1);have HS1:=aa hS1;have HS2:=aa hS2;have HP:=aa hP;have hr1:(aP A x.i true).length≤1000:=Nat.le_trans (iI A x.i true) hlA;have hr2:(aP A x.i false).length≤1000:=Nat.le_trans (iI A x.i false) hlA;have HSW:Hid (bk S P A x ch=eP P x ch++bs (aH (aP A x.i true)) x.i 2 3++bL P x++bG S P x++bs (aH (aP A x.i false)) x.i 4 5):=rfl;have HL1:=aa (ub P x ch);have HL2:Hid ((bs (aH (aP A x.i true)) x.i 2 3).length≤1001):=by
  refine aa ?_;rw [jE,fw];omega
 have HL3:=aa (nk P x);have HL4:=aa (oQ S P x);have HL5:Hid ((bs (aH (aP A x.i false)) x.i 4 5).length≤1001):=by
  refine aa ?_;rw [jE,fw];omega
 go_enter Tryz.func47,Tryz.ntmps47;go_wp2_with fail
 obtain⟨W0,hW⟩:∃W0,W0=w.alloc (.cells #[.slice s1 S.length s2,.slice p1 P.length p2,.slice a1 A.length a2] 26):=⟨_,rfl⟩;rw [←hW];obtain⟨cb,hblk⟩:∃cb,cb=w.heap.size:=⟨_,rfl⟩;have k0:W0.cell? ⟨cb,0,none⟩=some (.slice s1 S.length s2):=zN2 hW hblk rfl;have k1:W0.cell? ⟨cb,1,none⟩=some (.slice p1 P.length p2):=zN2 hW hblk rfl;have k2:W0.cell? ⟨cb,2,none⟩=some (.slice a1 A.length a2):=zN2 hW hblk rfl;have hbN:Below w.heap.size w W0:=by rw [hW];exact ak _ _
 have hzW0:W0.heap.size=cb+1:=by rw [hW,hblk];simp
 have hcbl:w.heap.size≤cb:=by omega
 rw [←hblk];clear hW hblk;have HB:=hbN;clear hbN;obtain⟨W1,hW⟩:∃W1,W1=W0.alloc (.cells #[.int .i64 x.i,.int .i64 x.t,.int .i64 x.g] 60):=⟨_,rfl⟩;rw [←hW];obtain⟨sb,hblk⟩:∃sb,sb=cb+1:=⟨_,rfl⟩;have d0:W1.cell? ⟨sb,0,none⟩=some (.int .i64 x.i):=zN2 hW (hblk.trans hzW0.symm) rfl;have d1:W1.cell? ⟨sb,1,none⟩=some (.int .i64 x.t):=zN2 hW (hblk.trans hzW0.symm) rfl;have d2:W1.cell? ⟨sb,2,none⟩=some (.int .i64 x.g):=zN2 hW (hblk.trans hzW0.symm) rfl;have hbN:Below W0.heap.size W0 W1:=by rw [hW];exact ak _ _
 have hzW1:W1.heap.size=sb+1:=by rw [hW,hblk];simp [hzW0]
 have hsbl:cb<sb:=by omega
 rw [←hblk];clear hW hblk hzW0;replace⟨k0,k1,k2⟩:=ep k0 k1 k2 hbN;replace HB:=zT HB hbN;clear hbN hzW1;have hs0_1:=HB.size;refine wp_region_held_drew (S:=(fun w'=>w'.cell? ⟨cb,0,none⟩=some (.slice s1 S.length s2)∧w'.cell? ⟨cb,1,none⟩=some (.slice p1 P.length p2)∧w'.cell? ⟨cb,2,none⟩=some (.slice a1 A.length a2)∧w'.cell? ⟨sb,0,none⟩=some (.int .i64 x.i)∧w'.cell? ⟨sb,1,none⟩=some (.int .i64 x.t)∧w'.cell? ⟨sb,2,none⟩=some (.int .i64 x.g))) (by kernel_rfl) ⟨k0,k1,k2,d0,d1,d2⟩ (fun hHeld=>?_);have HDW:Below W1.heap.size W1 W1.drew:=(Below.refl _ _).drew;have hs1:=HDW.size;replace⟨k0,k1,k2,d0,d1,d2⟩:=em k0 k1 k2 d0 d1 d2 HDW;replace HB:=zT HB HDW;clear HDW;generalize W1.drew=V2 at*;refine sqA [(0,7),(1,8),(2,9),(4,11),(5,12),(7,14),(9,16),(10,17),(12,19),(13,20),(15,22),(16,23),(18,25)] ?_;(iterate 13 (refine sqN rfl (by kernel_rfl) (fun _ _ _ h=>h) rfl ‹_› (by intro w h;go_simp <;>with_reducible rfl) ?_;simp only [nz]));refine sqZ ?_;refine rsq 3 10 (by kernel_rfl) rfl (fun K hK=>?_);go_simp;clear hHeld;have HBold:=HB.size;refine(pr S P A s1 p1 a1 s2 p2 a2 x ch _ (HC.out.below HB zr) hl hx0 hx1).mono ?_;rintro e V3 ⟨u,rfl,hfr,hb3⟩;have hs4:=hb3.size;replace⟨k0,k1,k2,d0,d1,d2⟩:=em k0 k1 k2 d0 d1 d2 hb3;replace HB:=zT HB hb3;obtain⟨fo1,fc1,rfl⟩:=hfr.slc;have HF1:=aa (hfr.less HBold);clear hfr HBold;clear hb3;refine hK.out _ _ ⟨k0,k1,k2,d0,d1,d2⟩ (fun hHeld=>?_);clear hK K;(try simp only [nz]);refine rsq 6 13 (by kernel_rfl) rfl (fun K hK=>?_);go_simp;clear hHeld;have k0_r:=k0;have k1_r:=k1;have k2_r:=k2;have d0_r:=d0;have d1_r:=d1;have d2_r:=d2;have HF1_r:=HF1;have HBr:=HB;refine(lj S P A s1 p1 a1 s2 p2 a2 x true _ (HC.out.below HB zr) hlA).mono ?_;rintro e V5 ⟨u,rfl,hor,hb5⟩;have hs6:=hb5.size;replace⟨k0,k1,k2,d0,d1,d2⟩:=em k0 k1 k2 d0 d1 d2 hb5;replace HF1:=aa (HF1.out.below hb5 zr);replace HB:=zT HB hb5;obtain⟨ro1,rc1,rfl⟩:=az hor;have HRW:=aa hor;have HBR:=aa hb5;clear hor;clear hb5;refine hK.out _ _ ⟨k0,k1,k2,d0,d1,d2⟩ (fun hHeld=>?_);clear hK K;(try simp only [nz]);refine rsq 8 15 (by kernel_rfl) rfl (fun K hK=>?_);go_simp;clear hHeld;have HBold:=HB.size;refine(jd (aP A x.i true) x 2 3 _ V3.heap.size V5 HRW.out HBR.out.size HS1.out HR1.out hr1).mono ?_;rintro e V7 ⟨u,rfl,hfr,hbq⟩;have hbX:Below V3.heap.size V3 V7:=HBR.out.trans hbq;replace k0:=zC k0_r hbX;replace k1:=zC k1_r hbX;replace k2:=zC k2_r hbX;replace d0:=zC d0_r hbX;replace d1:=zC d1_r hbX;replace d2:=zC d2_r hbX;replace HF1:=aa (HF1_r.out.below hbX zr);replace HB:=HBr.trans (hbX.mono HBr.size);obtain⟨fo2,fc2,rfl⟩:=hfr.slc;have HF2:=aa (hfr.less HBold);clear hfr HBold hbq hbX HBR HBr HRW k0_r k1_r k2_r d0_r d1_r d2_r HF1_r;refine hK.out _ _ ⟨k0,k1,k2,d0,d1,d2⟩ (fun hHeld=>?_);clear hK K;(try simp only [nz])
 refine rsq 11 18 (by kernel_rfl) rfl (fun K hK=>?_);go_simp;clear hHeld;have HBold:=HB.size;refine(lu S P A s1 p1 a1 s2 p2 a2 x _ (HC.out.below HB zr) hl hx0 hx1).mono ?_;rintro e V8 ⟨u,rfl,hfr,hb8⟩;have hs9:=hb8.size;replace⟨k0,k1,k2,d0,d1,d2⟩:=em k0 k1 k2 d0 d1 d2 hb8;replace HF1:=aa (HF1.out.below hb8 zr);replace HF2:=aa (HF2.out.below hb8 zr);replace HB:=zT HB hb8;obtain⟨fo3,fc3,rfl⟩:=hfr.slc;have HF3:=aa (hfr.less HBold);clear hfr HBold;clear hb8;refine hK.out _ _ ⟨k0,k1,k2,d0,d1,d2⟩ (fun hHeld=>?_);clear hK K;(try simp only [nz]);refine rsq 14 21 (by kernel_rfl) rfl (fun K hK=>?_);go_simp;clear hHeld;have HBold:=HB.size;refine(mh S P A s1 p1 a1 s2 p2 a2 x _ (HC.out.below HB zr) hl hx0 hx1 HP.out hlS).mono ?_;rintro e V10 ⟨u,rfl,hfr,hb10⟩;have hs11:=hb10.size;replace⟨k0,k1,k2,d0,d1,d2⟩:=em k0 k1 k2 d0 d1 d2 hb10;replace HF1:=aa (HF1.out.below hb10 zr);replace HF2:=aa (HF2.out.below hb10 zr);replace HF3:=aa (HF3.out.below hb10 zr);replace HB:=zT HB hb10;obtain⟨fo4,fc4,rfl⟩:=hfr.slc;have HF4:=aa (hfr.less HBold);clear hfr HBold;clear hb10;refine hK.out _ _ ⟨k0,k1,k2,d0,d1,d2⟩ (fun hHeld=>?_);clear hK K;(try simp only [nz]);refine rsq 17 24 (by kernel_rfl) rfl (fun K hK=>?_);go_simp;clear hHeld;have k0_r:=k0;have k1_r:=k1;have k2_r:=k2;have d0_r:=d0;have d1_r:=d1;have d2_r:=d2;have HF1_r:=HF1;have HF2_r:=HF2;have HF3_r:=HF3;have HF4_r:=HF4;have HBr:=HB;refine(lj S P A s1 p1 a1 s2 p2 a2 x false _ (HC.out.below HB zr) hlA).mono ?_;rintro e V12 ⟨u,rfl,hor,hb12⟩;have hs13:=hb12.size;replace⟨k0,k1,k2,d0,d1,d2⟩:=em k0 k1 k2 d0 d1 d2 hb12;replace HF1:=aa (HF1.out.below hb12 zr);replace HF2:=aa (HF2.out.below hb12 zr);replace HF3:=aa (HF3.out.below hb12 zr);replace HF4:=aa (HF4.out.below hb12 zr);replace HB:=zT HB hb12;obtain⟨ro2,rc2,rfl⟩:=az hor;have HRW:=aa hor;have HBR:=aa hb12;clear hor;clear hb12;refine hK.out _ _ ⟨k0,k1,k2,d0,d1,d2⟩ (fun hHeld=>?_);clear hK K;(try simp only [nz]);refine rsq 19 26 (by kernel_rfl) rfl (fun K hK=>?_);go_simp;clear hHeld;have HBold:=HB.size;refine(jd (aP A x.i false) x 4 5 _ V10.heap.size V12 HRW.out HBR.out.size HS2.out HR2.out hr2).mono ?_;rintro e V14 ⟨u,rfl,hfr,hbq⟩;have hbX:Below V10.heap.size V10 V14:=HBR.out.trans hbq;replace k0:=zC k0_r hbX;replace k1:=zC k1_r hbX;replace k2:=zC k2_r hbX;replace d0:=zC d0_r hbX;replace d1:=zC d1_r hbX;replace d2:=zC d2_r hbX;replace HF1:=aa (HF1_r.out.below hbX zr);replace HF2:=aa (HF2_r.out.below hbX zr);replace HF3:=aa (HF3_r.out.below hbX zr);replace HF4:=aa (HF4_r.out.below hbX zr);replace HB:=HBr.trans (hbX.mono HBr.size);obtain⟨fo5,fc5,rfl⟩:=hfr.slc;have HF5:=aa (hfr.less HBold);clear hfr HBold hbq hbX HBR HBr HRW k0_r k1_r k2_r d0_r d1_r d2_r HF1_r HF2_r HF3_r HF4_r
 refine hK.out _ _ ⟨k0,k1,k2,d0,d1,d2⟩ (fun hHeld=>?_);clear hK K;(try simp only [nz]);refine rsq 20 27 (by kernel_rfl) rfl (fun K hK=>?_);go_simp;clear hHeld;refine aC (fun V15 g15 hV hg=>?_);rw [←hg];have hbN:=zB hV;have hg15:V14.heap.size≤g15:=by omega
 have hl15:=zL hV hg;have q0:V15.cell? ⟨g15,0,none⟩=some (.slice fo1 (eP P x ch).length fc1):=zN2 hV hg rfl;have q1:V15.cell? ⟨g15,1,none⟩=some (.slice fo2 (bs (aH (aP A x.i true)) x.i 2 3).length fc2):=zN2 hV hg rfl;have q2:V15.cell? ⟨g15,2,none⟩=some (.slice fo3 (bL P x).length fc3):=zN2 hV hg rfl;have q3:V15.cell? ⟨g15,3,none⟩=some (.slice fo4 (bG S P x).length fc4):=zN2 hV hg rfl;have q4:V15.cell? ⟨g15,4,none⟩=some (.slice fo5 (bs (aH (aP A x.i false)) x.i 4 5).length fc5):=zN2 hV hg rfl;have hs16:=hbN.size;replace⟨k0,k1,k2,d0,d1,d2⟩:=em k0 k1 k2 d0 d1 d2 hbN;replace HF1:=aa (HF1.out.below hbN zr);replace HF2:=aa (HF2.out.below hbN zr);replace HF3:=aa (HF3.out.below hbN zr);replace HF4:=aa (HF4.out.below hbN zr);replace HF5:=aa (HF5.out.below hbN zr);replace HB:=zT HB hbN;clear hV hg hbN;refine hK.out _ _ ⟨k0,k1,k2,d0,d1,d2⟩ (fun hHeld=>?_);clear hK K;(try simp only [nz]);refine rsq 21 28 (by kernel_rfl) rfl (fun K hK=>?_);go_simp;clear hHeld;obtain⟨lo1,hm1,hll1,hsr1,hk1⟩:=HF1.out.src;obtain⟨lo2,hm2,hll2,hsr2,hk2⟩:=HF2.out.src;obtain⟨lo3,hm3,hll3,hsr3,hk3⟩:=HF3.out.src;obtain⟨lo4,hm4,hll4,hsr4,hk4⟩:=HF4.out.src;obtain⟨lo5,hm5,hll5,hsr5,hk5⟩:=HF5.out.src;have hq1:=HL1.out;have hq2:=HL2.out;have hq3:=HL3.out;have hq4:=HL4.out;have hq5:=HL5.out;refine(oV [((.slice fo1 (eP P x ch).length fc1:Value),lo1.length,C lo1),((.slice fo2 (bs (aH (aP A x.i true)) x.i 2 3).length fc2:Value),lo2.length,C lo2),((.slice fo3 (bL P x).length fc3:Value),lo3.length,C lo3),((.slice fo4 (bG S P x).length fc4:Value),lo4.length,C lo4),((.slice fo5 (bs (aH (aP A x.i false)) x.i 4 5).length fc5:Value),lo5.length,C lo5)] g15 5 V15 (fun j hj=>match j,hj with | 0,_=>q0 | 1,_=>q1 | 2,_=>q2 | 3,_=>q3 | 4,_=>q4 | j+5,h=>absurd h (by simp)) (in5 hsr1 hsr2 hsr3 hsr4 hsr5) (by exact(show(5:Nat)≤10 by decide)) (by exact(show(5:Nat)≤5 by decide)) (in5 (show lo1.length≤100000 by omega) (show lo2.length≤100000 by omega) (show lo3.length≤100000 by omega) (show lo4.length≤100000 by omega) (show lo5.length≤100000 by omega))).mono ?_;rintro e V17 ⟨u,rfl,hor,hbq⟩;have HE:Hid (FR V17 w.heap.size u (bk S P A x ch)):=by
  have:=FR.cat (lo:=lo1++lo2++lo3++lo4++lo5) (fun y hy=>?_) hor (by simp [cat,im]) (by simp [cnt] <;>omega) hbq HB.size
  ·rw [HSW.out, ←hm1, ←hm2, ←hm3, ←hm4, ←hm5];simpa using aa this
  ·simp only [List.mem_append]at hy;rcases hy with(((h | h) | h) | h) | h
   ·exact⟨_,hk1 y h⟩
   ·exact⟨_,hk2 y h⟩
   ·exact⟨_,hk3 y h⟩
   ·exact⟨_,hk4 y h⟩
   ·exact⟨_,hk5 y h⟩
 replace⟨k0,k1,k2,d0,d1,d2⟩:=em k0 k1 k2 d0 d1 d2 hbq;replace HB:=zT HB hbq;obtain⟨eo,ec,rfl⟩:=HE.out.slc;clear hor hbq HF1 HF2 HF3 HF4 HF5 hm1 hll1 hsr1 hk1 hq1 hm2 hll2 hsr2 hk2 hq2 hm3 hll3 hsr3 hk3 hq3 hm4 hll4 hsr4 hk4 hq4 hm5 hll5 hsr5 hk5 hq5 q0 q1 q2 q3 q4;refine hK.out _ _ ⟨k0,k1,k2,d0,d1,d2⟩ (fun hHeld=>?_);clear hK K;(try simp only [nz]);refine tq 22 6 rfl (by kernel_rfl) (fun _ _ _ h=>h) rfl ‹_› (by intro w h;go_simp <;>with_reducible rfl) ?_;simp only [nz];refine wpAnyH_done (by kernel_rfl) ?_ _;clear hHeld;go_wp2_with fail
 go_ret;exact⟨_,rfl,HE.out,HB⟩
end Go.Proofs.YtjiajblbpokfgaaGreat
