/- Texts joined: Qe, Qf, Qg, Lay, Od, Oe, Sf, Po, Sg, Sh, Si, Sj. -/
import Derived.Test.YtaiedioffemhdaaGreatRows
import Derived.Shelf.SlSortCmp.NoneTotal
import Derived.Deep.RegionLaw
import Derived.Deep.AppendLies
import Derived.Laws.EntriesVeiled
import Derived.Lib.SliceRun
import Derived.Laws.CopyRow
import Derived.Test.YtaiedioffemhdaaGreatJT4
namespace Go.Proofs.YtaiedioffemhdaaGreat
open Go.RowKit
set_option linter.unusedVariables false
set_option maxRecDepth 100000
set_option maxHeartbeats 16000000
theorem dj (x:Ac) (w:World) (h0:0≤x.sb) (h1:x.sb≤16) (h2:0≤x.db) (h3:x.db≤16):Calls Tryz.prog 183 #[.agg #[.int .i64 x.s,.int .i64 x.p,.bool x.n,.int .i64 x.src,.int .i64 x.sb,.int .i64 x.dst,.int .i64 x.db,.int .i64 x.o,.bool x.d]] w fun e w'=>∃u,e= .returned u∧w'.ownsRow w.heap.size 142 3 u (bA x).length (M (bA x))∧Below w.heap.size w w':=by
 obtain⟨iM,inM,zM0,zM1,zM2⟩:=info_parts fw;go_enter Tryz.func183,Tryz.ntmps183;go_wp2_with fail
 obtain⟨W0,hW⟩:∃W0,W0=w.alloc (.cells #[.int .i64 x.s,.int .i64 x.p,.bool x.n,.int .i64 x.src,.int .i64 x.sb,.int .i64 x.dst,.int .i64 x.db,.int .i64 x.o,.bool x.d] 55):=⟨_,rfl⟩;rw [←hW];obtain⟨kb,hblk⟩:∃kb,kb=w.heap.size:=⟨_,rfl⟩;have k0:W0.cell? ⟨kb,0,none⟩=some (.int .i64 x.s):=zN2 hW hblk rfl;have k1:W0.cell? ⟨kb,1,none⟩=some (.int .i64 x.p):=zN2 hW hblk rfl;have k2:W0.cell? ⟨kb,2,none⟩=some (.bool x.n):=zN2 hW hblk rfl;have k3:W0.cell? ⟨kb,3,none⟩=some (.int .i64 x.src):=zN2 hW hblk rfl;have k4:W0.cell? ⟨kb,4,none⟩=some (.int .i64 x.sb):=zN2 hW hblk rfl;have k5:W0.cell? ⟨kb,5,none⟩=some (.int .i64 x.dst):=zN2 hW hblk rfl;have k6:W0.cell? ⟨kb,6,none⟩=some (.int .i64 x.db):=zN2 hW hblk rfl;have k7:W0.cell? ⟨kb,7,none⟩=some (.int .i64 x.o):=zN2 hW hblk rfl;have k8:W0.cell? ⟨kb,8,none⟩=some (.bool x.d):=zN2 hW hblk rfl;have hbN:Below w.heap.size w W0:=by rw [hW];exact ak _ _
 have hzW0:W0.heap.size=kb+1:=by rw [hW,hblk];simp
 have hkbl:w.heap.size≤kb:=by omega
 rw [←hblk];clear hW hblk;have HB:=hbN;clear hbN hzW0;have hs0_1:=HB.size;refine wp_region_held_drew (S:=(fun w'=>w'.cell? ⟨kb,0,none⟩=some (.int .i64 x.s)∧w'.cell? ⟨kb,1,none⟩=some (.int .i64 x.p)∧w'.cell? ⟨kb,2,none⟩=some (.bool x.n)∧w'.cell? ⟨kb,3,none⟩=some (.int .i64 x.src)∧w'.cell? ⟨kb,4,none⟩=some (.int .i64 x.sb)∧w'.cell? ⟨kb,5,none⟩=some (.int .i64 x.dst)∧w'.cell? ⟨kb,6,none⟩=some (.int .i64 x.db)∧w'.cell? ⟨kb,7,none⟩=some (.int .i64 x.o)∧w'.cell? ⟨kb,8,none⟩=some (.bool x.d))) (by kernel_rfl) ⟨k0,k1,k2,k3,k4,k5,k6,k7,k8⟩ (fun hHeld=>?_);have HDW:Below W0.heap.size W0 W0.drew:=(Below.refl _ _).drew;have hs1:=HDW.size;replace⟨k0,k1,k2,k3,k4,k5,k6,k7⟩:=cX k0 k1 k2 k3 k4 k5 k6 k7 HDW;replace k8:=zC k8 HDW;replace HB:=zT HB HDW;clear HDW;generalize W0.drew=V2 at*;refine sqA [(0,4),(1,5),(2,6),(3,7),(5,9),(6,10),(7,11),(8,12)] ?_;(iterate 8 (refine sqN rfl (by kernel_rfl) (fun _ _ _=>id) rfl ‹_› (by intro w h;go_simp <;>with_reducible rfl) ?_;simp only [nz]));refine sqZ ?_;refine rs 4 8 (by kernel_rfl) rfl (fun K hK=>?_);go_simp;clear hHeld;refine(lH _ _ _ _ h0 h1).mono ?_;rintro e V3 ⟨rfl,hb3⟩;have hs4:=hb3.size;replace⟨k0,k1,k2,k3,k4,k5,k6,k7⟩:=cX k0 k1 k2 k3 k4 k5 k6 k7 hb3;replace k8:=zC k8 hb3;replace HB:=zT HB hb3;clear hb3;refine hK.out _ _ ⟨k0,k1,k2,k3,k4,k5,k6,k7,k8⟩ (fun hHeld=>?_);clear hK K;(try simp only [nz]);refine rs 9 13 (by kernel_rfl) rfl (fun K hK=>?_);go_simp;clear hHeld;refine(lH _ _ _ _ h2 h3).mono ?_;rintro e V5 ⟨rfl,hb5⟩;have hs6:=hb5.size;replace⟨k0,k1,k2,k3,k4,k5,k6,k7⟩:=cX k0 k1 k2 k3 k4 k5 k6 k7 hb5;replace k8:=zC k8 hb5;replace HB:=zT HB hb5;clear hb5;refine hK.out _ _ ⟨k0,k1,k2,k3,k4,k5,k6,k7,k8⟩ (fun hHeld=>?_);clear hK K;(try simp only [nz]);refine rs 10 14 (by kernel_rfl) rfl (fun K hK=>?_);go_simp;clear hHeld;refine ah (fun V7 g7 hV hg=>?_);rw [←hg];have hbN:=zB hV;have hg7:V5.heap.size≤g7:=by omega
 have hl7:=zL hV hg;have HM:Hid (V7.ownsRow w.heap.size 142 3 (.slice (some ⟨g7,0,none⟩) 2 2) 2 (M [hiM 4 x.src x.sb,hiM 5 x.dst x.db])):=zW hV hg HB.size (by decide) rfl;have hs8:=hbN.size;replace⟨k0,k1,k2,k3,k4,k5,k6,k7⟩:=cX k0 k1 k2 k3 k4 k5 k6 k7 hbN;replace k8:=zC k8 hbN;replace HB:=zT HB hbN;clear hV hg hbN;refine hK.out _ _ ⟨k0,k1,k2,k3,k4,k5,k6,k7,k8⟩ (fun hHeld=>?_);clear hK K;(try simp only [nz]);refine tq 11 3 rfl (by kernel_rfl) (fun _ _ _=>id) rfl ‹_› (by intro w h;go_simp <;>with_reducible rfl) ?_;simp only [nz];refine wpAnyH_done (by kernel_rfl) ?_ _;clear hHeld;by_cases ho:x.o= -1
 ·have HRM:Hid (bA x= [hiM 4 x.src x.sb,hiM 5 x.dst x.db]):=by
   refine aa ?_;unfold bA;rw [if_pos ho];rfl
  have hoc:(x.o != -1)=false:=(by simp [ho]);clear ho;go_wp2_with fail
  go_ret;exact⟨_,rfl,by rw [HRM.out];exact HM.out,HB⟩
 ·have HRM:Hid (bA x= [hiM 4 x.src x.sb,hiM 5 x.dst x.db]++ [isM 7 x.o]):=by
   refine aa ?_;unfold bA;rw [if_neg ho]
  have hoc:(x.o != -1)=true:=(by simp [ho]);clear ho;go_wp2_with fail
  refine(bI _ _ _).mono ?_;rintro e V9 ⟨rfl,hb9⟩;have hs10:=hb9.size;replace⟨k0,k1,k2,k3,k4,k5,k6,k7⟩:=cX k0 k1 k2 k3 k4 k5 k6 k7 hb9;replace k8:=zC k8 hb9;replace HM:=zO HM hb9;replace HB:=zT HB hb9;clear hb9;obtain⟨WA,hWA⟩:∃WA,WA=V9.alloc (.cells #[.int .i64 7,.int .i64 65535,.int .i64 x.o] 142):=⟨_,rfl⟩;have hbN:Below V9.heap.size V9 WA:=by rw [hWA];exact ak _ _
  have NEWS:Hid (∀j u,(M [isM 7 x.o])[j]? =some u→WA.cell? ((⟨V9.heap.size,0,none⟩:Addr).add j)=some u):=by rw [hWA];exact aa (eI V9 _ _)
  replace HM:=zO HM hbN;replace HB:=zT HB hbN;have hsA:=HB.size;have HWA:Hid (V9.alloc (.cells #[.int .i64 7,.int .i64 65535,.int .i64 x.o] 142)=WA):=hWA.symm;clear hWA hbN;go_wp2_with (at_builtin;rw [ag HWA];refine wpList_append_own _ rfl _ _ 81 rfl w.heap.size 142 iM _ 3 24 Tryz.underlying81 inM zM0 zM1 zM2 rfl (by decide) _ _ _ rfl (ag HM) ⟨V9.heap.size,0,none⟩ 1 1 (M [isM 7 x.o]) rfl rfl (ag NEWS) (dV _) (by decide) (by decide) hsA ?_)
  intro v3 w3 ho3 hg3 _;have hb3:Below w.heap.size w w3:=HB.grown hg3 hsA (ay HM.out);have HE:Hid (w3.ownsRow w.heap.size 142 3 v3 (bA x).length (M (bA x))):=by rw [HRM.out];exact aa ho3
  obtain⟨o3,c3,rfl⟩:=aG ho3;clear ho3 hg3 HM NEWS HWA;go_wp2_with fail
  go_ret;exact⟨_,rfl,HE.out,hb3⟩
theorem lw (S:List Sw) (P:List Pr) (A:List Ac) (s1 p1 a1:Option Addr) (s2 p2 a2:Nat) (x:Sw) (inn:Bool) (w:World) (hC:CfAt w (.slice s1 S.length s2) (.slice p1 P.length p2) (.slice a1 A.length a2) S P A) (hl:A.length≤1000):
  Calls Tryz.prog 145 #[.agg #[.slice s1 S.length s2,.slice p1 P.length p2,.slice a1 A.length a2],.agg #[.int .i64 x.i,.int .i64 x.t,.int .i64 x.g],.bool inn] w fun e w'=>∃u,e= .returned u∧w'.ownsRow w.heap.size 55 9 u (aV A x.i inn).length ((aV A x.i inn).flatMap acC)∧Below w.heap.size w w':=by
 have HA:=aa hC.2.2;clear hC;have HR:Hid (aV A x.i inn=A.filter fun r=>r.s==x.i&&r.n==inn):=rfl;go_enter Tryz.func145,Tryz.ntmps145;go_wp2_with fail
 obtain⟨W0,hW⟩:∃W0,W0=w.alloc (.cells #[.slice s1 S.length s2,.slice p1 P.length p2,.slice a1 A.length a2] 30):=⟨_,rfl⟩;rw [←hW];obtain⟨cb,hblk⟩:∃cb,cb=w.heap.size:=⟨_,rfl⟩;have k0:W0.cell? ⟨cb,0,none⟩=some (.slice s1 S.length s2):=zN2 hW hblk rfl;have k1:W0.cell? ⟨cb,1,none⟩=some (.slice p1 P.length p2):=zN2 hW hblk rfl;have k2:W0.cell? ⟨cb,2,none⟩=some (.slice a1 A.length a2):=zN2 hW hblk rfl;have hbN:Below w.heap.size w W0:=by rw [hW];exact ak _ _
 have hzW0:W0.heap.size=cb+1:=by rw [hW,hblk];simp
 have hcbl:w.heap.size≤cb:=by omega
 rw [←hblk];clear hW hblk;have HB:=hbN;clear hbN;obtain⟨W1,hW⟩:∃W1,W1=W0.alloc (.cells #[.int .i64 x.i,.int .i64 x.t,.int .i64 x.g] 51):=⟨_,rfl⟩;rw [←hW];obtain⟨sb,hblk⟩:∃sb,sb=cb+1:=⟨_,rfl⟩;have d0:W1.cell? ⟨sb,0,none⟩=some (.int .i64 x.i):=zN2 hW (hblk.trans hzW0.symm) rfl;have d1:W1.cell? ⟨sb,1,none⟩=some (.int .i64 x.t):=zN2 hW (hblk.trans hzW0.symm) rfl;have d2:W1.cell? ⟨sb,2,none⟩=some (.int .i64 x.g):=zN2 hW (hblk.trans hzW0.symm) rfl;have hbN:Below W0.heap.size W0 W1:=by rw [hW];exact ak _ _
 have hzW1:W1.heap.size=sb+1:=by rw [hW,hblk];simp [hzW0]
 have hsbl:cb<sb:=by omega
 rw [←hblk];clear hW hblk hzW0;replace⟨k0,k1,k2⟩:=bj k0 k1 k2 hbN;replace HB:=zT HB hbN;clear hbN;obtain⟨W2,hW⟩:∃W2,W2=W1.alloc (.cells #[.bool inn] 4):=⟨_,rfl⟩;rw [←hW];obtain⟨ib,hblk⟩:∃ib,ib=sb+1:=⟨_,rfl⟩;have i0:W2.cell? ⟨ib,0,none⟩=some (.bool inn):=zN2 hW (hblk.trans hzW1.symm) rfl;have hbN:Below W1.heap.size W1 W2:=by rw [hW];exact ak _ _
 have hzW2:W2.heap.size=ib+1:=by rw [hW,hblk];simp [hzW1]
 have hibl:sb<ib:=by omega
 rw [←hblk];clear hW hblk hzW1;replace⟨k0,k1,k2,d0,d1,d2⟩:=eH k0 k1 k2 d0 d1 d2 hbN;replace HB:=zT HB hbN;clear hbN hzW2;refine(pN A _ _ _ _ _ (RowAt.below HA.out HB zr) (qS d0 i0) wg hl).mono ?_;rintro e w1 ⟨u,rfl,ho,hb⟩;rw [←HR.out]at ho;have HE:=aa (aw ho HB.size);have HB2:=aa (HB.trans (hb.mono HB.size));obtain⟨o,c,rfl⟩:=aG ho;clear ho hb HB HA;go_wp2_with fail
 go_ret;exact⟨_,rfl,HE.out,HB2.out⟩
theorem qv (x y:Ac) (w:World):Calls Tryz.prog 182 #[.agg #[.int .i64 x.s,.int .i64 x.p,.bool x.n,.int .i64 x.src,.int .i64 x.sb,.int .i64 x.dst,.int .i64 x.db,.int .i64 x.o,.bool x.d],.agg #[.int .i64 y.s,.int .i64 y.p,.bool y.n,.int .i64 y.src,.int .i64 y.sb,.int .i64 y.dst,.int .i64 y.db,.int .i64 y.o,.bool y.d]] w fun e w'=>e= .returned (.int .i64 (aS y.p x.p))∧Below w.heap.size w w':=by
 go_enter Tryz.func182,Tryz.ntmps182;go_wp2_with fail
 refine(cY _ _ _).mono ?_;rintro e w1 ⟨rfl,hw1⟩;have hb:Below w.heap.size w w1:=by rw [hw1];exact((Below.refl _ _).alloc zr _).alloc (by simp) _
 clear hw1;go_wp2_with fail
 go_ret;exact⟨rfl,hb⟩
def eY (L:List Ac):Prop:=∀(u:Value) (B:Nat) (w:World),w.ownsRow B 55 9 u L.length (L.flatMap acC)→B≤w.heap.size→Calls Tryz.prog 181 #[u,.func (.func 182) #[] #[]] w fun e w'=>e= .returned (.tuple #[])∧w'.ownsRow B 55 9 u L.length ((aQ L).flatMap acC)∧w.grownBy w' u.ownBlock
theorem xU {P:Program} {c:Code} {Q:Exit→Act→World→Prop} {a:Act} {w:World} (F:Nat→Nat→Nat→Nat→Nat→Nat→World→Prop) (A1:Nat→Nat→Nat→Nat→Nat→Nat→Act) (h:c.wp P (fun e a' w'=>e= .normal∧∃x y z u v s,a'=A1 x y z u v s∧F x y z u v s w') a w) (hq:∀x y z u v s w',F x y z u v s w'→Q .normal (A1 x y z u v s) w'):c.wp P Q a w:=
 Code.wp_mono (fun e a' w' ⟨he,x,y,z,u,v,s,ha,hf⟩=>by subst he;subst ha;exact hq x y z u v s w' hf) h
theorem nO {w:World} {b:Nat} {p q r s:Value} (h0:w.cell? ⟨b,0,none⟩=some p) (h1:w.cell? ⟨b,1,none⟩=some q) (h2:w.cell? ⟨b,2,none⟩=some r) (h3:w.cell? ⟨b,3,none⟩=some s) (x y z u:Value):
  ((((w.setCell ⟨b,0,none⟩ x).setCell ⟨b,1,none⟩ y).setCell ⟨b,2,none⟩ z).setCell ⟨b,3,none⟩ u).cell? ⟨b,0,none⟩=some x∧((((w.setCell ⟨b,0,none⟩ x).setCell ⟨b,1,none⟩ y).setCell ⟨b,2,none⟩ z).setCell ⟨b,3,none⟩ u).cell? ⟨b,1,none⟩=some y∧((((w.setCell ⟨b,0,none⟩ x).setCell ⟨b,1,none⟩ y).setCell ⟨b,2,none⟩ z).setCell ⟨b,3,none⟩ u).cell? ⟨b,2,none⟩=some z∧((((w.setCell ⟨b,0,none⟩ x).setCell ⟨b,1,none⟩ y).setCell ⟨b,2,none⟩ z).setCell ⟨b,3,none⟩ u).cell? ⟨b,3,none⟩=some u:=by
 have o:∀(W:World) (i j:Nat) (v:Value),i≠j→(W.setCell ⟨b,i,none⟩ v).cell? ⟨b,j,none⟩=W.cell? ⟨b,j,none⟩:=fun W i j v hij=>World.cell?_setCell_other _ _ _ _ (fun e=>hij (by simpa using (congrArg Addr.off e)));refine⟨?_,?_,?_,?_⟩
 ·rw [o _ 3 0 _ (by decide),o _ 2 0 _ (by decide),o _ 1 0 _ (by decide)];exact World.cell?_setCell_same _ _ _ h0
 ·rw [o _ 3 1 _ (by decide),o _ 2 1 _ (by decide)];exact World.cell?_setCell_same _ _ _ ((o _ 0 1 _ (by decide)).trans h1)
 ·rw [o _ 3 2 _ (by decide)];exact World.cell?_setCell_same _ _ _ ((o _ 1 2 _ (by decide)).trans ((o _ 0 2 _ (by decide)).trans h2))
 ·exact World.cell?_setCell_same _ _ _ ((o _ 2 3 _ (by decide)).trans ((o _ 1 3 _ (by decide)).trans ((o _ 0 3 _ (by decide)).trans h3)))
theorem cQ (w:World) (b:Nat) (x y z u:Value):w.grownBy ((((w.setCell ⟨b,0,none⟩ x).setCell ⟨b,1,none⟩ y).setCell ⟨b,2,none⟩ z).setCell ⟨b,3,none⟩ u) (some b):=by
 have h:=fun(W:World) (i:Nat) (v:Value)=>kT W ⟨b,i,none⟩ v;have t:∀{A B C:World},A.grownBy B (some b)→B.grownBy C (some b)→A.grownBy C (some b):=fun h1 h2=>⟨h2.os.trans h1.os,h2.tape.trans h1.tape,h2.output.trans h1.output,Nat.le_trans h1.size h2.size,fun k hk hne=>(h2.block k (Nat.lt_of_lt_of_le hk h1.size) hne).trans (h1.block k hk hne)⟩;exact t (t (t (h w 0 x) (h _ 1 y)) (h _ 2 z)) (h _ 3 u)
theorem cm (w:World) (b j:Nat) (x y z u:Value):((((w.setCell ⟨b,0,none⟩ x).setCell ⟨b,1,none⟩ y).setCell ⟨b,2,none⟩ z).setCell ⟨b,3,none⟩ u).frozen? ⟨b,j,none⟩=w.frozen? ⟨b,j,none⟩:=by
 rw [World.frozen?_setCell,World.frozen?_setCell,World.frozen?_setCell,World.frozen?_setCell]
theorem sO (r:Ac):2≤(bA r).length∧(bA r).length≤3:=by
 unfold bA;split <;>simp
theorem fI (R:List Ac):(aQ R).length=R.length:=by
 unfold aQ;rw [mB,aU,aU,List.length_take,List.length_drop];omega
theorem sJ (R:List Ac) (z:Ac):z∈aQ R↔z∈R:=by
 unfold aQ;rw [mt,fB,fB, ←List.mem_append,List.take_append_drop]
def fH (R:List Ac) (s t n:Int) (k:Nat):List Fl:=⟨t,0,[isM 8 s],[aM n]⟩::(List.range k).map (dt R s t n)
theorem rF (R:List Ac) (s t n:Int) (k:Nat):fH R s t n (k+1)=fH R s t n k++ [dt R s t n k]:=by
 unfold fH;rw [List.range_succ,List.map_append];rfl
theorem ts (R:List Ac) (s t n:Int) (k:Nat):(fH R s t n k).length=k+1:=by
 unfold fH;rw [List.length_cons,List.length_map,List.length_range]
theorem jJ (R:List Ac) (x:Sw) (t n:Int) (u:Value) (B:Nat) (w:World) (ho:w.ownsRow B 55 9 u R.length (R.flatMap acC)) (hB:B≤w.heap.size) (hS:eY R) (hR:∀r∈R,(0≤r.sb∧r.sb≤16)∧0≤r.db∧r.db≤16) (hl:R.length≤1000):
  Calls Tryz.prog 144 #[u,.agg #[.int .i64 x.i,.int .i64 x.t,.int .i64 x.g],.int .i64 t,.int .i64 n] w fun e w'=>∃v,e= .returned v∧FR w' w.heap.size v (bG (aQ R) x.i t n)∧Below B w w':=by
 obtain⟨iM,inM,zM0,zM1,zM2⟩:=info_parts fw;obtain⟨iD,inD,zD0,zD1,zD2⟩:=info_parts gv;have HS:=aa (fun W (hW:Below w.heap.size w W)=>hS u B W (aA ho hW) (Nat.le_trans hB hW.size));have HUL:=aa (fun g (e:u.ownBlock=some g)=>bW ho e);have HUG:=aa (ay ho);obtain⟨uo,uc,rfl⟩:=aG ho;obtain⟨L,hL⟩:∃L,L=aQ R:=⟨_,rfl⟩;have HLL:Hid (L.length=R.length):=by rw [hL];exact aa (fI R)
 have HLB:Hid (∀r∈L,(0≤r.sb∧r.sb≤16)∧0≤r.db∧r.db≤16):=aa (fun r hr=>hR r (by rw [hL]at hr;exact(sJ R r).1 hr));have HRF:Hid (bG L x.i t n=fH L x.i t n L.length):=rfl;rw [←hL]at HS⊢;clear hL ho hS hR;obtain⟨N,hN⟩:∃N,N=R.length:=⟨_,rfl⟩;rw [←hN]at HS HLL HUL HUG hl⊢;clear hN;go_enter Tryz.func144,Tryz.ntmps144;go_wp2_with fail
 obtain⟨W0,hW⟩:∃W0,W0=w.alloc (.cells #[.int .i64 x.i,.int .i64 x.t,.int .i64 x.g] 51):=⟨_,rfl⟩;rw [←hW];obtain⟨sb,hblk⟩:∃sb,sb=w.heap.size:=⟨_,rfl⟩;have d0:W0.cell? ⟨sb,0,none⟩=some (.int .i64 x.i):=zN2 hW hblk rfl;have d1:W0.cell? ⟨sb,1,none⟩=some (.int .i64 x.t):=zN2 hW hblk rfl;have d2:W0.cell? ⟨sb,2,none⟩=some (.int .i64 x.g):=zN2 hW hblk rfl;have hbN:Below w.heap.size w W0:=by rw [hW];exact ak _ _
 have hzW0:W0.heap.size=sb+1:=by rw [hW,hblk];simp
 have hsbl:w.heap.size≤sb:=by omega
 rw [←hblk];clear hW hblk;have HB:=hbN;clear hbN hzW0;have hw00:w.heap.size≤W0.heap.size:=HB.size;refine(bI _ _ _).mono ?_;rintro e V1 ⟨rfl,hb1⟩;have hs2:=hb1.size;replace⟨d0,d1,d2⟩:=bj d0 d1 d2 hb1;replace HB:=zT HB hb1;clear hb1;go_wp2_with fail
 refine(bg _ _ _ _).mono ?_;rintro e V3 ⟨rfl,hb3⟩;have hs4:=hb3.size;replace⟨d0,d1,d2⟩:=bj d0 d1 d2 hb3;replace HB:=zT HB hb3;clear hb3;go_wp2_with fail
 obtain⟨V5,hV⟩:∃V5,V5=V3.alloc (.cells #[.int .i64 8,.int .i64 65535,.int .i64 x.i] 142):=⟨_,rfl⟩;rw [←hV];obtain⟨g5,hg'⟩:∃g5,g5=V3.heap.size:=⟨_,rfl⟩;have hg:g5=V3.heap.size:=hg';rw [←hg'];have hbN:=zB hV;have hg5:V3.heap.size≤g5:=by omega
 have hl5:=zL hV hg;have hzV5:V5.heap.size=g5+1:=by rw [hV,hg];simp
 have m0:V5.cell? ⟨g5,0,none⟩=some (.int .i64 8):=zN2 hV hg rfl;have m1:V5.cell? ⟨g5,1,none⟩=some (.int .i64 65535):=zN2 hV hg rfl;have m2:V5.cell? ⟨g5,2,none⟩=some (.int .i64 x.i):=zN2 hV hg rfl;have hs6:=hbN.size;replace⟨d0,d1,d2⟩:=bj d0 d1 d2 hbN;replace HB:=zT HB hbN;clear hV hg hg' hbN;obtain⟨V7,hV⟩:∃V7,V7=V5.alloc (.cells #[.int .i64 4,.int .i64 0,.int .i64 n] 145):=⟨_,rfl⟩;rw [←hV];obtain⟨g7,hg'⟩:∃g7,g7=g5+1:=⟨_,rfl⟩;have hg:g7=V5.heap.size:=hg'.trans hzV5.symm;rw [←hg'];have hbN:=zB hV;have hg7:V5.heap.size≤g7:=by omega
 have hl7:=zL hV hg;have hzV7:V7.heap.size=g7+1:=by rw [hV,hg];simp
 have e0:V7.cell? ⟨g7,0,none⟩=some (.int .i64 4):=zN2 hV hg rfl;have e1:V7.cell? ⟨g7,1,none⟩=some (.int .i64 0):=zN2 hV hg rfl;have e2:V7.cell? ⟨g7,2,none⟩=some (.int .i64 n):=zN2 hV hg rfl;have hs8:=hbN.size;replace⟨d0,d1,d2,m0,m1,m2⟩:=eH d0 d1 d2 m0 m1 m2 hbN;replace HB:=zT HB hbN;clear hV hg hg' hbN hzV5;clear hzV7;refine(ag HS _ HB).mono ?_;rintro e Ws ⟨rfl,hos,hgr⟩;have hs20:=hgr.size;have hs21:=HB.size;replace d0:=(hgr.cell_far ⟨sb,0,none⟩ (ap d0) (fun e=>by have:=HUL.out sb e.symm;omega)).trans d0;replace d1:=(hgr.cell_far ⟨sb,1,none⟩ (ap d1) (fun e=>by have:=HUL.out sb e.symm;omega)).trans d1;replace d2:=(hgr.cell_far ⟨sb,2,none⟩ (ap d2) (fun e=>by have:=HUL.out sb e.symm;omega)).trans d2;replace m0:=(hgr.cell_far ⟨g5,0,none⟩ (ap m0) (fun e=>by have:=HUL.out g5 e.symm;omega)).trans m0;replace m1:=(hgr.cell_far ⟨g5,1,none⟩ (ap m1) (fun e=>by have:=HUL.out g5 e.symm;omega)).trans m1;replace m2:=(hgr.cell_far ⟨g5,2,none⟩ (ap m2) (fun e=>by have:=HUL.out g5 e.symm;omega)).trans m2;replace e0:=(hgr.cell_far ⟨g7,0,none⟩ (ap e0) (fun e=>by have:=HUL.out g7 e.symm;omega)).trans e0;replace e1:=(hgr.cell_far ⟨g7,1,none⟩ (ap e1) (fun e=>by have:=HUL.out g7 e.symm;omega)).trans e1;replace e2:=(hgr.cell_far ⟨g7,2,none⟩ (ap e2) (fun e=>by have:=HUL.out g7 e.symm;omega)).trans e2;have HBW:Hid (Below B w Ws):=aa ((HB.mono hB).grown hgr (Nat.le_trans hB HB.size) HUG.out);have HROW:Hid (Ws.ownsRow B 55 9 (.slice uo N uc) N (L.flatMap acC)):=aa hos;clear hos hgr HS HB;have HB:Below Ws.heap.size Ws Ws:=Below.refl _ _;have hx1:=ap e0;have hx2:¬g7=Ws.heap.size:=by omega
 go_wp2_with fail
 clear hx2;obtain⟨V41,hV⟩:∃V41,V41=Ws.alloc (.cells #[.int .i64 8,.int .i64 65535,.int .i64 x.i] 142):=⟨_,rfl⟩;rw [←hV];obtain⟨g41,hg'⟩:∃g41,g41=Ws.heap.size:=⟨_,rfl⟩;have hg:g41=Ws.heap.size:=hg';rw [←hg'];have hbN:=zB hV;have hg41:Ws.heap.size≤g41:=by omega
 have hl41:=zL hV hg;have hzV41:V41.heap.size=g41+1:=by rw [hV,hg];simp
 have HM1:Hid (V41.ownsRow Ws.heap.size 142 3 (.slice (some ⟨g41,0,none⟩) 1 1) 1 (M [isM 8 x.i])):=zW hV hg HB.size (by decide) rfl;have hs42:=hbN.size;replace⟨d0,d1,d2,m0,m1,m2,e0,e1⟩:=cX d0 d1 d2 m0 m1 m2 e0 e1 hbN;replace e2:=zC e2 hbN;replace HB:=zT HB hbN;clear hV hg hg' hbN;obtain⟨V43,hV⟩:∃V43,V43=V41.alloc (.cells #[.int .i64 4,.int .i64 0,.int .i64 n] 145):=⟨_,rfl⟩;rw [←hV];obtain⟨g43,hg'⟩:∃g43,g43=g41+1:=⟨_,rfl⟩;have hg:g43=V41.heap.size:=hg'.trans hzV41.symm;rw [←hg'];have hbN:=zB hV;have hg43:V41.heap.size≤g43:=by omega
 have hl43:=zL hV hg;have hzV43:V43.heap.size=g43+1:=by rw [hV,hg];simp
 have HD1:Hid (V43.ownsRow Ws.heap.size 145 3 (.slice (some ⟨g43,0,none⟩) 1 1) 1 (D [aM n])):=zW hV hg HB.size (by decide) rfl;have hs44:=hbN.size;replace⟨d0,d1,d2,m0,m1,m2,e0,e1⟩:=cX d0 d1 d2 m0 m1 m2 e0 e1 hbN;replace e2:=zC e2 hbN;replace HM1:=zO HM1 hbN;replace HB:=zT HB hbN;clear hV hg hg' hbN hzV41;clear hzV43;refine(aD _ _ _ _ _ _ _ _ _).mono ?_;rintro e V45 ⟨rfl,hb45⟩;have hs46:=hb45.size;replace⟨d0,d1,d2,m0,m1,m2,e0,e1⟩:=cX d0 d1 d2 m0 m1 m2 e0 e1 hb45;replace e2:=zC e2 hb45;replace HM1:=zO HM1 hb45;replace HD1:=zO HD1 hb45;replace HB:=zT HB hb45;clear hb45;go_wp2_with fail
 obtain⟨V47,hV⟩:∃V47,V47=V45.alloc (.cells #[.int .i64 t,.int .i64 0,.slice (some ⟨g41,0,none⟩) 1 1,.slice (some ⟨g43,0,none⟩) 1 1] 84):=⟨_,rfl⟩;rw [←hV];obtain⟨g47,hg'⟩:∃g47,g47=V45.heap.size:=⟨_,rfl⟩;have hg:g47=V45.heap.size:=hg';rw [←hg'];have hbN:=zB hV;have hg47:V45.heap.size≤g47:=by omega
 have hl47:=zL hV hg;have hzV47:V47.heap.size=g47+1:=by rw [hV,hg];simp
 have HF0:Hid (FR V47 Ws.heap.size (.slice (some ⟨g47,0,none⟩) 1 1) (fH L x.i t n 0)):=by
  rw [hV,hg];refine aa (FR.lit (lo:=[⟨⟨t,0,[isM 8 x.i],[aM n]⟩,.slice (some ⟨g41,0,none⟩) 1 1,.slice (some ⟨g43,0,none⟩) 1 1⟩]) rfl rfl HB.size (by decide) (fun x hx=>?_));simp only [List.mem_cons,List.not_mem_nil,or_false]at hx;rcases hx with rfl
  ·exact bm HM1.out HD1.out (by simp [Value.ownBlock])
 have hs48:=hbN.size;replace⟨d0,d1,d2,m0,m1,m2,e0,e1⟩:=cX d0 d1 d2 m0 m1 m2 e0 e1 hbN;replace e2:=zC e2 hbN;replace HM1:=zO HM1 hbN;replace HD1:=zO HD1 hbN;replace HB:=zT HB hbN;clear hV hg hg' hbN;clear hzV47;have hz1:Ws.heap.size≤g47:=by omega
 have hz2:g47<V47.heap.size:=by omega
 have hz3:g5<g47:=by omega
 have hz4:g7<g47:=by omega
 have hz5:w.heap.size≤Ws.heap.size:=by omega
 have hz6:w.heap.size≤g5:=by omega
 have hz7:g5<g7:=by omega
 have HROW2:=aa (aA HROW.out HB);have HBV:Hid (Below Ws.heap.size Ws V47):=aa HB;clear HROW HB d0 d1 d2;go_loopw [11,31] (fun v i wr=>∃k:Nat,k≤N∧i= .int .i64 k∧Hid (FR wr Ws.heap.size v (fH L x.i t n k))∧Hid (∀g,v.ownBlock=some g→g=g47∨V47.heap.size≤g)∧Hid (V47.grownBy wr (some g47))) (fun _ i _=>N-(intOf i).toNat)
 case atStart=>exact⟨0,by omega,rfl,HF0,aa (by simp [Value.ownBlock]),aa ⟨rfl,rfl,rfl,Nat.le_refl _,fun _ _ _=>rfl⟩⟩
 case round=>
  clear HF0;obtain⟨k,hk,rfl,HF,HVB,HGR⟩:=hrel;have hgs:V47.heap.size≤wr.heap.size:=HGR.out.size;by_cases hlt:k<N
  ·have hltL:k<L.length:=by rw [HLL.out];exact hlt
   have HR1:=aa (HROW2.out.kept HGR.out (.inr (fun e=>by have:=HUL.out _ e;omega)));obtain⟨b,off,cap,e1,hcap, -,g0,g1,g2,g3,g4,g5,g6,g7,g8⟩:=yM (RowAt.of_own cL (by decide) (by rw [HLL.out];exact HR1.out)) hltL;rw [HLL.out]at e1 hcap;simp only [Value.slice.injEq,true_and]at e1;obtain⟨rfl,rfl⟩:=e1;have hyb:=HLB.out (L.getD k ac0) (by rw [List.getD_eq_getElem?_getD,List.getElem?_eq_getElem hltL];exact List.getElem_mem _);have HNX:=aa (rF L x.i t n k);have HRA:Hid (dt L x.i t n k=⟨t,(N:Int)-k,bA (L.getD k ac0)++ [isM 8 x.i],if(L.getD k ac0).d then []else [aM n]⟩):=by refine aa ?_;unfold dt;rw [HLL.out]
   have hln:=ts L x.i t n k;obtain⟨vo,vc,rfl⟩:=HF.out.slc;have HE0:Hid (L.getD k ac0=⟨(L.getD k ac0).s,(L.getD k ac0).p,(L.getD k ac0).n,(L.getD k ac0).src,(L.getD k ac0).sb,(L.getD k ac0).dst,(L.getD k ac0).db,(L.getD k ac0).o,(L.getD k ac0).d⟩):=rfl;rw [HE0.out]at HRA;clear HE0 HR1;generalize (L.getD k ac0).s=y0 at*;generalize (L.getD k ac0).p=y1 at*;generalize (L.getD k ac0).n=y2 at*;generalize (L.getD k ac0).src=y3 at*;generalize (L.getD k ac0).sb=y4 at*;generalize (L.getD k ac0).dst=y5 at*;generalize (L.getD k ac0).db=y6 at*;generalize (L.getD k ac0).o=y7 at*;generalize (L.getD k ac0).d=y8 at*;obtain⟨⟨hy0,hy1⟩,hy2,hy3⟩:=hyb;generalize hFK:fH L x.i t n k=FK at*;have HFK:=aa hFK;clear hFK;obtain⟨NF,hNF⟩:∃NF,NF=FK.length:=⟨_,rfl⟩;rw [←hNF]at HF hln HVB⊢;have HNN:=aa hNF;have hln2:NF≤1001:=(by omega);clear hNF hln;have q1:(0:Int)≤(k:Int):=(by omega);have q2:(k:Int)<(N:Int):=(by omega);have hwr1:IntKind.i64.wrap (N:Int)=(N:Int):=bk _ (by omega) (by omega);have hwr2:IntKind.i64.wrap ((N:Int)-(k:Int))=(N:Int)-(k:Int):=bk _ (by omega) (by omega);have HUB:=aa HF.out.lt;have nm0:=aP HGR.out m0 (by omega);have nm1:=aP HGR.out m1 (by omega);have nm2:=aP HGR.out m2 (by omega);have ne0:=aP HGR.out e0 (by omega);have ne1:=aP HGR.out e1 (by omega);have ne2:=aP HGR.out e2 (by omega);go_wp2_with fail
   obtain⟨W9,hW9⟩:∃W9,W9=wr.alloc (.cells #[.int .i64 y0,.int .i64 y1,.bool y2,.int .i64 y3,.int .i64 y4,.int .i64 y5,.int .i64 y6,.int .i64 y7,.bool y8] 55):=⟨_,rfl⟩;rw [←hW9];obtain⟨pb,hpb⟩:∃pb,pb=wr.heap.size:=⟨_,rfl⟩;have a0:W9.cell? ⟨pb,0,none⟩=some (.int .i64 y0):=zN2 hW9 hpb rfl;have a1:W9.cell? ⟨pb,1,none⟩=some (.int .i64 y1):=zN2 hW9 hpb rfl;have a2:W9.cell? ⟨pb,2,none⟩=some (.bool y2):=zN2 hW9 hpb rfl;have a3:W9.cell? ⟨pb,3,none⟩=some (.int .i64 y3):=zN2 hW9 hpb rfl;have a4:W9.cell? ⟨pb,4,none⟩=some (.int .i64 y4):=zN2 hW9 hpb rfl;have a5:W9.cell? ⟨pb,5,none⟩=some (.int .i64 y5):=zN2 hW9 hpb rfl;have a6:W9.cell? ⟨pb,6,none⟩=some (.int .i64 y6):=zN2 hW9 hpb rfl;have a7:W9.cell? ⟨pb,7,none⟩=some (.int .i64 y7):=zN2 hW9 hpb rfl;have a8:W9.cell? ⟨pb,8,none⟩=some (.bool y8):=zN2 hW9 hpb rfl;have hpb0:wr.heap.size≤pb:=(by omega);have hpb1:pb<W9.heap.size:=by rw [hW9,hpb];simp
   have HB:Below wr.heap.size wr W9:=by rw [hW9];exact ak _ _
   replace⟨nm0,nm1,nm2,ne0,ne1,ne2⟩:=eH nm0 nm1 nm2 ne0 ne1 ne2 HB;have hs10:=HB.size;rw [←hpb];clear hW9 hpb g0 g1 g2 g3 g4 g5 g6 g7 g8;obtain⟨NM,hNM⟩:∃NM,NM=(bA ⟨y0,y1,y2,y3,y4,y5,y6,y7,y8⟩).length:=⟨_,rfl⟩;have HNM:=aa hNM;have hNM2:2≤NM∧NM≤3:=by rw [hNM];exact sO _
   obtain⟨hNMa,hNMb⟩:=hNM2;clear hNM;apply xU (fun _ _ _ g46 c46 fb w'=>w'.cell? ⟨fb,0,none⟩=some (.int .i64 t)∧w'.cell? ⟨fb,1,none⟩=some (.int .i64 ((N:Int)-k))∧w'.cell? ⟨fb,2,none⟩=some (.slice (some ⟨g46,0,none⟩) (NM+1) c46)∧w'.cell? ⟨fb,3,none⟩=some (.slice none 0 0)∧w'.frozen? ⟨fb,3,none⟩=false∧w'.ownsRow wr.heap.size 142 3 (.slice (some ⟨g46,0,none⟩) (NM+1) c46) (NM+1) (M (bA ⟨y0,y1,y2,y3,y4,y5,y6,y7,y8⟩)++M [isM 8 x.i])∧w'.cell? ⟨pb,8,none⟩=some (.bool y8)∧w'.cell? ⟨g7,0,none⟩=some (.int .i64 4)∧w'.cell? ⟨g7,1,none⟩=some (.int .i64 0)∧w'.cell? ⟨g7,2,none⟩=some (.int .i64 n)∧Below wr.heap.size wr w'∧wr.heap.size≤fb∧fb≠g46∧fb<w'.heap.size)
   ·have hs0_7:=HB.size;refine wp_region_held_drew (S:=(fun w'=>w'.cell? ⟨pb,0,none⟩=some (.int .i64 y0)∧w'.cell? ⟨pb,1,none⟩=some (.int .i64 y1)∧w'.cell? ⟨pb,2,none⟩=some (.bool y2)∧w'.cell? ⟨pb,3,none⟩=some (.int .i64 y3)∧w'.cell? ⟨pb,4,none⟩=some (.int .i64 y4)∧w'.cell? ⟨pb,5,none⟩=some (.int .i64 y5)∧w'.cell? ⟨pb,6,none⟩=some (.int .i64 y6)∧w'.cell? ⟨pb,7,none⟩=some (.int .i64 y7)∧w'.cell? ⟨pb,8,none⟩=some (.bool y8)∧w'.cell? ⟨g5,0,none⟩=some (.int .i64 8)∧w'.cell? ⟨g5,1,none⟩=some (.int .i64 65535)∧w'.cell? ⟨g5,2,none⟩=some (.int .i64 x.i)∧w'.cell? ⟨g7,0,none⟩=some (.int .i64 4)∧w'.cell? ⟨g7,1,none⟩=some (.int .i64 0)∧w'.cell? ⟨g7,2,none⟩=some (.int .i64 n))) (by kernel_rfl) ⟨a0,a1,a2,a3,a4,a5,a6,a7,a8,nm0,nm1,nm2,ne0,ne1,ne2⟩ (fun hHeld=>?_);have HDW:Below W9.heap.size W9 W9.drew:=(Below.refl _ _).drew;have hs101:=HDW.size;replace⟨a0,a1,a2,a3,a4,a5,a6,a7,a8,nm0,nm1,nm2,ne0,ne1⟩:=aH a0 a1 a2 a3 a4 a5 a6 a7 a8 nm0 nm1 nm2 ne0 ne1 HDW;replace ne2:=zC ne2 HDW;replace HB:=zT HB HDW;clear HDW;generalize W9.drew=V102 at*;refine sqA [(0,36),(1,37),(2,38),(3,39),(4,40),(5,41),(6,42),(8,44)] ?_;(iterate 8 (refine sqN rfl (by kernel_rfl) (fun _ _ _ h=>absurd h.1 (by simp)) rfl ‹_› (by intro w h;go_simp <;>with_reducible rfl) ?_;simp only [nz]));refine sqZ ?_;refine wpAnyH_ready (rs:=[7,9,12]) (by kernel_rfl) (by simp) ?_;refine(AllReadyH.cons (o:=⟨some 43,_,_,_,_,_⟩) rfl (fun K hK=>?_) (AllReadyH.cons (o:=⟨some 45,_,_,_,_,_⟩) rfl (fun K hK=>?_) (AllReadyH.cons (o:=⟨some 14,_,_,_,_,_⟩) rfl (fun K hK=>?_) AllReadyH.nil)))
    ·go_simp;clear hHeld;have HBold:=HB.size;refine(dj ⟨y0,y1,y2,y3,y4,y5,y6,y7,y8⟩ _ hy0 hy1 hy2 hy3).mono ?_;rintro e V103 ⟨u103,rfl,ho103,hb103⟩;have hs104:=hb103.size;replace⟨a0,a1,a2,a3,a4,a5,a6,a7,a8,nm0,nm1,nm2,ne0,ne1⟩:=aH a0 a1 a2 a3 a4 a5 a6 a7 a8 nm0 nm1 nm2 ne0 ne1 hb103;replace ne2:=zC ne2 hb103;replace HB:=zT HB hb103;rw [←HNM.out]at ho103;obtain⟨g105,c105,rfl,hg105,hl105⟩:=aW ho103 (by omega);have HRM:=aa (aw ho103 HBold);clear ho103 HBold;clear hb103;refine hK.out _ _ ⟨a0,a1,a2,a3,a4,a5,a6,a7,a8,nm0,nm1,nm2,ne0,ne1,ne2⟩ (fun hHeld=>?_);clear hK K;(try simp only [nz]);refine wpAnyH_ready (rs:=[9,12]) (by kernel_rfl) (by simp) ?_;refine(AllReadyH.cons (o:=⟨some 45,_,_,_,_,_⟩) rfl (fun K hK=>?_) (AllReadyH.cons (o:=⟨some 14,_,_,_,_,_⟩) rfl (fun K hK=>?_) AllReadyH.nil))
     ·go_simp;clear hHeld;refine ah (fun V106 g106 hV hg=>?_);rw [←hg];have hbN:=zB hV;have hg106:V103.heap.size≤g106:=(by omega);have hl106:=zL hV hg;have HL:Hid (V106.ownsRow wr.heap.size 142 3 (.slice (some ⟨g106,0,none⟩) 1 1) 1 (M [isM 8 x.i])):=zW hV hg HB.size (by decide) rfl;have hs107:=hbN.size;replace⟨a0,a1,a2,a3,a4,a5,a6,a7,a8,nm0,nm1,nm2,ne0,ne1⟩:=aH a0 a1 a2 a3 a4 a5 a6 a7 a8 nm0 nm1 nm2 ne0 ne1 hbN;replace ne2:=zC ne2 hbN;replace HRM:=zO HRM hbN;replace HB:=zT HB hbN;clear hV hg hbN;refine hK.out _ _ ⟨a0,a1,a2,a3,a4,a5,a6,a7,a8,nm0,nm1,nm2,ne0,ne1,ne2⟩ (fun hHeld=>?_);clear hK K;(try simp only [nz]);refine wpAnyH_ready (rs:=[10,12]) (by kernel_rfl) (by simp) ?_;refine(AllReadyH.cons (o:=⟨some 46,_,_,_,_,_⟩) rfl (fun K hK=>?_) (AllReadyH.cons (o:=⟨some 14,_,_,_,_,_⟩) rfl (fun K hK=>?_) AllReadyH.nil))
      ·clear hHeld;refine step_append_lies _ rfl (.tmp 43) (.tmp 45) 81 rfl wr.heap.size 142 iM _ 3 24 Tryz.underlying81 inM zM0 zM1 zM2 rfl (by decide) (.slice (some ⟨g105,0,none⟩) NM c105) NM _ rfl (ag HRM) ⟨g106,0,none⟩ 1 1 _ rfl rfl (HL.out.cells rfl) (dV _) (by decide) (by unfold maxLen;omega) (by omega) HB.size _ rfl ?_;intro g108 c108 V108 ho108 hgr ha hl108;replace hgr:V106.grownBy V108 (some g105):=hgr;replace ha:some g105=some g108∨g108=V106.heap.size:=ha;have hs108:=hgr.size;have hge108:g108=g105∨g108=V106.heap.size:=by rcases ha with h | h;exact .inl (Option.some.inj h).symm;exact .inr h
       replace⟨a0,a1,a2,a3,a4,a5,a6,a7,a8,nm0,nm1,nm2,ne0,ne1,ne2⟩:=ev hgr a0 a1 a2 a3 a4 a5 a6 a7 a8 nm0 nm1 nm2 ne0 ne1 ne2 (by omega);replace HB:=HB.grown hgr HB.size (fun k hk=>by cases hk;omega);have HM:=aa ho108;clear HRM HL ho108 hgr ha;refine hK.out _ _ ⟨a0,a1,a2,a3,a4,a5,a6,a7,a8,nm0,nm1,nm2,ne0,ne1,ne2⟩ (fun hHeld=>?_);clear hK K;(try simp only [nz]);refine wpAnyH_ready (rs:=[11,12]) (by kernel_rfl) (by simp) ?_;refine(AllReadyH.cons (o:=⟨some 47,_,_,_,_,_⟩) rfl (fun K hK=>?_) (AllReadyH.cons (o:=⟨some 14,_,_,_,_,_⟩) rfl (fun K hK=>?_) AllReadyH.nil))
       ·go_simp;clear hHeld;refine(aD _ _ _ _ _ _ _ _ _).mono ?_;rintro e V109 ⟨rfl,hb109⟩;have hs110:=hb109.size;replace⟨a0,a1,a2,a3,a4,a5,a6,a7,a8,nm0,nm1,nm2,ne0,ne1⟩:=aH a0 a1 a2 a3 a4 a5 a6 a7 a8 nm0 nm1 nm2 ne0 ne1 hb109;replace ne2:=zC ne2 hb109;replace HM:=zO HM hb109;replace HB:=zT HB hb109;clear hb109;refine hK.out _ _ ⟨a0,a1,a2,a3,a4,a5,a6,a7,a8,nm0,nm1,nm2,ne0,ne1,ne2⟩ (fun hHeld=>?_);clear hK K;(try simp only [nz]);refine rs 12 14 (by kernel_rfl) rfl (fun K hK=>?_);go_simp;clear hHeld;refine ah (fun V111 g111 hV hg=>?_);rw [←hg];have hbN:=zB hV;have hg111:V109.heap.size≤g111:=(by omega);have hl111:=zL hV hg;have f0:V111.cell? ⟨g111,0,none⟩=some (.int .i64 0):=zN2 hV hg rfl;have f1:V111.cell? ⟨g111,1,none⟩=some (.int .i64 0):=zN2 hV hg rfl;have f2:V111.cell? ⟨g111,2,none⟩=some (.slice none 0 0):=zN2 hV hg rfl;have f3:V111.cell? ⟨g111,3,none⟩=some (.slice none 0 0):=zN2 hV hg rfl;have z0:V111.frozen? ⟨g111,0,none⟩=false:=zF2 hV hg;have z1:V111.frozen? ⟨g111,1,none⟩=false:=zF2 hV hg;have z2:V111.frozen? ⟨g111,2,none⟩=false:=zF2 hV hg;have z3:V111.frozen? ⟨g111,3,none⟩=false:=zF2 hV hg;have hs112:=hbN.size;replace⟨a0,a1,a2,a3,a4,a5,a6,a7,a8,nm0,nm1,nm2,ne0,ne1⟩:=aH a0 a1 a2 a3 a4 a5 a6 a7 a8 nm0 nm1 nm2 ne0 ne1 hbN;replace ne2:=zC ne2 hbN;replace HM:=zO HM hbN;replace HB:=zT HB hbN;clear hV hg hbN;refine hK.out _ _ ⟨a0,a1,a2,a3,a4,a5,a6,a7,a8,nm0,nm1,nm2,ne0,ne1,ne2⟩ (fun hHeld=>?_);clear hK K;(try simp only [nz]);refine rn 13 (by kernel_rfl) rfl (fun K hK=>?_);go_simp;clear hHeld;obtain⟨V113,hV⟩:∃V113,V113=((((V111.setCell ⟨g111,0,none⟩ (.int .i64 t)).setCell ⟨g111,1,none⟩ (.int .i64 ((N:Int)-k))).setCell ⟨g111,2,none⟩ (.slice (some ⟨g108,0,none⟩) (NM+1) c108)).setCell ⟨g111,3,none⟩ (.slice none 0 0)):=⟨_,rfl⟩;rw [←hV];have hgr:V111.grownBy V113 (some g111):=by rw [hV];exact cQ _ _ _ _ _ _
        obtain⟨i0,i1,i2,i3⟩:=nO f0 f1 f2 f3 (.int .i64 t) (.int .i64 ((N:Int)-k)) (.slice (some ⟨g108,0,none⟩) (NM+1) c108) (.slice none 0 0);rw [←hV]at i0 i1 i2 i3;replace z3:V113.frozen? ⟨g111,3,none⟩=false:=by rw [hV,cm];exact z3
        have hs113:=hgr.size;replace⟨a0,a1,a2,a3,a4,a5,a6,a7,a8,nm0,nm1,nm2,ne0,ne1,ne2⟩:=ev hgr a0 a1 a2 a3 a4 a5 a6 a7 a8 nm0 nm1 nm2 ne0 ne1 ne2 (by omega);replace HM:=aa (cR hgr HM.out (by omega));replace HB:=HB.grown hgr HB.size (fun k hk=>by cases hk;omega);clear hV hgr f0 f1 f2 f3 z0 z1 z2;refine hK.out _ _ ⟨a0,a1,a2,a3,a4,a5,a6,a7,a8,nm0,nm1,nm2,ne0,ne1,ne2⟩ (fun hHeld=>?_);clear hK K;(try simp only [nz]);refine wpAnyH_done (by kernel_rfl) ?_ _;clear hHeld;exact⟨rfl,g105,c105,g106,g108,c108,g111,rfl,i0,i1,i2,i3,z3,HM.out,a8,ne0,ne1,ne2,HB,by omega,by omega,by omega⟩
       ·go_simp;clear hHeld;refine ah (fun V109 g109 hV hg=>?_);rw [←hg];have hbN:=zB hV;have hg109:V108.heap.size≤g109:=(by omega);have hl109:=zL hV hg;have f0:V109.cell? ⟨g109,0,none⟩=some (.int .i64 0):=zN2 hV hg rfl;have f1:V109.cell? ⟨g109,1,none⟩=some (.int .i64 0):=zN2 hV hg rfl;have f2:V109.cell? ⟨g109,2,none⟩=some (.slice none 0 0):=zN2 hV hg rfl;have f3:V109.cell? ⟨g109,3,none⟩=some (.slice none 0 0):=zN2 hV hg rfl;have z0:V109.frozen? ⟨g109,0,none⟩=false:=zF2 hV hg;have z1:V109.frozen? ⟨g109,1,none⟩=false:=zF2 hV hg;have z2:V109.frozen? ⟨g109,2,none⟩=false:=zF2 hV hg;have z3:V109.frozen? ⟨g109,3,none⟩=false:=zF2 hV hg;have hs110:=hbN.size;replace⟨a0,a1,a2,a3,a4,a5,a6,a7,a8,nm0,nm1,nm2,ne0,ne1⟩:=aH a0 a1 a2 a3 a4 a5 a6 a7 a8 nm0 nm1 nm2 ne0 ne1 hbN;replace ne2:=zC ne2 hbN;replace HM:=zO HM hbN;replace HB:=zT HB hbN;clear hV hg hbN;refine hK.out _ _ ⟨a0,a1,a2,a3,a4,a5,a6,a7,a8,nm0,nm1,nm2,ne0,ne1,ne2⟩ (fun hHeld=>?_);clear hK K;(try simp only [nz]);refine rs 11 47 (by kernel_rfl) rfl (fun K hK=>?_);go_simp;clear hHeld;refine(aD _ _ _ _ _ _ _ _ _).mono ?_;rintro e V111 ⟨rfl,hb111⟩;have hs112:=hb111.size;replace z0:=zK hb111 f0 z0;replace z1:=zK hb111 f1 z1;replace z2:=zK hb111 f2 z2;replace z3:=zK hb111 f3 z3;replace⟨a0,a1,a2,a3,a4,a5,a6,a7,a8,nm0,nm1,nm2,ne0,ne1⟩:=aH a0 a1 a2 a3 a4 a5 a6 a7 a8 nm0 nm1 nm2 ne0 ne1 hb111;replace⟨ne2,f0,f1,f2,f3⟩:=cJ ne2 f0 f1 f2 f3 hb111;replace HM:=zO HM hb111;replace HB:=zT HB hb111;clear hb111;refine hK.out _ _ ⟨a0,a1,a2,a3,a4,a5,a6,a7,a8,nm0,nm1,nm2,ne0,ne1,ne2⟩ (fun hHeld=>?_);clear hK K;(try simp only [nz]);refine rn 13 (by kernel_rfl) rfl (fun K hK=>?_);go_simp;clear hHeld;obtain⟨V113,hV⟩:∃V113,V113=((((V111.setCell ⟨g109,0,none⟩ (.int .i64 t)).setCell ⟨g109,1,none⟩ (.int .i64 ((N:Int)-k))).setCell ⟨g109,2,none⟩ (.slice (some ⟨g108,0,none⟩) (NM+1) c108)).setCell ⟨g109,3,none⟩ (.slice none 0 0)):=⟨_,rfl⟩;rw [←hV];have hgr:V111.grownBy V113 (some g109):=by rw [hV];exact cQ _ _ _ _ _ _
        obtain⟨i0,i1,i2,i3⟩:=nO f0 f1 f2 f3 (.int .i64 t) (.int .i64 ((N:Int)-k)) (.slice (some ⟨g108,0,none⟩) (NM+1) c108) (.slice none 0 0);rw [←hV]at i0 i1 i2 i3;replace z3:V113.frozen? ⟨g109,3,none⟩=false:=by rw [hV,cm];exact z3
        have hs113:=hgr.size;replace⟨a0,a1,a2,a3,a4,a5,a6,a7,a8,nm0,nm1,nm2,ne0,ne1,ne2⟩:=ev hgr a0 a1 a2 a3 a4 a5 a6 a7 a8 nm0 nm1 nm2 ne0 ne1 ne2 (by omega);replace HM:=aa (cR hgr HM.out (by omega));replace HB:=HB.grown hgr HB.size (fun k hk=>by cases hk;omega);clear hV hgr f0 f1 f2 f3 z0 z1 z2;refine hK.out _ _ ⟨a0,a1,a2,a3,a4,a5,a6,a7,a8,nm0,nm1,nm2,ne0,ne1,ne2⟩ (fun hHeld=>?_);clear hK K;(try simp only [nz]);refine wpAnyH_done (by kernel_rfl) ?_ _;clear hHeld;exact⟨rfl,g105,c105,g106,g108,c108,g109,rfl,i0,i1,i2,i3,z3,HM.out,a8,ne0,ne1,ne2,HB,by omega,by omega,by omega⟩
      ·go_simp;clear hHeld;refine ah (fun V108 g108 hV hg=>?_);rw [←hg];have hbN:=zB hV;have hg108:V106.heap.size≤g108:=(by omega);have hl108:=zL hV hg;have f0:V108.cell? ⟨g108,0,none⟩=some (.int .i64 0):=zN2 hV hg rfl;have f1:V108.cell? ⟨g108,1,none⟩=some (.int .i64 0):=zN2 hV hg rfl;have f2:V108.cell? ⟨g108,2,none⟩=some (.slice none 0 0):=zN2 hV hg rfl;have f3:V108.cell? ⟨g108,3,none⟩=some (.slice none 0 0):=zN2 hV hg rfl;have z0:V108.frozen? ⟨g108,0,none⟩=false:=zF2 hV hg;have z1:V108.frozen? ⟨g108,1,none⟩=false:=zF2 hV hg;have z2:V108.frozen? ⟨g108,2,none⟩=false:=zF2 hV hg;have z3:V108.frozen? ⟨g108,3,none⟩=false:=zF2 hV hg;have hs109:=hbN.size;replace⟨a0,a1,a2,a3,a4,a5,a6,a7,a8,nm0,nm1,nm2,ne0,ne1⟩:=aH a0 a1 a2 a3 a4 a5 a6 a7 a8 nm0 nm1 nm2 ne0 ne1 hbN;replace ne2:=zC ne2 hbN;replace HRM:=zO HRM hbN;replace HL:=zO HL hbN;replace HB:=zT HB hbN;clear hV hg hbN;refine hK.out _ _ ⟨a0,a1,a2,a3,a4,a5,a6,a7,a8,nm0,nm1,nm2,ne0,ne1,ne2⟩ (fun hHeld=>?_);clear hK K;(try simp only [nz]);refine rs 10 46 (by kernel_rfl) rfl (fun K hK=>?_);clear hHeld;refine step_append_lies _ rfl (.tmp 43) (.tmp 45) 81 rfl wr.heap.size 142 iM _ 3 24 Tryz.underlying81 inM zM0 zM1 zM2 rfl (by decide) (.slice (some ⟨g105,0,none⟩) NM c105) NM _ rfl (ag HRM) ⟨g106,0,none⟩ 1 1 _ rfl rfl (HL.out.cells rfl) (dV _) (by decide) (by unfold maxLen;omega) (by omega) HB.size _ rfl ?_;intro g110 c110 V110 ho110 hgr ha hl110;replace hgr:V108.grownBy V110 (some g105):=hgr;replace ha:some g105=some g110∨g110=V108.heap.size:=ha;have hs110:=hgr.size;have hge110:g110=g105∨g110=V108.heap.size:=by rcases ha with h | h;exact .inl (Option.some.inj h).symm;exact .inr h
       replace z0:=(hgr.frozen_far ⟨g108,0,none⟩ (ap f0) (by simp;omega)).trans z0;replace z1:=(hgr.frozen_far ⟨g108,1,none⟩ (ap f1) (by simp;omega)).trans z1;replace z2:=(hgr.frozen_far ⟨g108,2,none⟩ (ap f2) (by simp;omega)).trans z2;replace z3:=(hgr.frozen_far ⟨g108,3,none⟩ (ap f3) (by simp;omega)).trans z3;replace⟨a0,a1,a2,a3,a4,a5,a6,a7,a8,nm0,nm1,nm2,ne0,ne1,ne2⟩:=ev hgr a0 a1 a2 a3 a4 a5 a6 a7 a8 nm0 nm1 nm2 ne0 ne1 ne2 (by omega);replace⟨f0,f1,f2,f3⟩:=uW hgr f0 f1 f2 f3 (by omega);replace HB:=HB.grown hgr HB.size (fun k hk=>by cases hk;omega);have HM:=aa ho110;clear HRM HL ho110 hgr ha;refine hK.out _ _ ⟨a0,a1,a2,a3,a4,a5,a6,a7,a8,nm0,nm1,nm2,ne0,ne1,ne2⟩ (fun hHeld=>?_);clear hK K;(try simp only [nz]);refine rs 11 47 (by kernel_rfl) rfl (fun K hK=>?_);go_simp;clear hHeld;refine(aD _ _ _ _ _ _ _ _ _).mono ?_;rintro e V111 ⟨rfl,hb111⟩;have hs112:=hb111.size;replace z0:=zK hb111 f0 z0;replace z1:=zK hb111 f1 z1;replace z2:=zK hb111 f2 z2;replace z3:=zK hb111 f3 z3;replace⟨a0,a1,a2,a3,a4,a5,a6,a7,a8,nm0,nm1,nm2,ne0,ne1⟩:=aH a0 a1 a2 a3 a4 a5 a6 a7 a8 nm0 nm1 nm2 ne0 ne1 hb111;replace⟨ne2,f0,f1,f2,f3⟩:=cJ ne2 f0 f1 f2 f3 hb111;replace HM:=zO HM hb111;replace HB:=zT HB hb111;clear hb111;refine hK.out _ _ ⟨a0,a1,a2,a3,a4,a5,a6,a7,a8,nm0,nm1,nm2,ne0,ne1,ne2⟩ (fun hHeld=>?_);clear hK K;(try simp only [nz]);refine rn 13 (by kernel_rfl) rfl (fun K hK=>?_);go_simp;clear hHeld;obtain⟨V113,hV⟩:∃V113,V113=((((V111.setCell ⟨g108,0,none⟩ (.int .i64 t)).setCell ⟨g108,1,none⟩ (.int .i64 ((N:Int)-k))).setCell ⟨g108,2,none⟩ (.slice (some ⟨g110,0,none⟩) (NM+1) c110)).setCell ⟨g108,3,none⟩ (.slice none 0 0)):=⟨_,rfl⟩;rw [←hV];have hgr:V111.grownBy V113 (some g108):=by rw [hV];exact cQ _ _ _ _ _ _
       obtain⟨i0,i1,i2,i3⟩:=nO f0 f1 f2 f3 (.int .i64 t) (.int .i64 ((N:Int)-k)) (.slice (some ⟨g110,0,none⟩) (NM+1) c110) (.slice none 0 0);rw [←hV]at i0 i1 i2 i3;replace z3:V113.frozen? ⟨g108,3,none⟩=false:=by rw [hV,cm];exact z3
       have hs113:=hgr.size;replace⟨a0,a1,a2,a3,a4,a5,a6,a7,a8,nm0,nm1,nm2,ne0,ne1,ne2⟩:=ev hgr a0 a1 a2 a3 a4 a5 a6 a7 a8 nm0 nm1 nm2 ne0 ne1 ne2 (by omega);replace HM:=aa (cR hgr HM.out (by omega));replace HB:=HB.grown hgr HB.size (fun k hk=>by cases hk;omega);clear hV hgr f0 f1 f2 f3 z0 z1 z2;refine hK.out _ _ ⟨a0,a1,a2,a3,a4,a5,a6,a7,a8,nm0,nm1,nm2,ne0,ne1,ne2⟩ (fun hHeld=>?_);clear hK K;(try simp only [nz]);refine wpAnyH_done (by kernel_rfl) ?_ _;clear hHeld;exact⟨rfl,g105,c105,g106,g110,c110,g108,rfl,i0,i1,i2,i3,z3,HM.out,a8,ne0,ne1,ne2,HB,by omega,by omega,by omega⟩
     ·go_simp;clear hHeld;refine ah (fun V106 g106 hV hg=>?_);rw [←hg];have hbN:=zB hV;have hg106:V103.heap.size≤g106:=(by omega);have hl106:=zL hV hg;have f0:V106.cell? ⟨g106,0,none⟩=some (.int .i64 0):=zN2 hV hg rfl;have f1:V106.cell? ⟨g106,1,none⟩=some (.int .i64 0):=zN2 hV hg rfl;have f2:V106.cell? ⟨g106,2,none⟩=some (.slice none 0 0):=zN2 hV hg rfl;have f3:V106.cell? ⟨g106,3,none⟩=some (.slice none 0 0):=zN2 hV hg rfl;have z0:V106.frozen? ⟨g106,0,none⟩=false:=zF2 hV hg;have z1:V106.frozen? ⟨g106,1,none⟩=false:=zF2 hV hg;have z2:V106.frozen? ⟨g106,2,none⟩=false:=zF2 hV hg;have z3:V106.frozen? ⟨g106,3,none⟩=false:=zF2 hV hg;have hs107:=hbN.size;replace⟨a0,a1,a2,a3,a4,a5,a6,a7,a8,nm0,nm1,nm2,ne0,ne1⟩:=aH a0 a1 a2 a3 a4 a5 a6 a7 a8 nm0 nm1 nm2 ne0 ne1 hbN;replace ne2:=zC ne2 hbN;replace HRM:=zO HRM hbN;replace HB:=zT HB hbN;clear hV hg hbN;refine hK.out _ _ ⟨a0,a1,a2,a3,a4,a5,a6,a7,a8,nm0,nm1,nm2,ne0,ne1,ne2⟩ (fun hHeld=>?_);clear hK K;(try simp only [nz]);refine rs 9 45 (by kernel_rfl) rfl (fun K hK=>?_);go_simp;clear hHeld;refine ah (fun V108 g108 hV hg=>?_);rw [←hg];have hbN:=zB hV;have hg108:V106.heap.size≤g108:=(by omega);have hl108:=zL hV hg;have HL:Hid (V108.ownsRow wr.heap.size 142 3 (.slice (some ⟨g108,0,none⟩) 1 1) 1 (M [isM 8 x.i])):=zW hV hg HB.size (by decide) rfl;have hs109:=hbN.size;replace z0:=zK hbN f0 z0;replace z1:=zK hbN f1 z1;replace z2:=zK hbN f2 z2;replace z3:=zK hbN f3 z3;replace⟨a0,a1,a2,a3,a4,a5,a6,a7,a8,nm0,nm1,nm2,ne0,ne1⟩:=aH a0 a1 a2 a3 a4 a5 a6 a7 a8 nm0 nm1 nm2 ne0 ne1 hbN;replace⟨ne2,f0,f1,f2,f3⟩:=cJ ne2 f0 f1 f2 f3 hbN;replace HRM:=zO HRM hbN;replace HB:=zT HB hbN;clear hV hg hbN;refine hK.out _ _ ⟨a0,a1,a2,a3,a4,a5,a6,a7,a8,nm0,nm1,nm2,ne0,ne1,ne2⟩ (fun hHeld=>?_);clear hK K;(try simp only [nz]);refine rs 10 46 (by kernel_rfl) rfl (fun K hK=>?_);clear hHeld;refine step_append_lies _ rfl (.tmp 43) (.tmp 45) 81 rfl wr.heap.size 142 iM _ 3 24 Tryz.underlying81 inM zM0 zM1 zM2 rfl (by decide) (.slice (some ⟨g105,0,none⟩) NM c105) NM _ rfl (ag HRM) ⟨g108,0,none⟩ 1 1 _ rfl rfl (HL.out.cells rfl) (dV _) (by decide) (by unfold maxLen;omega) (by omega) HB.size _ rfl ?_;intro g110 c110 V110 ho110 hgr ha hl110;replace hgr:V108.grownBy V110 (some g105):=hgr;replace ha:some g105=some g110∨g110=V108.heap.size:=ha;have hs110:=hgr.size;have hge110:g110=g105∨g110=V108.heap.size:=by rcases ha with h | h;exact .inl (Option.some.inj h).symm;exact .inr h
      replace z0:=(hgr.frozen_far ⟨g106,0,none⟩ (ap f0) (by simp;omega)).trans z0;replace z1:=(hgr.frozen_far ⟨g106,1,none⟩ (ap f1) (by simp;omega)).trans z1;replace z2:=(hgr.frozen_far ⟨g106,2,none⟩ (ap f2) (by simp;omega)).trans z2;replace z3:=(hgr.frozen_far ⟨g106,3,none⟩ (ap f3) (by simp;omega)).trans z3;replace⟨a0,a1,a2,a3,a4,a5,a6,a7,a8,nm0,nm1,nm2,ne0,ne1,ne2⟩:=ev hgr a0 a1 a2 a3 a4 a5 a6 a7 a8 nm0 nm1 nm2 ne0 ne1 ne2 (by omega);replace⟨f0,f1,f2,f3⟩:=uW hgr f0 f1 f2 f3 (by omega);replace HB:=HB.grown hgr HB.size (fun k hk=>by cases hk;omega);have HM:=aa ho110;clear HRM HL ho110 hgr ha;refine hK.out _ _ ⟨a0,a1,a2,a3,a4,a5,a6,a7,a8,nm0,nm1,nm2,ne0,ne1,ne2⟩ (fun hHeld=>?_);clear hK K;(try simp only [nz]);refine rs 11 47 (by kernel_rfl) rfl (fun K hK=>?_);go_simp;clear hHeld;refine(aD _ _ _ _ _ _ _ _ _).mono ?_;rintro e V111 ⟨rfl,hb111⟩;have hs112:=hb111.size;replace z0:=zK hb111 f0 z0;replace z1:=zK hb111 f1 z1;replace z2:=zK hb111 f2 z2;replace z3:=zK hb111 f3 z3;replace⟨a0,a1,a2,a3,a4,a5,a6,a7,a8,nm0,nm1,nm2,ne0,ne1⟩:=aH a0 a1 a2 a3 a4 a5 a6 a7 a8 nm0 nm1 nm2 ne0 ne1 hb111;replace⟨ne2,f0,f1,f2,f3⟩:=cJ ne2 f0 f1 f2 f3 hb111;replace HM:=zO HM hb111;replace HB:=zT HB hb111;clear hb111;refine hK.out _ _ ⟨a0,a1,a2,a3,a4,a5,a6,a7,a8,nm0,nm1,nm2,ne0,ne1,ne2⟩ (fun hHeld=>?_);clear hK K;(try simp only [nz]);refine rn 13 (by kernel_rfl) rfl (fun K hK=>?_);go_simp;clear hHeld;obtain⟨V113,hV⟩:∃V113,V113=((((V111.setCell ⟨g106,0,none⟩ (.int .i64 t)).setCell ⟨g106,1,none⟩ (.int .i64 ((N:Int)-k))).setCell ⟨g106,2,none⟩ (.slice (some ⟨g110,0,none⟩) (NM+1) c110)).setCell ⟨g106,3,none⟩ (.slice none 0 0)):=⟨_,rfl⟩;rw [←hV];have hgr:V111.grownBy V113 (some g106):=by rw [hV];exact cQ _ _ _ _ _ _
      obtain⟨i0,i1,i2,i3⟩:=nO f0 f1 f2 f3 (.int .i64 t) (.int .i64 ((N:Int)-k)) (.slice (some ⟨g110,0,none⟩) (NM+1) c110) (.slice none 0 0);rw [←hV]at i0 i1 i2 i3;replace z3:V113.frozen? ⟨g106,3,none⟩=false:=by rw [hV,cm];exact z3
      have hs113:=hgr.size;replace⟨a0,a1,a2,a3,a4,a5,a6,a7,a8,nm0,nm1,nm2,ne0,ne1,ne2⟩:=ev hgr a0 a1 a2 a3 a4 a5 a6 a7 a8 nm0 nm1 nm2 ne0 ne1 ne2 (by omega);replace HM:=aa (cR hgr HM.out (by omega));replace HB:=HB.grown hgr HB.size (fun k hk=>by cases hk;omega);clear hV hgr f0 f1 f2 f3 z0 z1 z2;refine hK.out _ _ ⟨a0,a1,a2,a3,a4,a5,a6,a7,a8,nm0,nm1,nm2,ne0,ne1,ne2⟩ (fun hHeld=>?_);clear hK K;(try simp only [nz]);refine wpAnyH_done (by kernel_rfl) ?_ _;clear hHeld;exact⟨rfl,g105,c105,g108,g110,c110,g106,rfl,i0,i1,i2,i3,z3,HM.out,a8,ne0,ne1,ne2,HB,by omega,by omega,by omega⟩
    ·go_simp;clear hHeld;refine ah (fun V103 g103 hV hg=>?_);rw [←hg];have hbN:=zB hV;have hg103:V102.heap.size≤g103:=(by omega);have hl103:=zL hV hg;have HL:Hid (V103.ownsRow wr.heap.size 142 3 (.slice (some ⟨g103,0,none⟩) 1 1) 1 (M [isM 8 x.i])):=zW hV hg HB.size (by decide) rfl;have hs104:=hbN.size;replace⟨a0,a1,a2,a3,a4,a5,a6,a7,a8,nm0,nm1,nm2,ne0,ne1⟩:=aH a0 a1 a2 a3 a4 a5 a6 a7 a8 nm0 nm1 nm2 ne0 ne1 hbN;replace ne2:=zC ne2 hbN;replace HB:=zT HB hbN;clear hV hg hbN;refine hK.out _ _ ⟨a0,a1,a2,a3,a4,a5,a6,a7,a8,nm0,nm1,nm2,ne0,ne1,ne2⟩ (fun hHeld=>?_);clear hK K;(try simp only [nz]);refine wpAnyH_ready (rs:=[7,12]) (by kernel_rfl) (by simp) ?_;refine(AllReadyH.cons (o:=⟨some 43,_,_,_,_,_⟩) rfl (fun K hK=>?_) (AllReadyH.cons (o:=⟨some 14,_,_,_,_,_⟩) rfl (fun K hK=>?_) AllReadyH.nil))
     ·go_simp;clear hHeld;have HBold:=HB.size;refine(dj ⟨y0,y1,y2,y3,y4,y5,y6,y7,y8⟩ _ hy0 hy1 hy2 hy3).mono ?_;rintro e V105 ⟨u105,rfl,ho105,hb105⟩;have hs106:=hb105.size;replace⟨a0,a1,a2,a3,a4,a5,a6,a7,a8,nm0,nm1,nm2,ne0,ne1⟩:=aH a0 a1 a2 a3 a4 a5 a6 a7 a8 nm0 nm1 nm2 ne0 ne1 hb105;replace ne2:=zC ne2 hb105;replace HL:=zO HL hb105;replace HB:=zT HB hb105;rw [←HNM.out]at ho105;obtain⟨g107,c107,rfl,hg107,hl107⟩:=aW ho105 (by omega);have HRM:=aa (aw ho105 HBold);clear ho105 HBold;clear hb105;refine hK.out _ _ ⟨a0,a1,a2,a3,a4,a5,a6,a7,a8,nm0,nm1,nm2,ne0,ne1,ne2⟩ (fun hHeld=>?_);clear hK K;(try simp only [nz]);refine wpAnyH_ready (rs:=[10,12]) (by kernel_rfl) (by simp) ?_;refine(AllReadyH.cons (o:=⟨some 46,_,_,_,_,_⟩) rfl (fun K hK=>?_) (AllReadyH.cons (o:=⟨some 14,_,_,_,_,_⟩) rfl (fun K hK=>?_) AllReadyH.nil))
      ·clear hHeld;refine step_append_lies _ rfl (.tmp 43) (.tmp 45) 81 rfl wr.heap.size 142 iM _ 3 24 Tryz.underlying81 inM zM0 zM1 zM2 rfl (by decide) (.slice (some ⟨g107,0,none⟩) NM c107) NM _ rfl (ag HRM) ⟨g103,0,none⟩ 1 1 _ rfl rfl (HL.out.cells rfl) (dV _) (by decide) (by unfold maxLen;omega) (by omega) HB.size _ rfl ?_;intro g108 c108 V108 ho108 hgr ha hl108;replace hgr:V105.grownBy V108 (some g107):=hgr;replace ha:some g107=some g108∨g108=V105.heap.size:=ha;have hs108:=hgr.size;have hge108:g108=g107∨g108=V105.heap.size:=by rcases ha with h | h;exact .inl (Option.some.inj h).symm;exact .inr h
       replace⟨a0,a1,a2,a3,a4,a5,a6,a7,a8,nm0,nm1,nm2,ne0,ne1,ne2⟩:=ev hgr a0 a1 a2 a3 a4 a5 a6 a7 a8 nm0 nm1 nm2 ne0 ne1 ne2 (by omega);replace HB:=HB.grown hgr HB.size (fun k hk=>by cases hk;omega);have HM:=aa ho108;clear HRM HL ho108 hgr ha;refine hK.out _ _ ⟨a0,a1,a2,a3,a4,a5,a6,a7,a8,nm0,nm1,nm2,ne0,ne1,ne2⟩ (fun hHeld=>?_);clear hK K;(try simp only [nz]);refine wpAnyH_ready (rs:=[11,12]) (by kernel_rfl) (by simp) ?_;refine(AllReadyH.cons (o:=⟨some 47,_,_,_,_,_⟩) rfl (fun K hK=>?_) (AllReadyH.cons (o:=⟨some 14,_,_,_,_,_⟩) rfl (fun K hK=>?_) AllReadyH.nil))
       ·go_simp;clear hHeld;refine(aD _ _ _ _ _ _ _ _ _).mono ?_;rintro e V109 ⟨rfl,hb109⟩;have hs110:=hb109.size;replace⟨a0,a1,a2,a3,a4,a5,a6,a7,a8,nm0,nm1,nm2,ne0,ne1⟩:=aH a0 a1 a2 a3 a4 a5 a6 a7 a8 nm0 nm1 nm2 ne0 ne1 hb109;replace ne2:=zC ne2 hb109;replace HM:=zO HM hb109;replace HB:=zT HB hb109;clear hb109;refine hK.out _ _ ⟨a0,a1,a2,a3,a4,a5,a6,a7,a8,nm0,nm1,nm2,ne0,ne1,ne2⟩ (fun hHeld=>?_);clear hK K;(try simp only [nz]);refine rs 12 14 (by kernel_rfl) rfl (fun K hK=>?_);go_simp;clear hHeld;refine ah (fun V111 g111 hV hg=>?_);rw [←hg];have hbN:=zB hV;have hg111:V109.heap.size≤g111:=(by omega);have hl111:=zL hV hg;have f0:V111.cell? ⟨g111,0,none⟩=some (.int .i64 0):=zN2 hV hg rfl;have f1:V111.cell? ⟨g111,1,none⟩=some (.int .i64 0):=zN2 hV hg rfl;have f2:V111.cell? ⟨g111,2,none⟩=some (.slice none 0 0):=zN2 hV hg rfl;have f3:V111.cell? ⟨g111,3,none⟩=some (.slice none 0 0):=zN2 hV hg rfl;have z0:V111.frozen? ⟨g111,0,none⟩=false:=zF2 hV hg;have z1:V111.frozen? ⟨g111,1,none⟩=false:=zF2 hV hg;have z2:V111.frozen? ⟨g111,2,none⟩=false:=zF2 hV hg;have z3:V111.frozen? ⟨g111,3,none⟩=false:=zF2 hV hg;have hs112:=hbN.size;replace⟨a0,a1,a2,a3,a4,a5,a6,a7,a8,nm0,nm1,nm2,ne0,ne1⟩:=aH a0 a1 a2 a3 a4 a5 a6 a7 a8 nm0 nm1 nm2 ne0 ne1 hbN;replace ne2:=zC ne2 hbN;replace HM:=zO HM hbN;replace HB:=zT HB hbN;clear hV hg hbN;refine hK.out _ _ ⟨a0,a1,a2,a3,a4,a5,a6,a7,a8,nm0,nm1,nm2,ne0,ne1,ne2⟩ (fun hHeld=>?_);clear hK K;(try simp only [nz]);refine rn 13 (by kernel_rfl) rfl (fun K hK=>?_);go_simp;clear hHeld;obtain⟨V113,hV⟩:∃V113,V113=((((V111.setCell ⟨g111,0,none⟩ (.int .i64 t)).setCell ⟨g111,1,none⟩ (.int .i64 ((N:Int)-k))).setCell ⟨g111,2,none⟩ (.slice (some ⟨g108,0,none⟩) (NM+1) c108)).setCell ⟨g111,3,none⟩ (.slice none 0 0)):=⟨_,rfl⟩;rw [←hV];have hgr:V111.grownBy V113 (some g111):=by rw [hV];exact cQ _ _ _ _ _ _
        obtain⟨i0,i1,i2,i3⟩:=nO f0 f1 f2 f3 (.int .i64 t) (.int .i64 ((N:Int)-k)) (.slice (some ⟨g108,0,none⟩) (NM+1) c108) (.slice none 0 0);rw [←hV]at i0 i1 i2 i3;replace z3:V113.frozen? ⟨g111,3,none⟩=false:=by rw [hV,cm];exact z3
        have hs113:=hgr.size;replace⟨a0,a1,a2,a3,a4,a5,a6,a7,a8,nm0,nm1,nm2,ne0,ne1,ne2⟩:=ev hgr a0 a1 a2 a3 a4 a5 a6 a7 a8 nm0 nm1 nm2 ne0 ne1 ne2 (by omega);replace HM:=aa (cR hgr HM.out (by omega));replace HB:=HB.grown hgr HB.size (fun k hk=>by cases hk;omega);clear hV hgr f0 f1 f2 f3 z0 z1 z2;refine hK.out _ _ ⟨a0,a1,a2,a3,a4,a5,a6,a7,a8,nm0,nm1,nm2,ne0,ne1,ne2⟩ (fun hHeld=>?_);clear hK K;(try simp only [nz]);refine wpAnyH_done (by kernel_rfl) ?_ _;clear hHeld;exact⟨rfl,g107,c107,g103,g108,c108,g111,rfl,i0,i1,i2,i3,z3,HM.out,a8,ne0,ne1,ne2,HB,by omega,by omega,by omega⟩
       ·go_simp;clear hHeld;refine ah (fun V109 g109 hV hg=>?_);rw [←hg];have hbN:=zB hV;have hg109:V108.heap.size≤g109:=(by omega);have hl109:=zL hV hg;have f0:V109.cell? ⟨g109,0,none⟩=some (.int .i64 0):=zN2 hV hg rfl;have f1:V109.cell? ⟨g109,1,none⟩=some (.int .i64 0):=zN2 hV hg rfl;have f2:V109.cell? ⟨g109,2,none⟩=some (.slice none 0 0):=zN2 hV hg rfl;have f3:V109.cell? ⟨g109,3,none⟩=some (.slice none 0 0):=zN2 hV hg rfl;have z0:V109.frozen? ⟨g109,0,none⟩=false:=zF2 hV hg;have z1:V109.frozen? ⟨g109,1,none⟩=false:=zF2 hV hg;have z2:V109.frozen? ⟨g109,2,none⟩=false:=zF2 hV hg;have z3:V109.frozen? ⟨g109,3,none⟩=false:=zF2 hV hg;have hs110:=hbN.size;replace⟨a0,a1,a2,a3,a4,a5,a6,a7,a8,nm0,nm1,nm2,ne0,ne1⟩:=aH a0 a1 a2 a3 a4 a5 a6 a7 a8 nm0 nm1 nm2 ne0 ne1 hbN;replace ne2:=zC ne2 hbN;replace HM:=zO HM hbN;replace HB:=zT HB hbN;clear hV hg hbN;refine hK.out _ _ ⟨a0,a1,a2,a3,a4,a5,a6,a7,a8,nm0,nm1,nm2,ne0,ne1,ne2⟩ (fun hHeld=>?_);clear hK K;(try simp only [nz]);refine rs 11 47 (by kernel_rfl) rfl (fun K hK=>?_);go_simp;clear hHeld;refine(aD _ _ _ _ _ _ _ _ _).mono ?_;rintro e V111 ⟨rfl,hb111⟩;have hs112:=hb111.size;replace z0:=zK hb111 f0 z0;replace z1:=zK hb111 f1 z1;replace z2:=zK hb111 f2 z2;replace z3:=zK hb111 f3 z3;replace⟨a0,a1,a2,a3,a4,a5,a6,a7,a8,nm0,nm1,nm2,ne0,ne1⟩:=aH a0 a1 a2 a3 a4 a5 a6 a7 a8 nm0 nm1 nm2 ne0 ne1 hb111;replace⟨ne2,f0,f1,f2,f3⟩:=cJ ne2 f0 f1 f2 f3 hb111;replace HM:=zO HM hb111;replace HB:=zT HB hb111;clear hb111;refine hK.out _ _ ⟨a0,a1,a2,a3,a4,a5,a6,a7,a8,nm0,nm1,nm2,ne0,ne1,ne2⟩ (fun hHeld=>?_);clear hK K;(try simp only [nz]);refine rn 13 (by kernel_rfl) rfl (fun K hK=>?_);go_simp;clear hHeld;obtain⟨V113,hV⟩:∃V113,V113=((((V111.setCell ⟨g109,0,none⟩ (.int .i64 t)).setCell ⟨g109,1,none⟩ (.int .i64 ((N:Int)-k))).setCell ⟨g109,2,none⟩ (.slice (some ⟨g108,0,none⟩) (NM+1) c108)).setCell ⟨g109,3,none⟩ (.slice none 0 0)):=⟨_,rfl⟩;rw [←hV];have hgr:V111.grownBy V113 (some g109):=by rw [hV];exact cQ _ _ _ _ _ _
        obtain⟨i0,i1,i2,i3⟩:=nO f0 f1 f2 f3 (.int .i64 t) (.int .i64 ((N:Int)-k)) (.slice (some ⟨g108,0,none⟩) (NM+1) c108) (.slice none 0 0);rw [←hV]at i0 i1 i2 i3;replace z3:V113.frozen? ⟨g109,3,none⟩=false:=by rw [hV,cm];exact z3
        have hs113:=hgr.size;replace⟨a0,a1,a2,a3,a4,a5,a6,a7,a8,nm0,nm1,nm2,ne0,ne1,ne2⟩:=ev hgr a0 a1 a2 a3 a4 a5 a6 a7 a8 nm0 nm1 nm2 ne0 ne1 ne2 (by omega);replace HM:=aa (cR hgr HM.out (by omega));replace HB:=HB.grown hgr HB.size (fun k hk=>by cases hk;omega);clear hV hgr f0 f1 f2 f3 z0 z1 z2;refine hK.out _ _ ⟨a0,a1,a2,a3,a4,a5,a6,a7,a8,nm0,nm1,nm2,ne0,ne1,ne2⟩ (fun hHeld=>?_);clear hK K;(try simp only [nz]);refine wpAnyH_done (by kernel_rfl) ?_ _;clear hHeld;exact⟨rfl,g107,c107,g103,g108,c108,g109,rfl,i0,i1,i2,i3,z3,HM.out,a8,ne0,ne1,ne2,HB,by omega,by omega,by omega⟩
      ·go_simp;clear hHeld;refine ah (fun V108 g108 hV hg=>?_);rw [←hg];have hbN:=zB hV;have hg108:V105.heap.size≤g108:=(by omega);have hl108:=zL hV hg;have f0:V108.cell? ⟨g108,0,none⟩=some (.int .i64 0):=zN2 hV hg rfl;have f1:V108.cell? ⟨g108,1,none⟩=some (.int .i64 0):=zN2 hV hg rfl;have f2:V108.cell? ⟨g108,2,none⟩=some (.slice none 0 0):=zN2 hV hg rfl;have f3:V108.cell? ⟨g108,3,none⟩=some (.slice none 0 0):=zN2 hV hg rfl;have z0:V108.frozen? ⟨g108,0,none⟩=false:=zF2 hV hg;have z1:V108.frozen? ⟨g108,1,none⟩=false:=zF2 hV hg;have z2:V108.frozen? ⟨g108,2,none⟩=false:=zF2 hV hg;have z3:V108.frozen? ⟨g108,3,none⟩=false:=zF2 hV hg;have hs109:=hbN.size;replace⟨a0,a1,a2,a3,a4,a5,a6,a7,a8,nm0,nm1,nm2,ne0,ne1⟩:=aH a0 a1 a2 a3 a4 a5 a6 a7 a8 nm0 nm1 nm2 ne0 ne1 hbN;replace ne2:=zC ne2 hbN;replace HL:=zO HL hbN;replace HRM:=zO HRM hbN;replace HB:=zT HB hbN;clear hV hg hbN;refine hK.out _ _ ⟨a0,a1,a2,a3,a4,a5,a6,a7,a8,nm0,nm1,nm2,ne0,ne1,ne2⟩ (fun hHeld=>?_);clear hK K;(try simp only [nz]);refine rs 10 46 (by kernel_rfl) rfl (fun K hK=>?_);clear hHeld;refine step_append_lies _ rfl (.tmp 43) (.tmp 45) 81 rfl wr.heap.size 142 iM _ 3 24 Tryz.underlying81 inM zM0 zM1 zM2 rfl (by decide) (.slice (some ⟨g107,0,none⟩) NM c107) NM _ rfl (ag HRM) ⟨g103,0,none⟩ 1 1 _ rfl rfl (HL.out.cells rfl) (dV _) (by decide) (by unfold maxLen;omega) (by omega) HB.size _ rfl ?_;intro g110 c110 V110 ho110 hgr ha hl110;replace hgr:V108.grownBy V110 (some g107):=hgr;replace ha:some g107=some g110∨g110=V108.heap.size:=ha;have hs110:=hgr.size;have hge110:g110=g107∨g110=V108.heap.size:=by rcases ha with h | h;exact .inl (Option.some.inj h).symm;exact .inr h
       replace z0:=(hgr.frozen_far ⟨g108,0,none⟩ (ap f0) (by simp;omega)).trans z0;replace z1:=(hgr.frozen_far ⟨g108,1,none⟩ (ap f1) (by simp;omega)).trans z1;replace z2:=(hgr.frozen_far ⟨g108,2,none⟩ (ap f2) (by simp;omega)).trans z2;replace z3:=(hgr.frozen_far ⟨g108,3,none⟩ (ap f3) (by simp;omega)).trans z3;replace⟨a0,a1,a2,a3,a4,a5,a6,a7,a8,nm0,nm1,nm2,ne0,ne1,ne2⟩:=ev hgr a0 a1 a2 a3 a4 a5 a6 a7 a8 nm0 nm1 nm2 ne0 ne1 ne2 (by omega);replace⟨f0,f1,f2,f3⟩:=uW hgr f0 f1 f2 f3 (by omega);replace HB:=HB.grown hgr HB.size (fun k hk=>by cases hk;omega);have HM:=aa ho110;clear HRM HL ho110 hgr ha;refine hK.out _ _ ⟨a0,a1,a2,a3,a4,a5,a6,a7,a8,nm0,nm1,nm2,ne0,ne1,ne2⟩ (fun hHeld=>?_);clear hK K;(try simp only [nz]);refine rs 11 47 (by kernel_rfl) rfl (fun K hK=>?_);go_simp;clear hHeld;refine(aD _ _ _ _ _ _ _ _ _).mono ?_;rintro e V111 ⟨rfl,hb111⟩;have hs112:=hb111.size;replace z0:=zK hb111 f0 z0;replace z1:=zK hb111 f1 z1;replace z2:=zK hb111 f2 z2;replace z3:=zK hb111 f3 z3;replace⟨a0,a1,a2,a3,a4,a5,a6,a7,a8,nm0,nm1,nm2,ne0,ne1⟩:=aH a0 a1 a2 a3 a4 a5 a6 a7 a8 nm0 nm1 nm2 ne0 ne1 hb111;replace⟨ne2,f0,f1,f2,f3⟩:=cJ ne2 f0 f1 f2 f3 hb111;replace HM:=zO HM hb111;replace HB:=zT HB hb111;clear hb111;refine hK.out _ _ ⟨a0,a1,a2,a3,a4,a5,a6,a7,a8,nm0,nm1,nm2,ne0,ne1,ne2⟩ (fun hHeld=>?_);clear hK K;(try simp only [nz]);refine rn 13 (by kernel_rfl) rfl (fun K hK=>?_);go_simp;clear hHeld;obtain⟨V113,hV⟩:∃V113,V113=((((V111.setCell ⟨g108,0,none⟩ (.int .i64 t)).setCell ⟨g108,1,none⟩ (.int .i64 ((N:Int)-k))).setCell ⟨g108,2,none⟩ (.slice (some ⟨g110,0,none⟩) (NM+1) c110)).setCell ⟨g108,3,none⟩ (.slice none 0 0)):=⟨_,rfl⟩;rw [←hV];have hgr:V111.grownBy V113 (some g108):=by rw [hV];exact cQ _ _ _ _ _ _
       obtain⟨i0,i1,i2,i3⟩:=nO f0 f1 f2 f3 (.int .i64 t) (.int .i64 ((N:Int)-k)) (.slice (some ⟨g110,0,none⟩) (NM+1) c110) (.slice none 0 0);rw [←hV]at i0 i1 i2 i3;replace z3:V113.frozen? ⟨g108,3,none⟩=false:=by rw [hV,cm];exact z3
       have hs113:=hgr.size;replace⟨a0,a1,a2,a3,a4,a5,a6,a7,a8,nm0,nm1,nm2,ne0,ne1,ne2⟩:=ev hgr a0 a1 a2 a3 a4 a5 a6 a7 a8 nm0 nm1 nm2 ne0 ne1 ne2 (by omega);replace HM:=aa (cR hgr HM.out (by omega));replace HB:=HB.grown hgr HB.size (fun k hk=>by cases hk;omega);clear hV hgr f0 f1 f2 f3 z0 z1 z2;refine hK.out _ _ ⟨a0,a1,a2,a3,a4,a5,a6,a7,a8,nm0,nm1,nm2,ne0,ne1,ne2⟩ (fun hHeld=>?_);clear hK K;(try simp only [nz]);refine wpAnyH_done (by kernel_rfl) ?_ _;clear hHeld;exact⟨rfl,g107,c107,g103,g110,c110,g108,rfl,i0,i1,i2,i3,z3,HM.out,a8,ne0,ne1,ne2,HB,by omega,by omega,by omega⟩
     ·go_simp;clear hHeld;refine ah (fun V105 g105 hV hg=>?_);rw [←hg];have hbN:=zB hV;have hg105:V103.heap.size≤g105:=(by omega);have hl105:=zL hV hg;have f0:V105.cell? ⟨g105,0,none⟩=some (.int .i64 0):=zN2 hV hg rfl;have f1:V105.cell? ⟨g105,1,none⟩=some (.int .i64 0):=zN2 hV hg rfl;have f2:V105.cell? ⟨g105,2,none⟩=some (.slice none 0 0):=zN2 hV hg rfl;have f3:V105.cell? ⟨g105,3,none⟩=some (.slice none 0 0):=zN2 hV hg rfl;have z0:V105.frozen? ⟨g105,0,none⟩=false:=zF2 hV hg;have z1:V105.frozen? ⟨g105,1,none⟩=false:=zF2 hV hg;have z2:V105.frozen? ⟨g105,2,none⟩=false:=zF2 hV hg;have z3:V105.frozen? ⟨g105,3,none⟩=false:=zF2 hV hg;have hs106:=hbN.size;replace⟨a0,a1,a2,a3,a4,a5,a6,a7,a8,nm0,nm1,nm2,ne0,ne1⟩:=aH a0 a1 a2 a3 a4 a5 a6 a7 a8 nm0 nm1 nm2 ne0 ne1 hbN;replace ne2:=zC ne2 hbN;replace HL:=zO HL hbN;replace HB:=zT HB hbN;clear hV hg hbN;refine hK.out _ _ ⟨a0,a1,a2,a3,a4,a5,a6,a7,a8,nm0,nm1,nm2,ne0,ne1,ne2⟩ (fun hHeld=>?_);clear hK K;(try simp only [nz]);refine rs 7 43 (by kernel_rfl) rfl (fun K hK=>?_);go_simp;clear hHeld;have HBold:=HB.size;refine(dj ⟨y0,y1,y2,y3,y4,y5,y6,y7,y8⟩ _ hy0 hy1 hy2 hy3).mono ?_;rintro e V107 ⟨u107,rfl,ho107,hb107⟩;have hs108:=hb107.size;replace z0:=zK hb107 f0 z0;replace z1:=zK hb107 f1 z1;replace z2:=zK hb107 f2 z2;replace z3:=zK hb107 f3 z3;replace⟨a0,a1,a2,a3,a4,a5,a6,a7,a8,nm0,nm1,nm2,ne0,ne1⟩:=aH a0 a1 a2 a3 a4 a5 a6 a7 a8 nm0 nm1 nm2 ne0 ne1 hb107;replace⟨ne2,f0,f1,f2,f3⟩:=cJ ne2 f0 f1 f2 f3 hb107;replace HL:=zO HL hb107;replace HB:=zT HB hb107;rw [←HNM.out]at ho107;obtain⟨g109,c109,rfl,hg109,hl109⟩:=aW ho107 (by omega);have HRM:=aa (aw ho107 HBold);clear ho107 HBold;clear hb107;refine hK.out _ _ ⟨a0,a1,a2,a3,a4,a5,a6,a7,a8,nm0,nm1,nm2,ne0,ne1,ne2⟩ (fun hHeld=>?_);clear hK K;(try simp only [nz]);refine rs 10 46 (by kernel_rfl) rfl (fun K hK=>?_);clear hHeld;refine step_append_lies _ rfl (.tmp 43) (.tmp 45) 81 rfl wr.heap.size 142 iM _ 3 24 Tryz.underlying81 inM zM0 zM1 zM2 rfl (by decide) (.slice (some ⟨g109,0,none⟩) NM c109) NM _ rfl (ag HRM) ⟨g103,0,none⟩ 1 1 _ rfl rfl (HL.out.cells rfl) (dV _) (by decide) (by unfold maxLen;omega) (by omega) HB.size _ rfl ?_;intro g110 c110 V110 ho110 hgr ha hl110;replace hgr:V107.grownBy V110 (some g109):=hgr;replace ha:some g109=some g110∨g110=V107.heap.size:=ha;have hs110:=hgr.size;have hge110:g110=g109∨g110=V107.heap.size:=by rcases ha with h | h;exact .inl (Option.some.inj h).symm;exact .inr h
      replace z0:=(hgr.frozen_far ⟨g105,0,none⟩ (ap f0) (by simp;omega)).trans z0;replace z1:=(hgr.frozen_far ⟨g105,1,none⟩ (ap f1) (by simp;omega)).trans z1;replace z2:=(hgr.frozen_far ⟨g105,2,none⟩ (ap f2) (by simp;omega)).trans z2;replace z3:=(hgr.frozen_far ⟨g105,3,none⟩ (ap f3) (by simp;omega)).trans z3;replace⟨a0,a1,a2,a3,a4,a5,a6,a7,a8,nm0,nm1,nm2,ne0,ne1,ne2⟩:=ev hgr a0 a1 a2 a3 a4 a5 a6 a7 a8 nm0 nm1 nm2 ne0 ne1 ne2 (by omega);replace⟨f0,f1,f2,f3⟩:=uW hgr f0 f1 f2 f3 (by omega);replace HB:=HB.grown hgr HB.size (fun k hk=>by cases hk;omega);have HM:=aa ho110;clear HRM HL ho110 hgr ha;refine hK.out _ _ ⟨a0,a1,a2,a3,a4,a5,a6,a7,a8,nm0,nm1,nm2,ne0,ne1,ne2⟩ (fun hHeld=>?_);clear hK K;(try simp only [nz]);refine rs 11 47 (by kernel_rfl) rfl (fun K hK=>?_);go_simp;clear hHeld;refine(aD _ _ _ _ _ _ _ _ _).mono ?_;rintro e V111 ⟨rfl,hb111⟩;have hs112:=hb111.size;replace z0:=zK hb111 f0 z0;replace z1:=zK hb111 f1 z1;replace z2:=zK hb111 f2 z2;replace z3:=zK hb111 f3 z3;replace⟨a0,a1,a2,a3,a4,a5,a6,a7,a8,nm0,nm1,nm2,ne0,ne1⟩:=aH a0 a1 a2 a3 a4 a5 a6 a7 a8 nm0 nm1 nm2 ne0 ne1 hb111;replace⟨ne2,f0,f1,f2,f3⟩:=cJ ne2 f0 f1 f2 f3 hb111;replace HM:=zO HM hb111;replace HB:=zT HB hb111;clear hb111;refine hK.out _ _ ⟨a0,a1,a2,a3,a4,a5,a6,a7,a8,nm0,nm1,nm2,ne0,ne1,ne2⟩ (fun hHeld=>?_);clear hK K;(try simp only [nz]);refine rn 13 (by kernel_rfl) rfl (fun K hK=>?_);go_simp;clear hHeld;obtain⟨V113,hV⟩:∃V113,V113=((((V111.setCell ⟨g105,0,none⟩ (.int .i64 t)).setCell ⟨g105,1,none⟩ (.int .i64 ((N:Int)-k))).setCell ⟨g105,2,none⟩ (.slice (some ⟨g110,0,none⟩) (NM+1) c110)).setCell ⟨g105,3,none⟩ (.slice none 0 0)):=⟨_,rfl⟩;rw [←hV];have hgr:V111.grownBy V113 (some g105):=by rw [hV];exact cQ _ _ _ _ _ _
      obtain⟨i0,i1,i2,i3⟩:=nO f0 f1 f2 f3 (.int .i64 t) (.int .i64 ((N:Int)-k)) (.slice (some ⟨g110,0,none⟩) (NM+1) c110) (.slice none 0 0);rw [←hV]at i0 i1 i2 i3;replace z3:V113.frozen? ⟨g105,3,none⟩=false:=by rw [hV,cm];exact z3
      have hs113:=hgr.size;replace⟨a0,a1,a2,a3,a4,a5,a6,a7,a8,nm0,nm1,nm2,ne0,ne1,ne2⟩:=ev hgr a0 a1 a2 a3 a4 a5 a6 a7 a8 nm0 nm1 nm2 ne0 ne1 ne2 (by omega);replace HM:=aa (cR hgr HM.out (by omega));replace HB:=HB.grown hgr HB.size (fun k hk=>by cases hk;omega);clear hV hgr f0 f1 f2 f3 z0 z1 z2;refine hK.out _ _ ⟨a0,a1,a2,a3,a4,a5,a6,a7,a8,nm0,nm1,nm2,ne0,ne1,ne2⟩ (fun hHeld=>?_);clear hK K;(try simp only [nz]);refine wpAnyH_done (by kernel_rfl) ?_ _;clear hHeld;exact⟨rfl,g109,c109,g103,g110,c110,g105,rfl,i0,i1,i2,i3,z3,HM.out,a8,ne0,ne1,ne2,HB,by omega,by omega,by omega⟩
    ·go_simp;clear hHeld;refine ah (fun V103 g103 hV hg=>?_);rw [←hg];have hbN:=zB hV;have hg103:V102.heap.size≤g103:=(by omega);have hl103:=zL hV hg;have f0:V103.cell? ⟨g103,0,none⟩=some (.int .i64 0):=zN2 hV hg rfl;have f1:V103.cell? ⟨g103,1,none⟩=some (.int .i64 0):=zN2 hV hg rfl;have f2:V103.cell? ⟨g103,2,none⟩=some (.slice none 0 0):=zN2 hV hg rfl;have f3:V103.cell? ⟨g103,3,none⟩=some (.slice none 0 0):=zN2 hV hg rfl;have z0:V103.frozen? ⟨g103,0,none⟩=false:=zF2 hV hg;have z1:V103.frozen? ⟨g103,1,none⟩=false:=zF2 hV hg;have z2:V103.frozen? ⟨g103,2,none⟩=false:=zF2 hV hg;have z3:V103.frozen? ⟨g103,3,none⟩=false:=zF2 hV hg;have hs104:=hbN.size;replace⟨a0,a1,a2,a3,a4,a5,a6,a7,a8,nm0,nm1,nm2,ne0,ne1⟩:=aH a0 a1 a2 a3 a4 a5 a6 a7 a8 nm0 nm1 nm2 ne0 ne1 hbN;replace ne2:=zC ne2 hbN;replace HB:=zT HB hbN;clear hV hg hbN;refine hK.out _ _ ⟨a0,a1,a2,a3,a4,a5,a6,a7,a8,nm0,nm1,nm2,ne0,ne1,ne2⟩ (fun hHeld=>?_);clear hK K;(try simp only [nz]);refine wpAnyH_ready (rs:=[7,9]) (by kernel_rfl) (by simp) ?_;refine(AllReadyH.cons (o:=⟨some 43,_,_,_,_,_⟩) rfl (fun K hK=>?_) (AllReadyH.cons (o:=⟨some 45,_,_,_,_,_⟩) rfl (fun K hK=>?_) AllReadyH.nil))
     ·go_simp;clear hHeld;have HBold:=HB.size;refine(dj ⟨y0,y1,y2,y3,y4,y5,y6,y7,y8⟩ _ hy0 hy1 hy2 hy3).mono ?_;rintro e V105 ⟨u105,rfl,ho105,hb105⟩;have hs106:=hb105.size;replace z0:=zK hb105 f0 z0;replace z1:=zK hb105 f1 z1;replace z2:=zK hb105 f2 z2;replace z3:=zK hb105 f3 z3;replace⟨a0,a1,a2,a3,a4,a5,a6,a7,a8,nm0,nm1,nm2,ne0,ne1⟩:=aH a0 a1 a2 a3 a4 a5 a6 a7 a8 nm0 nm1 nm2 ne0 ne1 hb105;replace⟨ne2,f0,f1,f2,f3⟩:=cJ ne2 f0 f1 f2 f3 hb105;replace HB:=zT HB hb105;rw [←HNM.out]at ho105;obtain⟨g107,c107,rfl,hg107,hl107⟩:=aW ho105 (by omega);have HRM:=aa (aw ho105 HBold);clear ho105 HBold;clear hb105;refine hK.out _ _ ⟨a0,a1,a2,a3,a4,a5,a6,a7,a8,nm0,nm1,nm2,ne0,ne1,ne2⟩ (fun hHeld=>?_);clear hK K;(try simp only [nz]);refine rs 9 45 (by kernel_rfl) rfl (fun K hK=>?_);go_simp;clear hHeld;refine ah (fun V108 g108 hV hg=>?_);rw [←hg];have hbN:=zB hV;have hg108:V105.heap.size≤g108:=(by omega);have hl108:=zL hV hg;have HL:Hid (V108.ownsRow wr.heap.size 142 3 (.slice (some ⟨g108,0,none⟩) 1 1) 1 (M [isM 8 x.i])):=zW hV hg HB.size (by decide) rfl;have hs109:=hbN.size;replace z0:=zK hbN f0 z0;replace z1:=zK hbN f1 z1;replace z2:=zK hbN f2 z2;replace z3:=zK hbN f3 z3;replace⟨a0,a1,a2,a3,a4,a5,a6,a7,a8,nm0,nm1,nm2,ne0,ne1⟩:=aH a0 a1 a2 a3 a4 a5 a6 a7 a8 nm0 nm1 nm2 ne0 ne1 hbN;replace⟨ne2,f0,f1,f2,f3⟩:=cJ ne2 f0 f1 f2 f3 hbN;replace HRM:=zO HRM hbN;replace HB:=zT HB hbN;clear hV hg hbN;refine hK.out _ _ ⟨a0,a1,a2,a3,a4,a5,a6,a7,a8,nm0,nm1,nm2,ne0,ne1,ne2⟩ (fun hHeld=>?_);clear hK K;(try simp only [nz]);refine rs 10 46 (by kernel_rfl) rfl (fun K hK=>?_);clear hHeld;refine step_append_lies _ rfl (.tmp 43) (.tmp 45) 81 rfl wr.heap.size 142 iM _ 3 24 Tryz.underlying81 inM zM0 zM1 zM2 rfl (by decide) (.slice (some ⟨g107,0,none⟩) NM c107) NM _ rfl (ag HRM) ⟨g108,0,none⟩ 1 1 _ rfl rfl (HL.out.cells rfl) (dV _) (by decide) (by unfold maxLen;omega) (by omega) HB.size _ rfl ?_;intro g110 c110 V110 ho110 hgr ha hl110;replace hgr:V108.grownBy V110 (some g107):=hgr;replace ha:some g107=some g110∨g110=V108.heap.size:=ha;have hs110:=hgr.size;have hge110:g110=g107∨g110=V108.heap.size:=by rcases ha with h | h;exact .inl (Option.some.inj h).symm;exact .inr h
      replace z0:=(hgr.frozen_far ⟨g103,0,none⟩ (ap f0) (by simp;omega)).trans z0;replace z1:=(hgr.frozen_far ⟨g103,1,none⟩ (ap f1) (by simp;omega)).trans z1;replace z2:=(hgr.frozen_far ⟨g103,2,none⟩ (ap f2) (by simp;omega)).trans z2;replace z3:=(hgr.frozen_far ⟨g103,3,none⟩ (ap f3) (by simp;omega)).trans z3;replace⟨a0,a1,a2,a3,a4,a5,a6,a7,a8,nm0,nm1,nm2,ne0,ne1,ne2⟩:=ev hgr a0 a1 a2 a3 a4 a5 a6 a7 a8 nm0 nm1 nm2 ne0 ne1 ne2 (by omega);replace⟨f0,f1,f2,f3⟩:=uW hgr f0 f1 f2 f3 (by omega);replace HB:=HB.grown hgr HB.size (fun k hk=>by cases hk;omega);have HM:=aa ho110;clear HRM HL ho110 hgr ha;refine hK.out _ _ ⟨a0,a1,a2,a3,a4,a5,a6,a7,a8,nm0,nm1,nm2,ne0,ne1,ne2⟩ (fun hHeld=>?_);clear hK K;(try simp only [nz]);refine rs 11 47 (by kernel_rfl) rfl (fun K hK=>?_);go_simp;clear hHeld;refine(aD _ _ _ _ _ _ _ _ _).mono ?_;rintro e V111 ⟨rfl,hb111⟩;have hs112:=hb111.size;replace z0:=zK hb111 f0 z0;replace z1:=zK hb111 f1 z1;replace z2:=zK hb111 f2 z2;replace z3:=zK hb111 f3 z3;replace⟨a0,a1,a2,a3,a4,a5,a6,a7,a8,nm0,nm1,nm2,ne0,ne1⟩:=aH a0 a1 a2 a3 a4 a5 a6 a7 a8 nm0 nm1 nm2 ne0 ne1 hb111;replace⟨ne2,f0,f1,f2,f3⟩:=cJ ne2 f0 f1 f2 f3 hb111;replace HM:=zO HM hb111;replace HB:=zT HB hb111;clear hb111;refine hK.out _ _ ⟨a0,a1,a2,a3,a4,a5,a6,a7,a8,nm0,nm1,nm2,ne0,ne1,ne2⟩ (fun hHeld=>?_);clear hK K;(try simp only [nz]);refine rn 13 (by kernel_rfl) rfl (fun K hK=>?_);go_simp;clear hHeld;obtain⟨V113,hV⟩:∃V113,V113=((((V111.setCell ⟨g103,0,none⟩ (.int .i64 t)).setCell ⟨g103,1,none⟩ (.int .i64 ((N:Int)-k))).setCell ⟨g103,2,none⟩ (.slice (some ⟨g110,0,none⟩) (NM+1) c110)).setCell ⟨g103,3,none⟩ (.slice none 0 0)):=⟨_,rfl⟩;rw [←hV];have hgr:V111.grownBy V113 (some g103):=by rw [hV];exact cQ _ _ _ _ _ _
      obtain⟨i0,i1,i2,i3⟩:=nO f0 f1 f2 f3 (.int .i64 t) (.int .i64 ((N:Int)-k)) (.slice (some ⟨g110,0,none⟩) (NM+1) c110) (.slice none 0 0);rw [←hV]at i0 i1 i2 i3;replace z3:V113.frozen? ⟨g103,3,none⟩=false:=by rw [hV,cm];exact z3
      have hs113:=hgr.size;replace⟨a0,a1,a2,a3,a4,a5,a6,a7,a8,nm0,nm1,nm2,ne0,ne1,ne2⟩:=ev hgr a0 a1 a2 a3 a4 a5 a6 a7 a8 nm0 nm1 nm2 ne0 ne1 ne2 (by omega);replace HM:=aa (cR hgr HM.out (by omega));replace HB:=HB.grown hgr HB.size (fun k hk=>by cases hk;omega);clear hV hgr f0 f1 f2 f3 z0 z1 z2;refine hK.out _ _ ⟨a0,a1,a2,a3,a4,a5,a6,a7,a8,nm0,nm1,nm2,ne0,ne1,ne2⟩ (fun hHeld=>?_);clear hK K;(try simp only [nz]);refine wpAnyH_done (by kernel_rfl) ?_ _;clear hHeld;exact⟨rfl,g107,c107,g108,g110,c110,g103,rfl,i0,i1,i2,i3,z3,HM.out,a8,ne0,ne1,ne2,HB,by omega,by omega,by omega⟩
     ·go_simp;clear hHeld;refine ah (fun V105 g105 hV hg=>?_);rw [←hg];have hbN:=zB hV;have hg105:V103.heap.size≤g105:=(by omega);have hl105:=zL hV hg;have HL:Hid (V105.ownsRow wr.heap.size 142 3 (.slice (some ⟨g105,0,none⟩) 1 1) 1 (M [isM 8 x.i])):=zW hV hg HB.size (by decide) rfl;have hs106:=hbN.size;replace z0:=zK hbN f0 z0;replace z1:=zK hbN f1 z1;replace z2:=zK hbN f2 z2;replace z3:=zK hbN f3 z3;replace⟨a0,a1,a2,a3,a4,a5,a6,a7,a8,nm0,nm1,nm2,ne0,ne1⟩:=aH a0 a1 a2 a3 a4 a5 a6 a7 a8 nm0 nm1 nm2 ne0 ne1 hbN;replace⟨ne2,f0,f1,f2,f3⟩:=cJ ne2 f0 f1 f2 f3 hbN;replace HB:=zT HB hbN;clear hV hg hbN;refine hK.out _ _ ⟨a0,a1,a2,a3,a4,a5,a6,a7,a8,nm0,nm1,nm2,ne0,ne1,ne2⟩ (fun hHeld=>?_);clear hK K;(try simp only [nz]);refine rs 7 43 (by kernel_rfl) rfl (fun K hK=>?_);go_simp;clear hHeld;have HBold:=HB.size;refine(dj ⟨y0,y1,y2,y3,y4,y5,y6,y7,y8⟩ _ hy0 hy1 hy2 hy3).mono ?_;rintro e V107 ⟨u107,rfl,ho107,hb107⟩;have hs108:=hb107.size;replace z0:=zK hb107 f0 z0;replace z1:=zK hb107 f1 z1;replace z2:=zK hb107 f2 z2;replace z3:=zK hb107 f3 z3;replace⟨a0,a1,a2,a3,a4,a5,a6,a7,a8,nm0,nm1,nm2,ne0,ne1⟩:=aH a0 a1 a2 a3 a4 a5 a6 a7 a8 nm0 nm1 nm2 ne0 ne1 hb107;replace⟨ne2,f0,f1,f2,f3⟩:=cJ ne2 f0 f1 f2 f3 hb107;replace HL:=zO HL hb107;replace HB:=zT HB hb107;rw [←HNM.out]at ho107;obtain⟨g109,c109,rfl,hg109,hl109⟩:=aW ho107 (by omega);have HRM:=aa (aw ho107 HBold);clear ho107 HBold;clear hb107;refine hK.out _ _ ⟨a0,a1,a2,a3,a4,a5,a6,a7,a8,nm0,nm1,nm2,ne0,ne1,ne2⟩ (fun hHeld=>?_);clear hK K;(try simp only [nz]);refine rs 10 46 (by kernel_rfl) rfl (fun K hK=>?_);clear hHeld;refine step_append_lies _ rfl (.tmp 43) (.tmp 45) 81 rfl wr.heap.size 142 iM _ 3 24 Tryz.underlying81 inM zM0 zM1 zM2 rfl (by decide) (.slice (some ⟨g109,0,none⟩) NM c109) NM _ rfl (ag HRM) ⟨g105,0,none⟩ 1 1 _ rfl rfl (HL.out.cells rfl) (dV _) (by decide) (by unfold maxLen;omega) (by omega) HB.size _ rfl ?_;intro g110 c110 V110 ho110 hgr ha hl110;replace hgr:V107.grownBy V110 (some g109):=hgr;replace ha:some g109=some g110∨g110=V107.heap.size:=ha;have hs110:=hgr.size;have hge110:g110=g109∨g110=V107.heap.size:=by rcases ha with h | h;exact .inl (Option.some.inj h).symm;exact .inr h
      replace z0:=(hgr.frozen_far ⟨g103,0,none⟩ (ap f0) (by simp;omega)).trans z0;replace z1:=(hgr.frozen_far ⟨g103,1,none⟩ (ap f1) (by simp;omega)).trans z1;replace z2:=(hgr.frozen_far ⟨g103,2,none⟩ (ap f2) (by simp;omega)).trans z2;replace z3:=(hgr.frozen_far ⟨g103,3,none⟩ (ap f3) (by simp;omega)).trans z3;replace⟨a0,a1,a2,a3,a4,a5,a6,a7,a8,nm0,nm1,nm2,ne0,ne1,ne2⟩:=ev hgr a0 a1 a2 a3 a4 a5 a6 a7 a8 nm0 nm1 nm2 ne0 ne1 ne2 (by omega);replace⟨f0,f1,f2,f3⟩:=uW hgr f0 f1 f2 f3 (by omega);replace HB:=HB.grown hgr HB.size (fun k hk=>by cases hk;omega);have HM:=aa ho110;clear HRM HL ho110 hgr ha;refine hK.out _ _ ⟨a0,a1,a2,a3,a4,a5,a6,a7,a8,nm0,nm1,nm2,ne0,ne1,ne2⟩ (fun hHeld=>?_);clear hK K;(try simp only [nz]);refine rs 11 47 (by kernel_rfl) rfl (fun K hK=>?_);go_simp;clear hHeld;refine(aD _ _ _ _ _ _ _ _ _).mono ?_;rintro e V111 ⟨rfl,hb111⟩;have hs112:=hb111.size;replace z0:=zK hb111 f0 z0;replace z1:=zK hb111 f1 z1;replace z2:=zK hb111 f2 z2;replace z3:=zK hb111 f3 z3;replace⟨a0,a1,a2,a3,a4,a5,a6,a7,a8,nm0,nm1,nm2,ne0,ne1⟩:=aH a0 a1 a2 a3 a4 a5 a6 a7 a8 nm0 nm1 nm2 ne0 ne1 hb111;replace⟨ne2,f0,f1,f2,f3⟩:=cJ ne2 f0 f1 f2 f3 hb111;replace HM:=zO HM hb111;replace HB:=zT HB hb111;clear hb111;refine hK.out _ _ ⟨a0,a1,a2,a3,a4,a5,a6,a7,a8,nm0,nm1,nm2,ne0,ne1,ne2⟩ (fun hHeld=>?_);clear hK K;(try simp only [nz]);refine rn 13 (by kernel_rfl) rfl (fun K hK=>?_);go_simp;clear hHeld;obtain⟨V113,hV⟩:∃V113,V113=((((V111.setCell ⟨g103,0,none⟩ (.int .i64 t)).setCell ⟨g103,1,none⟩ (.int .i64 ((N:Int)-k))).setCell ⟨g103,2,none⟩ (.slice (some ⟨g110,0,none⟩) (NM+1) c110)).setCell ⟨g103,3,none⟩ (.slice none 0 0)):=⟨_,rfl⟩;rw [←hV];have hgr:V111.grownBy V113 (some g103):=by rw [hV];exact cQ _ _ _ _ _ _
      obtain⟨i0,i1,i2,i3⟩:=nO f0 f1 f2 f3 (.int .i64 t) (.int .i64 ((N:Int)-k)) (.slice (some ⟨g110,0,none⟩) (NM+1) c110) (.slice none 0 0);rw [←hV]at i0 i1 i2 i3;replace z3:V113.frozen? ⟨g103,3,none⟩=false:=by rw [hV,cm];exact z3
      have hs113:=hgr.size;replace⟨a0,a1,a2,a3,a4,a5,a6,a7,a8,nm0,nm1,nm2,ne0,ne1,ne2⟩:=ev hgr a0 a1 a2 a3 a4 a5 a6 a7 a8 nm0 nm1 nm2 ne0 ne1 ne2 (by omega);replace HM:=aa (cR hgr HM.out (by omega));replace HB:=HB.grown hgr HB.size (fun k hk=>by cases hk;omega);clear hV hgr f0 f1 f2 f3 z0 z1 z2;refine hK.out _ _ ⟨a0,a1,a2,a3,a4,a5,a6,a7,a8,nm0,nm1,nm2,ne0,ne1,ne2⟩ (fun hHeld=>?_);clear hK K;(try simp only [nz]);refine wpAnyH_done (by kernel_rfl) ?_ _;clear hHeld;exact⟨rfl,g109,c109,g105,g110,c110,g103,rfl,i0,i1,i2,i3,z3,HM.out,a8,ne0,ne1,ne2,HB,by omega,by omega,by omega⟩
   ·intro g43 c43 g45 g46 c46 fb Wa hW;obtain⟨f0,f1,f2,f3,z3,hM,a8,ne0,ne1,ne2,HB,hfb0,hfb1,hfb2⟩:=hW;have HM:=aa hM;replace HM:Hid (Wa.ownsRow wr.heap.size 142 3 (.slice (some ⟨g46,0,none⟩) (NM+1) c46) (NM+1) (M (bA ⟨y0,y1,y2,y3,y4,y5,y6,y7,y8⟩++ [isM 8 x.i]))):=by rw [Bm];exact HM
    clear hM;cases y8
    ·replace HRA:=aa (HRA.out.trans (by rw [if_neg (by simp)]));obtain⟨Wb,hWb⟩:∃Wb,Wb=Wa.alloc (.cells #[.int .i64 4,.int .i64 0,.int .i64 n] 145):=⟨_,rfl⟩;have hbN:Below Wa.heap.size Wa Wb:=by rw [hWb];exact ak _ _
     have NEWD:Hid (∀j u,(D [aM n])[j]? =some u→Wb.cell? ((⟨Wa.heap.size,0,none⟩:Addr).add j)=some u):=by rw [hWb];exact aa (eI Wa _ _)
     have HWb:Hid (Wa.alloc (.cells #[.int .i64 4,.int .i64 0,.int .i64 n] 145)=Wb):=hWb.symm;replace z3:=(hbN.frozen (p:=⟨fb,3,none⟩) hfb2).trans z3;have hfb3:¬fb=Wa.heap.size:=(by omega);have w0:=zC f0 hbN;have w1:=zC f1 hbN;have w2:=zC f2 hbN;have w3:=zC f3 hbN;have HM2:=aa (aA HM.out hbN);have HB2:=HB.trans (hbN.mono HB.size);have hsb:=HB2.size;have hfb4:fb<Wb.heap.size:=by have:=hbN.size;omega
     clear hWb hbN HM HB;go_wp2_with (at_builtin;rw [ag HWb];refine wpList_append_lies _ rfl _ _ 82 rfl wr.heap.size 145 iD _ 3 24 Tryz.underlying82 inD zD0 zD1 zD2 rfl (by decide) _ _ _ rfl (World.ownsRow_nil _ wr.heap.size 145 3) ⟨Wa.heap.size,0,none⟩ 1 1 (D [aM n]) rfl rfl (ag NEWD) (uJ _) (by decide) (by decide) (by decide) hsb _ rfl ?_)
     intro gd cd Wc hod hgd had _;have hbC:Below Wb.heap.size Wb Wc:=(Below.refl _ _).grown hgd zr (by simp [Value.ownBlock]);have hgdx:Wb.heap.size≤gd:=by rcases had with h | h;simp [Value.ownBlock]at h;omega
     replace⟨w0,w1,w2,w3⟩:=uS w0 w1 w2 w3 hbC;replace z3:=(hbC.frozen (p:=⟨fb,3,none⟩) hfb4).trans z3;have HM3:=aa (aA HM2.out hbC);have HB4:=HB2.trans (hbC.mono HB2.size);have HOD:Hid (Wc.ownsRow wr.heap.size 145 3 (.slice (some ⟨gd,0,none⟩) 1 cd) 1 (D [aM n])):=(by simpa using aa hod);obtain⟨Wz,hWz⟩:∃Wz,Wz=Wc.setCell ⟨fb,3,none⟩ (.slice (some ⟨gd,0,none⟩) 1 cd):=⟨_,rfl⟩;have hgz:Wc.grownBy Wz (some fb):=by rw [hWz];exact kT Wc ⟨fb,3,none⟩ _
     have hgd1:gd<Wc.heap.size:=bW HOD.out rfl;have f3x:Wz.cell? ⟨fb,3,none⟩=some (.slice (some ⟨gd,0,none⟩) 1 cd):=by rw [hWz];exact World.cell?_setCell_same _ _ _ w3
     have f0x:Wz.cell? ⟨fb,0,none⟩=some (.int .i64 t):=by rw [hWz];exact(World.cell?_setCell_other _ _ _ _ (by simp)).trans w0
     have f1x:Wz.cell? ⟨fb,1,none⟩=some (.int .i64 ((N:Int)-k)):=by rw [hWz];exact(World.cell?_setCell_other _ _ _ _ (by simp)).trans w1
     have f2x:Wz.cell? ⟨fb,2,none⟩=some (.slice (some ⟨g46,0,none⟩) (NM+1) c46):=by rw [hWz];exact(World.cell?_setCell_other _ _ _ _ (by simp)).trans w2
     have HM:=aa (cR hgz HM3.out (by omega));replace HOD:=aa (cR hgz HOD.out (by omega));have HB:Below wr.heap.size wr Wz:=by rw [hWz];exact gp HB4 hfb0 _
     have HZZ:Hid (Wz.heap.size=Wc.heap.size):=by rw [hWz];exact aa (by simp)
     have HWz:Hid (Wc.setCell ⟨fb,3,none⟩ (.slice (some ⟨gd,0,none⟩) 1 cd)=Wz):=hWz.symm;clear hWz hgz hod hgd had hbC HM2 HM3 HB2 HB4 NEWD HWb f0 f1 f2 f3;obtain⟨WA,hWA⟩:∃WA,WA=Wz.alloc (.cells #[.int .i64 t,.int .i64 ((N:Int)-k),.slice (some ⟨g46,0,none⟩) (NM+1) c46,.slice (some ⟨gd,0,none⟩) 1 cd] 84):=⟨_,rfl⟩;have hbN:Below Wz.heap.size Wz WA:=by rw [hWA];exact ak _ _
     have NEWS:Hid (∀j u,(C [(⟨⟨t,(N:Int)-k,bA ⟨y0,y1,y2,y3,y4,y5,y6,y7,false⟩++ [isM 8 x.i],[aM n]⟩,.slice (some ⟨g46,0,none⟩) (NM+1) c46,.slice (some ⟨gd,0,none⟩) 1 cd⟩:Fv)])[j]? =some u→WA.cell? ((⟨Wz.heap.size,0,none⟩:Addr).add j)=some u):=by rw [hWA];exact aa (eI Wz _ _)
     have HFV:Hid (FvIn WA Ws.heap.size (.slice vo NF vc) (⟨⟨t,(N:Int)-k,bA ⟨y0,y1,y2,y3,y4,y5,y6,y7,false⟩++ [isM 8 x.i],[aM n]⟩,.slice (some ⟨g46,0,none⟩) (NM+1) c46,.slice (some ⟨gd,0,none⟩) 1 cd⟩:Fv)):=by
      have h1:=HM.out;rw [show NM+1=(bA ⟨y0,y1,y2,y3,y4,y5,y6,y7,false⟩++ [isM 8 x.i]).length by rw [List.length_append, ←HNM.out];rfl]at h1⊢;exact aa (((bm (f:=⟨t,(N:Int)-k,bA ⟨y0,y1,y2,y3,y4,y5,y6,y7,false⟩++ [isM 8 x.i],[aM n]⟩) h1 HOD.out HUB.out).below hbN).less (by omega))
     have HFv:=aa ((HF.out.below HB zr).below hbN zr);have HB3:=HB.trans (hbN.mono HB.size);have hsA:Ws.heap.size≤WA.heap.size:=by have:=HB3.size;omega
     have HWA:Hid (Wz.alloc (.cells #[.int .i64 t,.int .i64 ((N:Int)-k),.slice (some ⟨g46,0,none⟩) (NM+1) c46,.slice (some ⟨gd,0,none⟩) 1 cd] 84)=WA):=hWA.symm;clear hWA hbN;go_wp2_with (at_builtin;rw [ag HWz,ag HWA];refine ep rfl _ _ rfl Ws.heap.size (.slice vo NF vc) FK rfl (ag HFv) ⟨Wc.heap.size,0,none⟩ 1 1 [(⟨⟨t,(N:Int)-k,bA ⟨y0,y1,y2,y3,y4,y5,y6,y7,false⟩++ [isM 8 x.i],[aM n]⟩,.slice (some ⟨g46,0,none⟩) (NM+1) c46,.slice (some ⟨gd,0,none⟩) 1 cd⟩:Fv)] rfl rfl (by rw [←HZZ.out];exact(ag NEWS)) (fun y hy=>by rw [List.mem_singleton.1 hy];exact HFV.out) (by decide) (by rw [←HNN.out];omega) hsA ?_)
     intro gq cq Vq hfq hgq haq;have HGR2:Hid (V47.grownBy Vq (some g47)):=aa (pP (dx HGR.out HB3) hgq HVB.out);have HVB2:Hid (∀g,(Value.slice (some ⟨gq,0,none⟩) (FK.length+1) cq).ownBlock=some g→g=g47∨V47.heap.size≤g):=aa (fun g e=>by
      have e2:gq=g:=(by simpa [Value.ownBlock] using e);subst e2;rcases haq with h | h
      ·exact HVB.out _ h
      ·exact .inr (by have:=HB3.size;omega))
     have HE:Hid (FR Vq Ws.heap.size (.slice (some ⟨gq,0,none⟩) (FK.length+1) cq) (fH L x.i t n (k+1))):=by rw [HNX.out,HRA.out];exact aa hfq
     clear hfq hgq haq HFv HFV HUB HNX HB HB3 HM HVB HGR NEWS HWA HRA;rw [←HNN.out]at HE HVB2⊢;go_wp2_with fail
     go_roundw
     case rel=>exact⟨k+1,by omega,by go_num,HE,HVB2,HGR2⟩
     case measure=>simp [intOf];omega
    ·generalize Wa=Wz at*;replace HRA:=aa (HRA.out.trans (by rw [if_pos rfl]));obtain⟨WA,hWA⟩:∃WA,WA=Wz.alloc (.cells #[.int .i64 t,.int .i64 ((N:Int)-k),.slice (some ⟨g46,0,none⟩) (NM+1) c46,.slice none 0 0] 84):=⟨_,rfl⟩;have hbN:Below Wz.heap.size Wz WA:=by rw [hWA];exact ak _ _
     have NEWS:Hid (∀j u,(C [(⟨⟨t,(N:Int)-k,bA ⟨y0,y1,y2,y3,y4,y5,y6,y7,true⟩++ [isM 8 x.i],[]⟩,.slice (some ⟨g46,0,none⟩) (NM+1) c46,.slice none 0 0⟩:Fv)])[j]? =some u→WA.cell? ((⟨Wz.heap.size,0,none⟩:Addr).add j)=some u):=by rw [hWA];exact aa (eI Wz _ _)
     have HFV:Hid (FvIn WA Ws.heap.size (.slice vo NF vc) (⟨⟨t,(N:Int)-k,bA ⟨y0,y1,y2,y3,y4,y5,y6,y7,true⟩++ [isM 8 x.i],[]⟩,.slice (some ⟨g46,0,none⟩) (NM+1) c46,.slice none 0 0⟩:Fv)):=by
      have h1:=HM.out;rw [show NM+1=(bA ⟨y0,y1,y2,y3,y4,y5,y6,y7,true⟩++ [isM 8 x.i]).length by rw [List.length_append, ←HNM.out];rfl]at h1⊢;exact aa (((bm (f:=⟨t,(N:Int)-k,bA ⟨y0,y1,y2,y3,y4,y5,y6,y7,true⟩++ [isM 8 x.i],[]⟩) h1 (World.ownsRow_nil _ _ _ _) HUB.out).below hbN).less (by omega))
     have HFv:=aa ((HF.out.below HB zr).below hbN zr);have HB3:=HB.trans (hbN.mono HB.size);have hsA:Ws.heap.size≤WA.heap.size:=by have:=HB3.size;omega
     have HWA:Hid (Wz.alloc (.cells #[.int .i64 t,.int .i64 ((N:Int)-k),.slice (some ⟨g46,0,none⟩) (NM+1) c46,.slice none 0 0] 84)=WA):=hWA.symm;clear hWA hbN;go_wp2_with (at_builtin;rw [ag HWA];refine ep rfl _ _ rfl Ws.heap.size (.slice vo NF vc) FK rfl (ag HFv) ⟨Wz.heap.size,0,none⟩ 1 1 [(⟨⟨t,(N:Int)-k,bA ⟨y0,y1,y2,y3,y4,y5,y6,y7,true⟩++ [isM 8 x.i],[]⟩,.slice (some ⟨g46,0,none⟩) (NM+1) c46,.slice none 0 0⟩:Fv)] rfl rfl (ag NEWS) (fun y hy=>by rw [List.mem_singleton.1 hy];exact HFV.out) (by decide) (by rw [←HNN.out];omega) hsA ?_)
     intro gq cq Vq hfq hgq haq;have HGR2:Hid (V47.grownBy Vq (some g47)):=aa (pP (dx HGR.out HB3) hgq HVB.out);have HVB2:Hid (∀g,(Value.slice (some ⟨gq,0,none⟩) (FK.length+1) cq).ownBlock=some g→g=g47∨V47.heap.size≤g):=aa (fun g e=>by
      have e2:gq=g:=(by simpa [Value.ownBlock] using e);subst e2;rcases haq with h | h
      ·exact HVB.out _ h
      ·exact .inr (by have:=HB3.size;omega))
     have HE:Hid (FR Vq Ws.heap.size (.slice (some ⟨gq,0,none⟩) (FK.length+1) cq) (fH L x.i t n (k+1))):=by rw [HNX.out,HRA.out];exact aa hfq
     clear hfq hgq haq HFv HFV HUB HNX HB HB3 HM HVB HGR NEWS HWA HRA;rw [←HNN.out]at HE HVB2⊢;go_wp2_with fail
     go_roundw
     case rel=>exact⟨k+1,by omega,by go_num,HE,HVB2,HGR2⟩
     case measure=>simp [intOf];omega
  ·obtain rfl:k=N:=(by omega);have HF1:Hid (FR wr w.heap.size u11 (bG L x.i t n)):=by rw [HRF.out,HLL.out];exact aa (HF.out.less hz5)
   obtain⟨fo,fc,rfl⟩:=HF1.out.slc;have HB2:Hid (Below B w wr):=aa ((HBW.out.trans (HBV.out.mono (Nat.le_trans hB hz5))).grown HGR.out (by have:=HBV.out.size;omega) (fun k e=>by cases e;omega));clear HF HVB HGR;go_wp2_with fail
   go_ret;exact⟨_,rfl,HF1.out,HB2.out⟩
theorem FR.cat {cur w':World} {B n:Nat} {u:Value} {lo:List Fv} {xs:List Value} (ok:∀x∈lo,∃v,FvIn cur B v x) (ho:w'.ownsRow cur.heap.size 84 4 u n xs) (hxs:xs=C lo) (hn:n=lo.length) (hb:Below cur.heap.size cur w') (hB:B≤cur.heap.size):FR w' B u (lo.map Fv.f):=by
 subst hxs hn;refine⟨lo,rfl,aw ho hB,fun x hx=>?_⟩;obtain⟨v,k0,_,_,k3,k4⟩:=ok x hx;refine⟨k0.below hb,?_,?_,k3,k4⟩
 ·cases e:x.mv.ownBlock with
  | none=>exact .inl e
  | some b=>exact .inr fun e'=>by have h1:=k0.2.2.1 b e;have h2:=ay ho b (by rw [←e',e]);omega
 ·cases e:x.dv.ownBlock with
  | none=>exact .inl e
  | some b=>exact .inr fun e'=>by have h1:=k0.2.2.2 b e;have h2:=ay ho b (by rw [←e',e]);omega
theorem uH (P:List Pr) (s:Sw) (ch:Int):(eX P s ch).length≤P.length+1:=by
 have h:=List.length_filter_le (cz s.i) P;unfold eX;split
 ·rw [List.nil_append,List.length_map];omega
 ·rw [List.length_append,List.length_map,List.length_singleton];omega
theorem j7 (R:List Ac) (s t n:Int):(bG R s t n).length=R.length+1:=by
 unfold bG;rw [List.length_cons,List.length_map,List.length_range]
theorem nC (P:List Pr) (s:Sw):(bZ P s).length≤P.length:=by
 unfold bZ;rw [List.length_map];exact List.length_filter_le _ _
theorem oY (S:List Sw) (P:List Pr) (s:Sw):(bS S P s).length≤P.length+1:=by
 have h:=List.length_filter_le (fun p=>cZ S s.t p&&aK p) P;unfold bS;split
 ·simp
 ·rw [List.length_cons,List.length_map];omega
theorem jk (A:List Ac) (s:Int) (b:Bool):(aV A s b).length≤A.length:=List.length_filter_le _ _
theorem l5 (S:List Sw) (P:List Pr) (A:List Ac) (s1 p1 a1:Option Addr) (s2 p2 a2:Nat) (x:Sw) (ch:Int) (w:World) (hC:CfAt w (.slice s1 S.length s2) (.slice p1 P.length p2) (.slice a1 A.length a2) S P A) (hl:P.length≤1000) (hlA:A.length≤1000) (hlS:S.length≤1000) (hx0:0≤x.i) (hx1:x.i≤100000) (hP:∀p∈P,0≤p.s∧p.s≤100000)
  (hR:∀r∈A,(0≤r.sb∧r.sb≤16)∧0≤r.db∧r.db≤16) (hS1:eY (aV A x.i true)) (hS2:eY (aV A x.i false)):
  Calls Tryz.prog 96 #[.agg #[.slice s1 S.length s2,.slice p1 P.length p2,.slice a1 A.length a2],.agg #[.int .i64 x.i,.int .i64 x.t,.int .i64 x.g],.int .i64 ch] w fun e w'=>∃u,e= .returned u∧FR w' w.heap.size u (bw S P A x ch)∧Below w.heap.size w w':=by
 have HC:=aa hC;have HR1:Hid (∀r∈aV A x.i true,(0≤r.sb∧r.sb≤16)∧0≤r.db∧r.db≤16):=aa (fun r hr=>hR r (List.mem_filter.1 hr).1);have HR2:Hid (∀r∈aV A x.i false,(0≤r.sb∧r.sb≤16)∧0≤r.db∧r.db≤16):=aa (fun r hr=>hR r (List.mem_filter.1 hr).1);have HS1:=aa hS1;have HS2:=aa hS2;have HP:=aa hP;have hr1:(aV A x.i true).length≤1000:=Nat.le_trans (jk A x.i true) hlA;have hr2:(aV A x.i false).length≤1000:=Nat.le_trans (jk A x.i false) hlA;have HSW:Hid (bw S P A x ch=eX P x ch++bG (aQ (aV A x.i true)) x.i 2 3++bZ P x++bS S P x++bG (aQ (aV A x.i false)) x.i 4 5):=rfl;have HL1:=aa (uH P x ch);have HL2:Hid ((bG (aQ (aV A x.i true)) x.i 2 3).length≤1001):=by
  refine aa ?_;rw [j7,fI];omega
 have HL3:=aa (nC P x);have HL4:=aa (oY S P x);have HL5:Hid ((bG (aQ (aV A x.i false)) x.i 4 5).length≤1001):=by
  refine aa ?_;rw [j7,fI];omega
 go_enter Tryz.func96,Tryz.ntmps96;go_wp2_with fail
 obtain⟨W0,hW⟩:∃W0,W0=w.alloc (.cells #[.slice s1 S.length s2,.slice p1 P.length p2,.slice a1 A.length a2] 30):=⟨_,rfl⟩;rw [←hW];obtain⟨cb,hblk⟩:∃cb,cb=w.heap.size:=⟨_,rfl⟩;have k0:W0.cell? ⟨cb,0,none⟩=some (.slice s1 S.length s2):=zN2 hW hblk rfl;have k1:W0.cell? ⟨cb,1,none⟩=some (.slice p1 P.length p2):=zN2 hW hblk rfl;have k2:W0.cell? ⟨cb,2,none⟩=some (.slice a1 A.length a2):=zN2 hW hblk rfl;have hbN:Below w.heap.size w W0:=by rw [hW];exact ak _ _
 have hzW0:W0.heap.size=cb+1:=by rw [hW,hblk];simp
 have hcbl:w.heap.size≤cb:=by omega
 rw [←hblk];clear hW hblk;have HB:=hbN;clear hbN;obtain⟨W1,hW⟩:∃W1,W1=W0.alloc (.cells #[.int .i64 x.i,.int .i64 x.t,.int .i64 x.g] 51):=⟨_,rfl⟩;rw [←hW];obtain⟨sb,hblk⟩:∃sb,sb=cb+1:=⟨_,rfl⟩;have d0:W1.cell? ⟨sb,0,none⟩=some (.int .i64 x.i):=zN2 hW (hblk.trans hzW0.symm) rfl;have d1:W1.cell? ⟨sb,1,none⟩=some (.int .i64 x.t):=zN2 hW (hblk.trans hzW0.symm) rfl;have d2:W1.cell? ⟨sb,2,none⟩=some (.int .i64 x.g):=zN2 hW (hblk.trans hzW0.symm) rfl;have hbN:Below W0.heap.size W0 W1:=by rw [hW];exact ak _ _
 have hzW1:W1.heap.size=sb+1:=by rw [hW,hblk];simp [hzW0]
 have hsbl:cb<sb:=by omega
 rw [←hblk];clear hW hblk hzW0;replace⟨k0,k1,k2⟩:=bj k0 k1 k2 hbN;replace HB:=zT HB hbN;clear hbN hzW1;have hs0_1:=HB.size;refine wp_region_held_drew (S:=(fun w'=>w'.cell? ⟨cb,0,none⟩=some (.slice s1 S.length s2)∧w'.cell? ⟨cb,1,none⟩=some (.slice p1 P.length p2)∧w'.cell? ⟨cb,2,none⟩=some (.slice a1 A.length a2)∧w'.cell? ⟨sb,0,none⟩=some (.int .i64 x.i)∧w'.cell? ⟨sb,1,none⟩=some (.int .i64 x.t)∧w'.cell? ⟨sb,2,none⟩=some (.int .i64 x.g))) (by kernel_rfl) ⟨k0,k1,k2,d0,d1,d2⟩ (fun hHeld=>?_);have HDW:Below W1.heap.size W1 W1.drew:=(Below.refl _ _).drew;have hs1:=HDW.size;replace⟨k0,k1,k2,d0,d1,d2⟩:=eH k0 k1 k2 d0 d1 d2 HDW;replace HB:=zT HB HDW;clear HDW;generalize W1.drew=V2 at*;refine sqA [(0,7),(1,8),(2,9),(4,11),(5,12),(7,14),(9,16),(10,17),(12,19),(13,20),(15,22),(16,23),(18,25)] ?_;(iterate 13 (refine sqN rfl (by kernel_rfl) (fun _ _ _=>id) rfl ‹_› (by intro w h;go_simp <;>with_reducible rfl) ?_;simp only [nz]));refine sqZ ?_;refine rs 3 10 (by kernel_rfl) rfl (fun K hK=>?_);go_simp;clear hHeld;have HBold:=HB.size;refine(pE S P A s1 p1 a1 s2 p2 a2 x ch _ (HC.out.below HB zr) hl hx0 hx1).mono ?_;rintro e V3 ⟨u,rfl,hfr,hb3⟩;have hs4:=hb3.size;replace⟨k0,k1,k2,d0,d1,d2⟩:=eH k0 k1 k2 d0 d1 d2 hb3;replace HB:=zT HB hb3;obtain⟨fo1,fc1,rfl⟩:=hfr.slc;have HF1:=aa (hfr.less HBold);clear hfr HBold;clear hb3;refine hK.out _ _ ⟨k0,k1,k2,d0,d1,d2⟩ (fun hHeld=>?_);clear hK K;(try simp only [nz]);refine rs 6 13 (by kernel_rfl) rfl (fun K hK=>?_);go_simp;clear hHeld;have k0_r:=k0;have k1_r:=k1;have k2_r:=k2;have d0_r:=d0;have d1_r:=d1;have d2_r:=d2;have HF1_r:=HF1;have HBr:=HB;refine(lw S P A s1 p1 a1 s2 p2 a2 x true _ (HC.out.below HB zr) hlA).mono ?_;rintro e V5 ⟨u,rfl,hor,hb5⟩;have hs6:=hb5.size;replace⟨k0,k1,k2,d0,d1,d2⟩:=eH k0 k1 k2 d0 d1 d2 hb5;replace HF1:=aa (HF1.out.below hb5 zr);replace HB:=zT HB hb5;obtain⟨ro1,rc1,rfl⟩:=aG hor;have HRW:=aa hor;have HBR:=aa hb5;clear hor;clear hb5;refine hK.out _ _ ⟨k0,k1,k2,d0,d1,d2⟩ (fun hHeld=>?_);clear hK K;(try simp only [nz]);refine rs 8 15 (by kernel_rfl) rfl (fun K hK=>?_);go_simp;clear hHeld;have HBold:=HB.size;refine(jJ (aV A x.i true) x 2 3 _ V3.heap.size V5 HRW.out HBR.out.size HS1.out HR1.out hr1).mono ?_;rintro e V7 ⟨u,rfl,hfr,hbq⟩;have hbX:Below V3.heap.size V3 V7:=HBR.out.trans hbq;replace k0:=zC k0_r hbX;replace k1:=zC k1_r hbX;replace k2:=zC k2_r hbX;replace d0:=zC d0_r hbX;replace d1:=zC d1_r hbX;replace d2:=zC d2_r hbX;replace HF1:=aa (HF1_r.out.below hbX zr);replace HB:=HBr.trans (hbX.mono HBr.size);obtain⟨fo2,fc2,rfl⟩:=hfr.slc;have HF2:=aa (hfr.less HBold);clear hfr HBold hbq hbX HBR HBr HRW k0_r k1_r k2_r d0_r d1_r d2_r HF1_r;refine hK.out _ _ ⟨k0,k1,k2,d0,d1,d2⟩ (fun hHeld=>?_);clear hK K;(try simp only [nz])
 refine rs 11 18 (by kernel_rfl) rfl (fun K hK=>?_);go_simp;clear hHeld;have HBold:=HB.size;refine(lT S P A s1 p1 a1 s2 p2 a2 x _ (HC.out.below HB zr) hl hx0 hx1).mono ?_;rintro e V8 ⟨u,rfl,hfr,hb8⟩;have hs9:=hb8.size;replace⟨k0,k1,k2,d0,d1,d2⟩:=eH k0 k1 k2 d0 d1 d2 hb8;replace HF1:=aa (HF1.out.below hb8 zr);replace HF2:=aa (HF2.out.below hb8 zr);replace HB:=zT HB hb8;obtain⟨fo3,fc3,rfl⟩:=hfr.slc;have HF3:=aa (hfr.less HBold);clear hfr HBold;clear hb8;refine hK.out _ _ ⟨k0,k1,k2,d0,d1,d2⟩ (fun hHeld=>?_);clear hK K;(try simp only [nz]);refine rs 14 21 (by kernel_rfl) rfl (fun K hK=>?_);go_simp;clear hHeld;have HBold:=HB.size;refine(mR S P A s1 p1 a1 s2 p2 a2 x _ (HC.out.below HB zr) hl hx0 hx1 HP.out hlS).mono ?_;rintro e V10 ⟨u,rfl,hfr,hb10⟩;have hs11:=hb10.size;replace⟨k0,k1,k2,d0,d1,d2⟩:=eH k0 k1 k2 d0 d1 d2 hb10;replace HF1:=aa (HF1.out.below hb10 zr);replace HF2:=aa (HF2.out.below hb10 zr);replace HF3:=aa (HF3.out.below hb10 zr);replace HB:=zT HB hb10;obtain⟨fo4,fc4,rfl⟩:=hfr.slc;have HF4:=aa (hfr.less HBold);clear hfr HBold;clear hb10;refine hK.out _ _ ⟨k0,k1,k2,d0,d1,d2⟩ (fun hHeld=>?_);clear hK K;(try simp only [nz]);refine rs 17 24 (by kernel_rfl) rfl (fun K hK=>?_);go_simp;clear hHeld;have k0_r:=k0;have k1_r:=k1;have k2_r:=k2;have d0_r:=d0;have d1_r:=d1;have d2_r:=d2;have HF1_r:=HF1;have HF2_r:=HF2;have HF3_r:=HF3;have HF4_r:=HF4;have HBr:=HB;refine(lw S P A s1 p1 a1 s2 p2 a2 x false _ (HC.out.below HB zr) hlA).mono ?_;rintro e V12 ⟨u,rfl,hor,hb12⟩;have hs13:=hb12.size;replace⟨k0,k1,k2,d0,d1,d2⟩:=eH k0 k1 k2 d0 d1 d2 hb12;replace HF1:=aa (HF1.out.below hb12 zr);replace HF2:=aa (HF2.out.below hb12 zr);replace HF3:=aa (HF3.out.below hb12 zr);replace HF4:=aa (HF4.out.below hb12 zr);replace HB:=zT HB hb12;obtain⟨ro2,rc2,rfl⟩:=aG hor;have HRW:=aa hor;have HBR:=aa hb12;clear hor;clear hb12;refine hK.out _ _ ⟨k0,k1,k2,d0,d1,d2⟩ (fun hHeld=>?_);clear hK K;(try simp only [nz]);refine rs 19 26 (by kernel_rfl) rfl (fun K hK=>?_);go_simp;clear hHeld;have HBold:=HB.size;refine(jJ (aV A x.i false) x 4 5 _ V10.heap.size V12 HRW.out HBR.out.size HS2.out HR2.out hr2).mono ?_;rintro e V14 ⟨u,rfl,hfr,hbq⟩;have hbX:Below V10.heap.size V10 V14:=HBR.out.trans hbq;replace k0:=zC k0_r hbX;replace k1:=zC k1_r hbX;replace k2:=zC k2_r hbX;replace d0:=zC d0_r hbX;replace d1:=zC d1_r hbX;replace d2:=zC d2_r hbX;replace HF1:=aa (HF1_r.out.below hbX zr);replace HF2:=aa (HF2_r.out.below hbX zr);replace HF3:=aa (HF3_r.out.below hbX zr);replace HF4:=aa (HF4_r.out.below hbX zr);replace HB:=HBr.trans (hbX.mono HBr.size);obtain⟨fo5,fc5,rfl⟩:=hfr.slc;have HF5:=aa (hfr.less HBold);clear hfr HBold hbq hbX HBR HBr HRW k0_r k1_r k2_r d0_r d1_r d2_r HF1_r HF2_r HF3_r HF4_r
 refine hK.out _ _ ⟨k0,k1,k2,d0,d1,d2⟩ (fun hHeld=>?_);clear hK K;(try simp only [nz]);refine rs 20 27 (by kernel_rfl) rfl (fun K hK=>?_);go_simp;clear hHeld;refine ah (fun V15 g15 hV hg=>?_);rw [←hg];have hbN:=zB hV;have hg15:V14.heap.size≤g15:=by omega
 have hl15:=zL hV hg;have q0:V15.cell? ⟨g15,0,none⟩=some (.slice fo1 (eX P x ch).length fc1):=zN2 hV hg rfl;have q1:V15.cell? ⟨g15,1,none⟩=some (.slice fo2 (bG (aQ (aV A x.i true)) x.i 2 3).length fc2):=zN2 hV hg rfl;have q2:V15.cell? ⟨g15,2,none⟩=some (.slice fo3 (bZ P x).length fc3):=zN2 hV hg rfl;have q3:V15.cell? ⟨g15,3,none⟩=some (.slice fo4 (bS S P x).length fc4):=zN2 hV hg rfl;have q4:V15.cell? ⟨g15,4,none⟩=some (.slice fo5 (bG (aQ (aV A x.i false)) x.i 4 5).length fc5):=zN2 hV hg rfl;have hs16:=hbN.size;replace⟨k0,k1,k2,d0,d1,d2⟩:=eH k0 k1 k2 d0 d1 d2 hbN;replace HF1:=aa (HF1.out.below hbN zr);replace HF2:=aa (HF2.out.below hbN zr);replace HF3:=aa (HF3.out.below hbN zr);replace HF4:=aa (HF4.out.below hbN zr);replace HF5:=aa (HF5.out.below hbN zr);replace HB:=zT HB hbN;clear hV hg hbN;refine hK.out _ _ ⟨k0,k1,k2,d0,d1,d2⟩ (fun hHeld=>?_);clear hK K;(try simp only [nz]);refine rs 21 28 (by kernel_rfl) rfl (fun K hK=>?_);go_simp;clear hHeld;obtain⟨lo1,hm1,hll1,hsr1,hk1⟩:=HF1.out.src;obtain⟨lo2,hm2,hll2,hsr2,hk2⟩:=HF2.out.src;obtain⟨lo3,hm3,hll3,hsr3,hk3⟩:=HF3.out.src;obtain⟨lo4,hm4,hll4,hsr4,hk4⟩:=HF4.out.src;obtain⟨lo5,hm5,hll5,hsr5,hk5⟩:=HF5.out.src;have hq1:=HL1.out;have hq2:=HL2.out;have hq3:=HL3.out;have hq4:=HL4.out;have hq5:=HL5.out;refine(pX [((.slice fo1 (eX P x ch).length fc1:Value),lo1.length,C lo1),((.slice fo2 (bG (aQ (aV A x.i true)) x.i 2 3).length fc2:Value),lo2.length,C lo2),((.slice fo3 (bZ P x).length fc3:Value),lo3.length,C lo3),((.slice fo4 (bS S P x).length fc4:Value),lo4.length,C lo4),((.slice fo5 (bG (aQ (aV A x.i false)) x.i 4 5).length fc5:Value),lo5.length,C lo5)] g15 5 V15 (fun j hj=>match j,hj with | 0,_=>q0 | 1,_=>q1 | 2,_=>q2 | 3,_=>q3 | 4,_=>q4 | j+5,h=>absurd h (by simp)) (in5 hsr1 hsr2 hsr3 hsr4 hsr5) (by exact(show(5:Nat)≤10 by decide)) (by exact(show(5:Nat)≤5 by decide)) (in5 (show lo1.length≤100000 by omega) (show lo2.length≤100000 by omega) (show lo3.length≤100000 by omega) (show lo4.length≤100000 by omega) (show lo5.length≤100000 by omega))).mono ?_;rintro e V17 ⟨u,rfl,hor,hbq⟩;have HE:Hid (FR V17 w.heap.size u (bw S P A x ch)):=by
  have:=FR.cat (lo:=lo1++lo2++lo3++lo4++lo5) (fun y hy=>?_) hor (by simp [cat,iY]) (by simp [cnt] <;>omega) hbq HB.size
  ·rw [HSW.out, ←hm1, ←hm2, ←hm3, ←hm4, ←hm5];simpa using aa this
  ·simp only [List.mem_append]at hy;rcases hy with(((h | h) | h) | h) | h
   ·exact⟨_,hk1 y h⟩
   ·exact⟨_,hk2 y h⟩
   ·exact⟨_,hk3 y h⟩
   ·exact⟨_,hk4 y h⟩
   ·exact⟨_,hk5 y h⟩
 replace⟨k0,k1,k2,d0,d1,d2⟩:=eH k0 k1 k2 d0 d1 d2 hbq;replace HB:=zT HB hbq;obtain⟨eo,ec,rfl⟩:=HE.out.slc;clear hor hbq HF1 HF2 HF3 HF4 HF5 hm1 hll1 hsr1 hk1 hq1 hm2 hll2 hsr2 hk2 hq2 hm3 hll3 hsr3 hk3 hq3 hm4 hll4 hsr4 hk4 hq4 hm5 hll5 hsr5 hk5 hq5 q0 q1 q2 q3 q4;refine hK.out _ _ ⟨k0,k1,k2,d0,d1,d2⟩ (fun hHeld=>?_);clear hK K;(try simp only [nz]);refine tq 22 6 rfl (by kernel_rfl) (fun _ _ _=>id) rfl ‹_› (by intro w h;go_simp <;>with_reducible rfl) ?_;simp only [nz];refine wpAnyH_done (by kernel_rfl) ?_ _;clear hHeld;go_wp2_with fail
 go_ret;exact⟨_,rfl,HE.out,HB⟩
section
open Go.Shelf
def Tryz.sortFl_ren:Go.Shelf.Ren:=⟨fun | 6=>129 | 15=>104 | 14=>171 | 28=>162 | 29=>163 | 20=>200 | 21=>201 | 22=>202 | 23=>203 | 24=>204 | 25=>205 | 26=>206 | 27=>207 | 46=>220 | 47=>196 | 48=>197 | 49=>221 | 50=>222 | 57=>226 | n=>n,fun | 22=>79 | 24=>84 | 25=>136 | 3=>3 | 39=>135 | 0=>0 | 53=>212 | 55=>214 | 4=>4 | 46=>206 | 45=>205 | 50=>147 | 5=>5 | 9=>9 | 66=>238 | 70=>242 | 76=>257 | 77=>258 | n=>n,fun | n=>n⟩
theorem Tryz.sortFl:Go.Proofs.SlLaysF0.n6 Tryz.prog Tryz.sortFl_ren:={
 mixed:=by kernel_rfl
 f6:=⟨Tryz.f129.name,by decide,Tryz.func129.trans (congrArg some (by kernel_rfl))⟩
 f14:=⟨Tryz.f171.name,by decide,Tryz.func171.trans (congrArg some (by kernel_rfl))⟩
 f15:=Tryz.func104.trans (congrArg some (by kernel_rfl))
 f20:=⟨Tryz.f200.name,by decide,Tryz.func200.trans (congrArg some (by kernel_rfl))⟩
 f21:=⟨Tryz.f201.name,by decide,Tryz.func201.trans (congrArg some (by kernel_rfl))⟩
 f22:=⟨Tryz.f202.name,by decide,Tryz.func202.trans (congrArg some (by kernel_rfl))⟩
 f23:=⟨Tryz.f203.name,by decide,Tryz.func203.trans (congrArg some (by kernel_rfl))⟩
 f24:=⟨Tryz.f204.name,by decide,Tryz.func204.trans (congrArg some (by kernel_rfl))⟩
 f25:=⟨Tryz.f205.name,by decide,Tryz.func205.trans (congrArg some (by kernel_rfl))⟩
 f26:=⟨Tryz.f206.name,by decide,Tryz.func206.trans (congrArg some (by kernel_rfl))⟩
 f27:=⟨Tryz.f207.name,by decide,Tryz.func207.trans (congrArg some (by kernel_rfl))⟩
 f28:=Tryz.func162.trans (congrArg some (by kernel_rfl))
 f29:=Tryz.func163.trans (congrArg some (by kernel_rfl))
 f46:=⟨Tryz.f220.name,by decide,Tryz.func220.trans (congrArg some (by kernel_rfl))⟩
 f47:=Tryz.func196.trans (congrArg some (by kernel_rfl))
 f48:=Tryz.func197.trans (congrArg some (by kernel_rfl))
 f49:=⟨Tryz.f221.name,by decide,Tryz.func221.trans (congrArg some (by kernel_rfl))⟩
 f50:=⟨Tryz.f222.name,by decide,Tryz.func222.trans (congrArg some (by kernel_rfl))⟩
 f57:=⟨Tryz.f226.name,by decide,Tryz.func226.trans (congrArg some (by kernel_rfl))⟩
 t0:=Tryz.underlying0
 a0:=Tryz.isAgg0
 z0:=Tryz.sizeOf0
 v0:=Tryz.zeroValue0
 t3:=Tryz.underlying3
 a3:=Tryz.isAgg3
 z3:=Tryz.sizeOf3
 v3:=Tryz.zeroValue3
 t4:=Tryz.underlying4
 a4:=Tryz.isAgg4
 z4:=Tryz.sizeOf4
 v4:=Tryz.zeroValue4
 t5:=Tryz.underlying5
 a5:=Tryz.isAgg5
 z5:=Tryz.sizeOf5
 v5:=Tryz.zeroValue5
 t9:=Tryz.underlying9
 a9:=Tryz.isAgg9
 z9:=Tryz.sizeOf9
 v9:=Tryz.zeroValue9
 t22:=Tryz.underlying79
 a22:=Tryz.isAgg79
 z22:=Tryz.sizeOf79
 v22:=Tryz.zeroValue79
 t25:=Tryz.underlying136
 a25:=Tryz.isAgg136
 z25:=Tryz.sizeOf136
 v25:=Tryz.zeroValue136
 t39:=Tryz.underlying135
 a39:=Tryz.isAgg135
 z39:=Tryz.sizeOf135
 v39:=Tryz.zeroValue135
 t45:=Tryz.underlying205
 a45:=Tryz.isAgg205
 z45:=Tryz.sizeOf205
 v45:=Tryz.zeroValue205
 t46:=Tryz.underlying206
 a46:=Tryz.isAgg206
 z46:=Tryz.sizeOf206
 v46:=Tryz.zeroValue206
 t50:=Tryz.underlying147
 a50:=Tryz.isAgg147
 z50:=Tryz.sizeOf147
 v50:=Tryz.zeroValue147
 t53:=Tryz.underlying212
 a53:=Tryz.isAgg212
 z53:=Tryz.sizeOf212
 v53:=Tryz.zeroValue212
 t55:=Tryz.underlying214
 a55:=Tryz.isAgg214
 z55:=Tryz.sizeOf214
 v55:=Tryz.zeroValue214
 t66:=Tryz.underlying238
 a66:=Tryz.isAgg238
 z66:=Tryz.sizeOf238
 v66:=Tryz.zeroValue238
 t70:=Tryz.underlying242
 a70:=Tryz.isAgg242
 z70:=Tryz.sizeOf242
 v70:=Tryz.zeroValue242
 t76:=Tryz.underlying257
 a76:=Tryz.isAgg257
 z76:=Tryz.sizeOf257
 v76:=Tryz.zeroValue257
 t77:=Tryz.underlying258
 a77:=Tryz.isAgg258
 z77:=Tryz.sizeOf258
 v77:=Tryz.zeroValue258}
end
theorem r8 (xt xp yt yp:Int) (xa ya xb yb:Option Addr) (xm xc ym yc xd xe yd ye:Nat) (w:World):
  Calls Tryz.prog 119 #[.agg #[.int .i64 xt,.int .i64 xp,.slice xa xm xc,.slice xb xd xe],.agg #[.int .i64 yt,.int .i64 yp,.slice ya ym yc,.slice yb yd ye]] w fun e w'=>e= .returned (.int .i64 (aS xt yt))∧Grw w w':=by
 have H0:=aa (fun W=>cY (xt) (yt) W);generalize aS xt yt=R at H0⊢;go_enter Tryz.func119,Tryz.ntmps119;go_wp2_with fail
 refine(ag H0 _).mono ?_;rintro e w1 ⟨rfl,rfl⟩;go_wp2_with fail
 go_ret;exact⟨rfl,((Grw.refl w).alloc _).alloc _⟩
theorem rD (xt xp yt yp:Int) (xa ya xb yb:Option Addr) (xm xc ym yc xd xe yd ye:Nat) (w:World):
  Calls Tryz.prog 120 #[.agg #[.int .i64 xt,.int .i64 xp,.slice xa xm xc,.slice xb xd xe],.agg #[.int .i64 yt,.int .i64 yp,.slice ya ym yc,.slice yb yd ye]] w fun e w'=>e= .returned (.int .i64 (aS yp xp))∧Grw w w':=by
 have H0:=aa (fun W=>cY (yp) (xp) W);generalize aS yp xp=R at H0⊢;go_enter Tryz.func120,Tryz.ntmps120;go_wp2_with fail
 refine(ag H0 _).mono ?_;rintro e w1 ⟨rfl,rfl⟩;go_wp2_with fail
 go_ret;exact⟨rfl,((Grw.refl w).alloc _).alloc _⟩
theorem qQ (xt xp yt yp:Int) (xa ya xb yb:Option Addr) (xm xc ym yc xd xe yd ye:Nat) (w:World):
  Calls Tryz.prog 121 #[.agg #[.int .i64 xt,.int .i64 xp,.slice xa xm xc,.slice xb xd xe],.agg #[.int .i64 yt,.int .i64 yp,.slice ya ym yc,.slice yb yd ye]] w fun e w'=>e= .returned (.int .i64 (aS (xm:Int) (ym:Int)))∧Grw w w':=by
 have H0:=aa (fun W=>cY ((xm:Int)) ((ym:Int)) W);generalize aS (xm:Int) (ym:Int)=R at H0⊢;go_enter Tryz.func121,Tryz.ntmps121;go_wp2_with fail
 refine(ag H0 _).mono ?_;rintro e w1 ⟨rfl,rfl⟩;go_wp2_with fail
 go_ret;exact⟨rfl,((Grw.refl w).alloc _).alloc _⟩
theorem rG (xt xp yt yp:Int) (xa ya xb yb:Option Addr) (xm xc ym yc xd xe yd ye:Nat) (w:World):
  Calls Tryz.prog 122 #[.agg #[.int .i64 xt,.int .i64 xp,.slice xa xm xc,.slice xb xd xe],.agg #[.int .i64 yt,.int .i64 yp,.slice ya ym yc,.slice yb yd ye]] w fun e w'=>e= .returned (.int .i64 (aS (xd:Int) (yd:Int)))∧Grw w w':=by
 have H0:=aa (fun W=>cY ((xd:Int)) ((yd:Int)) W);generalize aS (xd:Int) (yd:Int)=R at H0⊢;go_enter Tryz.func122,Tryz.ntmps122;go_wp2_with fail
 refine(ag H0 _).mono ?_;rintro e w1 ⟨rfl,rfl⟩;go_wp2_with fail
 go_ret;exact⟨rfl,((Grw.refl w).alloc _).alloc _⟩
theorem qp (x y:Fl) (xa ya xb yb:Option Addr) (xc yc xe ye:Nat) (w:World) (hx:MsAt w (.slice xa x.ms.length xc) x.ms) (hy:MsAt w (.slice ya y.ms.length yc) y.ms) (hl:x.ms.length≤2000000) (hl2:y.ms.length≤2000000):
  Calls Tryz.prog 123 #[.agg #[.int .i64 x.t,.int .i64 x.p,.slice xa x.ms.length xc,.slice xb x.ds.length xe],.agg #[.int .i64 y.t,.int .i64 y.p,.slice ya y.ms.length yc,.slice yb y.ds.length ye]] w fun e w'=>e= .returned (.int .i64 (fi x.ms y.ms))∧Grw w w':=by
 have HX:=aa hx;have HY:=aa hy;have HC:Hid (∀W:World,Below w.heap.size w W→Calls Tryz.prog 124 #[.slice xa x.ms.length xc,.slice ya y.ms.length yc,.func (.func 125) #[] #[]] W fun e w'=>e= .returned (.int .i64 (fi x.ms y.ms))∧Grw W w'):=fun W hW=>kG _ _ _ _ W (HX.out.below hW zr) (HY.out.below hW zr) hl hl2;clear hx hy HX HY;generalize fi x.ms y.ms=R at HC⊢;have hA:Grw w ((w.alloc (.cells #[.int .i64 x.t,.int .i64 x.p,.slice xa x.ms.length xc,.slice xb x.ds.length xe] 84)).alloc (.cells #[.int .i64 y.t,.int .i64 y.p,.slice ya y.ms.length yc,.slice yb y.ds.length ye] 84)):=((Grw.refl w).alloc _).alloc _;go_enter Tryz.func123,Tryz.ntmps123;go_wp2_with fail
 refine(ag HC _ hA.below).mono ?_;rintro e w1 ⟨rfl,hg1⟩;have hg:=hA.trans hg1;go_wp2_with fail
 go_ret;exact⟨rfl,hg⟩
theorem r9 (x y:Fl) (xa ya xb yb:Option Addr) (xc yc xe ye:Nat) (w:World) (hx:DsAt w (.slice xb x.ds.length xe) x.ds) (hy:DsAt w (.slice yb y.ds.length ye) y.ds) (hl:x.ds.length≤2000000) (hl2:y.ds.length≤2000000):
  Calls Tryz.prog 126 #[.agg #[.int .i64 x.t,.int .i64 x.p,.slice xa x.ms.length xc,.slice xb x.ds.length xe],.agg #[.int .i64 y.t,.int .i64 y.p,.slice ya y.ms.length yc,.slice yb y.ds.length ye]] w fun e w'=>e= .returned (.int .i64 (iy x.ds y.ds))∧Grw w w':=by
 have HX:=aa hx;have HY:=aa hy;have HC:Hid (∀W:World,Below w.heap.size w W→Calls Tryz.prog 127 #[.slice xb x.ds.length xe,.slice yb y.ds.length ye,.func (.func 128) #[] #[]] W fun e w'=>e= .returned (.int .i64 (iy x.ds y.ds))∧Grw W w'):=fun W hW=>kL _ _ _ _ W (HX.out.below hW zr) (HY.out.below hW zr) hl hl2;clear hx hy HX HY;generalize iy x.ds y.ds=R at HC⊢;have hA:Grw w ((w.alloc (.cells #[.int .i64 x.t,.int .i64 x.p,.slice xa x.ms.length xc,.slice xb x.ds.length xe] 84)).alloc (.cells #[.int .i64 y.t,.int .i64 y.p,.slice ya y.ms.length yc,.slice yb y.ds.length ye] 84)):=((Grw.refl w).alloc _).alloc _;go_enter Tryz.func126,Tryz.ntmps126;go_wp2_with fail
 refine(ag HC _ hA.below).mono ?_;rintro e w1 ⟨rfl,hg1⟩;have hg:=hA.trans hg1;go_wp2_with fail
 go_ret;exact⟨rfl,hg⟩
def OrdAt (w:World) (g:Nat):Prop:=∃q,w.cell? ⟨g,0,none⟩=some (.slice (some ⟨q,0,none⟩) 6 6)∧w.cell? ⟨q,0,none⟩=some (.func (.func 119) #[] #[])∧w.cell? ⟨q,1,none⟩=some (.func (.func 120) #[] #[])∧w.cell? ⟨q,2,none⟩=some (.func (.func 121) #[] #[])
 ∧w.cell? ⟨q,3,none⟩=some (.func (.func 122) #[] #[])∧w.cell? ⟨q,4,none⟩=some (.func (.func 123) #[] #[])∧w.cell? ⟨q,5,none⟩=some (.func (.func 126) #[] #[])
theorem OrdAt.below {w w':World} {g:Nat} (h:OrdAt w g) (hb:Below w.heap.size w w'):OrdAt w' g:=by
 obtain⟨q,h0,h1,h2,h3,h4,h5,h6⟩:=h;exact⟨q,ae h0 hb zr,ae h1 hb zr,ae h2 hb zr,ae h3 hb zr,ae h4 hb zr,ae h5 hb zr,ae h6 hb zr⟩
def vX (x y:Fl):Int:=
 if aS x.t y.t≠0 then aS x.t y.t else if aS y.p x.p≠0 then aS y.p x.p else if aS (x.ms.length:Int) (y.ms.length:Int)≠0 then aS (x.ms.length:Int) (y.ms.length:Int)else
 if aS (x.ds.length:Int) (y.ds.length:Int)≠0 then aS (x.ds.length:Int) (y.ds.length:Int)else if fi x.ms y.ms≠0 then fi x.ms y.ms else iy x.ds y.ds
theorem lf (x y:Fl) (xa ya xb yb:Option Addr) (xc yc xe ye g:Nat) (w:World) (hO:OrdAt w g) (h1:MsAt w (.slice xa x.ms.length xc) x.ms) (h2:DsAt w (.slice xb x.ds.length xe) x.ds) (h3:MsAt w (.slice ya y.ms.length yc) y.ms) (h4:DsAt w (.slice yb y.ds.length ye) y.ds)
  (l1:x.ms.length≤2000000) (l2:x.ds.length≤2000000) (l3:y.ms.length≤2000000) (l4:y.ds.length≤2000000):
  Calls Tryz.prog 169 #[.agg #[.int .i64 x.t,.int .i64 x.p,.slice xa x.ms.length xc,.slice xb x.ds.length xe],.agg #[.int .i64 y.t,.int .i64 y.p,.slice ya y.ms.length yc,.slice yb y.ds.length ye],.pointer (some ⟨g,0,none⟩)] w fun e w'=>e= .returned (.int .i64 (vX x y))∧Grw w w':=by
 have K1:=aa (fun W=>r8 x.t x.p y.t y.p xa ya xb yb x.ms.length xc y.ms.length yc x.ds.length xe y.ds.length ye W);have K2:=aa (fun W=>rD x.t x.p y.t y.p xa ya xb yb x.ms.length xc y.ms.length yc x.ds.length xe y.ds.length ye W);have K3:=aa (fun W=>qQ x.t x.p y.t y.p xa ya xb yb x.ms.length xc y.ms.length yc x.ds.length xe y.ds.length ye W);have K4:=aa (fun W=>rG x.t x.p y.t y.p xa ya xb yb x.ms.length xc y.ms.length yc x.ds.length xe y.ds.length ye W);have K5:=aa (fun W (hW:Below w.heap.size w W)=>qp x y xa ya xb yb xc yc xe ye W (h1.below hW zr) (h3.below hW zr) l1 l3);have K6:=aa (fun W (hW:Below w.heap.size w W)=>r9 x y xa ya xb yb xc yc xe ye W (h2.below hW zr) (h4.below hW zr) l2 l4);clear h1 h2 h3 h4;have HO:Hid (vX x y=if aS x.t y.t≠0 then aS x.t y.t else if aS y.p x.p≠0 then aS y.p x.p else if aS (x.ms.length:Int) (y.ms.length:Int)≠0 then aS (x.ms.length:Int) (y.ms.length:Int)else
  if aS (x.ds.length:Int) (y.ds.length:Int)≠0 then aS (x.ds.length:Int) (y.ds.length:Int)else if fi x.ms y.ms≠0 then fi x.ms y.ms else iy x.ds y.ds):=rfl
 generalize vX x y=R at*;generalize aS x.t y.t=r1 at*;generalize aS y.p x.p=r2 at*;generalize aS (x.ms.length:Int) (y.ms.length:Int)=r3 at*;generalize aS (x.ds.length:Int) (y.ds.length:Int)=r4 at*;generalize fi x.ms y.ms=r5 at*;generalize iy x.ds y.ds=r6 at*;obtain⟨q,o0,o1,o2,o3,o4,o5,o6⟩:=hO;have hgl:=bM o0;have hql:=bM o1;go_enter Tryz.func169,Tryz.ntmps169;go_wp2_with fail
 obtain⟨W1,hW1⟩:∃W1,W1=(w.alloc (.cells #[.int .i64 x.t,.int .i64 x.p,.slice xa x.ms.length xc,.slice xb x.ds.length xe] 84)).alloc (.cells #[.int .i64 y.t,.int .i64 y.p,.slice ya y.ms.length yc,.slice yb y.ds.length ye] 84):=⟨_,rfl⟩;have hgW:Grw w W1:=by rw [hW1];exact((Grw.refl w).alloc _).alloc _
 have hbW:=hgW.below;have b0:W1.cell? ⟨w.heap.size,0,none⟩=some (.int .i64 x.t):=by rw [hW1];simp
 have b1:W1.cell? ⟨w.heap.size,1,none⟩=some (.int .i64 x.p):=by rw [hW1];simp
 have b2:W1.cell? ⟨w.heap.size,2,none⟩=some (.slice xa x.ms.length xc):=by rw [hW1];simp
 have b3:W1.cell? ⟨w.heap.size,3,none⟩=some (.slice xb x.ds.length xe):=by rw [hW1];simp
 have d0:W1.cell? ⟨w.heap.size+1,0,none⟩=some (.int .i64 y.t):=by
  rw [hW1];have e:w.heap.size+1=(w.alloc (.cells #[.int .i64 x.t,.int .i64 x.p,.slice xa x.ms.length xc,.slice xb x.ds.length xe] 84)).heap.size:=(by simp);rw [e];simp
 have d1:W1.cell? ⟨w.heap.size+1,1,none⟩=some (.int .i64 y.p):=by
  rw [hW1];have e:w.heap.size+1=(w.alloc (.cells #[.int .i64 x.t,.int .i64 x.p,.slice xa x.ms.length xc,.slice xb x.ds.length xe] 84)).heap.size:=(by simp);rw [e];simp
 have d2:W1.cell? ⟨w.heap.size+1,2,none⟩=some (.slice ya y.ms.length yc):=by
  rw [hW1];have e:w.heap.size+1=(w.alloc (.cells #[.int .i64 x.t,.int .i64 x.p,.slice xa x.ms.length xc,.slice xb x.ds.length xe] 84)).heap.size:=(by simp);rw [e];simp
 have d3:W1.cell? ⟨w.heap.size+1,3,none⟩=some (.slice yb y.ds.length ye):=by
  rw [hW1];have e:w.heap.size+1=(w.alloc (.cells #[.int .i64 x.t,.int .i64 x.p,.slice xa x.ms.length xc,.slice xb x.ds.length xe] 84)).heap.size:=(by simp);rw [e];simp
 replace o1:=ae o1 hbW zr;replace o2:=ae o2 hbW zr;replace o3:=ae o3 hbW zr;replace o4:=ae o4 hbW zr;replace o5:=ae o5 hbW zr;replace o6:=ae o6 hbW zr;rw [←hW1];clear hW1 o0;go_loopw [11] (fun i wr=>∃k:Nat,k≤6∧i= .int .i64 k∧Hid ((1≤k→r1=0)∧(2≤k→r2=0)∧(3≤k→r3=0)∧(4≤k→r4=0)∧(5≤k→r5=0)∧(6≤k→r6=0))∧Grw W1 wr) (fun i _=>6-(intOf i).toNat)
 case atStart=>exact⟨0,by omega,rfl,aa ⟨fun h=>absurd h (by omega),fun h=>absurd h (by omega),fun h=>absurd h (by omega),fun h=>absurd h (by omega),fun h=>absurd h (by omega),fun h=>absurd h (by omega)⟩,Grw.refl _⟩
 case round=>
  obtain⟨k,hk,rfl,HZ,hgr⟩:=hrel;have hbr:=hgr.below;have hgw:=hgW.trans hgr;have hbw:=hgw.below;replace b0:=ae b0 hbr zr;replace b1:=ae b1 hbr zr;replace b2:=ae b2 hbr zr;replace b3:=ae b3 hbr zr;replace d0:=ae d0 hbr zr;replace d1:=ae d1 hbr zr;replace d2:=ae d2 hbr zr;replace d3:=ae d3 hbr zr;replace o1:=ae o1 hbr zr;replace o2:=ae o2 hbr zr;replace o3:=ae o3 hbr zr;replace o4:=ae o4 hbr zr;replace o5:=ae o5 hbr zr;replace o6:=ae o6 hbr zr;have hc:k=0∨k=1∨k=2∨k=3∨k=4∨k=5∨k=6:=(by omega);rcases hc with rfl | rfl | rfl | rfl | rfl | rfl | rfl
  ·go_wp2_with fail
   refine(ag K1 _).mono ?_;rintro e w1 ⟨rfl,hg1⟩;have hg2:=hgr.trans hg1;have hg3:=hgw.trans hg1;by_cases hr:r1=0
   ·have HZ2:Hid ((1≤1→r1=0)∧(2≤1→r2=0)∧(3≤1→r3=0)∧(4≤1→r4=0)∧(5≤1→r5=0)∧(6≤1→r6=0)):=by
     obtain⟨z1,z2,z3,z4,z5,z6⟩:=HZ.out;exact aa ⟨fun _=>hr,fun h=>absurd h (by omega),fun h=>absurd h (by omega),fun h=>absurd h (by omega),fun h=>absurd h (by omega),fun h=>absurd h (by omega)⟩
    rw [hr];clear HZ;go_wp2_with fail
    go_roundw
    case rel=>exact⟨1,by omega,rfl,HZ2,hg2⟩
    case measure=>simp [intOf]
   ·have HV:Hid (R=r1):=by
     obtain⟨z1,z2,z3,z4,z5,z6⟩:=HZ.out;show _=_;rw [HO.out,if_pos hr]
    clear HZ;go_wp2_with fail
    go_ret;exact⟨am HV.out.symm,hg3⟩
  ·go_wp2_with fail
   refine(ag K2 _).mono ?_;rintro e w1 ⟨rfl,hg1⟩;have hg2:=hgr.trans hg1;have hg3:=hgw.trans hg1;by_cases hr:r2=0
   ·have HZ2:Hid ((1≤2→r1=0)∧(2≤2→r2=0)∧(3≤2→r3=0)∧(4≤2→r4=0)∧(5≤2→r5=0)∧(6≤2→r6=0)):=by
     obtain⟨z1,z2,z3,z4,z5,z6⟩:=HZ.out;exact aa ⟨fun _=>z1 (by omega),fun _=>hr,fun h=>absurd h (by omega),fun h=>absurd h (by omega),fun h=>absurd h (by omega),fun h=>absurd h (by omega)⟩
    rw [hr];clear HZ;go_wp2_with fail
    go_roundw
    case rel=>exact⟨2,by omega,rfl,HZ2,hg2⟩
    case measure=>simp [intOf]
   ·have HV:Hid (R=r2):=by
     obtain⟨z1,z2,z3,z4,z5,z6⟩:=HZ.out;show _=_;rw [HO.out,if_neg (fun h=>h (z1 (by omega))),if_pos hr]
    clear HZ;go_wp2_with fail
    go_ret;exact⟨am HV.out.symm,hg3⟩
  ·go_wp2_with fail
   refine(ag K3 _).mono ?_;rintro e w1 ⟨rfl,hg1⟩;have hg2:=hgr.trans hg1;have hg3:=hgw.trans hg1;by_cases hr:r3=0
   ·have HZ2:Hid ((1≤3→r1=0)∧(2≤3→r2=0)∧(3≤3→r3=0)∧(4≤3→r4=0)∧(5≤3→r5=0)∧(6≤3→r6=0)):=by
     obtain⟨z1,z2,z3,z4,z5,z6⟩:=HZ.out;exact aa ⟨fun _=>z1 (by omega),fun _=>z2 (by omega),fun _=>hr,fun h=>absurd h (by omega),fun h=>absurd h (by omega),fun h=>absurd h (by omega)⟩
    rw [hr];clear HZ;go_wp2_with fail
    go_roundw
    case rel=>exact⟨3,by omega,rfl,HZ2,hg2⟩
    case measure=>simp [intOf]
   ·have HV:Hid (R=r3):=by
     obtain⟨z1,z2,z3,z4,z5,z6⟩:=HZ.out;show _=_;rw [HO.out,if_neg (fun h=>h (z1 (by omega))),if_neg (fun h=>h (z2 (by omega))),if_pos hr]
    clear HZ;go_wp2_with fail
    go_ret;exact⟨am HV.out.symm,hg3⟩
  ·go_wp2_with fail
   refine(ag K4 _).mono ?_;rintro e w1 ⟨rfl,hg1⟩;have hg2:=hgr.trans hg1;have hg3:=hgw.trans hg1;by_cases hr:r4=0
   ·have HZ2:Hid ((1≤4→r1=0)∧(2≤4→r2=0)∧(3≤4→r3=0)∧(4≤4→r4=0)∧(5≤4→r5=0)∧(6≤4→r6=0)):=by
     obtain⟨z1,z2,z3,z4,z5,z6⟩:=HZ.out;exact aa ⟨fun _=>z1 (by omega),fun _=>z2 (by omega),fun _=>z3 (by omega),fun _=>hr,fun h=>absurd h (by omega),fun h=>absurd h (by omega)⟩
    rw [hr];clear HZ;go_wp2_with fail
    go_roundw
    case rel=>exact⟨4,by omega,rfl,HZ2,hg2⟩
    case measure=>simp [intOf]
   ·have HV:Hid (R=r4):=by
     obtain⟨z1,z2,z3,z4,z5,z6⟩:=HZ.out;show _=_;rw [HO.out,if_neg (fun h=>h (z1 (by omega))),if_neg (fun h=>h (z2 (by omega))),if_neg (fun h=>h (z3 (by omega))),if_pos hr]
    clear HZ;go_wp2_with fail
    go_ret;exact⟨am HV.out.symm,hg3⟩
  ·go_wp2_with fail
   refine(ag K5 _ hbw).mono ?_;rintro e w1 ⟨rfl,hg1⟩;have hg2:=hgr.trans hg1;have hg3:=hgw.trans hg1;by_cases hr:r5=0
   ·have HZ2:Hid ((1≤5→r1=0)∧(2≤5→r2=0)∧(3≤5→r3=0)∧(4≤5→r4=0)∧(5≤5→r5=0)∧(6≤5→r6=0)):=by
     obtain⟨z1,z2,z3,z4,z5,z6⟩:=HZ.out;exact aa ⟨fun _=>z1 (by omega),fun _=>z2 (by omega),fun _=>z3 (by omega),fun _=>z4 (by omega),fun _=>hr,fun h=>absurd h (by omega)⟩
    rw [hr];clear HZ;go_wp2_with fail
    go_roundw
    case rel=>exact⟨5,by omega,rfl,HZ2,hg2⟩
    case measure=>simp [intOf]
   ·have HV:Hid (R=r5):=by
     obtain⟨z1,z2,z3,z4,z5,z6⟩:=HZ.out;show _=_;rw [HO.out,if_neg (fun h=>h (z1 (by omega))),if_neg (fun h=>h (z2 (by omega))),if_neg (fun h=>h (z3 (by omega))),if_neg (fun h=>h (z4 (by omega))),if_pos hr]
    clear HZ;go_wp2_with fail
    go_ret;exact⟨am HV.out.symm,hg3⟩
  ·go_wp2_with fail
   refine(ag K6 _ hbw).mono ?_;rintro e w1 ⟨rfl,hg1⟩;have hg2:=hgr.trans hg1;have hg3:=hgw.trans hg1;by_cases hr:r6=0
   ·have HZ2:Hid ((1≤6→r1=0)∧(2≤6→r2=0)∧(3≤6→r3=0)∧(4≤6→r4=0)∧(5≤6→r5=0)∧(6≤6→r6=0)):=by
     obtain⟨z1,z2,z3,z4,z5,z6⟩:=HZ.out;exact aa ⟨fun _=>z1 (by omega),fun _=>z2 (by omega),fun _=>z3 (by omega),fun _=>z4 (by omega),fun _=>z5 (by omega),fun _=>hr⟩
    rw [hr];clear HZ;go_wp2_with fail
    go_roundw
    case rel=>exact⟨6,by omega,rfl,HZ2,hg2⟩
    case measure=>simp [intOf]
   ·have HV:Hid (R=r6):=by
     obtain⟨z1,z2,z3,z4,z5,z6⟩:=HZ.out;show _=_;rw [HO.out,if_neg (fun h=>h (z1 (by omega))),if_neg (fun h=>h (z2 (by omega))),if_neg (fun h=>h (z3 (by omega))),if_neg (fun h=>h (z4 (by omega))),if_neg (fun h=>h (z5 (by omega)))]
    clear HZ;go_wp2_with fail
    go_ret;exact⟨am HV.out.symm,hg3⟩
  ·have HV:Hid (R=0):=by
    obtain⟨z1,z2,z3,z4,z5,z6⟩:=HZ.out;show _=_;rw [HO.out,if_neg (fun h=>h (z1 (by omega))),if_neg (fun h=>h (z2 (by omega))),if_neg (fun h=>h (z3 (by omega))),if_neg (fun h=>h (z4 (by omega))),if_neg (fun h=>h (z5 (by omega))),z6 (by omega)]
   clear HZ;go_wp2_with fail
   go_ret;exact⟨am HV.out.symm,hgw⟩
def key (a:Fl):List Int:=[a.t, -a.p,(a.ms.length:Int),(a.ds.length:Int)]++fm a.ms++fd a.ds
theorem ke:fR [] []=0:=rfl
theorem eE (b:Int) (y:List Int):fR [] (b::y)<0:=by simp [fR]
theorem dp (a:Int) (x:List Int):0<fR (a::x) []:=by simp [fR]
theorem cn (a b:Int) (x y:List Int):fR (a::x) (b::y)=if a<b then-1 else if b<a then 1 else fR x y:=rfl
theorem oy:∀x y:List Int,fR x y=0→x=y
 | [],[],_=>rfl
 | [],b::y,h=>by have:=eE b y;omega
 | a::x,[],h=>by have:=dp a x;omega
 | a::x,b::y,h=>by
  rw [cn]at h;split at h
  ·omega
  ·split at h
   ·omega
   ·rw [oy x y h,show a=b by omega]
theorem oK:∀x:List Int,fR x x=0
 | []=>rfl
 | a::x=>by rw [cn,if_neg (by omega),if_neg (by omega)];exact oK x
theorem oC:∀x y:List Int,fR x y<0↔0<fR y x
 | [],[]=>by simp [ke]
 | [],b::y=>by have:=eE b y;have:=dp b y;omega
 | a::x,[]=>by have:=eE a x;have:=dp a x;omega
 | a::x,b::y=>by
  have ih:=oC x y;rw [cn,cn];split <;>split <;>(try split) <;>first | omega | exact ih
theorem nJ:∀x y z:List Int,fR x y<0→fR y z<0→fR x z<0
 | [],[],z,h,_=>by simp [ke]at h
 | [],b::y,[],_,h=>by have:=dp b y;omega
 | [],b::y,c::z,_,_=>eE c z
 | a::x,[],z,h,_=>by have:=dp a x;omega
 | a::x,b::y,[],_,h=>by have:=dp b y;omega
 | a::x,b::y,c::z,h1,h2=>by
  have ih:=nJ x y z;rw [cn]at h1 h2⊢;split at h1 <;>split at h2 <;>(try split at h1) <;>(try split at h2) <;>split <;>(try split) <;>first | omega | exact ih h1 h2 |(exfalso;omega)
theorem kE (a b:Fl):plc a b=fR (key a) (key b):=by
 unfold plc AW key;simp only [List.cons_append,List.nil_append];simp only [cn];have h1:(b.p<a.p)↔(-a.p< -b.p):=by omega
 have h2:(a.p<b.p)↔(-b.p< -a.p):=by omega
 simp only [h1,h2]
theorem wn:∀x y:List Mt,fm x=fm y→x=y
 | [],[],_=>rfl
 | [],y::ys,h=>by simp [fm]at h
 | x::xs,[],h=>by simp [fm]at h
 | x::xs,y::ys,h=>by
  obtain⟨a,b,c⟩:=x;obtain⟨a',b',c'⟩:=y;have h':a=a'∧b=b'∧c=c'∧fm xs=fm ys:=(by simpa [fm] using h);obtain⟨rfl,rfl,rfl,h4⟩:=h';rw [wn xs ys h4]
theorem wA:∀x y:List Do,fd x=fd y→x=y
 | [],[],_=>rfl
 | [],y::ys,h=>by simp [fd]at h
 | x::xs,[],h=>by simp [fd]at h
 | x::xs,y::ys,h=>by
  obtain⟨a,b,c⟩:=x;obtain⟨a',b',c'⟩:=y;have h':a=a'∧b=b'∧c=c'∧fd xs=fd ys:=(by simpa [fd] using h);obtain⟨rfl,rfl,rfl,h4⟩:=h';rw [wA xs ys h4]
theorem ze (a b:Fl) (h:key a=key b):a=b:=by
 obtain⟨t,p,ms,ds⟩:=a;obtain⟨t',p',ms',ds'⟩:=b;unfold key at h;simp only [List.cons_append,List.nil_append,List.cons.injEq]at h;obtain⟨rfl,h2,h3,h4,h5⟩:=h;have hl:(fm ms).length=(fm ms').length:=by rw [pe,pe];omega
 obtain⟨h6,h7⟩:=List.append_inj h5 hl;rw [wn _ _ h6,wA _ _ h7,show p=p' by omega]
theorem eK {a b:Fl} (h:plc a b=0):a=b:=ze a b (oy _ _ (by rw [←kE];exact h))
theorem dY (a:Fl):plc a a=0:=by rw [kE];exact oK _
theorem fF (a b:Fl):plc a b<0↔0<plc b a:=by rw [kE,kE];exact oC _ _
theorem jv {a b c:Fl} (h1:plc a b<0) (h2:plc b c<0):plc a c<0:=by rw [kE]at*;exact nJ _ _ _ h1 h2
theorem ry (a b c a' b' c':Int) (x y:List Int):fR (a::b::c::x) (a'::b'::c'::y)=if or3 (aS a a') (aS b b') (aS c c')≠0 then or3 (aS a a') (aS b b') (aS c c')else fR x y:=by
 rw [cn,cn,cn];unfold or3 aS;split
 ·simp
 ·split
  ·simp
  ·split
   ·simp
   ·split
    ·simp
    ·split
     ·simp
     ·split
      ·simp
      ·simp
theorem uj:∀(xs ys:List Mt) (u v:List Int),xs.length=ys.length→fR (fm xs++u) (fm ys++v)=if fi xs ys≠0 then fi xs ys else fR u v
 | [],[],u,v,_=>by simp [fm,fi]
 | [],_::_,_,_,h=>by simp at h
 | _::_,[],_,_,h=>by simp at h
 | x::xs,y::ys,u,v,h=>by
  have ih:=uj xs ys u v (by simpa using h);have e1:fm (x::xs)++u=x.f::x.m::x.v::(fm xs++u):=(by simp [fm]);have e2:fm (y::ys)++v=y.f::y.m::y.v::(fm ys++v):=(by simp [fm]);have e3:fi (x::xs) (y::ys)=if or3 (aS x.f y.f) (aS x.m y.m) (aS x.v y.v)≠0 then or3 (aS x.f y.f) (aS x.m y.m) (aS x.v y.v)else fi xs ys:=rfl;rw [e1,e2,ry,ih,e3];by_cases h0:or3 (aS x.f y.f) (aS x.m y.m) (aS x.v y.v)=0
  ·simp [h0]
  ·simp [h0]
theorem tX:∀(xs ys:List Do),xs.length=ys.length→fR (fd xs) (fd ys)=iy xs ys
 | [],[],_=>rfl
 | [],_::_,h=>by simp at h
 | _::_,[],h=>by simp at h
 | x::xs,y::ys,h=>by
  have ih:=tX xs ys (by simpa using h);have e1:fd (x::xs)=x.k::x.a::x.n::fd xs:=(by simp [fd]);have e2:fd (y::ys)=y.k::y.a::y.n::fd ys:=(by simp [fd]);rw [e1,e2,ry,ih];rfl
theorem mP (a b:Fl):vX a b=plc a b:=by
 unfold plc AW vX;simp only [List.cons_append,List.nil_append];rw [cn,cn,cn,cn];unfold aS;by_cases h1:a.t<b.t
 ·simp [h1]
 ·by_cases h2:b.t<a.t
  ·simp [h1,h2]
  ·by_cases h3:b.p<a.p
   ·simp [h1,h2,h3]
   ·by_cases h4:a.p<b.p
    ·simp [h1,h2,h3,h4]
    ·by_cases h5:(a.ms.length:Int)<b.ms.length
     ·simp [h1,h2,h3,h4];simp at h5;simp [h5]
     ·by_cases h6:(b.ms.length:Int)<a.ms.length
      ·simp [h1,h2,h3,h4];simp at h5 h6;simp [h6,show¬a.ms.length<b.ms.length by omega]
      ·by_cases h7:(a.ds.length:Int)<b.ds.length
       ·simp [h1,h2,h3,h4];simp at h5 h6 h7;simp [h7,show¬a.ms.length<b.ms.length by omega,show¬b.ms.length<a.ms.length by omega]
       ·by_cases h8:(b.ds.length:Int)<a.ds.length
        ·simp [h1,h2,h3,h4];simp at h5 h6 h7 h8;simp [h8,show¬a.ms.length<b.ms.length by omega,show¬b.ms.length<a.ms.length by omega,show¬a.ds.length<b.ds.length by omega]
        ·rw [uj _ _ _ _ (by omega),tX _ _ (by omega)];simp only [if_neg h1,if_neg h2,if_neg h3,if_neg h4,if_neg h5,if_neg h6,if_neg h7,if_neg h8];simp
def Srt (l:List Fl):Prop:=l.Pairwise fun a b=>plc a b<0
theorem mO:∀a b:List Fl,Srt a→Srt b→(∀x,x∈a↔x∈b)→a=b
 | [],[],_,_,_=>rfl
 | [],y::ys,_,_,h=>by have:=(h y).2 (by simp);simp at this
 | x::xs,[],_,_,h=>by have:=(h x).1 (by simp);simp at this
 | x::xs,y::ys,ha,hb,h=>by
  unfold Srt at ha hb;rw [List.pairwise_cons]at ha hb;have hxy:x=y:=by
   have h1:=(h x).1 (by simp);have h2:=(h y).2 (by simp);simp only [List.mem_cons]at h1 h2;rcases h1 with h1 | h1
   ·exact h1
   ·rcases h2 with h2 | h2
    ·exact h2.symm
    ·have a1:=hb.1 x h1;have a2:=ha.1 y h2;rw [fF]at a1;omega
  subst hxy;have hx1:x∉xs:=fun h'=>by have:=ha.1 x h';rw [dY]at this;omega
  have hx2:x∉ys:=fun h'=>by have:=hb.1 x h';rw [dY]at this;omega
  rw [mO xs ys ha.2 hb.2 fun z=>?_];have hz:=h z;simp only [List.mem_cons]at hz;constructor
  ·intro h';rcases hz.1 (.inr h')with rfl | h''
   ·exact absurd h' hx1
   ·exact h''
  ·intro h';rcases hz.2 (.inr h')with rfl | h''
   ·exact absurd h' hx2
   ·exact h''
theorem uI (f:Fl) (out:List Fl) (hs:Srt out):∀k,k≤out.length→
  ((nx f out k)=(out.take k,false)∧∀j,j<k→0<plc f (out.getD j fl0))∨((nx f out k)=(out.take k,true)∧f∈out.take k)∨
  (∃j,j<k∧nx f out k=(out.take j++f::(out.take k).drop j,true)∧(∀i,i<j→0<plc f (out.getD i fl0))∧plc f (out.getD j fl0)<0)
 | 0,_=>.inl ⟨by simp [nx],fun j h=>absurd h (by omega)⟩
 | k+1,hk=>by
  have hkl:k<out.length:=(by omega);have ht:out.take (k+1)=out.take k++ [out.getD k fl0]:=by
   rw [List.take_succ_eq_append_getElem hkl];simp [List.getD,List.getElem?_eq_getElem hkl]
  obtain⟨y,hy⟩:∃y,y=out.getD k fl0:=⟨_,rfl⟩;rw [←hy]at ht;have hm:y∈out.take (k+1):=by rw [ht];simp
  rcases uI f out hs k (by omega)with⟨h1,h2⟩ |⟨h1,h2⟩ |⟨j,hj,h1,h2,h3⟩
  ·unfold nx;rw [h1, ←hy];simp only [Bool.false_or];by_cases hz:plc f y=0
   ·have hfe:=eK hz;refine .inr (.inl ⟨?_,by rw [hfe];exact hm⟩);rw [if_neg (by omega),ht];simp [hz]
   ·by_cases hl:plc f y<0
    ·refine .inr (.inr ⟨k,by omega,?_,h2,by rw [←hy];exact hl⟩);rw [if_pos ⟨hl,by simp [hz]⟩,ht];have hlen:(out.take k).length=k:=by simp;omega
     rw [List.drop_append_of_le_length (by omega),List.drop_of_length_le (by omega)];simp
    ·refine .inl ⟨?_,fun j hj=>?_⟩
     ·rw [if_neg (by omega),ht];simp [hz]
     ·by_cases e:j=k
      ·subst e;rw [←hy];omega
      ·exact h2 j (by omega)
  ·unfold nx;rw [h1, ←hy];simp only [Bool.true_or];refine .inr (.inl ⟨?_,by rw [ht];simp [h2]⟩);rw [if_neg (by simp),ht]
  ·unfold nx;rw [h1, ←hy];simp only [Bool.true_or];refine .inr (.inr ⟨j,by omega,?_,h2,h3⟩);rw [if_neg (by simp),ht];have hlen:(out.take k).length=k:=by simp;omega
   rw [List.drop_append_of_le_length (by omega)];simp
theorem yK (f:Fl) (out:List Fl) (hs:Srt out):Srt (rX f out)∧∀x,x∈rX f out↔x=f∨x∈out:=by
 have hp:∀i j,i<j→j<out.length→plc (out.getD i fl0) (out.getD j fl0)<0:=fun i j hij hj=>by
  have:=List.pairwise_iff_getElem.1 hs i j (by omega) hj hij;simpa [List.getD,List.getElem?_eq_getElem hj,List.getElem?_eq_getElem (show i<out.length by omega)] using this
 have hmem:∀x∈out,∃i,i<out.length∧x=out.getD i fl0:=fun x hx=>by
  obtain⟨i,hi,rfl⟩:=List.getElem_of_mem hx;exact⟨i,hi,by simp [List.getD,List.getElem?_eq_getElem hi]⟩
 unfold rX;rcases uI f out hs out.length zr with⟨h1,h2⟩ |⟨h1,h2⟩ |⟨j,hj,h1,h2,h3⟩
 ·rw [h1];simp only [List.take_length,Bool.false_eq_true,if_false];refine⟨?_,fun x=>by simp [or_comm]⟩;refine List.pairwise_append.2 ⟨hs,by simp,fun a ha b hb=>?_⟩;simp only [List.mem_singleton]at hb;subst hb;obtain⟨i,hi,rfl⟩:=hmem a ha;rw [fF];exact h2 i hi
 ·rw [h1];rw [List.take_length]at h2;simp only [List.take_length,if_true];exact⟨hs,fun x=>⟨fun h=>.inr h,fun h=>by rcases h with rfl | h;exact h2;exact h⟩⟩
 ·rw [h1];simp only [List.take_length,if_true];have hsp:out=out.take j++out.drop j:=(List.take_append_drop j out).symm;refine⟨?_,fun x=>?_⟩
  ·have hs':=hs;unfold Srt at hs';rw [hsp]at hs';obtain⟨ha,hb,hc⟩:=List.pairwise_append.1 hs';have hdl:∀x∈out.drop j,plc f x<0:=fun x hx=>by
    obtain⟨i,hi,rfl⟩:=List.getElem_of_mem hx;rw [List.getElem_drop];have hjl:j+i<out.length:=(by simpa using (by simp at hi;omega:j+i<out.length));have e:out[j+i]=out.getD (j+i) fl0:=(by simp [List.getD,List.getElem?_eq_getElem hjl]);rw [e];rcases Nat.eq_zero_or_pos i with h0 | h0
    ·subst h0;exact h3
    ·exact jv h3 (hp j (j+i) (by omega) hjl)
   refine List.pairwise_append.2 ⟨ha,List.pairwise_cons.2 ⟨hdl,hb⟩,fun a ha' b hb'=>?_⟩;simp only [List.mem_cons]at hb';rcases hb' with rfl | hb'
   ·obtain⟨i,hi,rfl⟩:=List.getElem_of_mem ha';rw [fF,List.getElem_take];have hil:i<j:=by simp at hi;omega
    have:=h2 i hil;simpa [List.getD,List.getElem?_eq_getElem (show i<out.length by omega)] using this
   ·exact hc a ha' b hb'
  ·rw [List.mem_append,List.mem_cons];have:x∈out↔x∈out.take j∨x∈out.drop j:=(by rw [←List.mem_append,List.take_append_drop]);rw [this];constructor
   ·rintro(h | h | h)
    ·exact .inr (.inl h)
    ·exact .inl h
    ·exact .inr (.inr h)
   ·rintro(h | h | h)
    ·exact .inr (.inl h)
    ·exact .inl h
    ·exact .inr (.inr h)
theorem mo (l:List Fl):∀k,k≤l.length→Srt (srt l k)∧∀x,x∈srt l k↔x∈l.take k
 | 0,_=>⟨List.Pairwise.nil,fun x=>by simp [srt]⟩
 | k+1,hk=>by
  obtain⟨h1,h2⟩:=mo l k (by omega);have hkl:k<l.length:=(by omega);have ht:l.take (k+1)=l.take k++ [l.getD k fl0]:=by
   rw [List.take_succ_eq_append_getElem hkl];simp [List.getD,List.getElem?_eq_getElem hkl]
  obtain⟨h3,h4⟩:=yK (l.getD k fl0) (srt l k) h1;refine⟨h3,fun x=>?_⟩;show x∈rX _ _↔_;rw [h4,h2,ht,List.mem_append,List.mem_singleton,or_comm]
theorem tj {l m:List Fl} (hs:Srt m) (hm:∀x,x∈m↔x∈l):m=srt l l.length:=by
 obtain⟨h1,h2⟩:=mo l l.length zr;exact mO _ _ hs h1 fun x=>by rw [h2,List.take_length];exact hm x
section
open Go.Sort (grow PermIn SortedIn SWO flatK get_flatK size_flatK HoldsK Holds putRowK putRow putCells mapBlock onCells)
theorem MsAt.kept0 {w w':World} {v:Value} {ms:List Mt} {row:Option Nat} (h:MsAt w v ms) (hg:w.grownBy w' row) (hne:ms.length=0∨v.ownBlock≠row):MsAt w' v ms:=by
 rcases hne with h0 | hne
 ·obtain⟨a,cap,rfl,hn,_⟩:=h;exact⟨a,cap,rfl,hn,.inl h0⟩
 ·exact h.kept hg (.inr hne)
theorem DsAt.kept0 {w w':World} {v:Value} {ds:List Do} {row:Option Nat} (h:DsAt w v ds) (hg:w.grownBy w' row) (hne:ds.length=0∨v.ownBlock≠row):DsAt w' v ds:=by
 rcases hne with h0 | hne
 ·obtain⟨a,cap,rfl,hn,_⟩:=h;exact⟨a,cap,rfl,hn,.inl h0⟩
 ·exact h.kept hg (.inr hne)
def Held (w:World) (x:Fv):Prop:=MsAt w x.mv x.f.ms∧DsAt w x.dv x.f.ds
theorem Held.below {w w':World} {B:Nat} {x:Fv} (h:Held w x) (hb:Below B w w') (hB:w.heap.size≤B):Held w' x:=⟨h.1.below hb hB,h.2.below hb hB⟩
theorem Held.one {w:World} {x:Fv} (h:Held w x):∀u∈C [x],u.oneCell'=true:=by
 obtain⟨⟨o,c,h1,_⟩,⟨o',c',h2,_⟩⟩:=h;intro u hu;simp [C]at hu;rcases hu with rfl | rfl | rfl | rfl
 ·rfl
 ·rfl
 ·rw [h1];rfl
 ·rw [h2];rfl
def FoOk (w:World) (blk:Nat) (x:Fv):Prop:=Held w x∧(x.f.ms.length=0∨x.mv.ownBlock≠some blk)∧(x.f.ds.length=0∨x.dv.ownBlock≠some blk)∧x.f.ms.length≤2000000∧x.f.ds.length≤2000000
theorem Bz (w:World) (blk:Nat):FoOk w blk fv0:=by
 refine⟨⟨⟨none,0,rfl,fun _=>rfl,.inl rfl⟩,⟨none,0,rfl,fun _=>rfl,.inl rfl⟩⟩,.inl rfl,.inl rfl,?_,?_⟩
 all_goals simp [fv0,fl0]
abbrev Fo (w:World) (blk:Nat):={x:Fv//FoOk w blk x}
abbrev sF (w:World) (blk:Nat):Inhabited (Fo w blk):=⟨⟨fv0,Bz w blk⟩⟩
def jx {w:World} {blk:Nat} (x:Fo w blk):List Value:=[.int .i64 x.1.f.t,.int .i64 x.1.f.p,x.1.mv,x.1.dv]
def cf4 {w:World} {blk:Nat} (x y:Fo w blk):Int:=vX x.1.f y.1.f
theorem lt4 {w:World} {blk:Nat} (x y:Fo w blk):ltOf cf4 x y=decide (plc x.1.f y.1.f<0):=by unfold ltOf cf4;rw [mP]
theorem BK (w:World) (blk:Nat):SWO (ltOf (cf4 (w:=w) (blk:=blk))) where
 irrefl x:=by rw [lt4,dY];rfl
 trans x y z h1 h2:=by
  rw [lt4]at*;simp only [decide_eq_true_eq]at*;exact jv h1 h2
 ntrans x y z h1 h2:=by
  rw [lt4]at*;simp only [decide_eq_false_iff_not]at*;intro h;have h3:¬0<plc y.1.f x.1.f:=fun h'=>h1 ((fF _ _).2 h');by_cases e:plc y.1.f x.1.f=0
  ·have:=eK e;rw [this]at h2;exact h2 h
  ·exact h2 (jv (show plc y.1.f x.1.f<0 by omega) h)
def OrdAt2 (w:World) (g blk:Nat):Prop:=g≠blk∧∃q,q≠blk∧w.cell? ⟨g,0,none⟩=some (.slice (some ⟨q,0,none⟩) 6 6)∧w.cell? ⟨q,0,none⟩=some (.func (.func 119) #[] #[])∧w.cell? ⟨q,1,none⟩=some (.func (.func 120) #[] #[])∧w.cell? ⟨q,2,none⟩=some (.func (.func 121) #[] #[])
 ∧w.cell? ⟨q,3,none⟩=some (.func (.func 122) #[] #[])∧w.cell? ⟨q,4,none⟩=some (.func (.func 123) #[] #[])∧w.cell? ⟨q,5,none⟩=some (.func (.func 126) #[] #[])
theorem OrdAt2.kept {w w':World} {g blk:Nat} (h:OrdAt2 w g blk) (hg:w.grownBy w' (some blk)):OrdAt w' g:=by
 obtain⟨hgb,q,hqb,h0,h1,h2,h3,h4,h5,h6⟩:=h;have n1:some g≠some blk:=by simpa using hgb
 have n2:some q≠some blk:=by simpa using hqb
 exact⟨q,hg.cell h0 n1,hg.cell h1 n2,hg.cell h2 n2,hg.cell h3 n2,hg.cell h4 n2,hg.cell h5 n2,hg.cell h6 n2⟩
theorem FoOk.kept {w w':World} {blk:Nat} {x:Fv} (h:FoOk w blk x) (hg:w.grownBy w' (some blk)):Held w' x:=⟨h.1.1.kept0 hg h.2.1,h.1.2.kept0 hg h.2.2.1⟩
theorem FoOk.kept2 {w w':World} {blk:Nat} {x:Fv} (h:FoOk w blk x) (hg:w.grownBy w' (some blk)):FoOk w' blk x:=⟨h.kept hg,h.2⟩
section
variable {w:World} {blk:Nat}
theorem qz (n:Nat) (d:Array (Fo w blk)) (os:Array Obj):letI:=sF w blk
  w.grownBy (sortWorldK jx 4 w blk 0 n d os) (some blk):=by
 letI:=sF w blk
 refine⟨rfl,rfl,rfl,?_,fun k hk hne=>?_⟩
 ·exact size_sortWorldK_c jx 4 w blk 0 n d os
 ·unfold sortWorldK;rw [Go.Sort.heap_grow_old _ _ (by rw [Go.Sort.size_putRowK];exact hk)];unfold putRowK putRow mapBlock;simp only [Array.getElem?_modify];rw [if_neg (fun h=>hne (by rw [h]))];rfl
theorem yj (g size:Nat) (hO:OrdAt2 w g blk):letI:=sF w blk
  CmpLays Tryz.prog 169 #[.pointer (some ⟨g,0,none⟩)] (jx (w:=w) (blk:=blk)) 4 cf4 blk 0 size w:=by
 letI:=sF w blk
 intro m os dk hd x y;have hg:=qz (w:=w) (blk:=blk) m dk os;have ho:=hO.kept hg;have hx:=x.2.kept hg;have hy:=y.2.kept hg;obtain⟨⟨xa,xc,e1,_⟩,⟨xb,xe,e2,_⟩⟩:=hx;obtain⟨⟨ya,yc,e3,_⟩,⟨yb,ye,e4,_⟩⟩:=hy;have hx':=x.2.kept hg;have hy':=y.2.kept hg;have h:=lf x.1.f y.1.f xa ya xb yb xc yc xe ye g _ ho (by rw [←e1];exact hx'.1) (by rw [←e2];exact hx'.2) (by rw [←e3];exact hy'.1) (by rw [←e4];exact hy'.2) x.2.2.2.2.1 x.2.2.2.2.2 y.2.2.2.2.1 y.2.2.2.2.2;have ea: #[Value.agg (jx x).toArray,Value.agg (jx y).toArray]++ #[Value.pointer (some ⟨g,0,none⟩)]= #[.agg #[.int .i64 x.1.f.t,.int .i64 x.1.f.p,.slice xa x.1.f.ms.length xc,.slice xb x.1.f.ds.length xe],.agg #[.int .i64 y.1.f.t,.int .i64 y.1.f.p,.slice ya y.1.f.ms.length yc,.slice yb y.1.f.ds.length ye],.pointer (some ⟨g,0,none⟩)]:=by
  unfold jx;rw [e1,e2,e3,e4];rfl
 rw [ea];exact h
theorem yS (lo:List Fv) (h:∀x∈lo,FoOk w blk x):letI:=sF w blk
  (flatK jx 4 (lo.pmap (fun x hx=>(⟨x,hx⟩:Fo w blk)) h).toArray).toList=C lo:=by
 letI:=sF w blk
 refine List.ext_getElem? fun j=>?_;have hl:(C lo).length=lo.length*4:=by
  clear h
  induction lo with
  | nil=>rfl
  | cons x r ih=>simp [C]at ih⊢;omega
 by_cases hj:j<lo.length*4
 ·have hsz:j<(flatK jx 4 (lo.pmap (fun x hx=>(⟨x,hx⟩:Fo w blk)) h).toArray).size:=by rw [size_flatK];simpa using hj
  rw [Array.getElem?_toList,Array.getElem?_eq_getElem hsz, ←getElem!_pos _ j hsz,get_flatK _ _ _ _ (by simpa using hj)];have hi:j/4<lo.length:=(by omega);have hd:(lo.pmap (fun x hx=>(⟨x,hx⟩:Fo w blk)) h).toArray[j/4]! =⟨lo[j/4],h _ (List.getElem_mem hi)⟩:=by
   rw [getElem!_pos _ _ (by simpa using hi)];simp
  rw [hd];obtain⟨c0,c1,c2,c3⟩:=Ai lo (j/4) hi;have hg:lo.getD (j/4) fv0=lo[j/4]:=(by simp [List.getD,List.getElem?_eq_getElem hi]);rw [hg]at c0 c1 c2 c3;have hm:j%4=0∨j%4=1∨j%4=2∨j%4=3:=(by omega);rcases hm with hm | hm | hm | hm
  ·have e:j=j/4*4:=(by omega);rw [hm];rw [←e]at c0;rw [c0];rfl
  ·have e:j=j/4*4+1:=(by omega);rw [hm];rw [←e]at c1;rw [c1];rfl
  ·have e:j=j/4*4+2:=(by omega);rw [hm];rw [←e]at c2;rw [c2];rfl
  ·have e:j=j/4*4+3:=(by omega);rw [hm];rw [←e]at c3;rw [c3];rfl
 ·rw [List.getElem?_eq_none (by rw [Array.length_toList,size_flatK];simp;omega),List.getElem?_eq_none (by omega)]
theorem pw (B cap g:Nat) (lo:List Fv) (hown:w.ownsRow B 84 4 (.slice (some ⟨blk,0,none⟩) lo.length cap) lo.length (C lo)) (hok:∀x∈lo,FoOk w blk x) (hO:OrdAt2 w g blk) (hl:lo.length≤2000000):
  Calls Tryz.prog 129 #[.slice (some ⟨blk,0,none⟩) lo.length cap,.func (.func 169) #[] #[.pointer (some ⟨g,0,none⟩)]] w fun e w'=>e= .returned (.tuple #[])∧∃lo':List Fv,lo'.Perm lo∧(lo'.Pairwise fun a b=>¬plc b.f a.f<0)∧w'.ownsRow B 84 4 (.slice (some ⟨blk,0,none⟩) lo.length cap) lo.length (C lo')∧w.grownBy w' (some blk):=by
 letI:=sF w blk
 have eg:∀args w,(callFunc 169 args).run Tryz.prog w= .ok (.enter 169 args) w:=enters_of Tryz.func169 (by kernel_rfl) rfl;have hfl:=yS lo hok;have hown':=hown;obtain⟨hlen,⟨h,_⟩ |⟨g',cap',cur,hv,hB,hheap,hnc,hcm,hcs,htk⟩⟩:=hown
 ·simp at h
 simp only [Value.slice.injEq,Option.some.injEq,Addr.mk.injEq]at hv;obtain⟨⟨rfl,_⟩,_,rfl⟩:=hv;have hblk:blk<w.heap.size:=by
  rcases Nat.lt_or_ge blk w.heap.size with h' | h'
  ·exact h'
  ·simp [Array.getElem?_eq_none h']at hheap
 obtain⟨d,hd⟩:∃d,d=(lo.pmap (fun x hx=>(⟨x,hx⟩:Fo w blk)) hok).toArray:=⟨_,rfl⟩;have hds:d.size=lo.length:=by rw [hd];simp
 rw [←hd]at hfl;have hH:HoldsK jx 4 w blk 0 d:=by
  intro j hj;rw [size_flatK,hds]at hj;have hc:=hown'.cellAt j hj;have hf:=hown'.frozenAt j;have e:(C lo)[j]? =some ((flatK jx 4 d)[j]!):=by
   rw [←hfl,Array.getElem?_toList,Array.getElem?_eq_getElem (by rw [size_flatK,hds];exact hj),getElem!_pos _ j (by rw [size_flatK,hds];exact hj)]
  rw [Nat.zero_add];exact⟨hc.trans e,hf⟩
 have hone:∀x:Fo w blk,∀v∈jx x,v.oneCell'=true:=fun x v hv=>x.2.1.one v (by simpa [C,jx] using hv);have hcon:=AnyQ.slices_SortFunc Tryz.sortFl 4 Tryz.isAgg84 Tryz.sizeOf84 jx (fun _=>rfl) hone cf4 (BK w blk) 169 #[.pointer (some ⟨g,0,none⟩)] blk 0 cap d w eg (yj g d.size hO) hH hblk (by omega);rw [hds]at hcon;refine Calls.mono hcon ?_;rintro e w' ⟨he,d',n,os,hp,hs,rfl⟩;have hds':d'.size=lo.length:=by rw [hp.1,hds]
 have hback:d'=((d'.toList.map (·.1)).pmap (fun x hx=>(⟨x,hx⟩:Fo w blk)) (fun x hx=>by
   obtain⟨y,_,rfl⟩:=List.mem_map.1 hx;exact y.2)).toArray:=by
  apply Array.toList_inj.1;refine List.ext_getElem (by simp) fun i h1 h2=>?_;simp
 have hfl':(flatK jx 4 d').toList=C (d'.toList.map (·.1)):=by
  have:=yS (w:=w) (blk:=blk) (d'.toList.map (·.1)) (fun x hx=>by
   obtain⟨y,_,rfl⟩:=List.mem_map.1 hx;exact y.2)
  rw [←hback]at this;exact this
 refine⟨he,d'.toList.map (·.1),?_,?_,?_,?_⟩
 ·have h1:=hp.2.2;have e1:d'.extract 0 lo.length=d':=by rw [←hds'];simp
  have e2:d.extract 0 lo.length=d:=by rw [←hds];simp
  rw [e1,e2]at h1;have h2:=h1.map (·.1);have e3:d.toList.map (·.1)=lo:=by
   rw [hd];exact List.ext_getElem (by simp) fun i h1 h2=>by simp
  rw [e3]at h2;exact h2
 ·rw [List.pairwise_iff_getElem];intro i j hi hj hij;have hi':i<d'.size:=(by simpa using hi);have hj':j<d'.size:=(by simpa using hj);have h1:=hs i j (Nat.zero_le _) hij (by omega);rw [lt4,getElem!_pos d' i hi',getElem!_pos d' j hj']at h1;simpa using h1
 ·have hcl:(C (d'.toList.map (·.1))).length=lo.length*4:=(by rw [←hfl',Array.length_toList,size_flatK,hds']);refine⟨hcl,.inr ⟨blk,cap,putCells id 0 (flatK jx 4 d') cur,rfl,hB,?_,hnc,hcm,?_,?_⟩⟩
  ·unfold sortWorldK;rw [Go.Sort.heap_grow_old _ _ (by rw [Go.Sort.size_putRowK];exact hblk)];unfold putRowK putRow mapBlock;simp only [Array.getElem?_modify,if_true];show(w.heap[blk]?).map _=_;rw [hheap];rfl
  ·rw [←hcs];simp [putCells]
  ·rw [←hfl'];refine List.ext_getElem? fun j=>?_;by_cases hj:j<lo.length*4
   ·rw [List.getElem?_take,if_pos hj,Array.getElem?_toList,Array.getElem?_toList];unfold putCells;rw [Array.getElem?_mapIdx];have hjc:j<cur.size:=by rw [hcs];omega
    have hjf:j<(flatK jx 4 d').size:=by rw [size_flatK,hds'];exact hj
    rw [Array.getElem?_eq_getElem hjc,Array.getElem?_eq_getElem hjf];simp only [Option.map_some,Nat.zero_le,true_and,Nat.zero_add,Nat.sub_zero,id];rw [if_pos hjf,getElem!_pos _ j hjf]
   ·rw [List.getElem?_eq_none (by simp;omega),List.getElem?_eq_none (by rw [Array.length_toList,size_flatK,hds'];omega)]
 ·exact qz n d' os
end
end
abbrev zb:Obj:=.cells #[.func (.func 119) #[] #[],.func (.func 120) #[] #[],.func (.func 121) #[] #[],.func (.func 122) #[] #[],.func (.func 123) #[] #[],.func (.func 126) #[] #[]] 136
theorem ga (w:World):
  Calls Tryz.prog 73 #[] w fun e w'=>e= .returned (.func (.func 169) #[] #[.pointer (some ⟨w.heap.size+1,0,none⟩)])∧w'=(w.alloc zb).alloc (.cells #[.slice (some ⟨w.heap.size,0,none⟩) 6 6] 216):=by
 have hT:Hid (∀(v:Value) (W:World),(∃a n c,v= .slice a n c)→Calls Tryz.prog 118 #[v] W fun e w'=>e= .returned (.func (.func 169) #[] #[.pointer (some ⟨W.heap.size,0,none⟩)])∧w'=W.alloc (.cells #[v] 216)):=by
  rintro v W ⟨a,n,c,rfl⟩;go_enter Tryz.func118,Tryz.ntmps118;go_wp2_with fail
  go_ret;exact⟨rfl,rfl⟩
 go_enter Tryz.func73,Tryz.ntmps73;go_wp2_with fail
 refine(ag hT _ _ ⟨_,_,_,rfl⟩).mono ?_;rintro e w1 ⟨rfl,rfl⟩;go_wp2_with fail
 go_ret;exact⟨by simp,rfl⟩
theorem dI (w:World):Calls Tryz.prog 73 #[] w fun e w'=>∃g,e= .returned (.func (.func 169) #[] #[.pointer (some ⟨g,0,none⟩)])∧Below w.heap.size w w':=
 (ga w).mono fun e w' ⟨he,hw⟩=>⟨_,he,by rw [hw];exact((Below.refl _ _).alloc zr _).alloc (by simp) _⟩
theorem gN (w:World):Calls Tryz.prog 80 #[.slice none 0 0] w fun e w'=>e= .returned (.slice none 0 0)∧w'=w:=by
 go_enter Tryz.func80,Tryz.ntmps80;go_wp2;go_ret;exact⟨rfl,rfl⟩
theorem iW (w:World):Calls Tryz.prog 77 #[.slice none 0 0] w fun e w'=>e= .returned (.slice none 0 0)∧w'=w:=by
 go_enter Tryz.func77,Tryz.ntmps77;go_wp2;go_ret;exact⟨rfl,rfl⟩
theorem iH (w:World):Calls Tryz.prog 78 #[.slice none 0 0] w fun e w'=>e= .returned (.slice none 0 0)∧w'=w:=by
 go_enter Tryz.func78,Tryz.ntmps78;go_wp2;go_ret;exact⟨rfl,rfl⟩
theorem nK (p:Option Addr) (n cap:Nat) (fv:Value) (w:World) (hn:n≤1):
  Calls Tryz.prog 200 #[.slice p n cap,.int .i64 0,.int .i64 n,fv] w fun e w'=>e= .returned (.tuple #[])∧w'=w:=by
 go_enter Tryz.func200,Tryz.ntmps200;go_wp2_with fail
 refine wp_loop_rounds 1 ?_;rw [rounds_succ];go_wp2_with fail
 go_end0;exact⟨rfl,rfl⟩
theorem pH (n:Nat) (w:World) (hn:n≤1):
  Calls Tryz.prog 104 #[.int .u64 n] w fun e w'=>(∃r:Int,e= .returned (.int .i64 r))∧w'=w:=by
 have hn':n=0∨n=1:=by omega
 have h64:Hid (∀W:World,Calls Tryz.prog 163 #[.int .u64 n] W fun e w'=>(∃r:Int,e= .returned (.int .i64 r))∧w'=W):=by
  intro W;rcases hn' with rfl | rfl
  ·go_enter Tryz.func163,Tryz.ntmps163;go_wp2;go_ret;exact⟨⟨_,rfl⟩,rfl⟩
  ·go_enter Tryz.func163,Tryz.ntmps163;go_wp2;go_ret;exact⟨⟨_,rfl⟩,rfl⟩
 rcases hn' with rfl | rfl
 all_goals
  go_enter Tryz.func104,Tryz.ntmps104;go_wp2_with fail
  refine(ag h64 _).mono ?_;rintro e w1 ⟨⟨r,rfl⟩,rfl⟩;go_wp2_with fail
  go_ret;exact⟨⟨_,rfl⟩,rfl⟩
theorem wN (p:Option Addr) (n cap:Nat) (lim:Int) (fv:Value) (w:World) (hn:n≤1):
  Calls Tryz.prog 171 #[.slice p n cap,.int .i64 0,.int .i64 n,.int .i64 lim,fv] w fun e w'=>e= .returned (.tuple #[])∧w'=w:=by
 go_enter Tryz.func171,Tryz.ntmps171;go_wp2_with fail
 refine wp_loop_rounds 1 ?_;rw [rounds_succ];go_wp2_with fail
 refine(nK _ _ _ _ _ hn).mono ?_;rintro e w1 ⟨rfl,rfl⟩;go_wp2_with fail
 (try simp only [Exit.inBlock,Exit.then]);refine bodyPost_ret (results_none rfl _ _ _) rfl ?_
 exact⟨rfl,rfl⟩
theorem gj (p:Option Addr) (n cap:Nat) (fv:Value) (w:World) (hn:n≤1):
  Calls Tryz.prog 129 #[.slice p n cap,fv] w fun e w'=>e= .returned (.tuple #[])∧w'=w:=by
 go_enter Tryz.func129,Tryz.ntmps129;go_wp2_with fail
 refine(pH n _ hn).mono ?_;rintro e w1 ⟨⟨r,rfl⟩,rfl⟩;go_wp2_with fail
 refine(wN _ _ _ _ _ _ hn).mono ?_;rintro e w1 ⟨rfl,rfl⟩;go_wp2_with fail
 go_end0;exact⟨rfl,rfl⟩
theorem yI:(Tryz.prog.info? 84).map (fun i=>(i.zero,i.size,i.bytes))=some (some (.agg #[.int .i64 0,.int .i64 0,.slice none 0 0,.slice none 0 0]),4,64):=by kernel_rfl
theorem mN (ad:Addr) (n cap:Nat) (news:List Value) (w:World) (hl:news.length=n*4) (hc:∀j u,news[j]? =some u→w.cell? (ad.add j)=some u) (h1:∀u∈news,u.oneCell'=true) (hm:n≤1000000000):
  Calls Tryz.prog 80 #[.slice (some ad) n cap] w fun e w'=>∃v,e= .returned v∧w'.ownsRow w.heap.size 84 4 v n news∧Below w.heap.size w w':=by
 obtain⟨i0,hi,hz0,hz1,hz2⟩:=info_parts yI;have HC:=aa hc;have H1:=aa h1;clear hc h1;go_enter Tryz.func80,Tryz.ntmps80;go_wp2_with (at_builtin;refine wpList_append_own _ rfl _ _ 79 rfl w.heap.size 84 i0 _ 4 64 Tryz.underlying79 hi hz0 hz1 hz2 rfl (by decide) _ _ _ rfl (World.ownsRow_nil w w.heap.size 84 4) ad n cap news rfl hl HC.out H1.out ?a1 ?a2 ?a3 ?_)
 case a1=>unfold maxLen;omega
 case a2=>omega
 case a3=>exact Nat.le_refl _
 intro v1 w1 ho1 hg1 _;have hb1:Below w.heap.size w w1:=(Below.refl _ w).grown hg1 (by simp) (ay (World.ownsRow_nil w w.heap.size 84 4));have ho1':w1.ownsRow w.heap.size 84 4 v1 n news:=by simpa using ho1
 clear ho1 hg1;go_wp2;go_ret;exact⟨v1,rfl,ho1',hb1⟩
theorem mM (w:World):Calls Tryz.prog 75 #[.slice none 0 0] w fun e w'=>e= .returned (.slice none 0 0)∧Below w.heap.size w w':=by
 go_enter Tryz.func75,Tryz.ntmps75;go_wp2_with fail
 refine(gN _).mono ?_;rintro e w1 ⟨rfl,rfl⟩;go_wp2_with fail
 refine(dI _).mono ?_;rintro e w1 ⟨g,rfl,hb⟩;go_wp2_with fail
 refine(gj none 0 0 _ _ (by omega)).mono ?_;rintro e w1 ⟨rfl,rfl⟩;go_wp2_with fail
 go_ret;exact⟨rfl,hb⟩
theorem AA {w:World} {a:Option Addr} {n cap:Nat} {fs:List Fl} (h:FsAt w (.slice a n cap) fs):n=fs.length∧(a=none→cap=0)∧∃lo:List Fv,lo.map Fv.f=fs∧(∀x∈lo,Held w x)∧(lo.length=0∨∃b off,a=some ⟨b,off,none⟩∧lo.length≤cap∧∀j u,(C lo)[j]? =some u→w.cell? ((⟨b,off,none⟩:Addr).add j)=some u):=by
 obtain⟨a',cap',hv,hn,hL⟩:=h;simp only [Value.slice.injEq]at hv;obtain⟨rfl,rfl,rfl⟩:=hv;refine⟨rfl,hn,?_⟩;rcases hL with h0 |⟨b,off,rfl,hcap,hc⟩
 ·obtain rfl:=List.eq_nil_of_length_eq_zero h0;exact⟨[],rfl,fun x hx=>by simp at hx,.inl rfl⟩
 ·have key:∀k,k≤fs.length→∃lo:List Fv,lo.map Fv.f=fs.take k∧(∀x∈lo,Held w x)∧∀j u,(C lo)[j]? =some u→w.cell? ⟨b,off+j,none⟩=some u:=by
   intro k
   induction k with
   | zero=>exact fun _=>⟨[],by simp,fun x hx=>by simp at hx,fun j u h=>by simp [C]at h⟩
   | succ k ih=>
    intro hk;obtain⟨lo,h1,h2,h3⟩:=ih (by omega);obtain⟨f0,f1,mv,dv,f2,f3,hm,hd⟩:=hc k (by omega);have hll:lo.length=k:=by
     have:=congrArg List.length h1;simpa [Nat.min_eq_left (show k≤fs.length by omega)] using this
    have hcl:(C lo).length=k*4:=by
     rw [←hll];clear h1 h2 h3 hll
     induction lo with
     | nil=>rfl
     | cons x r ih=>simp [C]at ih⊢;omega
    refine⟨lo++ [⟨fs.getD k fl0,mv,dv⟩],?_,fun x hx=>?_,fun j u hj=>?_⟩
    ·rw [List.take_succ_eq_append_getElem (by omega),List.map_append,h1];simp [List.getD,List.getElem?_eq_getElem (show k<fs.length by omega)]
    ·simp only [List.mem_append,List.mem_singleton]at hx;rcases hx with hx | rfl
     ·exact h2 x hx
     ·exact⟨hm,hd⟩
    ·rw [iY]at hj;by_cases hjl:j<k*4
     ·rw [List.getElem?_append_left (by omega)]at hj;exact h3 j u hj
     ·rw [List.getElem?_append_right (by omega),hcl]at hj;have hj4:j-k*4=0∨j-k*4=1∨j-k*4=2∨j-k*4=3:=by
       rcases Nat.lt_or_ge (j-k*4) 4 with h | h
       ·omega
       ·rw [List.getElem?_eq_none (by simpa [C] using h)]at hj;simp at hj
      rcases hj4 with e | e | e | e
      ·rw [e]at hj;simp [C]at hj;subst hj;rw [show off+j=off+k*4 by omega];exact f0
      ·rw [e]at hj;simp [C]at hj;subst hj;rw [show off+j=off+k*4+1 by omega];exact f1
      ·rw [e]at hj;simp [C]at hj;subst hj;rw [show off+j=off+k*4+2 by omega];exact f2
      ·rw [e]at hj;simp [C]at hj;subst hj;rw [show off+j=off+k*4+3 by omega];exact f3
  obtain⟨lo,h1,h2,h3⟩:=key fs.length zr;rw [List.take_length]at h1;have hll:lo.length=fs.length:=by rw [←h1];simp
  refine⟨lo,h1,h2,.inr ⟨b,off,rfl,by omega,fun j u hj=>?_⟩⟩;have e:(⟨b,off,none⟩:Addr).add j=⟨b,off+j,none⟩:=by by_cases h:j=0 <;>simp [Addr.add,h]
  rw [e];exact h3 j u hj
theorem uK (lo:List Fv):(C lo).length=lo.length*4:=by
 induction lo with
 | nil=>rfl
 | cons x r ih=>simp [C]at ih⊢;omega
theorem qW {w:World} {lo:List Fv} (h:∀x∈lo,Held w x):∀u∈C lo,u.oneCell'=true:=by
 intro u hu;simp only [C,List.mem_flatMap]at hu;obtain⟨x,hx,hu⟩:=hu;exact(h x hx).one u (by simpa [C] using hu)
theorem lq (v:Value) (fs:List Fl) (w:World) (hF:FsAt w v fs) (hl:fs.length≤2000000):
  Calls Tryz.prog 80 #[v] w fun e w'=>∃u lo,e= .returned u∧lo.map Fv.f=fs∧(∀x∈lo,Held w x)∧w'.ownsRow w.heap.size 84 4 u lo.length (C lo)∧Below w.heap.size w w':=by
 obtain⟨a,cap,rfl,_,_⟩:=id hF;obtain⟨_,hn,lo,h1,h2,h3⟩:=AA hF;have hll:lo.length=fs.length:=by rw [←h1];simp
 cases a with
 | none=>
  obtain rfl:=hn rfl;have h0:fs.length=0:=by
   rcases h3 with h |⟨_,_,h,_⟩
   ·omega
   ·simp at h
  have hlo:lo= []:=List.eq_nil_of_length_eq_zero (by omega);rw [h0];refine(gN w).mono ?_;rintro e w' ⟨rfl,rfl⟩;exact⟨_,lo,rfl,h1,h2,by rw [hlo];exact World.ownsRow_nil _ _ _ _,Below.refl _ _⟩
 | some ad=>
  have hnews:∀j u,(C lo)[j]? =some u→w.cell? (ad.add j)=some u:=by
   rcases h3 with h |⟨b,off,h4,_,h5⟩
   ·intro j u hj;rw [List.eq_nil_of_length_eq_zero h]at hj;simp [C]at hj
   ·cases h4;exact h5
  refine(mN ad fs.length cap (C lo) w (by rw [uK,hll]) hnews (qW h2) (by omega)).mono ?_;rintro e w' ⟨u,rfl,ho,hb⟩;exact⟨u,lo,rfl,h1,h2,by rw [hll];exact ho,hb⟩
theorem Held.away {w:World} {x:Fv} (h:Held w x) {blk:Nat} (hb:w.heap.size≤blk):(x.f.ms.length=0∨x.mv.ownBlock≠some blk)∧(x.f.ds.length=0∨x.dv.ownBlock≠some blk):=by
 obtain⟨⟨a,c,h1,_,h2⟩,⟨a',c',h3,_,h4⟩⟩:=h;constructor
 ·rcases h2 with h2 |⟨b,off,rfl,_,h2⟩
  ·exact .inl h2
  ·rcases Nat.eq_zero_or_pos x.f.ms.length with h0 | h0
   ·exact .inl h0
   ·have:=bM (h2 0 h0).1;exact .inr (by rw [h1];simp [Value.ownBlock];omega)
 ·rcases h4 with h4 |⟨b,off,rfl,_,h4⟩
  ·exact .inl h4
  ·rcases Nat.eq_zero_or_pos x.f.ds.length with h0 | h0
   ·exact .inl h0
   ·have:=bM (h4 0 h0).1;exact .inr (by rw [h3];simp [Value.ownBlock];omega)
theorem lz (v:Value) (fs:List Fl) (w:World) (hF:FsAt w v fs) (hl:fs.length≤2000000) (hs:∀f∈fs,f.ms.length≤2000000∧f.ds.length≤2000000):
  Calls Tryz.prog 75 #[v] w fun e w'=>∃u,e= .returned u∧∃lo:List Fv,(lo.map Fv.f).Perm fs∧(lo.Pairwise fun a b=>¬plc b.f a.f<0)∧(∀x∈lo,Held w x)∧w'.ownsRow w.heap.size 84 4 u lo.length (C lo)∧Below w.heap.size w w':=by
 have HF:=aa hF;obtain⟨a,cap,rfl,_,_⟩:=hF;go_enter Tryz.func75,Tryz.ntmps75;go_wp2_with fail
 refine(lq _ fs w HF.out hl).mono ?_;rintro e w1 ⟨u,lo,rfl,hlo,hh,ho1,hb1⟩;have HH:=aa hh;have HLO:=aa hlo;have HLL:Hid (lo.length≤2000000):=aa (by have:lo.length=fs.length:=(by rw [←hlo];simp);omega);clear hh hlo;by_cases h0:lo.length=0
 ·obtain⟨ua,uc,rfl⟩:∃a c,u= .slice a 0 c:=by
   obtain⟨_,⟨rfl,_⟩ |⟨g,cap,cur,rfl,_⟩⟩:=ho1
   ·exact⟨_,_,rfl⟩
   ·exact⟨_,_,by rw [h0]⟩
  have HO1:=aa ho1;clear ho1;go_wp2_with fail
  refine(dI _).mono ?_;rintro e w2 ⟨g,rfl,hb2⟩;go_wp2_with fail
  refine(gj _ 0 _ _ _ (by omega)).mono ?_;rintro e w3 ⟨rfl,rfl⟩;go_wp2_with fail
  go_ret;obtain rfl:=List.eq_nil_of_length_eq_zero h0;exact⟨_,rfl,[],by rw [HLO.out],List.Pairwise.nil,HH.out,aA HO1.out hb2,hb1.trans (hb2.mono hb1.size)⟩
 ·obtain⟨blk,uc,rfl,_⟩:=ho1.form (by omega);have HO1:=aa ho1;have hbl:=gi ho1;clear ho1;go_wp2_with fail
  refine(ga _).mono ?_;rintro e w2 ⟨rfl,hw2⟩;have hgr2:Below w1.heap.size w1 w2:=by rw [hw2];exact((Below.refl _ _).alloc zr _).alloc (by simp) _
  have HOA:Hid (OrdAt2 w2 (w1.heap.size+1) blk):=by
   rw [hw2];have e:w1.heap.size+1=(w1.alloc zb).heap.size:=(by simp);refine aa ⟨by omega,w1.heap.size,by omega,?_,?_⟩
   ·rw [e];simp
   ·simp
  have hb12:=hb1.trans (hgr2.mono hb1.size);have HO2:=aa (aA HO1.out hgr2);have HFO:Hid (∀x∈lo,FoOk w2 blk x):=fun x hx=>by
   have hx1:=HH.out x hx;have hf:x.f∈fs:=by rw [←HLO.out];exact List.mem_map_of_mem hx
   obtain⟨a1,a2⟩:=hx1.away (show w.heap.size≤blk from hbl.1);exact⟨hx1.below hb12 zr,a1,a2,(hs x.f hf).1,(hs x.f hf).2⟩
  clear hw2 hgr2;go_wp2_with fail
  refine(pw w.heap.size uc (w1.heap.size+1) lo HO2.out HFO.out HOA.out HLL.out).mono ?_;rintro e w3 ⟨rfl,lo',hp,hsrt,ho3,hg3⟩;have HP:=aa hp;have HS:=aa hsrt;have HO3:=aa ho3;clear hp hsrt ho3;go_wp2_with fail
  go_ret;have hl':lo'.length=lo.length:=HP.out.length_eq;exact⟨_,rfl,lo',by rw [←HLO.out];exact HP.out.map _,HS.out,fun x hx=>HH.out x (HP.out.mem_iff.1 hx),by rw [hl'];exact HO3.out,hb12.grown hg3 hb12.size (fun k hk=>by cases hk;exact hbl.1)⟩
theorem wF {w:World} {g j:Nat} {v:Value} {cur:Array Value} {e:TypeId} (h:w.heap[g]? =some (.cells cur e (0,0))):(w.setCell ⟨g,j,none⟩ v).heap[g]? =some (.cells (cur.setIfInBounds j v) e (0,0)):=by
 rw [Go.Sort.setCell_eq];unfold Go.Sort.mapBlock;simp only [Array.getElem?_modify,if_true];rw [h];rfl
theorem gK {w:World} {B e size n cap g:Nat} {xs:List Value} (h:w.ownsRow B e size (.slice (some ⟨g,0,none⟩) n cap) n xs) (j:Nat) (v:Value):(w.setCell ⟨g,j,none⟩ v).ownsRow B e size (.slice (some ⟨g,0,none⟩) n cap) n (xs.set j v):=by
 obtain⟨hlen,⟨h,_⟩ |⟨g',cap',cur,hv,hB,hheap,hnc,hcm,hcs,htk⟩⟩:=h
 ·simp at h
 simp only [Value.slice.injEq,Option.some.injEq,Addr.mk.injEq]at hv;obtain⟨⟨rfl,_⟩,_,rfl⟩:=hv;refine⟨by simpa using hlen,.inr ⟨g,cap,_,rfl,hB,wF hheap,hnc,hcm,by simpa using hcs,?_⟩⟩;rw [←htk,Array.toList_setIfInBounds];refine List.ext_getElem? fun i=>?_;simp only [List.getElem?_take,List.getElem?_set,List.length_take];by_cases hi:i<n*size
 ·simp only [hi,if_true];by_cases hji:j=i
  ·subst hji;simp only [if_true];have:(j<min (n*size) cur.toList.length)↔j<cur.toList.length:=(by omega);simp only [this]
  ·simp [hji]
 ·simp only [hi,if_false];by_cases hji:j=i
  ·subst hji;simp;omega
  ·simp [hji]
theorem set_far {xs:List Value} {j:Nat} {v:Value} (h:xs.length≤j):xs.set j v=xs:=List.set_eq_of_length_le h
theorem nd {w:World} {B e size n m cap g:Nat} {xs:List Value} (h:w.ownsRow B e size (.slice (some ⟨g,0,none⟩) n cap) n xs) (hm:m≤n):w.ownsRow B e size (.slice (some ⟨g,0,none⟩) m cap) m (xs.take (m*size)):=by
 obtain⟨hlen,⟨h,_⟩ |⟨g',cap',cur,hv,hB,hheap,hnc,hcm,hcs,htk⟩⟩:=h
 ·simp at h
 simp only [Value.slice.injEq,Option.some.injEq,Addr.mk.injEq]at hv;obtain⟨⟨rfl,_⟩,_,rfl⟩:=hv;have hmn:m*size≤n*size:=Nat.mul_le_mul_right _ hm;refine⟨by rw [List.length_take,hlen];omega,.inr ⟨g,cap,cur,rfl,hB,hheap,by omega,hcm,hcs,?_⟩⟩;rw [←htk,List.take_take,Nat.min_eq_left hmn]
theorem wW (l:List Fv) (m:Nat):(C l).take (m*4)=C (l.take m):=by
 induction l generalizing m with
 | nil=>simp [C]
 | cons x r ih=>
  cases m with
  | zero=>simp [C]
  | succ m=>
   have e:(m+1)*4=m*4+4:=(by omega);rw [e];simp only [List.take_succ_cons];have:=ih m;simp only [C,List.flatMap_cons]at this⊢;simp only [List.cons_append,List.nil_append,List.take_succ_cons];rw [this]
theorem AI:∀(l:List Fv) (i:Nat) (x:Fv),i<l.length→((((C l).set (i*4) (.int .i64 x.f.t)).set (i*4+1) (.int .i64 x.f.p)).set (i*4+2) x.mv).set (i*4+3) x.dv=C (l.set i x)
 | [],i,_,h=>by simp at h
 | y::r,0,x,_=>by simp [C]
 | y::r,i+1,x,h=>by
  have ih:=AI r i x (by simpa using h);have e:∀k,(i+1)*4+k=(i*4+k)+4:=fun k=>(by omega);have e0:(i+1)*4=(i*4)+4:=(by omega);simp only [C,List.flatMap_cons,List.set_cons_succ]at ih⊢;rw [e 1,e 2,e 3,e0];simp only [List.cons_append,List.nil_append,List.set_cons_succ];rw [ih]
theorem rI {w:World} {B cap g:Nat} {l:List Fv} (h:w.ownsRow B 84 4 (.slice (some ⟨g,0,none⟩) l.length cap) l.length (C l)) (i:Nat) (x:Fv) (hi:i<l.length):
  ((((w.setCell ⟨g,i*4,none⟩ (.int .i64 x.f.t)).setCell ⟨g,i*4+1,none⟩ (.int .i64 x.f.p)).setCell ⟨g,i*4+2,none⟩ x.mv).setCell ⟨g,i*4+3,none⟩ x.dv).ownsRow B 84 4 (.slice (some ⟨g,0,none⟩) (l.set i x).length cap) (l.set i x).length (C (l.set i x)):=by
 have:=gK (gK (gK (gK h (i*4) (.int .i64 x.f.t)) (i*4+1) (.int .i64 x.f.p)) (i*4+2) x.mv) (i*4+3) x.dv;rw [AI l i x hi]at this;simpa using this
theorem cU {w w':World} {g j:Nat} {v:Value} (h:w.grownBy w' (some g)):w.grownBy (w'.setCell ⟨g,j,none⟩ v) (some g):=
 ⟨h.os,h.tape,h.output,by simpa using h.size,fun k hk hne=>(Below.heap_setCell w' _ _ k (fun e=>hne (by rw [e]))).trans (h.block k hk hne)⟩
theorem jL (w:World) (row:Option Nat):w.grownBy w row:=⟨rfl,rfl,rfl,Nat.le_refl _,fun _ _ _=>rfl⟩
theorem jc {a b c:World} {g:Nat} (h:a.grownBy b (some g)) (k:b.grownBy c (some g)):a.grownBy c (some g):=
 ⟨k.os.trans h.os,k.tape.trans h.tape,k.output.trans h.output,Nat.le_trans h.size k.size,fun i hi hne=>(k.block i (Nat.lt_of_lt_of_le hi h.size) hne).trans (h.block i hi hne)⟩
theorem Below.grown1 {w w':World} {row:Option Nat} (h:Below w.heap.size w w'):w.grownBy w' row:=⟨h.os,h.tape,h.output,h.size,fun k hk _=>h.block k hk⟩
def EqAt (w:World) (ob g:Nat):Prop:=w.cell? ⟨ob,0,none⟩=some (.func (.func 169) #[] #[.pointer (some ⟨g,0,none⟩)])∧OrdAt w g
theorem EqAt.below {w w':World} {ob g:Nat} (h:EqAt w ob g) (hb:Below w.heap.size w w'):EqAt w' ob g:=⟨ae h.1 hb zr,h.2.below hb⟩
theorem yN (x y:Fv) (ob g:Nat) (w:World) (hE:EqAt w ob g) (hx:Held w x) (hy:Held w y) (l1:x.f.ms.length≤2000000) (l2:x.f.ds.length≤2000000) (l3:y.f.ms.length≤2000000) (l4:y.f.ds.length≤2000000):
  Calls Tryz.prog 76 #[.agg #[.int .i64 x.f.t,.int .i64 x.f.p,x.mv,x.dv],.agg #[.int .i64 y.f.t,.int .i64 y.f.p,y.mv,y.dv],.pointer (some ⟨ob,0,none⟩)] w fun e w'=>e= .returned (.bool (plc x.f y.f==0))∧Grw w w':=by
 have HX:=aa hx;have HY:=aa hy;have HE:=aa hE;have he0:=hE.1;have hobl:=bM he0;obtain⟨⟨xa,xc,e1,_⟩,⟨xb,xe,e2,_⟩⟩:=hx;obtain⟨⟨ya,yc,e3,_⟩,⟨yb,ye,e4,_⟩⟩:=hy;obtain⟨xf,xm,xd⟩:=x;obtain⟨yf,ym,yd⟩:=y;simp only at e1 e2 e3 e4 l1 l2 l3 l4;subst e1 e2 e3 e4;have hA:Grw w ((w.alloc (.cells #[.int .i64 xf.t,.int .i64 xf.p,.slice xa xf.ms.length xc,.slice xb xf.ds.length xe] 84)).alloc (.cells #[.int .i64 yf.t,.int .i64 yf.p,.slice ya yf.ms.length yc,.slice yb yf.ds.length ye] 84)):=((Grw.refl w).alloc _).alloc _;have HC:Hid (∀W:World,Below w.heap.size w W→Calls Tryz.prog 169 #[.agg #[.int .i64 xf.t,.int .i64 xf.p,.slice xa xf.ms.length xc,.slice xb xf.ds.length xe],.agg #[.int .i64 yf.t,.int .i64 yf.p,.slice ya yf.ms.length yc,.slice yb yf.ds.length ye],.pointer (some ⟨g,0,none⟩)] W fun e w'=>e= .returned (.int .i64 (plc xf yf))∧Grw W w'):=fun W hW=>by
  rw [←mP];exact lf xf yf xa ya xb yb xc yc xe ye g W (HE.out.2.below hW) (HX.out.1.below hW zr) (HX.out.2.below hW zr) (HY.out.1.below hW zr) (HY.out.2.below hW zr) l1 l2 l3 l4
 clear HX HY HE hE;simp only;generalize plc xf yf=R at*;go_enter Tryz.func76,Tryz.ntmps76;go_wp2_with fail
 refine(ag HC _ hA.below).mono ?_;rintro e w1 ⟨rfl,hg1⟩;have hg:=hA.trans hg1;go_wp2_with fail
 go_ret;exact⟨rfl,hg⟩
def cG (lo:List Fv):Nat→List Fv
 | 0=>[]
 | j+1=>if j≠0∧plc (lo.getD j fv0).f (lo.getD (j-1) fv0).f=0 then cG lo j else cG lo j++ [lo.getD j fv0]
theorem tY (lo:List Fv):∀j,(cG lo j).length≤j
 | 0=>by simp [cG]
 | j+1=>by
  have:=tY lo j;unfold cG;split
  ·omega
  ·simp;omega
theorem j8 (lo:List Fv):∀j,j≤lo.length→(∀i,1≤i→i<j→plc (lo.getD i fv0).f (lo.getD (i-1) fv0).f≠0)→cG lo j=lo.take j
 | 0,_,_=>by simp [cG]
 | j+1,hj,h=>by
  rw [cG,if_neg (fun hc=>h j (by omega) (by omega) hc.2),j8 lo j (by omega) (fun i h1 h2=>h i h1 (by omega)),List.take_succ_eq_append_getElem (by omega)];simp [List.getD,List.getElem?_eq_getElem (show j<lo.length by omega)]
theorem qY (lo:List Fv):∀j,j≤lo.length→∀x∈cG lo j,x∈lo.take j
 | 0,_,x,hx=>by simp [cG]at hx
 | j+1,hj,x,hx=>by
  have ih:=qY lo j (by omega) x;have ht:lo.take (j+1)=lo.take j++ [lo.getD j fv0]:=by
   rw [List.take_succ_eq_append_getElem (by omega)];simp [List.getD,List.getElem?_eq_getElem (show j<lo.length by omega)]
  rw [ht,List.mem_append];rw [cG]at hx;split at hx
  ·exact .inl (ih hx)
  ·rw [List.mem_append]at hx;rcases hx with hx | hx
   ·exact .inl (ih hx)
   ·exact .inr hx
theorem rA (lo:List Fv) (hs:lo.Pairwise fun a b=>¬plc b.f a.f<0):∀j,j≤lo.length→Srt ((cG lo j).map Fv.f)∧(∀f,f∈(cG lo j).map Fv.f↔f∈(lo.take j).map Fv.f)∧(1≤j→∃r,cG lo j=r++ [(cG lo j).getLast?.getD fv0]∧((cG lo j).getLast?.getD fv0).f=(lo.getD (j-1) fv0).f)
 | 0,_=>⟨List.Pairwise.nil,fun f=>by simp [cG],fun h=>absurd h (by omega)⟩
 | j+1,hj=>by
  obtain⟨h1,h2,h3⟩:=rA lo hs j (by omega);have ht:lo.take (j+1)=lo.take j++ [lo.getD j fv0]:=by
   rw [List.take_succ_eq_append_getElem (by omega)];simp [List.getD,List.getElem?_eq_getElem (show j<lo.length by omega)]
  rw [cG];by_cases hc:j≠0∧plc (lo.getD j fv0).f (lo.getD (j-1) fv0).f=0
  ·rw [if_pos hc];have hfe:=eK hc.2;obtain⟨r,h4,h5⟩:=h3 (by omega);refine⟨h1,fun f=>?_,fun _=>⟨r,h4,by rw [h5, ←hfe];rfl⟩⟩;rw [h2,ht,List.map_append,List.mem_append];constructor
   ·exact .inl
   ·rintro(h | h)
    ·exact h
    ·simp only [List.map_cons,List.map_nil,List.mem_singleton]at h;rw [h,hfe];have hj1:j-1<(lo.take j).length:=by simp;omega
     have:lo.getD (j-1) fv0∈lo.take j:=by
      have e:lo.getD (j-1) fv0=(lo.take j)[j-1]:=by
       rw [List.getElem_take];simp [List.getD,List.getElem?_eq_getElem (show j-1<lo.length by omega)]
      rw [e];exact List.getElem_mem _
     exact List.mem_map_of_mem this
  ·rw [if_neg hc];refine⟨?_,fun f=>?_,fun _=>⟨cG lo j,by simp,by simp⟩⟩
   ·rw [List.map_append];refine List.pairwise_append.2 ⟨h1,by simp,fun a ha b hb=>?_⟩;simp only [List.map_cons,List.map_nil,List.mem_singleton]at hb;subst hb;rw [h2]at ha;obtain⟨x,hx,rfl⟩:=List.mem_map.1 ha;obtain⟨i,hi,rfl⟩:=List.getElem_of_mem hx;have hi':i<j:=by simp at hi;omega
    rw [List.getElem_take];have hp:∀p q,p<q→q<lo.length→¬plc (lo.getD q fv0).f (lo.getD p fv0).f<0:=fun p q hpq hq=>by
     have:=List.pairwise_iff_getElem.1 hs p q (by omega) hq hpq;simpa [List.getD,List.getElem?_eq_getElem hq,List.getElem?_eq_getElem (show p<lo.length by omega)] using this
    have e:lo[i]=lo.getD i fv0:=(by simp [List.getD,List.getElem?_eq_getElem (show i<lo.length by omega)]);rw [e];have a1:=hp i j hi' (by omega);have a1':¬0<plc (lo.getD i fv0).f (lo.getD j fv0).f:=fun h=>a1 ((fF _ _).2 h);by_cases hz:plc (lo.getD i fv0).f (lo.getD j fv0).f=0
    ·exfalso;have hfe:=eK hz;rcases Nat.lt_or_ge i (j-1)with hij | hij
     ·have b1:=hp i (j-1) hij (by omega);have b2:=hp (j-1) j (by omega) (by omega);rw [←hfe]at b2;have b2':¬0<plc (lo.getD (j-1) fv0).f (lo.getD i fv0).f:=fun h=>b2 ((fF _ _).2 h);have b3:plc (lo.getD (j-1) fv0).f (lo.getD i fv0).f=0:=(by omega);have b4:=eK b3;refine hc ⟨by omega,?_⟩;rw [b4,hfe];exact dY _
     ·have hij':i=j-1:=(by omega);subst hij';refine hc ⟨by omega,?_⟩;rw [←hfe];exact dY _
    ·omega
   ·rw [List.map_append,List.mem_append,h2,ht,List.map_append,List.mem_append]
def EqAt2 (w:World) (ob g blk:Nat):Prop:=ob≠blk∧w.cell? ⟨ob,0,none⟩=some (.func (.func 169) #[] #[.pointer (some ⟨g,0,none⟩)])∧OrdAt2 w g blk
theorem EqAt2.kept {w w':World} {ob g blk:Nat} (h:EqAt2 w ob g blk) (hg:w.grownBy w' (some blk)):EqAt w' ob g:=⟨hg.cell h.2.1 (by simpa using h.1),h.2.2.kept hg⟩
theorem dq {w:World} {B blk cap:Nat} {l:List Fv} (h:w.ownsRow B 84 4 (.slice (some ⟨blk,0,none⟩) l.length cap) l.length (C l)) {i:Nat} (hi:i<l.length):
  w.cell? ⟨blk,i*4,none⟩=some (.int .i64 (l.getD i fv0).f.t)∧w.cell? ⟨blk,i*4+1,none⟩=some (.int .i64 (l.getD i fv0).f.p)∧w.cell? ⟨blk,i*4+2,none⟩=some (l.getD i fv0).mv∧w.cell? ⟨blk,i*4+3,none⟩=some (l.getD i fv0).dv:=by
 obtain⟨c0,c1,c2,c3⟩:=Ai l i hi;exact⟨(h.cellAt _ (by omega)).trans c0,(h.cellAt _ (by omega)).trans c1,(h.cellAt _ (by omega)).trans c2,(h.cellAt _ (by omega)).trans c3⟩
theorem er {l:List Fv} {i:Nat} (hi:i<l.length):l.getD i fv0∈l:=by
 rw [List.getD_eq_getElem?_getD,List.getElem?_eq_getElem hi];exact List.getElem_mem hi
theorem ig {B e size n cap g:Nat} {xs:List Value}:∀(vs:List Value) (o:Nat) (w:World),w.ownsRow B e size (.slice (some ⟨g,0,none⟩) n cap) n xs→n*size≤o→(w.setCells g o vs).ownsRow B e size (.slice (some ⟨g,0,none⟩) n cap) n xs
 | [],_,_,h,_=>h
 | v::r,o,w,h,ho=>by
  have h1:=gK h o v;rw [set_far (by rw [h.1];exact ho)]at h1;exact ig r (o+1) _ h1 (by omega)
theorem fP {g:Nat} {w:World}:∀(vs:List Value) (o:Nat) (w':World),w.grownBy w' (some g)→w.grownBy (w'.setCells g o vs) (some g)
 | [],_,_,h=>h
 | v::r,o,w',h=>fP r (o+1) _ (cU h)
theorem lA (w:World) (b o n c:Nat) (hn:0<n) (hc:∀j,j<n*4→(w.cell? ⟨b,o+j,none⟩).isSome=true) (hf:∀j,j<n*4→w.frozen? ⟨b,o+j,none⟩=false):
  ∃vs,∀ty,(Builtin.clear_ #[79] ty #[.slice (some ⟨b,o,none⟩) n c]).run Tryz.prog w= .ok (.tuple #[]) (w.setCells b o vs):=by
 have hv:∀w,(zeroValue 84).run Tryz.prog w= .ok (.agg #[.int .i64 0,.int .i64 0,.slice none 0 0,.slice none 0 0]) w:=fun w=>by kernel_rfl
 refine⟨(Builtin.zeroCells #[.int .i64 0,.int .i64 0,.slice none 0 0,.slice none 0 0] n).toList,fun ty=>?_⟩;have hlen:(Builtin.zeroCells #[Value.int .i64 0,.int .i64 0,.slice none 0 0,.slice none 0 0] n).toList.length=n*4:=by simp [Builtin.zeroCells]
 have hone:∀v∈(Builtin.zeroCells #[Value.int .i64 0,.int .i64 0,.slice none 0 0,.slice none 0 0] n).toList,v.oneCell'=true:=by
  intro v hv;obtain⟨i,hi,rfl⟩:=List.getElem_of_mem hv;simp only [Builtin.zeroCells,Array.getElem_toList];simp;have hm:i%4=0∨i%4=1∨i%4=2∨i%4=3:=(by omega);rcases hm with e | e | e | e <;>simp [e] <;>rfl
 have hst:=run_storeCells_cells (P:=Tryz.prog) b o (Builtin.zeroCells #[.int .i64 0,.int .i64 0,.slice none 0 0,.slice none 0 0] n).toList 0 w (by rw [hlen];simpa using hc) (by rw [hlen];simpa using hf) hone;simp only [Nat.add_zero]at hst;obtain⟨m,rfl⟩:∃m,n=m+1:=⟨n-1,by omega⟩;simp [Builtin.clear_,run_underlying Tryz.underlying79,hv,hst,Value.cells]
theorem AM (n:Int) (h0:0≤n) (h1:n≤4000000):IntKind.i64.wrap n=n:=by
 simp [IntKind.wrap,IntKind.bits,IntKind.signed];split <;>omega
theorem rq (lo:List Fv) (B blk cap ob g:Nat) (w:World) (hown:w.ownsRow B 84 4 (.slice (some ⟨blk,0,none⟩) lo.length cap) lo.length (C lo)) (hE:EqAt2 w ob g blk) (hok:∀x∈lo,FoOk w blk x) (h1:1≤lo.length) (hl:lo.length≤2000000):
  Calls Tryz.prog 74 #[.slice (some ⟨blk,0,none⟩) lo.length cap,.func (.func 76) #[] #[.pointer (some ⟨ob,0,none⟩)]] w fun e w'=>e= .returned (.slice (some ⟨blk,0,none⟩) (cG lo lo.length).length cap)∧w'.ownsRow B 84 4 (.slice (some ⟨blk,0,none⟩) (cG lo lo.length).length cap) (cG lo lo.length).length (C (cG lo lo.length))∧w.grownBy w' (some blk):=by
 have HO:=aa hown;have HE:=aa hE;have HK:=aa hok;have hcap:lo.length≤cap:=by
  obtain⟨_,⟨h,_⟩ |⟨g',cap',cur,hv,_,_,hnc,_⟩⟩:=hown
  ·simp at h
  ·simp only [Value.slice.injEq]at hv;omega
 clear hown hE hok;have HC:Hid (∀(W:World) (x y:Fv),w.grownBy W (some blk)→x∈lo→y∈lo→Calls Tryz.prog 76 #[.agg #[.int .i64 x.f.t,.int .i64 x.f.p,x.mv,x.dv],.agg #[.int .i64 y.f.t,.int .i64 y.f.p,y.mv,y.dv],.pointer (some ⟨ob,0,none⟩)] W fun e w'=>e= .returned (.bool (plc x.f y.f==0))∧Grw W w'):=fun W x y hW hx hy=>
  yN x y ob g W (HE.out.kept hW) ((HK.out x hx).kept hW) ((HK.out y hy).kept hW) (HK.out x hx).2.2.2.1 (HK.out x hx).2.2.2.2 (HK.out y hy).2.2.2.1 (HK.out y hy).2.2.2.2
 by_cases h2:lo.length<2
 ·have hdd:cG lo lo.length=lo:=by
   rw [j8 lo lo.length zr (fun i a b=>by omega),List.take_length]
  rw [hdd];clear HC HE HK;go_enter Tryz.func74,Tryz.ntmps74;go_wp2_with fail
  go_ret;exact⟨rfl,HO.out,jL _ _⟩
 ·go_enter Tryz.func74,Tryz.ntmps74;go_wp2_with fail
  have hblkw:=(gi HO.out).2;go_loopw [5] (fun i wr=>∃k:Nat,1≤k∧k≤lo.length∧i= .int .i64 k∧Hid (∀j,1≤j→j<k→plc (lo.getD j fv0).f (lo.getD (j-1) fv0).f≠0)∧Grw w wr) (fun i _=>lo.length-(intOf i).toNat)
  case atStart=>exact⟨1,by omega,by omega,rfl,aa (fun j a b=>by omega),Grw.refl _⟩
  case round=>
   obtain⟨k,hk1,hk,rfl,HALL,hgr⟩:=hrel;have hbel:=hgr.below;have hgb:w.grownBy wr (some blk):=Below.grown1 hbel;have HOr:=aa (aA HO.out hbel);have hblkr:=Nat.lt_of_lt_of_le hblkw hbel.size;by_cases hlt:k<lo.length
   ·obtain⟨k',hkk⟩:∃k',k=k'+1:=⟨k-1,by omega⟩;have hkm:k-1=k':=(by omega);have hk'l:k'<lo.length:=(by omega);obtain⟨a0,a1,a2,a3⟩:=dq HOr.out hlt;obtain⟨b0,b1,b2,b3⟩:=dq HOr.out hk'l;have hX:=er hlt;have hY:=er hk'l;have HXo:=aa (HK.out _ hX);have HYo:=aa (HK.out _ hY);have HST:Hid (∀W:World,w.grownBy W (some blk)→Calls Tryz.prog 76 #[.agg #[.int .i64 (lo.getD k fv0).f.t,.int .i64 (lo.getD k fv0).f.p,(lo.getD k fv0).mv,(lo.getD k fv0).dv],.agg #[.int .i64 (lo.getD k' fv0).f.t,.int .i64 (lo.getD k' fv0).f.p,(lo.getD k' fv0).mv,(lo.getD k' fv0).dv],.pointer (some ⟨ob,0,none⟩)] W fun e w'=>e= .returned (.bool (plc (lo.getD k fv0).f (lo.getD k' fv0).f==0))∧Grw W w'):=fun W hW=>HC.out W _ _ hW hX hY;have HNX:Hid (plc (lo.getD k fv0).f (lo.getD k' fv0).f≠0→∀j,1≤j→j<k+1→plc (lo.getD j fv0).f (lo.getD (j-1) fv0).f≠0):=fun h j h1 h2=>by
     by_cases e:j=k
     ·subst e;rw [hkm];exact h
     ·exact HALL.out j h1 (by omega)
    have HDD:Hid (cG lo k=lo.take k):=j8 lo k hk HALL.out;have HD2:Hid (plc (lo.getD k fv0).f (lo.getD k' fv0).f=0→cG lo (k+1)=lo.take k):=fun h=>by
     rw [cG,if_pos ⟨by omega,by rw [hkm];exact h⟩];exact HDD.out
    generalize plc (lo.getD k fv0).f (lo.getD k' fv0).f=R at*;obtain⟨⟨xa,xc,e1,_⟩,⟨xb,xe,e2,_⟩⟩:=HXo.out.1;obtain⟨⟨ya,yc,e3,_⟩,⟨yb,ye,e4,_⟩⟩:=HYo.out.1;rw [e1]at a2 HST;rw [e2]at a3 HST;rw [e3]at b2 HST;rw [e4]at b3 HST;clear e1 e2 e3 e4 HXo HYo hX hY;generalize (lo.getD k fv0).f.t=xt at*;generalize (lo.getD k fv0).f.p=xp at*;generalize (lo.getD k fv0).f.ms.length=xml at*;generalize (lo.getD k fv0).f.ds.length=xdl at*;generalize (lo.getD k' fv0).f.t=yt at*;generalize (lo.getD k' fv0).f.p=yp at*;generalize (lo.getD k' fv0).f.ms.length=yml at*;generalize (lo.getD k' fv0).f.ds.length=ydl at*;have hwr:IntKind.i64.wrap ((k:Int)-1)=(k':Int):=by rw [show(k:Int)-1=(k':Int) by omega];exact AM _ (by omega) (by omega)
    have q1:(0:Int)≤(k:Int):=(by omega);have q2:(k:Int)<(lo.length:Int):=(by omega);have q3:(0:Int)≤(k':Int):=(by omega);have q4:(k':Int)<(lo.length:Int):=(by omega);have HKK:=aa hkk;clear hkk hkm;have hgd:w.grownBy wr.drew (some blk):=⟨hgb.os,hgb.tape,hgb.output,hgb.size,hgb.block⟩;go_wp2_with fail
    go_region_held3 (fun w'=>w'.cell? ⟨blk,k*4,none⟩=some (.int .i64 xt)∧w'.cell? ⟨blk,k*4+1,none⟩=some (.int .i64 xp)∧w'.cell? ⟨blk,k*4+2,none⟩=some (.slice xa xml xc)∧w'.cell? ⟨blk,k*4+3,none⟩=some (.slice xb xdl xe)∧w'.cell? ⟨blk,k'*4,none⟩=some (.int .i64 yt)∧w'.cell? ⟨blk,k'*4+1,none⟩=some (.int .i64 yp)∧w'.cell? ⟨blk,k'*4+2,none⟩=some (.slice ya yml yc)∧w'.cell? ⟨blk,k'*4+3,none⟩=some (.slice yb ydl ye)) (go_keep)
     (first |(go_at_call 76;refine(ag HST _ hgd).mono ?_;rintro e w1 ⟨rfl,hg1⟩;have hb1:=((Grw.refl wr).drew.trans hg1).below;have z0:=ae a0 hb1 zr;have z1:=ae a1 hb1 zr;have z2:=ae a2 hb1 zr;have z3:=ae a3 hb1 zr;have z4:=ae b0 hb1 zr;have z5:=ae b1 hb1 zr;have z6:=ae b2 hb1 zr;have z7:=ae b3 hb1 zr))
    have hgw:Grw w w1:=hgr.drew.trans hg1;have hgw1:w.grownBy w1 (some blk):=Below.grown1 hgw.below;have HO1:=aa (aA HO.out hgw.below);clear z0 z1 z2 z3 z4 z5 z6 z7 a0 a1 a2 a3 b0 b1 b2 b3 hb1 hg1 hgd HST;by_cases hR:R=0
    ·have HD3:=aa (HD2.out hR);subst hR;rw [show((0:Int)==0)=true from rfl];clear HNX HD2 HALL hgr hbel hgb HOr;have hkc:(k:Int)≤(cap:Int):=(by omega);have hkle:(k:Int)≤(lo.length:Int):=(by omega);go_wp2_with fail
     generalize wr.heap.size=zz at*
     rename World=>W0
     go_loopw [5,7] (fun p j wq=>∃(jj pp:Nat) (r:List Fv),p= .int .i64 pp∧j= .int .i64 jj∧1≤jj∧k+jj≤lo.length∧pp+1≤k+jj∧Hid (r.length=lo.length∧r.take pp=cG lo (k+jj)∧pp=(cG lo (k+jj)).length∧∀i,k+jj≤i+1→r.getD i fv0=lo.getD i fv0)∧Hid (wq.ownsRow B 84 4 (.slice (some ⟨blk,0,none⟩) r.length cap) r.length (C r))∧Hid (w.grownBy wq (some blk))) (fun _ j _=>lo.length-k-(intOf j).toNat)
     case atStart=>exact⟨1,k,lo,rfl,rfl,by omega,by omega,by omega,aa ⟨rfl,HD3.out.symm,by rw [HD3.out];simp;omega,fun i _=>rfl⟩,HO1,aa hgw1⟩
     case round=>
      clear HO1 hgw1 hgw;obtain⟨jj,pp,r,rfl,rfl,hj1,hjl,hpp,HI,HOq,HGq⟩:=hrel;have hblkq:=(gi HOq.out).2;by_cases hlt2:k+jj<lo.length
      ·obtain⟨jp,hjp⟩:∃jp,jj=jp+1:=⟨jj-1,by omega⟩;obtain⟨hrl,hrt,hrp,hrd⟩:=HI.out;have hxl:k+jj<r.length:=(by omega);have hyl:k+jp<r.length:=(by omega);obtain⟨a0,a1,a2,a3⟩:=dq HOq.out hxl;obtain⟨b0,b1,b2,b3⟩:=dq HOq.out hyl;rw [hrd (k+jj) (by omega)]at a0 a1 a2 a3;rw [hrd (k+jp) (by omega)]at b0 b1 b2 b3;have ex:(k+jj)*4=k*4+jj*4:=(by omega);have ey:(k+jp)*4=k*4+jp*4:=(by omega);rw [ex]at a0 a1 a2 a3;rw [ey]at b0 b1 b2 b3;have hX:=er hlt2;have hY:=er (show k+jp<lo.length by omega);have HXo:=aa (HK.out _ hX);have HYo:=aa (HK.out _ hY);have HST:Hid (∀W:World,w.grownBy W (some blk)→Calls Tryz.prog 76 #[.agg #[.int .i64 (lo.getD (k+jj) fv0).f.t,.int .i64 (lo.getD (k+jj) fv0).f.p,(lo.getD (k+jj) fv0).mv,(lo.getD (k+jj) fv0).dv],.agg #[.int .i64 (lo.getD (k+jp) fv0).f.t,.int .i64 (lo.getD (k+jp) fv0).f.p,(lo.getD (k+jp) fv0).mv,(lo.getD (k+jp) fv0).dv],.pointer (some ⟨ob,0,none⟩)] W fun e w'=>e= .returned (.bool (plc (lo.getD (k+jj) fv0).f (lo.getD (k+jp) fv0).f==0))∧Grw W w'):=fun W hW=>HC.out W _ _ hW hX hY;have HDN:Hid (cG lo (k+(jj+1))=if plc (lo.getD (k+jj) fv0).f (lo.getD (k+jp) fv0).f=0 then cG lo (k+jj)else cG lo (k+jj)++ [lo.getD (k+jj) fv0]):=by
        show _=_;have e:k+(jj+1)=(k+jj)+1:=(by omega);have e':k+jj-1=k+jp:=(by omega);rw [e,cG,e'];by_cases hc:plc (lo.getD (k+jj) fv0).f (lo.getD (k+jp) fv0).f=0
        ·rw [if_pos ⟨by omega,hc⟩,if_pos hc]
        ·rw [if_neg (fun h=>hc h.2),if_neg hc]
       have HIR:Hid (r.length=lo.length∧r.take pp=cG lo (k+jj)∧pp=(cG lo (k+jj)).length∧∀i,k+jj≤i+1→r.getD i fv0=lo.getD i fv0):=HI;obtain⟨x,hxd⟩:∃x,x=lo.getD (k+jj) fv0:=⟨_,rfl⟩;rw [←hxd]at HST HDN a0 a1 a2 a3 HXo;have HXD:=aa hxd;clear hxd hX hY hrt hrp hrd HI;generalize plc x.f (lo.getD (k+jp) fv0).f=R at*;obtain⟨⟨xa',xc',e1,_⟩,⟨xb',xe',e2,_⟩⟩:=HXo.out.1;obtain⟨⟨ya',yc',e3,_⟩,⟨yb',ye',e4,_⟩⟩:=HYo.out.1;rw [e1]at a2 HST;rw [e2]at a3 HST;rw [e3]at b2 HST;rw [e4]at b3 HST;have HE1:=aa e1;have HE2:=aa e2;clear e1 e2 e3 e4 HXo HYo;generalize (lo.getD (k+jp) fv0).f.t=yt' at*;generalize (lo.getD (k+jp) fv0).f.p=yp' at*;generalize (lo.getD (k+jp) fv0).f.ms.length=yml' at*;generalize (lo.getD (k+jp) fv0).f.ds.length=ydl' at*;obtain⟨xt',hxt⟩:∃z,z=x.f.t:=⟨_,rfl⟩;obtain⟨xp',hxp⟩:∃z,z=x.f.p:=⟨_,rfl⟩;obtain⟨xml',hxml⟩:∃z,z=x.f.ms.length:=⟨_,rfl⟩;obtain⟨xdl',hxdl⟩:∃z,z=x.f.ds.length:=⟨_,rfl⟩;rw [←hxt]at a0 HST;rw [←hxp]at a1 HST;rw [←hxml]at a2 HST HE1;rw [←hxdl]at a3 HST HE2;have HX4:Hid (xt'=x.f.t∧xp'=x.f.p):=⟨hxt,hxp⟩;clear hxt hxp hxml hxdl;have hwj:IntKind.i64.wrap ((jj:Int)-1)=(jp:Int):=by rw [show(jj:Int)-1=(jp:Int) by omega];exact AM _ (by omega) (by omega)
       have p1:(0:Int)≤(jj:Int):=(by omega);have p2:(jj:Int)<((lo.length-k:Nat):Int):=(by omega);have p3:(0:Int)≤(jp:Int):=(by omega);have p4:(jp:Int)<((lo.length-k:Nat):Int):=(by omega);have HJP:=aa hjp;clear hjp ex ey;have hgd:w.grownBy wr.drew (some blk):=⟨HGq.out.os,HGq.out.tape,HGq.out.output,HGq.out.size,HGq.out.block⟩;have HGD:=aa hgd;clear hgd;go_wp2_with fail
       go_region_held3 (fun w'=>w'.cell? ⟨blk,k*4+jj*4,none⟩=some (.int .i64 xt')∧w'.cell? ⟨blk,k*4+jj*4+1,none⟩=some (.int .i64 xp')∧w'.cell? ⟨blk,k*4+jj*4+2,none⟩=some (.slice xa' xml' xc')∧w'.cell? ⟨blk,k*4+jj*4+3,none⟩=some (.slice xb' xdl' xe')∧w'.cell? ⟨blk,k*4+jp*4,none⟩=some (.int .i64 yt')∧w'.cell? ⟨blk,k*4+jp*4+1,none⟩=some (.int .i64 yp')∧w'.cell? ⟨blk,k*4+jp*4+2,none⟩=some (.slice ya' yml' yc')∧w'.cell? ⟨blk,k*4+jp*4+3,none⟩=some (.slice yb' ydl' ye')) (go_keep)
        (first |(go_at_call 76;refine(ag HST _ (ag HGD)).mono ?_;rintro e w1 ⟨rfl,hg1⟩;have hb1:=((Grw.refl wr).drew.trans hg1).below;have z0:=ae a0 hb1 zr;have z1:=ae a1 hb1 zr;have z2:=ae a2 hb1 zr;have z3:=ae a3 hb1 zr;have z4:=ae b0 hb1 zr;have z5:=ae b1 hb1 zr;have z6:=ae b2 hb1 zr;have z7:=ae b3 hb1 zr))
       have HO1:=aa (aA HOq.out hb1);have HG1:=aa (jc HGq.out (Below.grown1 hb1));clear a0 a1 a2 a3 b0 b1 b2 b3 z4 z5 z6 z7 hg1 HST HOq HGq HGD;by_cases hR:R=0
       ·rw [if_pos hR]at HDN;have HN:Hid (r.length=lo.length∧r.take pp=cG lo (k+(jj+1))∧pp=(cG lo (k+(jj+1))).length∧∀i,k+(jj+1)≤i+1→r.getD i fv0=lo.getD i fv0):=by
         obtain⟨n1,n2,n3,n4⟩:=HIR.out;rw [HDN.out];exact aa ⟨n1,n2,n3,fun i hi=>n4 i (by omega)⟩
        clear HDN HIR;subst hR;rw [show((0:Int)==0)=true from rfl];go_wp2_with fail
        go_roundw
        case rel=>exact⟨jj+1,pp,r,rfl,by go_num,by omega,by omega,by omega,HN,HO1,HG1⟩
        case measure=>simp [intOf];omega
       ·rw [if_neg hR]at HDN;have hrb:(R==0)=false:=(by simpa using hR);have hppl:pp<r.length:=(by omega);obtain⟨c0,c1,c2,c3⟩:=dq HO1.out hppl;have f0:=HO1.out.frozenAt (pp*4);have f1:=HO1.out.frozenAt (pp*4+1);have f2:=HO1.out.frozenAt (pp*4+2);have f3:=HO1.out.frozenAt (pp*4+3);have HO4:=aa (rI HO1.out pp x hppl);rw [←HX4.out.1, ←HX4.out.2,HE1.out,HE2.out]at HO4;have HG4:=aa (cU (j:=pp*4+3) (v:=.slice xb' xdl' xe') (cU (j:=pp*4+2) (v:=.slice xa' xml' xc') (cU (j:=pp*4+1) (v:=.int .i64 xp') (cU (j:=pp*4) (v:=.int .i64 xt') HG1.out))));have HN:Hid ((r.set pp x).length=lo.length∧(r.set pp x).take (pp+1)=cG lo (k+(jj+1))∧pp+1=(cG lo (k+(jj+1))).length∧∀i,k+(jj+1)≤i+1→(r.set pp x).getD i fv0=lo.getD i fv0):=by
         obtain⟨n1,n2,n3,n4⟩:=HIR.out;rw [HDN.out];refine aa ⟨by simpa using n1,?_,by simp;omega,fun i hi=>?_⟩
         ·rw [←n2];rw [List.take_succ_eq_append_getElem (by simpa using hppl),List.take_set_of_le zr];simp
         ·rw [←n4 i (by omega)];simp [List.getD,show¬pp=i by omega]
        generalize (r.getD pp fv0).f.t=ct at*;generalize (r.getD pp fv0).f.p=cp at*;generalize (r.getD pp fv0).mv=cmv at*;generalize (r.getD pp fv0).dv=cdv at*;have t1:(0:Int)≤(pp:Int):=(by omega);have t2:(pp:Int)<(lo.length:Int):=(by omega);clear HDN HIR HE1 HE2 HX4 HO1 HG1;rw [hrb];clear hrb hR;go_wp2_with fail
        go_roundw
        case rel=>exact⟨jj+1,pp+1,r.set pp x,by go_num,by go_num,by omega,by omega,by omega,HN,HO4,HG4⟩
        case measure=>simp [intOf];omega
      ·obtain⟨hrl,hrt,hrp,hrd⟩:=HI.out;have hend:k+jj=lo.length:=(by omega);rw [hend]at hrt hrp;have HPP:=aa hrp;have HOP:Hid (wr.ownsRow B 84 4 (.slice (some ⟨blk,0,none⟩) pp cap) pp (C (cG lo lo.length))):=by
        have:=nd HOq.out (show pp≤r.length by omega);rw [wW,hrt]at this;exact aa this
       have hpl:pp<lo.length:=(by omega);obtain⟨vs,hclr⟩:∃vs,∀ty,(Builtin.clear_ #[79] ty #[.slice (some ⟨blk,pp*4,none⟩) (lo.length-pp) (cap-pp)]).run Tryz.prog wr= .ok (.tuple #[]) (wr.setCells blk (pp*4) vs):=
        lA wr blk (pp*4) (lo.length-pp) (cap-pp) (by omega) (fun j hj=>by rw [HOq.out.cellAt (pp*4+j) (by omega),List.getElem?_eq_getElem (by rw [uK];omega)];rfl) (fun j hj=>HOq.out.frozenAt _)
       have s1:((lo.length-k:Nat):Int)≤(jj:Int):=(by omega);have s2:(0:Int)≤(pp:Int):=(by omega);have s3:(pp:Int)≤(lo.length:Int):=(by omega);have s4:(pp:Int)≤(cap:Int):=(by omega);have HOE:=aa (ig vs (pp*4) wr HOP.out zr);have HGE:=aa (fP vs (pp*4) wr HGq.out);clear hrl hrt hrp hrd hend HOP HOq HGq HI hlt2 hj1 hjl hpp;go_wp2_with (simp only [hclr])
       go_ret;refine⟨?_,?_,HGE.out⟩
       ·rw [←HPP.out];rfl
       ·rw [←HPP.out];exact HOE.out
    ·have HN:=aa (HNX.out hR);clear HNX HD2;go_wp2_with fail
     go_roundw
     case rel=>exact⟨k+1,by omega,by omega,by go_num,HN,hgw⟩
     case measure=>simp [intOf];omega
   ·have hkl:k=lo.length:=(by omega);have HDD:Hid (cG lo lo.length=lo):=by
     show _=_;rw [j8 lo lo.length zr (fun j a b=>HALL.out j a (by omega)),List.take_length]
    have hge:((lo.length:Int))≤(k:Int):=(by omega);clear HALL hkl;go_wp2_with fail
    go_ret;refine⟨?_,?_,hgb⟩
    ·rw [HDD.out];rfl
    ·rw [HDD.out];exact HOr.out
theorem AQ:(Tryz.prog.info? 142).map (fun i=>(i.zero,i.size,i.bytes))=some (some (.agg #[.int .i64 0,.int .i64 0,.int .i64 0]),3,24):=by kernel_rfl
theorem Bc:(Tryz.prog.info? 145).map (fun i=>(i.zero,i.size,i.bytes))=some (some (.agg #[.int .i64 0,.int .i64 0,.int .i64 0]),3,24):=by kernel_rfl
theorem AO (l:List Do):(D l).length=3*l.length:=by
 induction l with
 | nil=>rfl
 | cons x r ih=>simp [D]at ih⊢;omega
theorem AC (b o j:Nat):(⟨b,o,none⟩:Addr).add j=⟨b,o+j,none⟩:=by by_cases h:j=0 <;>simp [Addr.add,h]
theorem sn (v:Value) (ms:List Mt) (w:World) (hM:MsAt w v ms) (hl:ms.length≤2000000):
  Calls Tryz.prog 77 #[v] w fun e w'=>∃u,e= .returned u∧MsAt w' u ms∧(∀k,u.ownBlock=some k→w.heap.size≤k)∧Below w.heap.size w w':=by
 obtain⟨i0,hi,hz0,hz1,hz2⟩:=info_parts AQ;have HM:=aa hM;obtain⟨a,cap,rfl,hn,hL⟩:=hM;cases a with
 | none=>
  obtain rfl:=hn rfl;have h0:ms.length=0:=by
   rcases hL with h |⟨_,_,h,_⟩
   ·exact h
   ·simp at h
  rw [h0];refine(iW w).mono ?_;rintro e w' ⟨rfl,rfl⟩;exact⟨_,rfl,⟨none,0,by rw [h0],fun _=>rfl,.inl h0⟩,fun k hk=>by simp [Value.ownBlock]at hk,Below.refl _ _⟩
 | some ad=>
  have hnews:∀j u,(M ms)[j]? =some u→w.cell? (ad.add j)=some u:=by
   rcases hL with h |⟨b,off,h4,_,h5⟩
   ·intro j u hj;rw [List.eq_nil_of_length_eq_zero h]at hj;simp [M]at hj
   ·cases h4;intro j u hj;have hjl:j<3*ms.length:=by
     rcases Nat.lt_or_ge j (3*ms.length)with h | h
     ·exact h
     ·rw [List.getElem?_eq_none (by rw [rN];exact h)]at hj;simp at hj
    obtain⟨c0,c1,c2⟩:=AU ms (j/3) (by omega);obtain⟨d0,d1,d2⟩:=h5 (j/3) (by omega);rw [AC];have hm:j%3=0∨j%3=1∨j%3=2:=(by omega);rcases hm with e | e | e
    ·have ej:j=j/3*3:=(by omega);rw [←ej]at c0 d0;rw [c0]at hj;rw [d0];exact hj
    ·have ej:j=j/3*3+1:=(by omega);rw [←ej]at c1;rw [c1]at hj;rw [show off+j=off+j/3*3+1 by omega,d1];exact hj
    ·have ej:j=j/3*3+2:=(by omega);rw [←ej]at c2;rw [c2]at hj;rw [show off+j=off+j/3*3+2 by omega,d2];exact hj
  have hone:∀u∈M ms,u.oneCell'=true:=by
   intro u hu;simp only [M,List.mem_flatMap]at hu;obtain⟨x,_,hu⟩:=hu;simp only [List.mem_cons,List.not_mem_nil,or_false]at hu;rcases hu with rfl | rfl | rfl <;>rfl
  have HN:=aa hnews;have H1:=aa hone;clear hnews hone hL hn;go_enter Tryz.func77,Tryz.ntmps77;go_wp2_with (at_builtin;refine wpList_append_own _ rfl _ _ 81 rfl w.heap.size 142 i0 _ 3 24 Tryz.underlying81 hi hz0 hz1 hz2 rfl (by decide) _ _ _ rfl (World.ownsRow_nil w w.heap.size 142 3) ad ms.length cap (M ms) rfl ?a0 HN.out H1.out ?a1 ?a2 ?a3 ?_)
  case a0=>rw [rN];omega
  case a1=>unfold maxLen;omega
  case a2=>omega
  case a3=>exact Nat.le_refl _
  intro v1 w1 ho1 hg1 _;have hb1:Below w.heap.size w w1:=(Below.refl _ w).grown hg1 (by simp) (ay (World.ownsRow_nil w w.heap.size 142 3));have ho1':w1.ownsRow w.heap.size 142 3 v1 ms.length (M ms):=(by simpa using ho1);have HMA:=aa (MsAt.of_own ho1');have HGE:=aa (ay ho1');clear ho1 hg1 ho1';go_wp2;go_ret;exact⟨v1,rfl,HMA.out,HGE.out,hb1⟩
theorem rl (v:Value) (ms:List Do) (w:World) (hM:DsAt w v ms) (hl:ms.length≤2000000):
  Calls Tryz.prog 78 #[v] w fun e w'=>∃u,e= .returned u∧DsAt w' u ms∧(∀k,u.ownBlock=some k→w.heap.size≤k)∧Below w.heap.size w w':=by
 obtain⟨i0,hi,hz0,hz1,hz2⟩:=info_parts Bc;have HM:=aa hM;obtain⟨a,cap,rfl,hn,hL⟩:=hM;cases a with
 | none=>
  obtain rfl:=hn rfl;have h0:ms.length=0:=by
   rcases hL with h |⟨_,_,h,_⟩
   ·exact h
   ·simp at h
  rw [h0];refine(iH w).mono ?_;rintro e w' ⟨rfl,rfl⟩;exact⟨_,rfl,⟨none,0,by rw [h0],fun _=>rfl,.inl h0⟩,fun k hk=>by simp [Value.ownBlock]at hk,Below.refl _ _⟩
 | some ad=>
  have hnews:∀j u,(D ms)[j]? =some u→w.cell? (ad.add j)=some u:=by
   rcases hL with h |⟨b,off,h4,_,h5⟩
   ·intro j u hj;rw [List.eq_nil_of_length_eq_zero h]at hj;simp [D]at hj
   ·cases h4;intro j u hj;have hjl:j<3*ms.length:=by
     rcases Nat.lt_or_ge j (3*ms.length)with h | h
     ·exact h
     ·rw [List.getElem?_eq_none (by rw [AO];exact h)]at hj;simp at hj
    obtain⟨c0,c1,c2⟩:=Be ms (j/3) (by omega);obtain⟨d0,d1,d2⟩:=h5 (j/3) (by omega);rw [AC];have hm:j%3=0∨j%3=1∨j%3=2:=(by omega);rcases hm with e | e | e
    ·have ej:j=j/3*3:=(by omega);rw [←ej]at c0 d0;rw [c0]at hj;rw [d0];exact hj
    ·have ej:j=j/3*3+1:=(by omega);rw [←ej]at c1;rw [c1]at hj;rw [show off+j=off+j/3*3+1 by omega,d1];exact hj
    ·have ej:j=j/3*3+2:=(by omega);rw [←ej]at c2;rw [c2]at hj;rw [show off+j=off+j/3*3+2 by omega,d2];exact hj
  have hone:∀u∈D ms,u.oneCell'=true:=by
   intro u hu;simp only [D,List.mem_flatMap]at hu;obtain⟨x,_,hu⟩:=hu;simp only [List.mem_cons,List.not_mem_nil,or_false]at hu;rcases hu with rfl | rfl | rfl <;>rfl
  have HN:=aa hnews;have H1:=aa hone;clear hnews hone hL hn;go_enter Tryz.func78,Tryz.ntmps78;go_wp2_with (at_builtin;refine wpList_append_own _ rfl _ _ 82 rfl w.heap.size 145 i0 _ 3 24 Tryz.underlying82 hi hz0 hz1 hz2 rfl (by decide) _ _ _ rfl (World.ownsRow_nil w w.heap.size 145 3) ad ms.length cap (D ms) rfl ?a0 HN.out H1.out ?a1 ?a2 ?a3 ?_)
  case a0=>rw [AO];omega
  case a1=>unfold maxLen;omega
  case a2=>omega
  case a3=>exact Nat.le_refl _
  intro v1 w1 ho1 hg1 _;have hb1:Below w.heap.size w w1:=(Below.refl _ w).grown hg1 (by simp) (ay (World.ownsRow_nil w w.heap.size 145 3));have ho1':w1.ownsRow w.heap.size 145 3 v1 ms.length (D ms):=(by simpa using ho1);have HMA:=aa (DsAt.of_own ho1');have HGE:=aa (ay ho1');clear ho1 hg1 ho1';go_wp2;go_ret;exact⟨v1,rfl,HMA.out,HGE.out,hb1⟩
theorem xM:∀(l:List Fv) (i:Nat) (v:Value),i<l.length→(C l).set (i*4+2) v=C (l.set i ⟨(l.getD i fv0).f,v,(l.getD i fv0).dv⟩)
 | [],i,_,h=>by simp at h
 | y::r,0,v,_=>by simp [C]
 | y::r,i+1,v,h=>by
  have ih:=xM r i v (by simpa using h);have e:(i+1)*4+2=(i*4+2)+4:=(by omega);simp only [C,List.flatMap_cons,List.set_cons_succ,List.getD_cons_succ]at ih⊢;rw [e];simp only [List.cons_append,List.nil_append,List.set_cons_succ];rw [ih]
theorem wC:∀(l:List Fv) (i:Nat) (v:Value),i<l.length→(C l).set (i*4+3) v=C (l.set i ⟨(l.getD i fv0).f,(l.getD i fv0).mv,v⟩)
 | [],i,_,h=>by simp at h
 | y::r,0,v,_=>by simp [C]
 | y::r,i+1,v,h=>by
  have ih:=wC r i v (by simpa using h);have e:(i+1)*4+3=(i*4+3)+4:=(by omega);simp only [C,List.flatMap_cons,List.set_cons_succ,List.getD_cons_succ]at ih⊢;rw [e];simp only [List.cons_append,List.nil_append,List.set_cons_succ];rw [ih]
end Go.Proofs.YtaiedioffemhdaaGreat
