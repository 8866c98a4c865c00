/- The law RulesDeny returns true at every four arguments; no condition. -/
import Derived.OpenShut
import Derived.Maps.AppendAt
import Derived.Test.YtncdininppehkaaGreatJA8
namespace Go.Proofs.YtncdininppehkaaGreat
open Go.RowKit
set_option linter.unusedVariables false
set_option maxRecDepth 100000
set_option maxHeartbeats 16000000
section
open Go.ChangeShapes Go.WideShapes Go.ChangeAt Go.RowKit
theorem rulesDeny_any (a b n:Int) (inn:Bool) (w:World) (a0: -9223372036854775808≤a) (a1:a≤9223372036854775807) (b0: -9223372036854775808≤b) (b1:b≤9223372036854775807) (n0: -9223372036854775808≤n) (n1:n≤9223372036854775807):
  Calls Tryz.prog 7 #[.int .i64 a,.int .i64 b,.bool inn,.int .i64 n] w fun e w'=>e= .returned (.bool true)∧Below w.heap.size w w':=by
 go_enter Tryz.func7,Tryz.ntmps7
 go_wp2_with fail
 refine(il a 6 w a0 a1 (by decide) (by decide)).mono ?_
 rintro e w' ⟨rfl,rfl⟩
 go_wp2_with fail
 refine(il b 6 _ b0 b1 (by decide) (by decide)).mono ?_
 rintro e w' ⟨rfl,rfl⟩
 rename World=>w''
 have hx:=sa a 6 (by decide)
 have hy:=sa b 6 (by decide)
 have ht:=sa n 17 (by decide)
 have HPN:=aa (fun W=>il n 17 W n0 n1 (by decide) (by decide))
 generalize pk a 6=x at*
 generalize pk b 6=y at*
 generalize pk n 17=t at*
 have hx6:0≤x∧x≤5:=by omega
 have hy6:0≤y∧y≤5:=by omega
 obtain⟨tn,rfl⟩:=Int.eq_ofNat_of_zero_le ht.1;have ht16:tn≤16:=by omega
 clear hx hy ht
 go_wp2_with fail
 refine(uP x y _).mono ?_
 rintro e w1 ⟨g,h,rfl,⟨hs,hp⟩,hgh,hb1⟩;have HS:=aa hs;have HP:=aa hp;have hgw:=aF hs g rfl;have hhw:=aF hp h rfl;have lg:=bJ hs (g:=g) rfl;have lh:=bJ hp (g:=h) rfl;clear hs hp;obtain⟨W2,hW2⟩:∃W2,W2=w1.alloc (.cells #[.slice (some ⟨g,0,none⟩) 2 2,.slice (some ⟨h,0,none⟩) 3 3,.slice none 0 0] 29):=⟨_,rfl⟩;have hb2:Below w1.heap.size w1 W2:=by rw [hW2];exact(Below.refl _ _).alloc zr _
 have HB:Hid (Box W2 w1.heap.size [.slice (some ⟨g,0,none⟩) 2 2,.slice (some ⟨h,0,none⟩) 3 3,.slice none 0 0]):=by rw [hW2];exact aa (Box.new w1 [.slice (some ⟨g,0,none⟩) 2 2,.slice (some ⟨h,0,none⟩) 3 3,.slice none 0 0] 29)
 have s2:W2.heap.size=w1.heap.size+1:=by rw [hW2];simp
 replace HS:=zO HS hb2;replace HP:=zO HP hb2;have kb:=hb1.trans (hb2.mono hb1.size);have HW2:Hid (w1.alloc (.cells #[.slice (some ⟨g,0,none⟩) 2 2,.slice (some ⟨h,0,none⟩) 3 3,.slice none 0 0] 29)=W2):=hW2.symm;have hk1:=hb1.size;clear hW2 hb1 hb2
 go_wp2_with (first | rw [HW2.out])
 refine(ag HPN _).mono ?_
 rintro e w' ⟨rfl,rfl⟩;clear HPN HW2;have c2:w'.cell? ⟨w1.heap.size,2,none⟩=some (.slice none 0 0):=HB.out.cell 2 _ rfl;have f2:w'.frozen? ⟨w1.heap.size,2,none⟩=false:=HB.out.2 2 (by show 2<3;decide)
 have hn0:(0:Int)≤(tn:Int):=by omega
 have hbt:=uU ht16;obtain⟨V1,hV1⟩:∃V1,V1=w'.setCell ⟨w1.heap.size,2,none⟩ (.slice (some ⟨w1.heap.size+1,0,none⟩) 1 1):=⟨_,rfl⟩;have sV1:V1.heap.size=w1.heap.size+1:=by rw [hV1];simpa using s2
 have gV1:w'.grownBy V1 (some w1.heap.size):=by rw [hV1];exact eY w' ⟨w1.heap.size,2,none⟩ _
 have HB1:Hid (Box V1 w1.heap.size [.slice (some ⟨g,0,none⟩) 2 2,.slice (some ⟨h,0,none⟩) 3 3,.slice (some ⟨w1.heap.size+1,0,none⟩) 1 1]):=by rw [hV1];exact aa (HB.out.set1 2 _ (by show 2<3;decide))
 replace HS:=aa (aX gV1 HS.out (by omega))
 replace HP:=aa (aX gV1 HP.out (by omega))
 replace kb:Below w''.heap.size w'' V1:=by rw [hV1];exact kb.setCell (p:=⟨w1.heap.size,2,none⟩) hk1 _
 clear HB gV1;obtain⟨V2,hV2⟩:∃V2,V2=V1.alloc (.cells #[.int .i64 1,.int .i64 5,.bool inn,.int .i64 (rs tn),.int .i64 (tn:Int),.int .i64 0,.int .i64 0,.int .i64 (-1),.bool true] 65):=⟨_,rfl⟩;have b2:Below V1.heap.size V1 V2:=by rw [hV2];exact(Below.refl _ _).alloc zr _
 have HA:Hid (V2.ownsRow w''.heap.size 65 9 (.slice (some ⟨w1.heap.size+1,0,none⟩) 1 1) 1 ((rdA tn inn).flatMap acC)):=by
  have:V2.ownsRow w''.heap.size 65 9 (.slice (some ⟨V1.heap.size,0,none⟩) 1 1) 1 ((rdA tn inn).flatMap acC):=by rw [hV2];exact World.ownsRow_lit V1 _ 1 kb.size (by decide) rfl
  rw [sV1]at this;exact aa this
 have sV2:V2.heap.size=w1.heap.size+1+1:=by rw [hV2];simp [sV1]
 obtain⟨W3,hW3⟩:∃W3,W3=V2.alloc (.cells #[.int .i64 12,.int .i64 11,.int .i64 3,.int .i64 51,.int .i64 52,.int .i64 0,.int .i64 80,.string ⟨#[]⟩] 37):=⟨_,rfl⟩;have b3:Below V2.heap.size V2 W3:=by rw [hW3];exact(Below.refl _ _).alloc zr _
 have HF:Hid (Box W3 (w1.heap.size+1+1) [.int .i64 12,.int .i64 11,.int .i64 3,.int .i64 51,.int .i64 52,.int .i64 0,.int .i64 80,.string ⟨#[]⟩]):=by rw [hW3, ←sV2];exact aa (Box.new V2 [.int .i64 12,.int .i64 11,.int .i64 3,.int .i64 51,.int .i64 52,.int .i64 0,.int .i64 80,.string ⟨#[]⟩] 37)
 have HB:=aa ((HB1.out.below b2).below b3);replace HS:=aa (az (az HS.out b2) b3);replace HP:=aa (az (az HP.out b2) b3);replace HA:=zO HA b3;replace kb:=(kb.trans (b2.mono kb.size)).trans (b3.mono (Nat.le_trans kb.size b2.size));have HW3:Hid (((w'.setCell ⟨w1.heap.size,2,none⟩ (.slice (some ⟨w1.heap.size+1,0,none⟩) 1 1)).alloc (.cells #[.int .i64 1,.int .i64 5,.bool inn,.int .i64 (rs tn),.int .i64 (tn:Int),.int .i64 0,.int .i64 0,.int .i64 (-1),.bool true] 65)).alloc (.cells #[.int .i64 12,.int .i64 11,.int .i64 3,.int .i64 51,.int .i64 52,.int .i64 0,.int .i64 80,.string ⟨#[]⟩] 37)=W3):=by rw [hW3,hV2,hV1];exact aa rfl
 have sW3:W3.heap.size=w1.heap.size+1+1+1:=by rw [hW3];simp [sV2]
 clear hV1 hV2 hW3 HB1 b2 b3 sV1 sV2;obtain⟨m1,m2,m3⟩:=vE hx6 hy6 ht16 inn;obtain⟨q1,q2,q3⟩:=rV hx6 hy6 ht16 inn;have HD1:=aa (fun W r c hS hP hA=>kx g h r c (rdA tn inn) x y [] W hS hP hA (show 1≤2 by decide) hx6 m1 q1 (by decide))
 have HD2:=aa (fun W r c hS hP hA=>kx g h r c (rdB tn inn 6) x y _ W hS hP hA (show 2≤2 by decide) hx6 m2 q2 (by decide))
 have HD3:=aa (fun W r c hS hP hA=>kx g h r c (rdB tn inn 5) x y [] W hS hP hA (show 2≤2 by decide) hx6 m3 q3 (by decide))
 clear m1 m2 m3 q1 q2 q3
 go_wp2_with (first | rw [HW3.out] |(refine wpList_load_mid rfl 29 (.tmp 9) rfl w1.heap.size 0 rfl _ _ HB.out.range Tryz.underlying29 rfl eB ?_) |(refine wpList_load_mid rfl 37 (.tmp 12) rfl (w1.heap.size+1+1) 0 rfl _ _ HF.out.range Tryz.underlying37 rfl ga ?_))
 clear HW3 c2 f2 hbt
 refine(HD1.out _ _ _ (RowAt.of_own (l:=twS 1 60) kl (by decide) HS.out) (RowAt.of_own (l:=twP x y) dE (by decide) HP.out) (RowAt.of_own (l:=rdA tn inn) fO (by decide) HA.out)).mono ?_
 rintro e V4 ⟨u1,rfl,ho1,hb4⟩;obtain⟨o1,k1,rfl⟩:=aD ho1;have sz4:=hb4.size;replace HB:=aa (HB.out.below hb4);replace HF:=aa (HF.out.below hb4);replace HS:=zO HS hb4;replace HP:=zO HP hb4;replace HA:=zO HA hb4;replace kb:=kb.trans (hb4.mono kb.size);clear ho1 hb4 HD1;have c3:V4.cell? ⟨w1.heap.size,2,none⟩=some (.slice (some ⟨w1.heap.size+1,0,none⟩) 1 1):=HB.out.cell 2 _ rfl;obtain⟨W5,hW5⟩:∃W5,W5=V4.alloc (.cells #[.int .i64 1,.int .i64 6,.bool inn,.int .i64 0,.int .i64 0,.int .i64 0,.int .i64 0,.int .i64 80,.bool false] 65):=⟨_,rfl⟩;have b5:Below V4.heap.size V4 W5:=by rw [hW5];exact(Below.refl _ _).alloc zr _
 have NEWS:Hid (∀j u,(acC ⟨1,6,inn,0,0,0,0,80,false⟩)[j]?=some u→W5.cell? ((⟨V4.heap.size,0,none⟩:Addr).add j)=some u):=by
  rw [hW5]
  refine aa (fun j u hj=>?_)
  have h:=jv V4 (acC ⟨1,6,inn,0,0,0,0,80,false⟩) 65 j u hj;rw [Nat.zero_add]at h;rw [tP]
  exact h
 have cz3:W5.cell? ⟨w1.heap.size,2,none⟩=some (.slice (some ⟨w1.heap.size+1,0,none⟩) 1 1):=(HB.out.below b5).cell 2 _ rfl;have fz3:W5.frozen? ⟨w1.heap.size,2,none⟩=false:=(HB.out.below b5).2 2 (by show 2<3;decide)
 replace HB:=aa (HB.out.below b5);replace HF:=aa (HF.out.below b5);replace HS:=zO HS b5;replace HP:=zO HP b5;replace HA:=zO HA b5;replace kb:=kb.trans (b5.mono kb.size);have sz5:=b5.size;have HW5:Hid (V4.alloc (.cells #[.int .i64 1,.int .i64 6,.bool inn,.int .i64 0,.int .i64 0,.int .i64 0,.int .i64 0,.int .i64 80,.bool false] 65)=W5):=hW5.symm;clear hW5 b5;obtain⟨iA,hiA,zA0,zA1,zA2⟩:=info_parts sS
 go_wp2_with (at_builtin;rw [HW5.out];refine wpList_append_own_at _ rfl _ _ 27 rfl w''.heap.size 65 iA _ 9 72 Tryz.underlying27 hiA zA0 zA1 zA2 rfl (by decide) _ _ _ rfl (ag HA) ⟨V4.heap.size,0,none⟩ 1 1 (acC ⟨1,6,inn,0,0,0,0,80,false⟩) rfl rfl (ag NEWS) (fA rfl) ?a1 ?a2 ?a3 ?_)
 case a1=>unfold maxLen;omega
 case a2=>omega
 case a3=>exact kb.size
 intro v6 W6 ho6 hg6 _ hat;replace hg6:W5.grownBy W6 (some (w1.heap.size+1)):=hg6;obtain⟨r2,k2,rfl,hr2,hl2⟩:=aK ho6 (by decide)
 replace hat:r2=w1.heap.size+1∨r2=W5.heap.size:=by
  rcases hat with h | h
  ·exact .inl (by simpa [Value.ownBlock] using h)
  ·exact .inr (by simpa [Value.ownBlock] using h)
 have hne:r2≠w1.heap.size∧r2≠w1.heap.size+1+1∧r2≠g∧r2≠h:=by have:=HB.out.lt;have:=HF.out.lt;omega
 have HA6:Hid (W6.ownsRow w''.heap.size 65 9 (.slice (some ⟨r2,0,none⟩) 2 k2) 2 ((rdB tn inn 6).flatMap acC)):=aa ho6;replace HB:=aa (iO HB.out hg6 (by simp))
 replace HF:=aa (iO HF.out hg6 (by simp))
 replace HS:=aa (aX hg6 HS.out (by omega))
 replace HP:=aa (aX hg6 HP.out (by omega))
 replace kb:=kb.grown hg6 kb.size (by intro k hk;cases hk;omega)
 have sz6:=hg6.size;clear ho6 hg6 HA NEWS HW5 c3 cz3 fz3 hr2;have c6:W6.cell? ⟨w1.heap.size,2,none⟩=some (.slice (some ⟨w1.heap.size+1,0,none⟩) 1 1):=HB.out.cell 2 _ rfl;have f6:W6.frozen? ⟨w1.heap.size,2,none⟩=false:=HB.out.2 2 (by show 2<3;decide)
 obtain⟨W7,hW7⟩:∃W7,W7=W6.setCell ⟨w1.heap.size,2,none⟩ (.slice (some ⟨r2,0,none⟩) 2 k2):=⟨_,rfl⟩;have g7:W6.grownBy W7 (some w1.heap.size):=by rw [hW7];exact eY W6 ⟨w1.heap.size,2,none⟩ _
 have HB7:Hid (Box W7 w1.heap.size [.slice (some ⟨g,0,none⟩) 2 2,.slice (some ⟨h,0,none⟩) 3 3,.slice (some ⟨r2,0,none⟩) 2 k2]):=by rw [hW7];exact aa (HB.out.set1 2 _ (by show 2<3;decide))
 replace HF:=aa (iO HF.out g7 (by simp;omega))
 replace HS:=aa (aX g7 HS.out (by omega))
 replace HP:=aa (aX g7 HP.out (by omega))
 replace HA6:=aa (aX g7 HA6.out (by omega))
 replace kb:Below w''.heap.size w'' W7:=by rw [hW7];exact kb.setCell (p:=⟨w1.heap.size,2,none⟩) hk1 _
 have sz7:=g7.size;have HW7:Hid (W6.setCell ⟨w1.heap.size,2,none⟩ (.slice (some ⟨r2,0,none⟩) 2 k2)=W7):=hW7.symm;clear hW7 g7 HB;have HB:=HB7;clear HB7
 go_wp2_with (first | rw [HW7.out] |(refine wpList_load_mid rfl 29 (.tmp 9) rfl w1.heap.size 0 rfl _ _ HB.out.range Tryz.underlying29 rfl eB ?_) |(refine wpList_load_mid rfl 37 (.tmp 12) rfl (w1.heap.size+1+1) 0 rfl _ _ HF.out.range Tryz.underlying37 rfl ga ?_))
 clear HW7 c6 f6
 refine(HD2.out _ _ _ (RowAt.of_own (l:=twS 1 60) kl (by decide) HS.out) (RowAt.of_own (l:=twP x y) dE (by decide) HP.out) (RowAt.of_own (l:=rdB tn inn 6) fO (by decide) HA6.out)).mono ?_
 rintro e V8 ⟨u2,rfl,ho2,hb8⟩;obtain⟨o2,k8,rfl⟩:=aD ho2;have sz8:=hb8.size;replace HB:=aa (HB.out.below hb8);replace HF:=aa (HF.out.below hb8);replace HS:=zO HS hb8;replace HP:=zO HP hb8;replace HA6:=zO HA6 hb8;replace kb:=kb.trans (hb8.mono kb.size);clear ho2 hb8 HD2;have c8:V8.cell? ⟨w1.heap.size,2,none⟩=some (.slice (some ⟨r2,0,none⟩) 2 k2):=HB.out.cell 2 _ rfl;have ca8:V8.cell? ⟨r2,10,none⟩=some (.int .i64 6):=by have:=HA6.out.cells rfl 10 _ rfl;rw [Addr.add_mid]at this;simpa using this
 have fa8:V8.frozen? ⟨r2,10,none⟩=false:=HA6.out.frozenAt 10;obtain⟨W9,hW9⟩:∃W9,W9=V8.setCell ⟨r2,10,none⟩ (.int .i64 5):=⟨_,rfl⟩;have hs9:=HA6.out.stored 10 (.int .i64 5);rw [←hW9]at hs9;have HA9:Hid (W9.ownsRow w''.heap.size 65 9 (.slice (some ⟨r2,0,none⟩) 2 k2) 2 ((rdB tn inn 5).flatMap acC)):=aa hs9.1;replace HB:=aa (iO HB.out hs9.2 (by simp;omega))
 replace HF:=aa (iO HF.out hs9.2 (by simp;omega))
 replace HS:=aa (aX hs9.2 HS.out (by omega))
 replace HP:=aa (aX hs9.2 HP.out (by omega))
 have hr2w:=aF HA6.out r2 rfl;replace kb:Below w''.heap.size w'' W9:=by rw [hW9];exact kb.setCell (p:=⟨r2,10,none⟩) hr2w _
 have HW9:Hid (V8.setCell ⟨r2,10,none⟩ (.int .i64 5)=W9):=hW9.symm;clear hW9 hs9 HA6
 go_wp2_with (first | rw [HW9.out] |(refine wpList_load_mid rfl 29 (.tmp 9) rfl w1.heap.size 0 rfl _ _ HB.out.range Tryz.underlying29 rfl eB ?_) |(refine wpList_load_mid rfl 37 (.tmp 12) rfl (w1.heap.size+1+1) 0 rfl _ _ HF.out.range Tryz.underlying37 rfl ga ?_))
 clear HW9 c8 ca8 fa8
 refine(HD3.out _ _ _ (RowAt.of_own (l:=twS 1 60) kl (by decide) HS.out) (RowAt.of_own (l:=twP x y) dE (by decide) HP.out) (RowAt.of_own (l:=rdB tn inn 5) fO (by decide) HA9.out)).mono ?_
 rintro e V10 ⟨u3,rfl,ho3,hb10⟩;obtain⟨o3,k3,rfl⟩:=aD ho3;have kb10:=kb.trans (hb10.mono kb.size);clear ho3 hb10 HD3 HB HF HS HP HA9
 go_wp2_with fail
 go_ret
 exact⟨rfl,kb10⟩
set_option maxRecDepth 100000 in
theorem rulesDeny_lifted (os:Os) (started:os.Started) (H:Type) (enc:TypeId×Value→H):
  ReturnsInHanded {} Tryz.checked os 7 .any (Rows.rulesDenySpec.pre6 enc Tryz.prog Tryz.f7 Rows.rulesDenyRow.domain false) (Rows.rulesDenySpec.post enc Tryz.prog Tryz.f7 false true false false):=by
 refine returnsInHanded_of_change (C:=Tryz.checked) own started (by kernel_rfl) Tryz.func7
  (ChangeSpec.witness6 (enc:=enc) (C:=Tryz.checked) false ⟨#[], #[.int .i64 0,.int .i64 0,.bool false,.int .i64 0],[]⟩ 8 (by kernel_rfl) (by kernel_rfl) (by kernel_rfl) (by kernel_rfl)) ?_
 intro W base args ds gs before hval0 hW hcnd _;have hval:∀(j:Nat) t v,Tryz.f7.params[j]?=some t→args[j]?=some v→Value.okWide Tryz.prog W .any base t v:=hval0;have hW':=hW;obtain⟨p,q,hA0,hV,rfl,hfz,hnd⟩:=hW;have hA:DataW.TrodAll enc Tryz.prog W 0 (fun _=>true) true Tryz.f7.params.toList args.toList ds p:=hA0
 rw [Tryz.params7]at hA hval;obtain⟨v0,vs0,d0,ds0,p0,q0,hargs,rfl,rfl,h0,r0⟩:=trodAll_cons hA;obtain⟨v1,vs1,d1,ds1,p1,q1,rfl,rfl,rfl,h1,r1⟩:=trodAll_cons r0;obtain⟨v2,vs2,d2,ds2,p2,q2,rfl,rfl,rfl,h2,r2⟩:=trodAll_cons r1;obtain⟨v3,vs3,d3,ds3,p3,q3,rfl,rfl,rfl,h3,r3⟩:=trodAll_cons r2;obtain⟨rfl,rfl,rfl⟩:=trodAll_nil r3;obtain rfl:args= #[v0,v1,v2,v3]:=by cases args;simp_all
 obtain⟨rfl,rfl⟩:=trodVars_none hV;obtain⟨x0,rfl,rfl,rfl,wx0⟩:=open_int Tryz.underlying3 (hval 0 3 v0 rfl rfl) h0;obtain⟨x1,rfl,rfl,rfl,wx1⟩:=open_int Tryz.underlying3 (hval 1 3 v1 rfl rfl) h1;obtain⟨x2,rfl,rfl,rfl⟩:=open_bool Tryz.underlying4 (hval 2 4 v2 rfl rfl) h2;obtain⟨x3,rfl,rfl,rfl,wx3⟩:=open_int Tryz.underlying3 (hval 3 3 v3 rfl rfl) h3;clear hA0 hval0
 refine(rulesDeny_any x0 x1 x3 x2 W (eV wx0).1 (eV wx0).2 (eV wx1).1 (eV wx1).2 (eV wx3).1 (eV wx3).2).mono fun e W' ⟨he,bel⟩=>?_
 subst he
 exact⟨_,rfl,_,_,_,[],_,[],hW',trodAll_mk1 (shut_bool Tryz.underlying4 _),(trodAll_cons_mk (shut_int Tryz.underlying3 wx0) (trodAll_cons_mk (shut_int Tryz.underlying3 wx1) (trodAll_cons_mk (shut_bool Tryz.underlying4 _) (trodAll_cons_mk (shut_int Tryz.underlying3 wx3) trodAll_mk0)))),rfl,bel.frame _,fun h=>by cases h⟩
theorem rulesDeny_holds:Rows.RulesDenySaid:=
 OpenClaim.holds_of_wide 7 Tryz.f7 rfl rfl rfl rfl rfl rfl rfl ⟨rfl,rfl,rfl,rfl,rfl⟩ rfl rfl rfl rfl rfl (by kernel_rfl) Tryz.func7 (by kernel_rfl)
  (of_decide_eq_true (by kernel_rfl)) (by unfold Func.isWrapper;first |(rw [if_pos (by decide+kernel)];kernel_rfl) |(rw [if_neg (by decide+kernel)];exact⟨rfl,rfl⟩))
  (fun os started H enc _=>rulesDeny_lifted os started H enc)
end
end Go.Proofs.YtncdininppehkaaGreat
