/- The law FabricDelivers: it returns true at every configuration, every number and every frame, and all read behind the call as they read before; no condition. -/
import Derived.Test.YtjiajblbpokfgaaGreatJD8
namespace Go.Proofs.YtjiajblbpokfgaaGreat
open Go.RowKit
set_option linter.unusedVariables false
set_option maxRecDepth 100000
set_option maxHeartbeats 16000000
section
open Go.ChangeShapes Go.WideShapes Go.ChangeAt Go.RowKit
theorem row_own {w:World} {B:Nat} {u:Value} {l:List Ar} {body:ByteArray} (h:w.ownsRow B 58 9 u l.length (AR body l)):RowAt (arC body) 9 w u l:=RowAt.of_own (C:=arC body) (sz:=9) (fun _=>rfl) (by decide) h
theorem fabricDelivers_any (sv pv av:Value) (S:List Sw) (P:List Pr) (A:List Ac) (id d s kd a b t o:Int) (body:ByteArray) (w:World) (hC:CfAt w sv pv av S P A) (h1:S.length*24≤140737488355328) (h2:P.length*40≤140737488355328) (h3:A.length*72≤140737488355328) (hb:body.size≤maxLen):
  Calls Tryz.prog 3 #[.agg #[sv,pv,av],.int .i64 id,fr d s kd a b t o body] w fun e w'=>e= .returned (.bool true)∧Below w.heap.size w w':=by
 obtain⟨s1,s2,rfl⟩:=hC.1.slice;obtain⟨p1,p2,rfl⟩:=hC.2.1.slice;obtain⟨a1,a2,rfl⟩:=hC.2.2.slice;have HC:=aa hC;clear hC;have HDE:=aa (fun W hC=>ri S P A s1 p1 a1 s2 p2 a2 id d s kd a b t o body W hC h1 h2 h3 (fun hm s b=>uR (by unfold aP;exact Nat.le_trans (List.length_filter_le _ _) (iN hm).2.2)) hb (fun hm _=>qC (Nat.le_trans (kK (pf hm).lrn hm id d s kd a b t o body.size).1.2 (by omega))));have HDV:=aa (fun W hC=>nL (.slice s1 S.length s2) (.slice p1 P.length p2) (.slice a1 A.length a2) S P A id d s kd a b t o body W hC h1 h2 h3 hb);obtain⟨hq1,hq2⟩:=zs (S:=S) (P:=P) (A:=A) id d s kd a b t o body.size;rw [hq1]at HDE;have HQ2:=aa hq2;have hdl:(te S P A id d s kd a b t o body.size).length≤100:=by
  unfold te;split
  ·rename_i hm;exact(kK (pf hm).lrn hm id d s kd a b t o body.size).1.2
  ·simp
 clear hq1 hq2 h1 h2 h3 hb;generalize (if may S P A=true then pG P id d s kd a b t o body.size else 8)=E at*;generalize (if may S P A=true then qK (fun _=>⟨S,P,A⟩) P id d s kd a b t o body.size else [])=DL at*;generalize te S P A id d s kd a b t o body.size=L at*;have kb:=Below.refl w.heap.size w;obtain⟨W0,hW0⟩:∃W0,W0=w.alloc (.cells #[.slice s1 S.length s2,.slice p1 P.length p2,.slice a1 A.length a2] 26):=⟨_,rfl⟩;have bW0:Below w.heap.size w W0:=by rw [hW0];exact(Below.refl _ _).alloc zr _
 have HB1:Hid (Box W0 w.heap.size [.slice s1 S.length s2,.slice p1 P.length p2,.slice a1 A.length a2]):=by rw [hW0];exact aa (Box.new w [.slice s1 S.length s2,.slice p1 P.length p2,.slice a1 A.length a2] 26)
 replace HC:=aa (HC.out.below bW0 zr);replace kb:=kb.trans (bW0.mono kb.size);have HW0:Hid (w.alloc (.cells #[.slice s1 S.length s2,.slice p1 P.length p2,.slice a1 A.length a2] 26)=W0):=hW0.symm;clear hW0 bW0;obtain⟨W1,hW1⟩:∃W1,W1=W0.alloc (.cells #[.int .i64 d,.int .i64 s,.int .i64 kd,.int .i64 a,.int .i64 b,.int .i64 t,.int .i64 o,.string body] 28):=⟨_,rfl⟩;have bW1:Below W0.heap.size W0 W1:=by rw [hW1];exact(Below.refl _ _).alloc zr _
 have HB2:Hid (Box W1 W0.heap.size [.int .i64 d,.int .i64 s,.int .i64 kd,.int .i64 a,.int .i64 b,.int .i64 t,.int .i64 o,.string body]):=by rw [hW1];exact aa (Box.new W0 [.int .i64 d,.int .i64 s,.int .i64 kd,.int .i64 a,.int .i64 b,.int .i64 t,.int .i64 o,.string body] 28)
 replace HB1:=aa (HB1.out.below bW1);replace HC:=aa (HC.out.below bW1 zr);replace kb:=kb.trans (bW1.mono kb.size);have HW1:Hid (W0.alloc (.cells #[.int .i64 d,.int .i64 s,.int .i64 kd,.int .i64 a,.int .i64 b,.int .i64 t,.int .i64 o,.string body] 28)=W1):=hW1.symm;clear hW1 bW1;go_enter Tryz.func3,Tryz.ntmps3;go_wp2_with (first | rw [HW1.out] | rw [HW0.out] |(refine wpList_load_mid rfl 26 (.tmp 3) rfl w.heap.size 0 rfl _ _ HB1.out.range Tryz.underlying26 rfl dx ?_) |(refine wpList_load_mid rfl 28 (.tmp 5) rfl W0.heap.size 0 rfl _ _ HB2.out.range Tryz.underlying28 rfl dR ?_))
 clear HW1 HW0;refine(HDE.out _ HC.out).mono ?_;rintro e W2 ⟨u,rfl,l',⟨hp,hs,ho⟩,hbW2⟩;have HLN:Hid (l'.length≤100):=aa (by rw [hp.length_eq];exact hdl);obtain rfl:=HQ2.out l' hp hs;have HU:=aa (row_own ho);obtain⟨v1,v2,rfl⟩:=az ho;clear hp hs ho HDE HQ2 hdl;replace HB1:=aa (HB1.out.below hbW2);replace HB2:=aa (HB2.out.below hbW2);replace HC:=aa (HC.out.below hbW2 zr);replace kb:=kb.trans (hbW2.mono kb.size);clear hbW2;go_wp2_with (first |(refine wpList_load_mid rfl 26 (.tmp 3) rfl w.heap.size 0 rfl _ _ HB1.out.range Tryz.underlying26 rfl dx ?_) |(refine wpList_load_mid rfl 28 (.tmp 5) rfl W0.heap.size 0 rfl _ _ HB2.out.range Tryz.underlying28 rfl dR ?_))
 refine(HDV.out _ HC.out).mono ?_;rintro e W3 ⟨u,rfl,ho,hbW3⟩;have HV:=aa (row_own ho);obtain⟨v3,v4,rfl⟩:=az ho;clear ho HDV;replace HB1:=aa (HB1.out.below hbW3);replace HB2:=aa (HB2.out.below hbW3);replace HC:=aa (HC.out.below hbW3 zr);replace HU:=aa (RowAt.below HU.out hbW3 zr);replace kb:=kb.trans (hbW3.mono kb.size);clear hbW3;have hEE:(E==E)=true:=by simp
 go_wp2_with fail
 refine(pB _ _ _ body _ HU.out HV.out (Nat.le_trans HLN.out (by omega))).mono ?_;rintro e w4 ⟨rfl,hb4⟩;go_wp2_with fail
 go_ret;exact⟨rfl,kb.trans (hb4.mono kb.size)⟩
end
section
open Go.ChangeShapes Go.WideShapes Go.ChangeAt Go.RowKit
set_option maxRecDepth 100000 in
theorem fabricDelivers_lifted (os:Os) (started:os.Started) (H:Type) (enc:TypeId×Value→H):
  ReturnsInHanded {} Tryz.checked os 3 .any (Rows.fabricDeliversSpec.pre6 enc Tryz.prog Tryz.f3 Rows.fabricDeliversRow.domain false) (Rows.fabricDeliversSpec.post enc Tryz.prog Tryz.f3 false true false false):=by
 refine returnsInHanded_of_change_sized (C:=Tryz.checked) own started (by kernel_rfl) Tryz.func3
  (ChangeSpec.witness6 (enc:=enc) (C:=Tryz.checked) false ⟨#[], #[.agg #[.slice none 0 0,.slice none 0 0,.slice none 0 0],.int .i64 0,fr 0 0 0 0 0 0 0 ⟨#[]⟩],[]⟩ 8 (by kernel_rfl) (by kernel_rfl) (by kernel_rfl) (by kernel_rfl)) ?_
 intro W base args ds gs before hval0 hW hcnd hsz0 _;have hval:∀(j:Nat) t v,Tryz.f3.params[j]? =some t→args[j]? =some v→Value.okWide Tryz.prog W .any base t v:=hval0;have hsz:(DataW.weightsEach Tryz.prog (Tryz.f3.params.toList++Rows.fabricDeliversSpec.plain.varTypes Tryz.prog) (ds++gs)).all (· ≤reachBytes)=true:=hsz0;have hW':=hW;obtain⟨p,q,hA0,hV,rfl,hfz,hnd⟩:=hW;have hA:DataW.TrodAll enc Tryz.prog W 0 (fun _=>true) true Tryz.f3.params.toList args.toList ds p:=hA0;rw [Tryz.params3]at hA hval hsz;obtain⟨v0,vs0,d0,ds0,p0,q0,hargs,rfl,rfl,h0,r0⟩:=trodAll_cons hA;obtain⟨v1,vs1,d1,ds1,p1,q1,rfl,rfl,rfl,h1,r1⟩:=trodAll_cons r0;obtain⟨v2,vs2,d2,ds2,p2,q2,rfl,rfl,rfl,h2,r2⟩:=trodAll_cons r1;obtain⟨rfl,rfl,rfl⟩:=trodAll_nil r2;obtain rfl:args= #[v0,v1,v2]:=by cases args;simp_all
 obtain⟨rfl,rfl⟩:=trodVars_none hV;have k0:=h0;have lt0:∀x∈p0,x.block<W.heap.size:=by obtain⟨m,hm⟩:=k0;exact DataW.trod_lt m _ _ _ hm
 obtain⟨sv0,pv0,av0,S0,P0,A0,rfl,hC0,hbd0⟩:=vK (hval 0 26 v0 rfl rfl) h0;obtain⟨hs0,hp0,ha0⟩:=hbd0 (qH hsz (j:=0) rfl rfl);obtain⟨x1,rfl,rfl,rfl,wx1⟩:=open_int Tryz.underlying3 (hval 1 3 v1 rfl rfl) h1;have k2:=h2;have lt2:∀x∈p2,x.block<W.heap.size:=by obtain⟨m,hm⟩:=k2;exact DataW.trod_lt m _ _ _ hm
 obtain⟨dst2,src2,kind2,ips2,ipd2,ttl2,port2,body2,rfl,hb2,_⟩:=sT (hval 2 28 v2 rfl rfl) h2;clear hA0 hval0 hsz0;refine(fabricDelivers_any sv0 pv0 av0 S0 P0 A0 x1 dst2 src2 kind2 ips2 ipd2 ttl2 port2 body2 W hC0 hs0 hp0 ha0 hb2).mono fun e W' ⟨he,bel⟩=>?_;subst he;exact⟨_,rfl,_,_,_,[],_,[],hW',trodAll_mk1 (shut_bool Tryz.underlying4 _),(trodAll_cons_mk (Below.trod uJ (by kernel_rfl) (of_decide_eq_true (by kernel_rfl)) k0 bel lt0) (trodAll_cons_mk (shut_int Tryz.underlying3 wx1) (trodAll_cons_mk (Below.trod uJ (by kernel_rfl) (of_decide_eq_true (by kernel_rfl)) k2 bel lt2) trodAll_mk0))),rfl,bel.frame _,fun h=>by cases h⟩
theorem fabricDelivers_holds:Rows.FabricDeliversSaid:=
 OpenClaim.holds_of_wide 3 Tryz.f3 rfl rfl rfl rfl rfl rfl rfl ⟨rfl,rfl,rfl,rfl,rfl⟩ rfl rfl rfl rfl rfl (by kernel_rfl) Tryz.func3 (by kernel_rfl)
  (of_decide_eq_true (by kernel_rfl)) (by unfold Func.isWrapper;first |(rw [if_pos (by decide+kernel)];kernel_rfl) |(rw [if_neg (by decide+kernel)];exact⟨rfl,rfl⟩))
  (fun os started H enc _=>fabricDelivers_lifted os started H enc)
end
end Go.Proofs.YtjiajblbpokfgaaGreat
